/- Texts of ours put together: LevelEach. -/
import Derived.Test.YtdbjaaalngbpgaaGreatG34
/- level: eachOfTable: each cell of the table is read, handed to a closure, and what becomes of it is written. -/
namespace Go.Proofs.YtdbjaaalngbpgaaGreat
set_option maxRecDepth 100000
open Go.RowKit Go.ChangeShapes Go.WideShapes Go.ChangeAt

/-- What is asked of a closure that is handed each cell: of its own blocks Y, and of those X that stay. -/
structure Clo (X : Nat → Prop) (k : FuncId) (caps : Array Value) (Q : Nat) (C Z : Nat → Cl) (Inv : Nat → (Nat → Prop) → World → Prop) : Prop where
  stay : ∀ i Y W W', Inv i Y W → Kept (fun j => X j ∨ Y j) W W' → Inv i Y W'
  call : ∀ i Y W, i < Q → Inv i Y W → (∀ j, X j → j < W.heap.size) → (∀ j, X j → ¬ Y j) → Calls Tryz.prog k (#[.int .i64 (i : Int), .agg (CA (C i))] ++ caps) W fun e w' => e = .returned (.agg (CA (Z i))) ∧ Only Y W w' ∧ ∃ Y', Inv (i + 1) Y' w' ∧ ∀ j, Y' j → Y j ∨ W.heap.size ≤ j ∧ j < w'.heap.size
theorem evE_succ (t i : Nat) : evE t (i + 1) = evE t i ++ [(t, i, false)] ++ [(t, i, true)] := rfl
/-- In the middle of it. -/
def EaAt (w1 : World) (X : Nat → Prop) (g mp f : Nat) (M : MS) (Z : Nat → Cl) (Inv : Nat → (Nat → Prop) → World → Prop) (i : Nat) (wr : World) : Prop :=
  ∃ Y : Nat → Prop, Inv i Y wr ∧ Own wr (fun j => (X j ∨ j = g) ∨ Y j) mp (M.gone (cT (f + 2) Z M.c i) (evE (f + 2) i)) ∧ Kept (fun j => X j ∨ j = g) w1 wr ∧ ∀ j, (X j ∨ j = g) → ¬ Y j
set_option maxRecDepth 100000 in
set_option maxHeartbeats 4000000 in
theorem each_any {N S T D L n Q P : Nat} (h : Conf N S T D L n Q P) (X Y0 : Nat → Prop) (lp mp f : Nat) (ov : Bool) (mb : Option Nat) (M : MS) (k : FuncId) (caps : Array Value) (C Z : Nat → Cl) (Inv : Nat → (Nat → Prop) → World → Prop) (w : World)
    (hM : LvM M f S D T Q) (hf : f ≤ 100) (hC : ∀ a, a < Q → M.c (f + 2) a = C a) (hcl : Clo X k caps Q C Z Inv) (hk : ∀ (args : Array Value) (W : World), Sem.run Tryz.prog (callFunc k args) W = .ok (.enter k args) W) (hI : Inv 0 Y0 w) (hO : Own w (fun j => X j ∨ Y0 j) mp M) (hX1 : X lp) (hXY : ∀ j, X j → ¬ Y0 j) (hB : Box w lp 98 (LvA mp f N S T ov mb)) :
    Calls Tryz.prog 101 #[.pointer (some ⟨lp, 0, none⟩), .func (.func k) #[] caps] w fun e w' =>
      e = .returned (.tuple #[]) ∧ ∃ Y, Inv Q Y w' ∧ Own w' (fun j => X j ∨ Y j) mp (M.gone (cT (f + 2) Z M.c Q) (evE (f + 2) Q)) ∧ Kept X w w' ∧ ∀ j, X j → ¬ Y j := by
  have HTs := Lib.hid (fun W => table_spots h f hf W)
  have hQ := h.big.2.2.2
  have hM2 := hM.hk
  have hs2 := hM.s2
  have hml := hM.len
  have HCl := Lib.hid hcl
  have HI := Lib.hid hI
  have HO := Lib.hid hO
  have HB := Lib.hid hB
  have HC := Lib.hid hC
  have HXY := Lib.hid hXY
  have p0 := lv0 hB
  have p1 := lv1 hB
  have p2 := lv2 hB
  have p3 := lv3 hB
  have p4 := lv4 hB
  have HK := Lib.hid hk
  clear h hM hcl hI hO hB hC hXY hk
  go_enter Tryz.func101, Tryz.ntmps101
  go_wp2_with fail
  refine (HTs.out w).mono ?_
  rintro e w1 ⟨g, cap, rfl, hsp, hb1⟩
  have hon : Only nobody w w1 := Only.of_below hb1
  have hgn := hsp.old
  have hgl := hsp.lt
  have HA : Hid (EaAt w1 X g mp f M Z Inv 0 w1) := Lib.hid ⟨Y0, HCl.out.stay 0 Y0 w w1 HI.out (Kept.of_none hon), by
      rw [cT_zero]
      show Own w1 _ mp (M.gone M.c [])
      rw [gone_self]
      exact (HO.out.grow hon).weak (fun j hj => by
        rcases hj with (hj | hj) | hj
        · exact .inl (.inl hj)
        · subst hj; exact .inr ⟨hgn, hgl⟩
        · exact .inl (.inr hj)), Kept.refl _ _, fun j hj hy => by
        rcases hj with hj | hj
        · exact HXY.out j hj hy
        · subst hj
          obtain ⟨F, hm, hF, hlt⟩ := HO.out
          have := hlt j (.inr hy)
          omega⟩
  have HSp := Lib.hid (show Sps w1 0 g Q (fun i => (f + 2, i)) from ⟨Nat.zero_le _, hsp.lt, hsp.cell⟩)
  have HK1 : Hid (Kept X w w1) := Lib.hid (Kept.of_none hon)
  have HB1 := Lib.hid (HB.out.of (hb1.block _ HB.out.lt))
  clear hsp hb1 hon hgn hgl HI HO HXY HB p0 p1 p2 p3 p4
  go_wp2_with fail
  go_loopw [13] (fun v wr => ∃ i : Nat, v = .int .i64 i ∧ i ≤ Q ∧ EaAt w1 X g mp f M Z Inv i wr) (fun v _ => Q - (intOf v).toNat)
  case atStart => exact ⟨0, rfl, by omega, HA.out⟩
  case round =>
    obtain ⟨i, rfl, hi, hS⟩ := hrel
    clear HA
    by_cases hin : i < Q
    · obtain ⟨Y, hInv, hOwn, hKp, hdis⟩ := hS
      obtain ⟨c0, c1⟩ := (HSp.out.kept hKp (.inr rfl)).cell i hin
      have hBw := hKp.box HB1.out (.inl hX1)
      have hcell : cT (f + 2) Z M.c i (f + 2) i = C i := by rw [cT_past (by omega)]; exact HC.out i hin
      have hsuc := cT_succ (t := f + 2) (X := Z) (c := M.c) (i := i)
      have hel := evE_len (f + 2) i
      have HCELL := Lib.hid hcell
      have HSUC := Lib.hid hsuc
      have HEV := Lib.hid (evE_succ (f + 2) i)
      have HInv := Lib.hid hInv
      have HDis := Lib.hid hdis
      have HKp := Lib.hid hKp
      have HOwn := Lib.hid hOwn
      have HBw := Lib.hid hBw
      obtain ⟨sr, hsr⟩ : ∃ sr, f + 2 = sr := ⟨_, rfl⟩
      rw [hsr] at HCELL HSUC HEV HOwn hM2 hs2
      have HSr := Lib.hid hsr
      replace c0 : wr.cell? ⟨g, i * 2, none⟩ = some (.int .i64 (sr : Int)) := by rw [← hsr]; exact c0
      generalize hcc : cT sr Z M.c i = cc at HCELL HSUC HOwn
      generalize hll : evE sr i = ll at HEV HOwn
      have hel2 : ll.length ≤ 600 := by rw [← hll, evE_len]; omega
      obtain ⟨w9, h9⟩ : ∃ x, x = wr := ⟨_, rfl⟩
      subst h9
      clear hInv hOwn hKp hdis hBw hcell hsuc hel hcc hll hsr
      go_upto_region 3 with fail
      clear c0 c1
      obtain ⟨sb, hsb⟩ : ∃ b, w9.heap.size = b := ⟨_, rfl⟩
      obtain ⟨w1', hw1⟩ : ∃ x, w9.alloc (.cells #[.int .i64 (sr : Int), .int .i64 (i : Int)] 124) = x := ⟨_, rfl⟩
      have hO1 : Own w1' (plus1 (fun j => (X j ∨ j = g) ∨ Y j) sb) mp (M.gone cc ll) := by rw [← hw1, ← hsb]; exact HOwn.out.one _
      have hB1 : Box w1' lp 98 (LvA mp f N S T ov mb) := by rw [← hw1]; exact HBw.out.alloc _
      have hs1 : Box w1' sb 124 #[.int .i64 (sr : Int), .int .i64 (i : Int)] := by rw [← hw1, ← hsb]; exact Box.new w9 _ _
      have hK1 : Kept (fun j => (X j ∨ j = g) ∨ Y j) w9 w1' := by rw [← hw1]; exact (Kept.refl _ _).alloc _
      rw [hsb, hw1]
      refine held_s (S := fun w' => Box w' lp 98 (LvA mp f N S T ov mb) ∧ Box w' sb 124 #[.int .i64 (sr : Int), .int .i64 (i : Int)]) 11 rfl (by kernel_rfl) ⟨hB1.drewN 1, hs1.drewN 1⟩ (fun hHeld => ?_)
      simp only [Array.replicate_succ, Array.replicate_zero, List.push_toArray, List.nil_append, List.cons_append]
      have hO2 : Own w1'.drew (plus1 (fun j => (X j ∨ j = g) ∨ Y j) sb) mp (M.gone cc ll) := hO1.drewN 1
      have hB2 : Box w1'.drew lp 98 (LvA mp f N S T ov mb) := hB1.drewN 1
      have hs2' : Box w1'.drew sb 124 #[.int .i64 (sr : Int), .int .i64 (i : Int)] := hs1.drewN 1
      have hK2 : Kept (fun j => (X j ∨ j = g) ∨ Y j) w9 w1'.drew := hK1.drewN 1
      clear hO1 hB1 hs1 hK1 hw1
      generalize w1'.drew = w2 at *
      refine wpAnyH_take (i := 0) (oi := ⟨some 18, _, _, _, _, _⟩) (v := (.pointer (some ⟨lp, 0, none⟩))) rfl (by kernel_rfl) (by kernel_rfl) (by kernel_rfl) (fun _ _ _ h => h) (Or.inl ⟨by rfl, fun w' hw => by go_simp⟩) hHeld ?_
      try simp only [Act.put, List.setIfInBounds_toArray, List.set_cons_zero, List.set_cons_succ]
      refine wpAnyH_take (i := 1) (oi := ⟨some 19, _, _, _, _, _⟩) (v := (.pointer (some ⟨lp, 0, none⟩))) rfl (by kernel_rfl) (by kernel_rfl) (by kernel_rfl) (fun _ _ _ h => h) (Or.inl ⟨by rfl, fun w' hw => by go_simp⟩) hHeld ?_
      try simp only [Act.put, List.setIfInBounds_toArray, List.set_cons_zero, List.set_cons_succ]
      refine wpAnyH_take (i := 2) (oi := ⟨some 20, _, _, _, _, _⟩) (v := (.pointer (some ⟨lp, 0, none⟩))) rfl (by kernel_rfl) (by kernel_rfl) (by kernel_rfl) (fun _ _ _ h => h) (Or.inl ⟨by rfl, fun w' hw => by go_simp⟩) hHeld ?_
      try simp only [Act.put, List.setIfInBounds_toArray, List.set_cons_zero, List.set_cons_succ]
      refine wpAnyH_take (i := 3) (oi := ⟨some 21, _, _, _, _, _⟩) (v := (.pointer (some ⟨mp, 0, none⟩))) rfl (by kernel_rfl) (by kernel_rfl) (by kernel_rfl) (fun _ _ _ h => h) (Or.inl ⟨by rfl, fun w' hw => by (have k0 := lv0 hw.1; have k1 := lv1 hw.1; have k2 := lv2 hw.1; have k3 := lv3 hw.1; have k4 := lv4 hw.1; have s0 := hw.2.cell 0; have s1 := hw.2.cell 1; go_simp)⟩) hHeld ?_
      try simp only [Act.put, List.setIfInBounds_toArray, List.set_cons_zero, List.set_cons_succ]
      refine wpAnyH_take (i := 4) (oi := ⟨some 22, _, _, _, _, _⟩) (v := (.pointer (some ⟨sb, 0, none⟩))) rfl (by kernel_rfl) (by kernel_rfl) (by kernel_rfl) (fun _ _ _ h => h) (Or.inl ⟨by rfl, fun w' hw => by go_simp⟩) hHeld ?_
      try simp only [Act.put, List.setIfInBounds_toArray, List.set_cons_zero, List.set_cons_succ]
      refine wpAnyH_take (i := 5) (oi := ⟨some 23, _, _, _, _, _⟩) (v := (.int .i64 (sr : Int))) rfl (by kernel_rfl) (by kernel_rfl) (by kernel_rfl) (fun _ _ _ h => h) (Or.inl ⟨by rfl, fun w' hw => by (have k0 := lv0 hw.1; have k1 := lv1 hw.1; have k2 := lv2 hw.1; have k3 := lv3 hw.1; have k4 := lv4 hw.1; have s0 := hw.2.cell 0; have s1 := hw.2.cell 1; go_simp)⟩) hHeld ?_
      try simp only [Act.put, List.setIfInBounds_toArray, List.set_cons_zero, List.set_cons_succ]
      refine wpAnyH_take (i := 6) (oi := ⟨some 24, _, _, _, _, _⟩) (v := (.pointer (some ⟨sb, 1, none⟩))) rfl (by kernel_rfl) (by kernel_rfl) (by kernel_rfl) (fun _ _ _ h => h) (Or.inl ⟨by rfl, fun w' hw => by go_simp⟩) hHeld ?_
      try simp only [Act.put, List.setIfInBounds_toArray, List.set_cons_zero, List.set_cons_succ]
      refine wpAnyH_take (i := 7) (oi := ⟨some 25, _, _, _, _, _⟩) (v := (.int .i64 (i : Int))) rfl (by kernel_rfl) (by kernel_rfl) (by kernel_rfl) (fun _ _ _ h => h) (Or.inl ⟨by rfl, fun w' hw => by (have k0 := lv0 hw.1; have k1 := lv1 hw.1; have k2 := lv2 hw.1; have k3 := lv3 hw.1; have k4 := lv4 hw.1; have s0 := hw.2.cell 0; have s1 := hw.2.cell 1; go_simp)⟩) hHeld ?_
      try simp only [Act.put, List.setIfInBounds_toArray, List.set_cons_zero, List.set_cons_succ]
      -- LEFT [8, 9, 10]
      have HO2 := Lib.hid hO2
      have HB2 := Lib.hid hB2
      have HS2 := Lib.hid hs2'
      have HK2 := Lib.hid hK2
      clear hO2 hB2 hs2' hK2
      refine join_at (S := fun w5 cb => Own w5 (plus1 (plus1 (fun j => (X j ∨ j = g) ∨ Y j) sb) cb) mp (M.gone cc (ll ++ [(sr, i, false)])) ∧ Box w5 lp 98 (LvA mp f N S T ov mb) ∧ Box w5 sb 124 #[.int .i64 (sr : Int), .int .i64 (i : Int)] ∧ Var w5 cb (C i) ∧ Kept (fun j => (X j ∨ j = g) ∨ Y j) w9 w5 ∧ (lp < cb ∧ sb < cb ∧ w9.heap.size ≤ cb)) (G := ?G3) (fun key => ?_) ?_
      rotate_left
      · refine wpAnyH_ready (rs := [8, 9]) (by kernel_rfl) (by simp) ?_
        refine AllReadyH.cons rfl (fun K hK => ?_) ?_
        · go_simp
          refine (own_read _ mp (M.gone cc ll) w2 (sr : Int) (i : Int) HO2.out (by rw [gone_len]; omega)).mono ?_
          rintro e w3 ⟨rfl, ho, hk⟩
          rw [gone_read (by omega) (by omega)] at ho
          rw [gone_cell (by omega) (by omega), HCELL.out]
          have hB3 := hk.box HB2.out (.inl (.inl (.inl hX1)))
          have hs3 := hk.box HS2.out (.inr rfl)
          have hK3 := HK2.out.trans (hk.mono (fun i hi => .inl hi))
          refine hK.out _ _ ⟨hB3, hs3⟩ (fun hHeld => ?_)
          clear hK K hk
          simp only [List.setIfInBounds_toArray, List.set_cons_zero, List.set_cons_succ]
          refine one_ready 9 rfl (by kernel_rfl) (fun K hK => ?_)
          go_simp
          obtain ⟨cb, hcb⟩ : ∃ c, w3.heap.size = c := ⟨_, rfl⟩
          obtain ⟨w4, hw4⟩ : ∃ x, w3.alloc (.cells (CA fun _ => 0) 64) = x := ⟨_, rfl⟩
          have hO4 : Own w4 (plus1 (plus1 (fun j => (X j ∨ j = g) ∨ Y j) sb) cb) mp (M.gone cc (ll ++ [(sr, i, false)])) := by rw [← hw4, ← hcb]; exact ho.one _
          have hB4 : Box w4 lp 98 (LvA mp f N S T ov mb) := by rw [← hw4]; exact hB3.alloc _
          have hs4 : Box w4 sb 124 #[.int .i64 (sr : Int), .int .i64 (i : Int)] := by rw [← hw4]; exact hs3.alloc _
          have hC4 : Var w4 cb (fun _ => 0) := by rw [← hw4, ← hcb]; exact Var.new w3 _ _
          have hK4 : Kept (fun j => (X j ∨ j = g) ∨ Y j) w9 w4 := by rw [← hw4]; exact hK3.alloc _
          have hcn : lp < cb ∧ sb < cb ∧ w9.heap.size ≤ cb := ⟨by rw [← hcb]; exact hB3.lt, by rw [← hcb]; exact hs3.lt, by rw [← hcb]; exact hK3.size⟩
          refine hK.out _ _ ⟨hB3.alloc _, hs3.alloc _⟩ (fun hHeld => ?_)
          change wpAnyH _ _ _ _ _ _ _ _ (w3.alloc (.cells (CA fun _ => 0) 64))
          rw [hw4]
          simp only [hcb]
          clear hK K hB3 hs3 hK3 ho hw4
          simp only [List.setIfInBounds_toArray, List.set_cons_zero, List.set_cons_succ]
          refine one_ready 10 (o := ⟨none, _, _, _, _, _⟩) rfl (by kernel_rfl) (fun K hK => ?_)
          refine step_store_cell rfl (.tmp 6) (.tmp 26) rfl cb 0 rfl (C i) rfl hC4.there ?_
          have hoc : Only (just cb) w4 (w4.setCells cb 0 (CA (C i)).toList) := only_setCells _ 0 _ (Only.refl _ _) (.inl (just_self cb))
          have hO5 := hO4.setCells cb (CA (C i)).toList (.inr rfl)
          have hB5 := hB4.only hoc (just_ne (by omega))
          have hs5 := hs4.only hoc (just_ne (by omega))
          have hC5 := hC4.set (C i)
          have hK5 := hK4.setCells cb (CA (C i)).toList hcn.2.2
          refine hK.out _ _ ⟨hB5, hs5⟩ (fun hHeld => ?_)
          clear hK K hoc hO4 hB4 hs4 hC4 hK4
          simp only [List.setIfInBounds_toArray, List.set_cons_zero, List.set_cons_succ]
          generalize w4.setCells cb 0 (CA (C i)).toList = w5 at hO5 hB5 hs5 hC5 hK5 ⊢
          exact key w5 cb ⟨hO5, hB5, hs5, hC5, hK5, hcn⟩
        · refine AllReadyH.cons rfl (fun K hK => ?_) AllReadyH.nil
          go_simp
          obtain ⟨cb, hcb⟩ : ∃ c, w2.heap.size = c := ⟨_, rfl⟩
          obtain ⟨w3, hw3⟩ : ∃ x, w2.alloc (.cells (CA fun _ => 0) 64) = x := ⟨_, rfl⟩
          have hO3 : Own w3 (plus1 (plus1 (fun j => (X j ∨ j = g) ∨ Y j) sb) cb) mp (M.gone cc ll) := by rw [← hw3, ← hcb]; exact HO2.out.one _
          have hB3 : Box w3 lp 98 (LvA mp f N S T ov mb) := by rw [← hw3]; exact HB2.out.alloc _
          have hs3 : Box w3 sb 124 #[.int .i64 (sr : Int), .int .i64 (i : Int)] := by rw [← hw3]; exact HS2.out.alloc _
          have hC3 : Var w3 cb (fun _ => 0) := by rw [← hw3, ← hcb]; exact Var.new w2 _ _
          have hK3 : Kept (fun j => (X j ∨ j = g) ∨ Y j) w9 w3 := by rw [← hw3]; exact HK2.out.alloc _
          have hcn : lp < cb ∧ sb < cb ∧ w9.heap.size ≤ cb := ⟨by rw [← hcb]; exact HB2.out.lt, by rw [← hcb]; exact HS2.out.lt, by rw [← hcb]; exact HK2.out.size⟩
          refine hK.out _ _ ⟨HB2.out.alloc _, HS2.out.alloc _⟩ (fun hHeld => ?_)
          change wpAnyH _ _ _ _ _ _ _ _ (w2.alloc (.cells (CA fun _ => 0) 64))
          rw [hw3]
          simp only [hcb]
          clear hK K hw3
          simp only [List.setIfInBounds_toArray, List.set_cons_zero, List.set_cons_succ]
          refine one_ready 8 rfl (by kernel_rfl) (fun K hK => ?_)
          go_simp
          refine (own_read _ mp (M.gone cc ll) w3 (sr : Int) (i : Int) hO3 (by rw [gone_len]; omega)).mono ?_
          rintro e w4 ⟨rfl, ho, hk⟩
          rw [gone_read (by omega) (by omega)] at ho
          rw [gone_cell (by omega) (by omega), HCELL.out]
          have hO4 := ho
          have hB4 := hk.box hB3 (.inl (.inl (.inl (.inl hX1))))
          have hs4 := hk.box hs3 (.inl (.inr rfl))
          have hC4 := hC3.kept hk (.inr rfl)
          have hK4 := hK3.trans (hk.mono (fun i hi => .inl (.inl hi)))
          refine hK.out _ _ ⟨hB4, hs4⟩ (fun hHeld => ?_)
          clear hK K hk hB3 hs3 hC3 hK3 hO3 ho
          simp only [List.setIfInBounds_toArray, List.set_cons_zero, List.set_cons_succ]
          refine one_ready 10 (o := ⟨none, _, _, _, _, _⟩) rfl (by kernel_rfl) (fun K hK => ?_)
          refine step_store_cell rfl (.tmp 6) (.tmp 26) rfl cb 0 rfl (C i) rfl hC4.there ?_
          have hoc : Only (just cb) w4 (w4.setCells cb 0 (CA (C i)).toList) := only_setCells _ 0 _ (Only.refl _ _) (.inl (just_self cb))
          have hO5 := hO4.setCells cb (CA (C i)).toList (.inr rfl)
          have hB5 := hB4.only hoc (just_ne (by omega))
          have hs5 := hs4.only hoc (just_ne (by omega))
          have hC5 := hC4.set (C i)
          have hK5 := hK4.setCells cb (CA (C i)).toList hcn.2.2
          refine hK.out _ _ ⟨hB5, hs5⟩ (fun hHeld => ?_)
          clear hK K hoc hO4 hB4 hs4 hC4 hK4
          simp only [List.setIfInBounds_toArray, List.set_cons_zero, List.set_cons_succ]
          generalize w4.setCells cb 0 (CA (C i)).toList = w5 at hO5 hB5 hs5 hC5 hK5 ⊢
          exact key w5 cb ⟨hO5, hB5, hs5, hC5, hK5, hcn⟩
      intro w5 cb hkey
      obtain ⟨hO5, hB5, hs5, hC5, hK5, hcn⟩ := hkey
      refine wpAnyH_done (by kernel_rfl) ?_ _
      have HO5 := Lib.hid hO5
      have HB5 := Lib.hid hB5
      have HS5 := Lib.hid hs5
      have HK5 := Lib.hid hK5
      have HC5 := Lib.hid hC5
      clear hO5 hB5 hs5 hK5 hC5
      go_upto_region 4 with fail
      refine held_s (S := fun w' => Box w' lp 98 (LvA mp f N S T ov mb) ∧ Box w' sb 124 #[.int .i64 (sr : Int), .int .i64 (i : Int)] ∧ Var w' cb (C i)) 13 rfl (by kernel_rfl) ⟨HB5.out.drewN 1, HS5.out.drewN 1, HC5.out.drew⟩ (fun hHeld => ?_)
      simp only [Array.replicate_succ, Array.replicate_zero, List.push_toArray, List.nil_append, List.cons_append]
      have hO6 : Own w5.drew (plus1 (plus1 (fun j => (X j ∨ j = g) ∨ Y j) sb) cb) mp (M.gone cc (ll ++ [(sr, i, false)])) := HO5.out.drewN 1
      have hB6 : Box w5.drew lp 98 (LvA mp f N S T ov mb) := HB5.out.drewN 1
      have hs6 : Box w5.drew sb 124 #[.int .i64 (sr : Int), .int .i64 (i : Int)] := HS5.out.drewN 1
      have hC6 : Var w5.drew cb (C i) := HC5.out.drew
      have hK6 : Kept (fun j => (X j ∨ j = g) ∨ Y j) w9 w5.drew := HK5.out.drewN 1
      have hIv := HCl.out.stay i Y w9 w5.drew HInv.out (hK6.mono (fun j hj => by
        rcases hj with h | h
        · exact .inl (.inl h)
        · exact .inr h))
      have hsz6 : w9.heap.size ≤ w5.drew.heap.size := hK6.size
      have hX6 : ∀ j, X j → j < w5.drew.heap.size := by
        obtain ⟨F, hm, hF, hlt⟩ := hO6
        exact fun j hj => hlt j (.inl (.inl (.inl (.inl hj))))
      have hYlt : ∀ j, Y j → j < sb := by
        obtain ⟨F, hm, hF, hlt⟩ := HOwn.out
        exact fun j hj => by have := hlt j (.inr hj); omega
      clear HO5 HB5 HS5 HK5 HC5
      generalize w5.drew = w6 at *
      refine wpAnyH_take (i := 0) (oi := ⟨some 27, _, _, _, _, _⟩) (v := (.pointer (some ⟨lp, 0, none⟩))) rfl (by kernel_rfl) (by kernel_rfl) (by kernel_rfl) (fun _ _ _ h => h) (Or.inl ⟨by rfl, fun w' hw => by go_simp⟩) hHeld ?_
      try simp only [Act.put, List.setIfInBounds_toArray, List.set_cons_zero, List.set_cons_succ]
      refine wpAnyH_take (i := 1) (oi := ⟨some 28, _, _, _, _, _⟩) (v := (.pointer (some ⟨lp, 0, none⟩))) rfl (by kernel_rfl) (by kernel_rfl) (by kernel_rfl) (fun _ _ _ h => h) (Or.inl ⟨by rfl, fun w' hw => by go_simp⟩) hHeld ?_
      try simp only [Act.put, List.setIfInBounds_toArray, List.set_cons_zero, List.set_cons_succ]
      refine wpAnyH_take (i := 2) (oi := ⟨some 29, _, _, _, _, _⟩) (v := (.pointer (some ⟨lp, 0, none⟩))) rfl (by kernel_rfl) (by kernel_rfl) (by kernel_rfl) (fun _ _ _ h => h) (Or.inl ⟨by rfl, fun w' hw => by go_simp⟩) hHeld ?_
      try simp only [Act.put, List.setIfInBounds_toArray, List.set_cons_zero, List.set_cons_succ]
      refine wpAnyH_take (i := 3) (oi := ⟨some 30, _, _, _, _, _⟩) (v := (.pointer (some ⟨mp, 0, none⟩))) rfl (by kernel_rfl) (by kernel_rfl) (by kernel_rfl) (fun _ _ _ h => h) (Or.inl ⟨by rfl, fun w' hw => by (have k0 := lv0 hw.1; have k1 := lv1 hw.1; have k2 := lv2 hw.1; have k3 := lv3 hw.1; have k4 := lv4 hw.1; have s0 := hw.2.1.cell 0; have s1 := hw.2.1.cell 1; go_simp)⟩) hHeld ?_
      try simp only [Act.put, List.setIfInBounds_toArray, List.set_cons_zero, List.set_cons_succ]
      refine wpAnyH_take (i := 4) (oi := ⟨some 31, _, _, _, _, _⟩) (v := (.pointer (some ⟨sb, 0, none⟩))) rfl (by kernel_rfl) (by kernel_rfl) (by kernel_rfl) (fun _ _ _ h => h) (Or.inl ⟨by rfl, fun w' hw => by go_simp⟩) hHeld ?_
      try simp only [Act.put, List.setIfInBounds_toArray, List.set_cons_zero, List.set_cons_succ]
      refine wpAnyH_take (i := 5) (oi := ⟨some 32, _, _, _, _, _⟩) (v := (.int .i64 (sr : Int))) rfl (by kernel_rfl) (by kernel_rfl) (by kernel_rfl) (fun _ _ _ h => h) (Or.inl ⟨by rfl, fun w' hw => by (have k0 := lv0 hw.1; have k1 := lv1 hw.1; have k2 := lv2 hw.1; have k3 := lv3 hw.1; have k4 := lv4 hw.1; have s0 := hw.2.1.cell 0; have s1 := hw.2.1.cell 1; go_simp)⟩) hHeld ?_
      try simp only [Act.put, List.setIfInBounds_toArray, List.set_cons_zero, List.set_cons_succ]
      refine wpAnyH_take (i := 6) (oi := ⟨some 33, _, _, _, _, _⟩) (v := (.pointer (some ⟨sb, 1, none⟩))) rfl (by kernel_rfl) (by kernel_rfl) (by kernel_rfl) (fun _ _ _ h => h) (Or.inl ⟨by rfl, fun w' hw => by go_simp⟩) hHeld ?_
      try simp only [Act.put, List.setIfInBounds_toArray, List.set_cons_zero, List.set_cons_succ]
      refine wpAnyH_take (i := 7) (oi := ⟨some 34, _, _, _, _, _⟩) (v := (.int .i64 (i : Int))) rfl (by kernel_rfl) (by kernel_rfl) (by kernel_rfl) (fun _ _ _ h => h) (Or.inl ⟨by rfl, fun w' hw => by (have k0 := lv0 hw.1; have k1 := lv1 hw.1; have k2 := lv2 hw.1; have k3 := lv3 hw.1; have k4 := lv4 hw.1; have s0 := hw.2.1.cell 0; have s1 := hw.2.1.cell 1; go_simp)⟩) hHeld ?_
      try simp only [Act.put, List.setIfInBounds_toArray, List.set_cons_zero, List.set_cons_succ]
      refine wpAnyH_take (i := 8) (oi := ⟨some 35, _, _, _, _, _⟩) (v := (.func (.func k) #[] caps)) rfl (by kernel_rfl) (by kernel_rfl) (by kernel_rfl) (fun _ _ _ h => h) (Or.inl ⟨by rfl, fun w' hw => by go_simp⟩) hHeld ?_
      try simp only [Act.put, List.setIfInBounds_toArray, List.set_cons_zero, List.set_cons_succ]
      refine wpAnyH_take (i := 9) (oi := ⟨some 36, _, _, _, _, _⟩) (v := (.int .i64 (i : Int))) rfl (by kernel_rfl) (by kernel_rfl) (by kernel_rfl) (fun _ _ _ h => h) (Or.inl ⟨by rfl, fun w' hw => by go_simp⟩) hHeld ?_
      try simp only [Act.put, List.setIfInBounds_toArray, List.set_cons_zero, List.set_cons_succ]
      refine take_row 10 (oi := ⟨some 37, _, _, _, _, _⟩) (CA (C i)).toList rfl (by kernel_rfl) (by kernel_rfl) (by kernel_rfl) (fun _ _ _ h => h) (by rfl) _ _ rfl _ _ rfl _ (fun w' hw => hw.2.2.rng) Tryz.underlying64 rfl (infoCellL (C i)) hHeld ?_
      try simp only [Act.put, List.setIfInBounds_toArray, List.set_cons_zero, List.set_cons_succ]
      refine one_ready 11 rfl (by kernel_rfl) (fun K hK => ?_)
      have hkk := HK.out (#[.int .i64 (i : Int), .agg (CA (C i))] ++ caps) w6
      go_simp
      clear hkk
      refine (HCl.out.call i Y w6 hin hIv hX6 (fun j hj => HDis.out j (.inl hj))).mono ?_
      rintro e w7 ⟨rfl, ho7, Y', hInv', hY'⟩
      have hsz7 := ho7.size
      have hYc : ∀ j, Y j → j < sb := hYlt
      have hO7 := hO6.grow_only ho7 (fun j hj => .inl (.inl (.inr hj)))
      have hB7 := hB6.only ho7 (fun hy => HDis.out lp (.inl hX1) hy)
      have hs7 := hs6.only ho7 (fun hy => by have := hYc _ hy; omega)
      have hC7 := hC6.only ho7 (fun hy => by have := hYc _ hy; omega)
      have hK7 : Kept (fun j => X j ∨ j = g) w9 w7 := (Kept.mono hK6 (fun j hj => .inl hj)).trans (Only.mono ho7 (fun j _ hy hj => HDis.out j hj hy))
      have hO7 := hO7.weak (Y := fun j => (((X j ∨ j = g) ∨ Y' j) ∨ j = sb) ∨ j = cb) (fun j hj => by
        rcases hj with ((hj | hj) | hj) | hj
        · exact .inl (.inl (.inl (.inl hj)))
        · rcases hY' j hj with h | h
          · exact .inl (.inl (.inl (.inr h)))
          · exact .inr h
        · exact .inl (.inl (.inr hj))
        · exact .inl (.inr hj))
      refine hK.out _ _ ⟨hB7, hs7, hC7⟩ (fun hHeld => ?_)
      clear hK K ho7 hO6 hB6 hs6 hC6 hK6 hIv
      simp only [List.setIfInBounds_toArray, List.set_cons_zero, List.set_cons_succ]
      refine one_ready 12 rfl (by kernel_rfl) (fun K hK => ?_)
      go_simp
      refine (own_write _ mp (M.gone cc (ll ++ [(sr, i, false)])) w7 (sr : Int) (i : Int) (Z i) hO7 (by rw [gone_len, List.length_append]; simp only [List.length_cons, List.length_nil]; omega)).mono ?_
      rintro e w8 ⟨rfl, ho, hk⟩
      rw [gone_write (by omega) (by omega), HSUC.out, ← HEV.out, ← HSr.out] at ho
      have hInv8 := HCl.out.stay (i + 1) Y' w7 w8 hInv' (hk.mono (fun j hj => by
        rcases hj with h | h
        · exact .inl (.inl (.inl (.inl h)))
        · exact .inl (.inl (.inr h))))
      have hK8 := hK7.trans (hk.mono (fun j hj => .inl (.inl (.inl hj))))
      have hB8 := hk.box hB7 (.inl (.inl (.inl (.inl hX1))))
      have hs8 := hk.box hs7 (.inl (.inr rfl))
      have hC8 := hC7.kept hk (.inr rfl)
      have HE : Hid (EaAt w1 X g mp f M Z Inv (i + 1) w8) := Lib.hid ⟨Y', hInv8, ho.weak (fun j hj => .inl (.inl hj)), HKp.out.trans hK8, fun j hj hy => by
        rcases hY' j hy with h | h
        · exact HDis.out j hj h
        · have h2 : j < w9.heap.size := by
            obtain ⟨F, hm, hF, hlt⟩ := HOwn.out
            exact hlt j (.inl hj)
          have := hsz6
          omega⟩
      refine hK.out _ _ ⟨hB8, hs8, hC8⟩ (fun hHeld => ?_)
      clear hK K hk ho hO7 hB7 hs7 hC7 hK7 hInv' hInv8 hK8 hB8 hs8 hC8
      simp only [List.setIfInBounds_toArray, List.set_cons_zero, List.set_cons_succ]
      refine wpAnyH_done (by kernel_rfl) ?_ _
      go_wp2_with fail
      go_roundw
      case rel => exact ⟨i + 1, by go_num, by omega, HE.out⟩
      case measure => simp [intOf]; omega
    · obtain rfl : i = Q := by omega
      have HE : Hid (∃ Y, Inv i Y wr ∧ Own wr (fun j => X j ∨ Y j) mp (M.gone (cT (f + 2) Z M.c i) (evE (f + 2) i)) ∧ Kept X w wr ∧ ∀ j, X j → ¬ Y j) := Lib.hid (by
        obtain ⟨Y, hInv, hOwn, hKp, hdis⟩ := hS
        exact ⟨Y, hInv, hOwn.weak (fun j hj => hj.elim (fun h => .inl (.inl h)) .inr), HK1.out.trans (hKp.mono (fun j hj => .inl hj)), fun j hj => hdis j (.inl hj)⟩)
      clear hS
      go_wp2_with fail
      go_end0
      exact ⟨rfl, HE.out⟩
end Go.Proofs.YtdbjaaalngbpgaaGreat
