/- Texts of ours put together: LevelEach, LevelPlc, LevelPlace. -/
import Derived.Below
import Derived.BigQuiet
import Derived.BigRegion
import Derived.ChangeArms
import Derived.ChangeKeysEq
import Derived.ChangeSlices
import Derived.Deep.Cut
import Derived.Deep.Draws
import Derived.Deep.MidRow
import Derived.Deep.OwnRows
import Derived.Deep.Quiet
import Derived.Deep.QuietTactic
import Derived.Deep.RegionHeld
import Derived.Deep.RegionHeld3
import Derived.Deep.Slices
import Derived.Deep.WholeRow
import Derived.Laws.AppendOwn
import Derived.Laws.BitsAllLaws
import Derived.Laws.CopyOwn
import Derived.Laws.StructEq
import Derived.Lib.BitFns
import Derived.Lib.Hide
import Derived.LoopIn
import Derived.LoopNIn
import Derived.Maps.AppendAt
import Derived.OpenShut
import Derived.OwnWalk
import Derived.OwnWalkIn
import Derived.ProofKit
import Derived.RangeFuncBound
import Derived.RangeFuncCalls
import Derived.RangeFuncLeaves
import Derived.RangeFuncNested
import Derived.RegionTactic
import Derived.RowKit3
import Derived.Shelf.Abstract
import Derived.Shelf.Bits.Mul64
import Derived.Shelf.RegionOpen
import Derived.Shelf.SlSortCmp.WholeK
import Derived.Shelf.Spec.BitsCarry
import Derived.Shelf.Strconv.Itoa0
import Derived.SizedLaws
import Derived.Sort.Grow
import Derived.StillTailTactics
import Derived.TacticsInMore
import Derived.WalkKit
import Derived.WideShapes
import Derived.Test.YtmageeohnfomnaaGreatProg
import Derived.Test.YtmageeohnfomnaaGreatG0
import Derived.Test.YtmageeohnfomnaaGreatG16
import Derived.Test.YtmageeohnfomnaaGreatG37
import Derived.Test.YtmageeohnfomnaaGreatG20
import Derived.Test.YtmageeohnfomnaaGreatG3
import Derived.Test.YtmageeohnfomnaaGreatG1
import Derived.Test.YtmageeohnfomnaaGreatG19
import Derived.Test.YtmageeohnfomnaaGreatG21
import Derived.Test.YtmageeohnfomnaaGreatG5
import Derived.Test.YtmageeohnfomnaaGreatG2
import Derived.Test.YtmageeohnfomnaaGreatG27
import Derived.Test.YtmageeohnfomnaaGreatG29
import Derived.Test.YtmageeohnfomnaaGreatG15
import Derived.Test.YtmageeohnfomnaaGreatG6
import Derived.Test.YtmageeohnfomnaaGreatG10
import Derived.Test.YtmageeohnfomnaaGreatG24
import Derived.Test.YtmageeohnfomnaaGreatG23
import Derived.Test.YtmageeohnfomnaaGreatG25
import Derived.Test.YtmageeohnfomnaaGreatG26
import Derived.Test.YtmageeohnfomnaaGreatG39
import Derived.Test.YtmageeohnfomnaaGreatG14
import Derived.Test.YtmageeohnfomnaaGreatG30
import Derived.Test.YtmageeohnfomnaaGreatG22
import Derived.Test.YtmageeohnfomnaaGreatG11
import Derived.Test.YtmageeohnfomnaaGreatG40
import Derived.Test.YtmageeohnfomnaaGreatG8
import Derived.Test.YtmageeohnfomnaaGreatG9
namespace Go.Proofs.YtmageeohnfomnaaGreat
set_option maxRecDepth 100000
open Go.RowKit Go.ChangeShapes Go.WideShapes Go.ChangeAt

structure Clo (X : Nat → Prop) (k : FuncId) (caps : Array Value) (Q : Nat) (C Z : Nat → Cl) (Inv : Nat → (Nat → Prop) → World → Prop) : Prop where
  stay : ∀ i Y W W', Inv i Y W → Kept (fun j => X j ∨ Y j) W W' → Inv i Y W'
  call : ∀ i Y W, i < Q → Inv i Y W → (∀ j, X j → j < W.heap.size) → (∀ j, X j → ¬ Y j) → Calls Tryz.prog k (#[.int .i64 (i : Int), .agg (CA (C i))] ++ caps) W fun e w' => e = .returned (.agg (CA (Z i))) ∧ Only Y W w' ∧ ∃ Y', Inv (i + 1) Y' w' ∧ ∀ j, Y' j → Y j ∨ W.heap.size ≤ j ∧ j < w'.heap.size
theorem evE_succ (t i : Nat) : evE t (i + 1) = evE t i ++ [(t, i, false)] ++ [(t, i, true)] := rfl
def EaAt (w1 : World) (X : Nat → Prop) (g mp f : Nat) (M : MS) (Z : Nat → Cl) (Inv : Nat → (Nat → Prop) → World → Prop) (i : Nat) (wr : World) : Prop :=
  ∃ Y : Nat → Prop, Inv i Y wr ∧ Own wr (fun j => (X j ∨ j = g) ∨ Y j) mp (M.gone (cT (f + 2) Z M.c i) (evE (f + 2) i)) ∧ Kept (fun j => X j ∨ j = g) w1 wr ∧ ∀ j, (X j ∨ j = g) → ¬ Y j
set_option maxRecDepth 100000 in
set_option maxHeartbeats 4000000 in
theorem each_any {N S T D L n Q P : Nat} (h : Conf N S T D L n Q P) (X Y0 : Nat → Prop) (lp mp f : Nat) (ov : Bool) (mb : Option Nat) (M : MS) (k : FuncId) (caps : Array Value) (C Z : Nat → Cl) (Inv : Nat → (Nat → Prop) → World → Prop) (w : World)
    (hM : LvM M f S D T Q) (hf : f ≤ 100) (hC : ∀ a, a < Q → M.c (f + 2) a = C a) (hcl : Clo X k caps Q C Z Inv) (hk : ∀ (args : Array Value) (W : World), Sem.run Tryz.prog (callFunc k args) W = .ok (.enter k args) W) (hI : Inv 0 Y0 w) (hO : Own w (fun j => X j ∨ Y0 j) mp M) (hX1 : X lp) (hXY : ∀ j, X j → ¬ Y0 j) (hB : Box w lp 80 (LvA mp f N S T ov mb)) :
    Calls Tryz.prog 83 #[.pointer (some ⟨lp, 0, none⟩), .func (.func k) #[] caps] w fun e w' =>
      e = .returned (.tuple #[]) ∧ ∃ Y, Inv Q Y w' ∧ Own w' (fun j => X j ∨ Y j) mp (M.gone (cT (f + 2) Z M.c Q) (evE (f + 2) Q)) ∧ Kept X w w' ∧ ∀ j, X j → ¬ Y j := by
  have HTs := Lib.hid (fun W => table_spots h f hf W)
  have hQ := h.big.2.2.2
  have hM2 := hM.hk
  have hs2 := hM.s2
  have hml := hM.len
  have HCl := Lib.hid hcl
  have HI := Lib.hid hI
  have HO := Lib.hid hO
  have HB := Lib.hid hB
  have HC := Lib.hid hC
  have HXY := Lib.hid hXY
  have p0 := lv0 hB
  have p1 := lv1 hB
  have p2 := lv2 hB
  have p3 := lv3 hB
  have p4 := lv4 hB
  have HK := Lib.hid hk
  clear h hM hcl hI hO hB hC hXY hk
  go_enter Tryz.func83, Tryz.ntmps83
  go_wp2_with fail
  refine (HTs.out w).mono ?_
  rintro e w1 ⟨g, cap, rfl, hsp, hb1⟩
  have hon : Only nobody w w1 := Only.of_below hb1
  have hgn := hsp.old
  have hgl := hsp.lt
  have HA : Hid (EaAt w1 X g mp f M Z Inv 0 w1) := Lib.hid ⟨Y0, HCl.out.stay 0 Y0 w w1 HI.out (Kept.of_none hon), by
      rw [cT_zero]
      show Own w1 _ mp (M.gone M.c [])
      rw [gone_self]
      exact (HO.out.grow hon).weak (fun j hj => by
        rcases hj with (hj | hj) | hj
        · exact .inl (.inl hj)
        · subst hj; exact .inr ⟨hgn, hgl⟩
        · exact .inl (.inr hj)), Kept.refl _ _, fun j hj hy => by
        rcases hj with hj | hj
        · exact HXY.out j hj hy
        · subst hj
          obtain ⟨F, hm, hF, hlt⟩ := HO.out
          have := hlt j (.inr hy)
          omega⟩
  have HSp := Lib.hid (show Sps w1 0 g Q (fun i => (f + 2, i)) from ⟨Nat.zero_le _, hsp.lt, hsp.cell⟩)
  have HK1 : Hid (Kept X w w1) := Lib.hid (Kept.of_none hon)
  have HB1 := Lib.hid (HB.out.of (hb1.block _ HB.out.lt))
  clear hsp hb1 hon hgn hgl HI HO HXY HB p0 p1 p2 p3 p4
  go_wp2_with fail
  go_loopw [13] (fun v wr => ∃ i : Nat, v = .int .i64 i ∧ i ≤ Q ∧ EaAt w1 X g mp f M Z Inv i wr) (fun v _ => Q - (intOf v).toNat)
  case atStart => exact ⟨0, rfl, by omega, HA.out⟩
  case round =>
    obtain ⟨i, rfl, hi, hS⟩ := hrel
    clear HA
    by_cases hin : i < Q
    · obtain ⟨Y, hInv, hOwn, hKp, hdis⟩ := hS
      obtain ⟨c0, c1⟩ := (HSp.out.kept hKp (.inr rfl)).cell i hin
      have hBw := hKp.box HB1.out (.inl hX1)
      have hcell : cT (f + 2) Z M.c i (f + 2) i = C i := by rw [cT_past (by omega)]; exact HC.out i hin
      have hsuc := cT_succ (t := f + 2) (X := Z) (c := M.c) (i := i)
      have hel := evE_len (f + 2) i
      have HCELL := Lib.hid hcell
      have HSUC := Lib.hid hsuc
      have HEV := Lib.hid (evE_succ (f + 2) i)
      have HInv := Lib.hid hInv
      have HDis := Lib.hid hdis
      have HKp := Lib.hid hKp
      have HOwn := Lib.hid hOwn
      have HBw := Lib.hid hBw
      obtain ⟨sr, hsr⟩ : ∃ sr, f + 2 = sr := ⟨_, rfl⟩
      rw [hsr] at HCELL HSUC HEV HOwn hM2 hs2
      have HSr := Lib.hid hsr
      replace c0 : wr.cell? ⟨g, i * 2, none⟩ = some (.int .i64 (sr : Int)) := by rw [← hsr]; exact c0
      generalize hcc : cT sr Z M.c i = cc at HCELL HSUC HOwn
      generalize hll : evE sr i = ll at HEV HOwn
      have hel2 : ll.length ≤ 600 := by rw [← hll, evE_len]; omega
      obtain ⟨w9, h9⟩ : ∃ x, x = wr := ⟨_, rfl⟩
      subst h9
      clear hInv hOwn hKp hdis hBw hcell hsuc hel hcc hll hsr
      go_upto_region 3 with fail
      clear c0 c1
      obtain ⟨sb, hsb⟩ : ∃ b, w9.heap.size = b := ⟨_, rfl⟩
      obtain ⟨w1', hw1⟩ : ∃ x, w9.alloc (.cells #[.int .i64 (sr : Int), .int .i64 (i : Int)] 92) = x := ⟨_, rfl⟩
      have hO1 : Own w1' (plus1 (fun j => (X j ∨ j = g) ∨ Y j) sb) mp (M.gone cc ll) := by rw [← hw1, ← hsb]; exact HOwn.out.one _
      have hB1 : Box w1' lp 80 (LvA mp f N S T ov mb) := by rw [← hw1]; exact HBw.out.alloc _
      have hs1 : Box w1' sb 92 #[.int .i64 (sr : Int), .int .i64 (i : Int)] := by rw [← hw1, ← hsb]; exact Box.new w9 _ _
      have hK1 : Kept (fun j => (X j ∨ j = g) ∨ Y j) w9 w1' := by rw [← hw1]; exact (Kept.refl _ _).alloc _
      rw [hsb, hw1]
      refine held_s (S := fun w' => Box w' lp 80 (LvA mp f N S T ov mb) ∧ Box w' sb 92 #[.int .i64 (sr : Int), .int .i64 (i : Int)]) 11 rfl (by kernel_rfl) ⟨hB1.drewN 1, hs1.drewN 1⟩ (fun hHeld => ?_)
      simp only [Array.replicate_succ, Array.replicate_zero, List.push_toArray, List.nil_append, List.cons_append]
      have hO2 : Own w1'.drew (plus1 (fun j => (X j ∨ j = g) ∨ Y j) sb) mp (M.gone cc ll) := hO1.drewN 1
      have hB2 : Box w1'.drew lp 80 (LvA mp f N S T ov mb) := hB1.drewN 1
      have hs2' : Box w1'.drew sb 92 #[.int .i64 (sr : Int), .int .i64 (i : Int)] := hs1.drewN 1
      have hK2 : Kept (fun j => (X j ∨ j = g) ∨ Y j) w9 w1'.drew := hK1.drewN 1
      clear hO1 hB1 hs1 hK1 hw1
      generalize w1'.drew = w2 at *
      refine wpAnyH_take (i := 0) (oi := ⟨some 18, _, _, _, _, _⟩) (v := (.pointer (some ⟨lp, 0, none⟩))) rfl (by kernel_rfl) (by kernel_rfl) (by kernel_rfl) (fun _ _ _ h => h) (Or.inl ⟨by rfl, fun w' hw => by go_simp⟩) hHeld ?_
      try simp only [Act.put, List.setIfInBounds_toArray, List.set_cons_zero, List.set_cons_succ]
      refine wpAnyH_take (i := 1) (oi := ⟨some 19, _, _, _, _, _⟩) (v := (.pointer (some ⟨lp, 0, none⟩))) rfl (by kernel_rfl) (by kernel_rfl) (by kernel_rfl) (fun _ _ _ h => h) (Or.inl ⟨by rfl, fun w' hw => by go_simp⟩) hHeld ?_
      try simp only [Act.put, List.setIfInBounds_toArray, List.set_cons_zero, List.set_cons_succ]
      refine wpAnyH_take (i := 2) (oi := ⟨some 20, _, _, _, _, _⟩) (v := (.pointer (some ⟨lp, 0, none⟩))) rfl (by kernel_rfl) (by kernel_rfl) (by kernel_rfl) (fun _ _ _ h => h) (Or.inl ⟨by rfl, fun w' hw => by go_simp⟩) hHeld ?_
      try simp only [Act.put, List.setIfInBounds_toArray, List.set_cons_zero, List.set_cons_succ]
      refine wpAnyH_take (i := 3) (oi := ⟨some 21, _, _, _, _, _⟩) (v := (.pointer (some ⟨mp, 0, none⟩))) rfl (by kernel_rfl) (by kernel_rfl) (by kernel_rfl) (fun _ _ _ h => h) (Or.inl ⟨by rfl, fun w' hw => by (have k0 := lv0 hw.1; have k1 := lv1 hw.1; have k2 := lv2 hw.1; have k3 := lv3 hw.1; have k4 := lv4 hw.1; have s0 := hw.2.cell 0; have s1 := hw.2.cell 1; go_simp)⟩) hHeld ?_
      try simp only [Act.put, List.setIfInBounds_toArray, List.set_cons_zero, List.set_cons_succ]
      refine wpAnyH_take (i := 4) (oi := ⟨some 22, _, _, _, _, _⟩) (v := (.pointer (some ⟨sb, 0, none⟩))) rfl (by kernel_rfl) (by kernel_rfl) (by kernel_rfl) (fun _ _ _ h => h) (Or.inl ⟨by rfl, fun w' hw => by go_simp⟩) hHeld ?_
      try simp only [Act.put, List.setIfInBounds_toArray, List.set_cons_zero, List.set_cons_succ]
      refine wpAnyH_take (i := 5) (oi := ⟨some 23, _, _, _, _, _⟩) (v := (.int .i64 (sr : Int))) rfl (by kernel_rfl) (by kernel_rfl) (by kernel_rfl) (fun _ _ _ h => h) (Or.inl ⟨by rfl, fun w' hw => by (have k0 := lv0 hw.1; have k1 := lv1 hw.1; have k2 := lv2 hw.1; have k3 := lv3 hw.1; have k4 := lv4 hw.1; have s0 := hw.2.cell 0; have s1 := hw.2.cell 1; go_simp)⟩) hHeld ?_
      try simp only [Act.put, List.setIfInBounds_toArray, List.set_cons_zero, List.set_cons_succ]
      refine wpAnyH_take (i := 6) (oi := ⟨some 24, _, _, _, _, _⟩) (v := (.pointer (some ⟨sb, 1, none⟩))) rfl (by kernel_rfl) (by kernel_rfl) (by kernel_rfl) (fun _ _ _ h => h) (Or.inl ⟨by rfl, fun w' hw => by go_simp⟩) hHeld ?_
      try simp only [Act.put, List.setIfInBounds_toArray, List.set_cons_zero, List.set_cons_succ]
      refine wpAnyH_take (i := 7) (oi := ⟨some 25, _, _, _, _, _⟩) (v := (.int .i64 (i : Int))) rfl (by kernel_rfl) (by kernel_rfl) (by kernel_rfl) (fun _ _ _ h => h) (Or.inl ⟨by rfl, fun w' hw => by (have k0 := lv0 hw.1; have k1 := lv1 hw.1; have k2 := lv2 hw.1; have k3 := lv3 hw.1; have k4 := lv4 hw.1; have s0 := hw.2.cell 0; have s1 := hw.2.cell 1; go_simp)⟩) hHeld ?_
      try simp only [Act.put, List.setIfInBounds_toArray, List.set_cons_zero, List.set_cons_succ]
      -- LEFT [8, 9, 10]
      have HO2 := Lib.hid hO2
      have HB2 := Lib.hid hB2
      have HS2 := Lib.hid hs2'
      have HK2 := Lib.hid hK2
      clear hO2 hB2 hs2' hK2
      refine join_at (S := fun w5 cb => Own w5 (plus1 (plus1 (fun j => (X j ∨ j = g) ∨ Y j) sb) cb) mp (M.gone cc (ll ++ [(sr, i, false)])) ∧ Box w5 lp 80 (LvA mp f N S T ov mb) ∧ Box w5 sb 92 #[.int .i64 (sr : Int), .int .i64 (i : Int)] ∧ Var w5 cb (C i) ∧ Kept (fun j => (X j ∨ j = g) ∨ Y j) w9 w5 ∧ (lp < cb ∧ sb < cb ∧ w9.heap.size ≤ cb)) (G := ?G3) (fun key => ?_) ?_
      rotate_left
      · refine wpAnyH_ready (rs := [8, 9]) (by kernel_rfl) (by simp) ?_
        refine AllReadyH.cons rfl (fun K hK => ?_) ?_
        · go_simp
          refine (own_read _ mp (M.gone cc ll) w2 (sr : Int) (i : Int) HO2.out (by rw [gone_len]; omega)).mono ?_
          rintro e w3 ⟨rfl, ho, hk⟩
          rw [gone_read (by omega) (by omega)] at ho
          rw [gone_cell (by omega) (by omega), HCELL.out]
          have hB3 := hk.box HB2.out (.inl (.inl (.inl hX1)))
          have hs3 := hk.box HS2.out (.inr rfl)
          have hK3 := HK2.out.trans (hk.mono (fun i hi => .inl hi))
          refine hK.out _ _ ⟨hB3, hs3⟩ (fun hHeld => ?_)
          clear hK K hk
          simp only [List.setIfInBounds_toArray, List.set_cons_zero, List.set_cons_succ]
          refine one_ready 9 rfl (by kernel_rfl) (fun K hK => ?_)
          go_simp
          obtain ⟨cb, hcb⟩ : ∃ c, w3.heap.size = c := ⟨_, rfl⟩
          obtain ⟨w4, hw4⟩ : ∃ x, w3.alloc (.cells (CA fun _ => 0) 103) = x := ⟨_, rfl⟩
          have hO4 : Own w4 (plus1 (plus1 (fun j => (X j ∨ j = g) ∨ Y j) sb) cb) mp (M.gone cc (ll ++ [(sr, i, false)])) := by rw [← hw4, ← hcb]; exact ho.one _
          have hB4 : Box w4 lp 80 (LvA mp f N S T ov mb) := by rw [← hw4]; exact hB3.alloc _
          have hs4 : Box w4 sb 92 #[.int .i64 (sr : Int), .int .i64 (i : Int)] := by rw [← hw4]; exact hs3.alloc _
          have hC4 : Var w4 cb (fun _ => 0) := by rw [← hw4, ← hcb]; exact Var.new w3 _ _
          have hK4 : Kept (fun j => (X j ∨ j = g) ∨ Y j) w9 w4 := by rw [← hw4]; exact hK3.alloc _
          have hcn : lp < cb ∧ sb < cb ∧ w9.heap.size ≤ cb := ⟨by rw [← hcb]; exact hB3.lt, by rw [← hcb]; exact hs3.lt, by rw [← hcb]; exact hK3.size⟩
          refine hK.out _ _ ⟨hB3.alloc _, hs3.alloc _⟩ (fun hHeld => ?_)
          change wpAnyH _ _ _ _ _ _ _ _ (w3.alloc (.cells (CA fun _ => 0) 103))
          rw [hw4]
          simp only [hcb]
          clear hK K hB3 hs3 hK3 ho hw4
          simp only [List.setIfInBounds_toArray, List.set_cons_zero, List.set_cons_succ]
          refine one_ready 10 (o := ⟨none, _, _, _, _, _⟩) rfl (by kernel_rfl) (fun K hK => ?_)
          refine step_store_cell rfl (.tmp 6) (.tmp 26) rfl cb 0 rfl (C i) rfl hC4.there ?_
          have hoc : Only (just cb) w4 (w4.setCells cb 0 (CA (C i)).toList) := only_setCells _ 0 _ (Only.refl _ _) (.inl (just_self cb))
          have hO5 := hO4.setCells cb (CA (C i)).toList (.inr rfl)
          have hB5 := hB4.only hoc (just_ne (by omega))
          have hs5 := hs4.only hoc (just_ne (by omega))
          have hC5 := hC4.set (C i)
          have hK5 := hK4.setCells cb (CA (C i)).toList hcn.2.2
          refine hK.out _ _ ⟨hB5, hs5⟩ (fun hHeld => ?_)
          clear hK K hoc hO4 hB4 hs4 hC4 hK4
          simp only [List.setIfInBounds_toArray, List.set_cons_zero, List.set_cons_succ]
          generalize w4.setCells cb 0 (CA (C i)).toList = w5 at hO5 hB5 hs5 hC5 hK5 ⊢
          exact key w5 cb ⟨hO5, hB5, hs5, hC5, hK5, hcn⟩
        · refine AllReadyH.cons rfl (fun K hK => ?_) AllReadyH.nil
          go_simp
          obtain ⟨cb, hcb⟩ : ∃ c, w2.heap.size = c := ⟨_, rfl⟩
          obtain ⟨w3, hw3⟩ : ∃ x, w2.alloc (.cells (CA fun _ => 0) 103) = x := ⟨_, rfl⟩
          have hO3 : Own w3 (plus1 (plus1 (fun j => (X j ∨ j = g) ∨ Y j) sb) cb) mp (M.gone cc ll) := by rw [← hw3, ← hcb]; exact HO2.out.one _
          have hB3 : Box w3 lp 80 (LvA mp f N S T ov mb) := by rw [← hw3]; exact HB2.out.alloc _
          have hs3 : Box w3 sb 92 #[.int .i64 (sr : Int), .int .i64 (i : Int)] := by rw [← hw3]; exact HS2.out.alloc _
          have hC3 : Var w3 cb (fun _ => 0) := by rw [← hw3, ← hcb]; exact Var.new w2 _ _
          have hK3 : Kept (fun j => (X j ∨ j = g) ∨ Y j) w9 w3 := by rw [← hw3]; exact HK2.out.alloc _
          have hcn : lp < cb ∧ sb < cb ∧ w9.heap.size ≤ cb := ⟨by rw [← hcb]; exact HB2.out.lt, by rw [← hcb]; exact HS2.out.lt, by rw [← hcb]; exact HK2.out.size⟩
          refine hK.out _ _ ⟨HB2.out.alloc _, HS2.out.alloc _⟩ (fun hHeld => ?_)
          change wpAnyH _ _ _ _ _ _ _ _ (w2.alloc (.cells (CA fun _ => 0) 103))
          rw [hw3]
          simp only [hcb]
          clear hK K hw3
          simp only [List.setIfInBounds_toArray, List.set_cons_zero, List.set_cons_succ]
          refine one_ready 8 rfl (by kernel_rfl) (fun K hK => ?_)
          go_simp
          refine (own_read _ mp (M.gone cc ll) w3 (sr : Int) (i : Int) hO3 (by rw [gone_len]; omega)).mono ?_
          rintro e w4 ⟨rfl, ho, hk⟩
          rw [gone_read (by omega) (by omega)] at ho
          rw [gone_cell (by omega) (by omega), HCELL.out]
          have hO4 := ho
          have hB4 := hk.box hB3 (.inl (.inl (.inl (.inl hX1))))
          have hs4 := hk.box hs3 (.inl (.inr rfl))
          have hC4 := hC3.kept hk (.inr rfl)
          have hK4 := hK3.trans (hk.mono (fun i hi => .inl (.inl hi)))
          refine hK.out _ _ ⟨hB4, hs4⟩ (fun hHeld => ?_)
          clear hK K hk hB3 hs3 hC3 hK3 hO3 ho
          simp only [List.setIfInBounds_toArray, List.set_cons_zero, List.set_cons_succ]
          refine one_ready 10 (o := ⟨none, _, _, _, _, _⟩) rfl (by kernel_rfl) (fun K hK => ?_)
          refine step_store_cell rfl (.tmp 6) (.tmp 26) rfl cb 0 rfl (C i) rfl hC4.there ?_
          have hoc : Only (just cb) w4 (w4.setCells cb 0 (CA (C i)).toList) := only_setCells _ 0 _ (Only.refl _ _) (.inl (just_self cb))
          have hO5 := hO4.setCells cb (CA (C i)).toList (.inr rfl)
          have hB5 := hB4.only hoc (just_ne (by omega))
          have hs5 := hs4.only hoc (just_ne (by omega))
          have hC5 := hC4.set (C i)
          have hK5 := hK4.setCells cb (CA (C i)).toList hcn.2.2
          refine hK.out _ _ ⟨hB5, hs5⟩ (fun hHeld => ?_)
          clear hK K hoc hO4 hB4 hs4 hC4 hK4
          simp only [List.setIfInBounds_toArray, List.set_cons_zero, List.set_cons_succ]
          generalize w4.setCells cb 0 (CA (C i)).toList = w5 at hO5 hB5 hs5 hC5 hK5 ⊢
          exact key w5 cb ⟨hO5, hB5, hs5, hC5, hK5, hcn⟩
      intro w5 cb hkey
      obtain ⟨hO5, hB5, hs5, hC5, hK5, hcn⟩ := hkey
      refine wpAnyH_done (by kernel_rfl) ?_ _
      have HO5 := Lib.hid hO5
      have HB5 := Lib.hid hB5
      have HS5 := Lib.hid hs5
      have HK5 := Lib.hid hK5
      have HC5 := Lib.hid hC5
      clear hO5 hB5 hs5 hK5 hC5
      go_upto_region 4 with fail
      refine held_s (S := fun w' => Box w' lp 80 (LvA mp f N S T ov mb) ∧ Box w' sb 92 #[.int .i64 (sr : Int), .int .i64 (i : Int)] ∧ Var w' cb (C i)) 13 rfl (by kernel_rfl) ⟨HB5.out.drewN 1, HS5.out.drewN 1, HC5.out.drew⟩ (fun hHeld => ?_)
      simp only [Array.replicate_succ, Array.replicate_zero, List.push_toArray, List.nil_append, List.cons_append]
      have hO6 : Own w5.drew (plus1 (plus1 (fun j => (X j ∨ j = g) ∨ Y j) sb) cb) mp (M.gone cc (ll ++ [(sr, i, false)])) := HO5.out.drewN 1
      have hB6 : Box w5.drew lp 80 (LvA mp f N S T ov mb) := HB5.out.drewN 1
      have hs6 : Box w5.drew sb 92 #[.int .i64 (sr : Int), .int .i64 (i : Int)] := HS5.out.drewN 1
      have hC6 : Var w5.drew cb (C i) := HC5.out.drew
      have hK6 : Kept (fun j => (X j ∨ j = g) ∨ Y j) w9 w5.drew := HK5.out.drewN 1
      have hIv := HCl.out.stay i Y w9 w5.drew HInv.out (hK6.mono (fun j hj => by
        rcases hj with h | h
        · exact .inl (.inl h)
        · exact .inr h))
      have hsz6 : w9.heap.size ≤ w5.drew.heap.size := hK6.size
      have hX6 : ∀ j, X j → j < w5.drew.heap.size := by
        obtain ⟨F, hm, hF, hlt⟩ := hO6
        exact fun j hj => hlt j (.inl (.inl (.inl (.inl hj))))
      have hYlt : ∀ j, Y j → j < sb := by
        obtain ⟨F, hm, hF, hlt⟩ := HOwn.out
        exact fun j hj => by have := hlt j (.inr hj); omega
      clear HO5 HB5 HS5 HK5 HC5
      generalize w5.drew = w6 at *
      refine wpAnyH_take (i := 0) (oi := ⟨some 27, _, _, _, _, _⟩) (v := (.pointer (some ⟨lp, 0, none⟩))) rfl (by kernel_rfl) (by kernel_rfl) (by kernel_rfl) (fun _ _ _ h => h) (Or.inl ⟨by rfl, fun w' hw => by go_simp⟩) hHeld ?_
      try simp only [Act.put, List.setIfInBounds_toArray, List.set_cons_zero, List.set_cons_succ]
      refine wpAnyH_take (i := 1) (oi := ⟨some 28, _, _, _, _, _⟩) (v := (.pointer (some ⟨lp, 0, none⟩))) rfl (by kernel_rfl) (by kernel_rfl) (by kernel_rfl) (fun _ _ _ h => h) (Or.inl ⟨by rfl, fun w' hw => by go_simp⟩) hHeld ?_
      try simp only [Act.put, List.setIfInBounds_toArray, List.set_cons_zero, List.set_cons_succ]
      refine wpAnyH_take (i := 2) (oi := ⟨some 29, _, _, _, _, _⟩) (v := (.pointer (some ⟨lp, 0, none⟩))) rfl (by kernel_rfl) (by kernel_rfl) (by kernel_rfl) (fun _ _ _ h => h) (Or.inl ⟨by rfl, fun w' hw => by go_simp⟩) hHeld ?_
      try simp only [Act.put, List.setIfInBounds_toArray, List.set_cons_zero, List.set_cons_succ]
      refine wpAnyH_take (i := 3) (oi := ⟨some 30, _, _, _, _, _⟩) (v := (.pointer (some ⟨mp, 0, none⟩))) rfl (by kernel_rfl) (by kernel_rfl) (by kernel_rfl) (fun _ _ _ h => h) (Or.inl ⟨by rfl, fun w' hw => by (have k0 := lv0 hw.1; have k1 := lv1 hw.1; have k2 := lv2 hw.1; have k3 := lv3 hw.1; have k4 := lv4 hw.1; have s0 := hw.2.1.cell 0; have s1 := hw.2.1.cell 1; go_simp)⟩) hHeld ?_
      try simp only [Act.put, List.setIfInBounds_toArray, List.set_cons_zero, List.set_cons_succ]
      refine wpAnyH_take (i := 4) (oi := ⟨some 31, _, _, _, _, _⟩) (v := (.pointer (some ⟨sb, 0, none⟩))) rfl (by kernel_rfl) (by kernel_rfl) (by kernel_rfl) (fun _ _ _ h => h) (Or.inl ⟨by rfl, fun w' hw => by go_simp⟩) hHeld ?_
      try simp only [Act.put, List.setIfInBounds_toArray, List.set_cons_zero, List.set_cons_succ]
      refine wpAnyH_take (i := 5) (oi := ⟨some 32, _, _, _, _, _⟩) (v := (.int .i64 (sr : Int))) rfl (by kernel_rfl) (by kernel_rfl) (by kernel_rfl) (fun _ _ _ h => h) (Or.inl ⟨by rfl, fun w' hw => by (have k0 := lv0 hw.1; have k1 := lv1 hw.1; have k2 := lv2 hw.1; have k3 := lv3 hw.1; have k4 := lv4 hw.1; have s0 := hw.2.1.cell 0; have s1 := hw.2.1.cell 1; go_simp)⟩) hHeld ?_
      try simp only [Act.put, List.setIfInBounds_toArray, List.set_cons_zero, List.set_cons_succ]
      refine wpAnyH_take (i := 6) (oi := ⟨some 33, _, _, _, _, _⟩) (v := (.pointer (some ⟨sb, 1, none⟩))) rfl (by kernel_rfl) (by kernel_rfl) (by kernel_rfl) (fun _ _ _ h => h) (Or.inl ⟨by rfl, fun w' hw => by go_simp⟩) hHeld ?_
      try simp only [Act.put, List.setIfInBounds_toArray, List.set_cons_zero, List.set_cons_succ]
      refine wpAnyH_take (i := 7) (oi := ⟨some 34, _, _, _, _, _⟩) (v := (.int .i64 (i : Int))) rfl (by kernel_rfl) (by kernel_rfl) (by kernel_rfl) (fun _ _ _ h => h) (Or.inl ⟨by rfl, fun w' hw => by (have k0 := lv0 hw.1; have k1 := lv1 hw.1; have k2 := lv2 hw.1; have k3 := lv3 hw.1; have k4 := lv4 hw.1; have s0 := hw.2.1.cell 0; have s1 := hw.2.1.cell 1; go_simp)⟩) hHeld ?_
      try simp only [Act.put, List.setIfInBounds_toArray, List.set_cons_zero, List.set_cons_succ]
      refine wpAnyH_take (i := 8) (oi := ⟨some 35, _, _, _, _, _⟩) (v := (.func (.func k) #[] caps)) rfl (by kernel_rfl) (by kernel_rfl) (by kernel_rfl) (fun _ _ _ h => h) (Or.inl ⟨by rfl, fun w' hw => by go_simp⟩) hHeld ?_
      try simp only [Act.put, List.setIfInBounds_toArray, List.set_cons_zero, List.set_cons_succ]
      refine wpAnyH_take (i := 9) (oi := ⟨some 36, _, _, _, _, _⟩) (v := (.int .i64 (i : Int))) rfl (by kernel_rfl) (by kernel_rfl) (by kernel_rfl) (fun _ _ _ h => h) (Or.inl ⟨by rfl, fun w' hw => by go_simp⟩) hHeld ?_
      try simp only [Act.put, List.setIfInBounds_toArray, List.set_cons_zero, List.set_cons_succ]
      refine take_row 10 (oi := ⟨some 37, _, _, _, _, _⟩) (CA (C i)).toList rfl (by kernel_rfl) (by kernel_rfl) (by kernel_rfl) (fun _ _ _ h => h) (by rfl) _ _ rfl _ _ rfl _ (fun w' hw => hw.2.2.rng) Tryz.underlying103 rfl (infoCellL (C i)) hHeld ?_
      try simp only [Act.put, List.setIfInBounds_toArray, List.set_cons_zero, List.set_cons_succ]
      refine one_ready 11 rfl (by kernel_rfl) (fun K hK => ?_)
      have hkk := HK.out (#[.int .i64 (i : Int), .agg (CA (C i))] ++ caps) w6
      go_simp
      clear hkk
      refine (HCl.out.call i Y w6 hin hIv hX6 (fun j hj => HDis.out j (.inl hj))).mono ?_
      rintro e w7 ⟨rfl, ho7, Y', hInv', hY'⟩
      have hsz7 := ho7.size
      have hYc : ∀ j, Y j → j < sb := hYlt
      have hO7 := hO6.grow_only ho7 (fun j hj => .inl (.inl (.inr hj)))
      have hB7 := hB6.only ho7 (fun hy => HDis.out lp (.inl hX1) hy)
      have hs7 := hs6.only ho7 (fun hy => by have := hYc _ hy; omega)
      have hC7 := hC6.only ho7 (fun hy => by have := hYc _ hy; omega)
      have hK7 : Kept (fun j => X j ∨ j = g) w9 w7 := (Kept.mono hK6 (fun j hj => .inl hj)).trans (Only.mono ho7 (fun j _ hy hj => HDis.out j hj hy))
      have hO7 := hO7.weak (Y := fun j => (((X j ∨ j = g) ∨ Y' j) ∨ j = sb) ∨ j = cb) (fun j hj => by
        rcases hj with ((hj | hj) | hj) | hj
        · exact .inl (.inl (.inl (.inl hj)))
        · rcases hY' j hj with h | h
          · exact .inl (.inl (.inl (.inr h)))
          · exact .inr h
        · exact .inl (.inl (.inr hj))
        · exact .inl (.inr hj))
      refine hK.out _ _ ⟨hB7, hs7, hC7⟩ (fun hHeld => ?_)
      clear hK K ho7 hO6 hB6 hs6 hC6 hK6 hIv
      simp only [List.setIfInBounds_toArray, List.set_cons_zero, List.set_cons_succ]
      refine one_ready 12 rfl (by kernel_rfl) (fun K hK => ?_)
      go_simp
      refine (own_write _ mp (M.gone cc (ll ++ [(sr, i, false)])) w7 (sr : Int) (i : Int) (Z i) hO7 (by rw [gone_len, List.length_append]; simp only [List.length_cons, List.length_nil]; omega)).mono ?_
      rintro e w8 ⟨rfl, ho, hk⟩
      rw [gone_write (by omega) (by omega), HSUC.out, ← HEV.out, ← HSr.out] at ho
      have hInv8 := HCl.out.stay (i + 1) Y' w7 w8 hInv' (hk.mono (fun j hj => by
        rcases hj with h | h
        · exact .inl (.inl (.inl (.inl h)))
        · exact .inl (.inl (.inr h))))
      have hK8 := hK7.trans (hk.mono (fun j hj => .inl (.inl (.inl hj))))
      have hB8 := hk.box hB7 (.inl (.inl (.inl (.inl hX1))))
      have hs8 := hk.box hs7 (.inl (.inr rfl))
      have hC8 := hC7.kept hk (.inr rfl)
      have HE : Hid (EaAt w1 X g mp f M Z Inv (i + 1) w8) := Lib.hid ⟨Y', hInv8, ho.weak (fun j hj => .inl (.inl hj)), HKp.out.trans hK8, fun j hj hy => by
        rcases hY' j hy with h | h
        · exact HDis.out j hj h
        · have h2 : j < w9.heap.size := by
            obtain ⟨F, hm, hF, hlt⟩ := HOwn.out
            exact hlt j (.inl hj)
          have := hsz6
          omega⟩
      refine hK.out _ _ ⟨hB8, hs8, hC8⟩ (fun hHeld => ?_)
      clear hK K hk ho hO7 hB7 hs7 hC7 hK7 hInv' hInv8 hK8 hB8 hs8 hC8
      simp only [List.setIfInBounds_toArray, List.set_cons_zero, List.set_cons_succ]
      refine wpAnyH_done (by kernel_rfl) ?_ _
      go_wp2_with fail
      go_roundw
      case rel => exact ⟨i + 1, by go_num, by omega, HE.out⟩
      case measure => simp [intOf]; omega
    · obtain rfl : i = Q := by omega
      have HE : Hid (∃ Y, Inv i Y wr ∧ Own wr (fun j => X j ∨ Y j) mp (M.gone (cT (f + 2) Z M.c i) (evE (f + 2) i)) ∧ Kept X w wr ∧ ∀ j, X j → ¬ Y j) := Lib.hid (by
        obtain ⟨Y, hInv, hOwn, hKp, hdis⟩ := hS
        exact ⟨Y, hInv, hOwn.weak (fun j hj => hj.elim (fun h => .inl (.inl h)) .inr), HK1.out.trans (hKp.mono (fun j hj => .inl hj)), fun j hj => hdis j (.inl hj)⟩)
      clear hS
      go_wp2_with fail
      go_end0
      exact ⟨rfl, HE.out⟩
end Go.Proofs.YtmageeohnfomnaaGreat


namespace Go.Proofs.YtmageeohnfomnaaGreat
set_option maxRecDepth 100000
open Go.RowKit Go.ChangeShapes Go.WideShapes Go.ChangeAt

structure PlIn (W : World) (bg gg bp gp Q n : Nat) (lost : Nat → Bool) (pl : Nat → Nat) : Prop where
  xg : Box W bg 83 #[.slice (some ⟨gg, 0, none⟩) Q Q]
  xp : Box W bp 36 #[.slice (some ⟨gp, 0, none⟩) n n]
  gone : ∀ j, j < Q → W.cell? ⟨gg, j, none⟩ = some (.int .u64 (msk (lost j)))
  plc : ∀ j, j < n → W.cell? ⟨gp, j, none⟩ = some (.int .i64 (pl j : Int))
theorem PlIn.kept {W W' : World} {bg gg bp gp Q n : Nat} {lost : Nat → Bool} {pl : Nat → Nat} {X : Nat → Prop} (h : PlIn W bg gg bp gp Q n lost pl) (hk : Kept X W W') (hx : X bg ∧ X gg ∧ X bp ∧ X gp) : PlIn W' bg gg bp gp Q n lost pl :=
  ⟨hk.box h.xg hx.1, hk.box h.xp hx.2.2.1, fun j hj => hk.cell (h.gone j hj) hx.2.1, fun j hj => hk.cell (h.plc j hj) hx.2.2.2⟩
theorem PlIn.nob {W W' : World} {bg gg bp gp Q n : Nat} {lost : Nat → Bool} {pl : Nat → Nat} (h : PlIn W bg gg bp gp Q n lost pl) (ho : Only nobody W W') : PlIn W' bg gg bp gp Q n lost pl := h.kept (X := fun _ => True) (Kept.of_none ho) ⟨trivial, trivial, trivial, trivial⟩
theorem PlIn.far {W W' : World} {bg gg bp gp Q n c : Nat} {lost : Nat → Bool} {pl : Nat → Nat} (h : PlIn W bg gg bp gp Q n lost pl) (ho : Only (just c) W W') (h1 : bg < c) (h2 : gg < c) (h3 : bp < c) (h4 : ∀ j, j < n → gp < c) : PlIn W' bg gg bp gp Q n lost pl :=
  ⟨h.xg.only ho (just_ne (by omega)), h.xp.only ho (just_ne (by omega)),
    fun j hj => (World.cell?_of_block (w := W) (ho.block gg (World.block_lt_of_cell? W ⟨gg, j, none⟩ (h.gone j hj)) (just_ne (by omega)))).trans (h.gone j hj),
    fun j hj => (World.cell?_of_block (w := W) (ho.block gp (World.block_lt_of_cell? W ⟨gp, j, none⟩ (h.plc j hj)) (just_ne (by have := h4 j hj; omega)))).trans (h.plc j hj)⟩
def plZ (n i : Nat) (lost : Nat → Bool) (pl : Nat → Nat) (g : Cl) : Cl := setw (if lost i = true then nul else g) 11 (if i < n then ((pl i : Nat) : Int) else (i : Int))
set_option maxRecDepth 100000 in
set_option maxHeartbeats 4000000 in
theorem plc_clo (i Q n bg gg bp gp : Nat) (lost : Nat → Bool) (pl : Nat → Nat) (g : Nat → Int) (w : World) (hi : i < Q) (hQ : Q ≤ 256) (hpl : ∀ j, j < n → pl j ≤ 1000) (hg : Wd g) (hP : PlIn w bg gg bp gp Q n lost pl) :
    Calls Tryz.prog 89 #[.int .i64 (i : Int), .agg (CA g), .pointer (some ⟨bg, 0, none⟩), .pointer (some ⟨bp, 0, none⟩)] w fun e w' => e = .returned (.agg (CA (plZ n i lost pl g))) ∧ Only nobody w w' := by
  obtain ⟨cb, hcb⟩ : ∃ b, w.heap.size = b := ⟨_, rfl⟩
  obtain ⟨w2, hw2⟩ : ∃ x, (w.alloc (.cells (CA g) 103)).alloc (.cells #[.int .u64 0, .int .u64 0, .int .u64 0, .int .u64 0, .int .u64 0, .int .u64 0, .int .u64 0, .int .u64 0, .int .u64 0, .int .u64 0, .int .u64 0, .int .u64 0] 103) = x := ⟨_, rfl⟩
  have hV2 : Var w2 cb g := by rw [← hw2, ← hcb]; exact (Var.new w g 103).alloc _
  have hR2 : Var w2 (cb + 1) (fun _ => 0) := by
    rw [← hw2, ← hcb]
    have := Var.new (w.alloc (.cells (CA g) 103)) (fun _ => 0) 103
    have e : (w.alloc (.cells (CA g) 103)).heap.size = w.heap.size + 1 := by simp
    rw [e] at this
    exact this
  have ho2 : Only nobody w w2 := by rw [← hw2]; exact ((Only.refl nobody w).alloc _).alloc _
  have hP2 := hP.nob ho2
  have hlo : bg < cb ∧ gg < cb ∧ bp < cb := by
    rw [← hcb]
    exact ⟨hP.xg.lt, World.block_lt_of_cell? w ⟨gg, i, none⟩ (hP.gone i hi), hP.xp.lt⟩
  have hgp : ∀ j, j < n → gp < cb := fun j hj => by rw [← hcb]; exact World.block_lt_of_cell? w ⟨gp, j, none⟩ (hP.plc j hj)
  have HV2 := Lib.hid hV2
  have HR2 := Lib.hid hR2
  have HO2 := Lib.hid ho2
  have HP2 := Lib.hid hP2
  have HW2 := Lib.hid hw2
  have HCb := Lib.hid hcb
  have HGp := Lib.hid hgp
  have HPl := Lib.hid hpl
  have HG := Lib.hid hg
  clear hV2 hR2 ho2 hP2 hw2 hcb hP hgp hpl hg
  go_enter Tryz.func89, Tryz.ntmps89
  go_upto_region 1 with fail
  rw [HCb.out]
  simp only [HW2.out]
  refine held_s (S := fun w' => PlIn w' bg gg bp gp Q n lost pl) 8 rfl (by kernel_rfl) (HP2.out.nob ((Only.refl nobody w2).drewN 1)) (fun hHeld => ?_)
  simp only [Array.replicate_succ, Array.replicate_zero, List.push_toArray, List.nil_append, List.cons_append]
  have hV3 : Var w2.drew cb g := HV2.out.drew
  have hR3 : Var w2.drew (cb + 1) (fun _ => 0) := HR2.out.drew
  have hP3 : PlIn w2.drew bg gg bp gp Q n lost pl := HP2.out.nob ((Only.refl nobody w2).drewN 1)
  have hO3 : Only nobody w w2.drew := HO2.out.drew
  obtain ⟨lb, hlb⟩ : ∃ b, lost i = b := ⟨_, rfl⟩
  have HLb := Lib.hid hlb
  clear HV2 HR2 HP2 HO2 hlb
  generalize w2.drew = w3 at *
  refine wpAnyH_take (i := 0) (oi := ⟨some 7, _, _, _, _, _⟩) (v := (.slice (some ⟨gg, 0, none⟩) Q Q)) rfl (by kernel_rfl) (by kernel_rfl) (by kernel_rfl) (fun _ _ _ h => h) (Or.inl ⟨by rfl, fun w' hw => by (have k0 := hw.xg.cell 0; go_simp)⟩) hHeld ?_
  try simp only [Act.put, List.setIfInBounds_toArray, List.set_cons_zero, List.set_cons_succ]
  refine wpAnyH_take (i := 1) (oi := ⟨some 8, _, _, _, _, _⟩) (v := (.int .i64 (i : Int))) rfl (by kernel_rfl) (by kernel_rfl) (by kernel_rfl) (fun _ _ _ h => h) (Or.inl ⟨by rfl, fun w' hw => by go_simp⟩) hHeld ?_
  try simp only [Act.put, List.setIfInBounds_toArray, List.set_cons_zero, List.set_cons_succ]
  refine wpAnyH_take (i := 2) (oi := ⟨some 9, _, _, _, _, _⟩) (v := (.pointer (some ⟨gg, i, none⟩))) rfl (by kernel_rfl) (by kernel_rfl) (by kernel_rfl) (fun _ _ _ h => h) (Or.inl ⟨by rfl, fun w' hw => by go_simp⟩) hHeld ?_
  try simp only [Act.put, List.setIfInBounds_toArray, List.set_cons_zero, List.set_cons_succ]
  refine wpAnyH_take (i := 3) (oi := ⟨some 10, _, _, _, _, _⟩) (v := (.int .u64 (msk lb))) rfl (by kernel_rfl) (by kernel_rfl) (by kernel_rfl) (fun _ _ _ h => h) (Or.inl ⟨by rfl, fun w' hw => by (have k0 := hw.gone i hi; rw [HLb.out] at k0; go_simp)⟩) hHeld ?_
  try simp only [Act.put, List.setIfInBounds_toArray, List.set_cons_zero, List.set_cons_succ]
  refine wpAnyH_take (i := 4) (oi := ⟨some 11, _, _, _, _, _⟩) (v := (.agg (CA nul))) rfl (by kernel_rfl) (by kernel_rfl) (by kernel_rfl) (fun _ _ _ h => h) (Or.inl ⟨by rfl, fun w' hw => by (go_simp; rfl)⟩) hHeld ?_
  try simp only [Act.put, List.setIfInBounds_toArray, List.set_cons_zero, List.set_cons_succ]
  refine one_ready 5 (o := ⟨some 12, .load 103 (.tmp 5), _, _, _, _⟩) rfl (by kernel_rfl) (fun K hK => ?_)
  refine step_load_cell rfl (.tmp 5) rfl cb 0 rfl g hV3.rng ?_
  refine hK.out _ _ hHeld (fun hHeld => ?_)
  clear hK K
  simp only [List.setIfInBounds_toArray, List.set_cons_zero, List.set_cons_succ]
  refine one_ready 6 rfl (by kernel_rfl) (fun K hK => ?_)
  go_simp
  obtain ⟨q, hq⟩ : ∃ q, (if lb = true then nul else g) = q := ⟨_, rfl⟩
  have hpk := fun W => pickCell_mask lb nul g W wd_zero HG.out
  simp only [hq] at hpk
  have HQ := Lib.hid hq
  refine (hpk _).mono ?_
  rintro e w4 ⟨rfl, hx⟩
  have ho4 := none_of_ext hx
  have hV4 := hV3.nob ho4
  have hR4 := hR3.nob ho4
  have hP4 := hP3.nob ho4
  have hO4 := hO3.trans ho4
  refine hK.out _ _ hP4 (fun hHeld => ?_)
  clear hK K hx ho4 hpk hq hV3 hR3 hP3 hO3
  simp only [List.setIfInBounds_toArray, List.set_cons_zero, List.set_cons_succ]
  refine one_ready 7 (o := ⟨none, _, _, _, _, _⟩) rfl (by kernel_rfl) (fun K hK => ?_)
  refine step_store_cell rfl (.tmp 5) (.tmp 13) rfl cb 0 rfl q rfl hV4.there ?_
  have hoc : Only (just cb) w4 (w4.setCells cb 0 (CA q).toList) := only_setCells _ 0 _ (Only.refl _ _) (.inl (just_self cb))
  have hV5 := hV4.set q
  have hR5 := hR4.only hoc (just_ne (by omega))
  have hP5 := hP4.far hoc hlo.1 hlo.2.1 hlo.2.2 HGp.out
  have hO5 : Only nobody w (w4.setCells cb 0 (CA q).toList) := only_setCells _ 0 _ hO4 (.inr (Nat.le_of_eq HCb.out))
  refine hK.out _ _ hP5 (fun hHeld => ?_)
  clear hK K hoc hV4 hR4 hP4 hO4
  simp only [List.setIfInBounds_toArray, List.set_cons_zero, List.set_cons_succ]
  generalize w4.setCells cb 0 (CA q).toList = w5 at *
  refine wpAnyH_done (by kernel_rfl) ?_ _
  have hV6 := hV5.put 11 (i : Int)
  have hwi : IntKind.u64.wrap (i : Int) = (i : Int) := by rw [IntKind.wrap_u64]; omega
  have hc11 := hV5.cell (κ := 11) (by decide)
  have hf11 := hV5.free 11 (by decide)
  have hO6 : Only nobody w (w5.setCell ⟨cb, 11, none⟩ (.int .u64 (i : Int))) := hO5.setCell (p := ⟨cb, 11, none⟩) (.inr (by show w.heap.size ≤ cb; exact Nat.le_of_eq HCb.out)) _
  have ho56 : Only (just cb) w5 (w5.setCell ⟨cb, 11, none⟩ (.int .u64 (i : Int))) := (Only.refl _ w5).setCell (p := ⟨cb, 11, none⟩) (.inl (just_self _)) _
  have hR6 := hR5.only ho56 (just_ne (by omega))
  have hP6 := hP5.far ho56 hlo.1 hlo.2.1 hlo.2.2 HGp.out
  have HV6 := Lib.hid hV6
  have HO6 := Lib.hid hO6
  have HR6 := Lib.hid hR6
  have HXp := Lib.hid hP6.xp
  have HPp := Lib.hid hP6.plc
  clear hV5 hO5 hR5 hP5 hV6 hO6 hR6 hP6 ho56
  go_upto_region 3 with fail
  clear hc11 hf11
  generalize w5.setCell ⟨cb, 11, none⟩ (.int .u64 (i : Int)) = w6 at *
  have x0 := HXp.out.cell 0
  by_cases hin : i < n
  · have hz : plZ n i lost pl g = setw (setw q 11 (i : Int)) 11 ((pl i : Nat) : Int) := by
      unfold plZ
      rw [if_pos hin, setw_two, HLb.out, HQ.out]
    have HZ := Lib.hid hz
    have x1 := HPp.out i hin
    have hpb := HPl.out i hin
    have hwp : IntKind.u64.wrap ((pl i : Nat) : Int) = ((pl i : Nat) : Int) := by rw [IntKind.wrap_u64]; omega
    have hc11 := HV6.out.cell (κ := 11) (by decide)
    have hf11 := HV6.out.free 11 (by decide)
    have HV7 := Lib.hid (HV6.out.put 11 ((pl i : Nat) : Int))
    have HO7 : Hid (Only nobody w (w6.setCell ⟨cb, 11, none⟩ (.int .u64 ((pl i : Nat) : Int)))) := Lib.hid (HO6.out.setCell (p := ⟨cb, 11, none⟩) (.inr (by show w.heap.size ≤ cb; exact Nat.le_of_eq HCb.out)) _)
    have ho7 : Only (just cb) w6 (w6.setCell ⟨cb, 11, none⟩ (.int .u64 ((pl i : Nat) : Int))) := (Only.refl _ w6).setCell (p := ⟨cb, 11, none⟩) (.inl (just_self _)) _
    have HR7 := Lib.hid (HR6.out.only ho7 (just_ne (by omega)))
    clear hz ho7 HV6 HO6 HR6 HXp HPp
    generalize pl i = p at *
    go_upto_region 5 with fail
    clear x0 x1 hc11 hf11
    generalize w6.setCell ⟨cb, 11, none⟩ (.int .u64 (p : Int)) = w7 at *
    have HE : Hid (Only nobody w (w7.setCells (cb + 1) 0 (CA (setw (setw q 11 (i : Int)) 11 (p : Int))).toList)) := Lib.hid (only_setCells _ 0 _ HO7.out (.inr (by have := HCb.out; omega)))
    go_wp2_with (first | with_reducible refine wpList_load_cell rfl (.tmp 5) rfl cb 0 rfl (setw (setw q 11 (i : Int)) 11 (p : Int)) HV7.out.rng ?_ | with_reducible refine wpList_store_cell rfl (.tmp 6) (.tmp 27) rfl (cb + 1) 0 rfl (setw (setw q 11 (i : Int)) 11 (p : Int)) rfl HR7.out.there ?_)
    exact bodyPost_ret (v := .agg (CA (setw (setw q 11 (i : Int)) 11 (p : Int)))) (results_one Tryz.results89 rfl (HR7.out.set _).load) rfl ⟨by rw [HZ.out], HE.out⟩
  · have hz : plZ n i lost pl g = setw q 11 (i : Int) := by
      unfold plZ
      rw [if_neg hin, HLb.out, HQ.out]
    have HZ := Lib.hid hz
    have HE : Hid (Only nobody w (w6.setCells (cb + 1) 0 (CA (setw q 11 (i : Int))).toList)) := Lib.hid (only_setCells _ 0 _ HO6.out (.inr (by have := HCb.out; omega)))
    clear hz
    go_wp2_with (first | with_reducible refine wpList_load_cell rfl (.tmp 5) rfl cb 0 rfl (setw q 11 (i : Int)) HV6.out.rng ?_ | with_reducible refine wpList_store_cell rfl (.tmp 6) (.tmp 27) rfl (cb + 1) 0 rfl (setw q 11 (i : Int)) rfl HR6.out.there ?_)
    exact bodyPost_ret (v := .agg (CA (setw q 11 (i : Int)))) (results_one Tryz.results89 rfl (HR6.out.set _).load) rfl ⟨by rw [HZ.out], HE.out⟩
end Go.Proofs.YtmageeohnfomnaaGreat


namespace Go.Proofs.YtmageeohnfomnaaGreat
set_option maxRecDepth 100000
open Go.RowKit Go.ChangeShapes Go.WideShapes Go.ChangeAt

theorem Its.less {w : World} {B : Nat} {a : Option Addr} {n m : Nat} {y : Nat → It} (h : Its w B a n y) (hm : m ≤ n) : Its w B a m y := fun h0 => by
  obtain ⟨b, off, e, hB, hc⟩ := h (by omega)
  exact ⟨b, off, e, hB, fun j hj => hc j (by omega)⟩
def plcM (M : MS) (f Q n S D T : Nat) (C : Nat → Cl) (y : Nat → It) (o : List Nat) : MS :=
  M.gone (cT (f + 2) (fun i => plZ n i (fun j => (lostO y S D T o).contains j) (fun j => outP (goes y S D T o) n j) (C i)) M.c Q) (evE (f + 2) Q)
theorem below_nob {B : Nat} {w w' : World} (h : Only nobody w w') (hB : B ≤ w.heap.size) : Below B w w' := Only.below h hB (fun i _ k => not_nobody i k)
theorem nums_ne {w : World} {pb b k : Nat} {t : TypeId} {A : Option Addr} {n c : Nat} {q : IntKind} {z : Int} (h : Box w pb t #[.slice A n c]) (hc : w.cell? ⟨b, k, none⟩ = some (.int q z)) : b ≠ pb := by
  rintro rfl
  rw [h.cell k] at hc
  cases k with
  | zero => cases hc
  | succ k => simp at hc
theorem LvA_over (mp f N S T : Nat) (ov : Bool) (mb : Option Nat) : (LvA mp f N S T ov mb).setIfInBounds 5 (.bool true) = LvA mp f N S T true mb := by simp [LvA]
def PlcPost (w : World) (X : Nat → Prop) (lp mp f N S T D Q n : Nat) (ov : Bool) (mb : Option Nat) (M : MS) (C : Nat → Cl) (y : Nat → It) (e : Ending) (w' : World) : Prop :=
  e = .returned (.tuple #[]) ∧ ∃ o, IsOrd y n o ∧ Own w' X mp (plcM M f Q n S D T C y o) ∧ Kept (fun j => X j ∧ j ≠ lp) w w' ∧ Box w' lp 80 (LvA mp f N S T (ov || !(lostO y S D T o).isEmpty) mb)
theorem place_clo (X : Nat → Prop) (bg gg bp gp Q n : Nat) (lost : Nat → Bool) (pl : Nat → Nat) (C : Nat → Cl) (hQ : Q ≤ 256) (hpl : ∀ j, j < n → pl j ≤ 1000) (hC : ∀ i, Wd (C i)) (hX : X bg ∧ X gg ∧ X bp ∧ X gp) :
    Clo X 89 #[.pointer (some ⟨bg, 0, none⟩), .pointer (some ⟨bp, 0, none⟩)] Q C (fun i => plZ n i lost pl (C i)) (fun _ Y W => (∀ j, ¬ Y j) ∧ PlIn W bg gg bp gp Q n lost pl) :=
  ⟨fun _ _ _ _ h hk => ⟨h.1, h.2.kept (X := X) (hk.mono fun _ hj => .inl hj) hX⟩, fun i Y W hi h _ _ =>
    (plc_clo i Q n bg gg bp gp lost pl (C i) W hi hQ hpl (hC i) h.2).mono fun _ _ ⟨he, ho⟩ => ⟨he, ho.mono (fun j _ hj => absurd hj (not_nobody j)), Y, ⟨h.1, h.2.nob ho⟩, fun _ hj => .inl hj⟩⟩
theorem infoPl : (Tryz.prog.info? 54).map (fun i => (i.zero, i.size, i.bytes)) = some (some (.int .u64 0), 1, 8) := by kernel_rfl
structure PlAt (w8 : World) (lp mp f N S T : Nat) (ov : Bool) (mb : Option Nat) (pb g n Q : Nat) (z : Nat → Nat) (A : Option Addr) (lo : List Nat) (gg : Nat) (k : Nat) (wr : World) : Prop where
  le : k ≤ lo.length
  box : Box wr lp 80 (LvA mp f N S T (ov || decide (0 < k)) mb)
  row : wr.rowIs gg 54 Q (fun j => .int .u64 (msk ((lo.take k).contains j)))
  xg : Box wr (gg + 1) 83 #[.slice (some ⟨gg, 0, none⟩) Q Q]
  xp : Box wr pb 36 #[.slice (some ⟨g, 0, none⟩) n n]
  ir : ∀ j, j < n → wr.cell? ⟨g, j, none⟩ = some (.int .i64 (z j : Int))
  nu : ∀ j, j < lo.length → ∃ b, ∃ ob, A = some ⟨b, ob, none⟩ ∧ b ≠ gg ∧ b ≠ lp ∧ wr.cell? ⟨b, ob + j, none⟩ = some (.int .i64 (lo.getD j 0 : Nat))
  only : Only (fun j => j = lp ∨ j = gg) w8 wr
  apart : lp ≠ gg ∧ pb ≠ gg ∧ pb ≠ lp ∧ g ≠ gg ∧ g ≠ lp ∧ lp ≠ gg + 1
theorem PlAt.start {w7 : World} {lp mp f N S T pb g n Q : Nat} {ov : Bool} {mb : Option Nat} {z : Nat → Nat} {A : Option Addr} {lo : List Nat} {B B' : Nat} (hB : Box w7 lp 80 (LvA mp f N S T ov mb)) (hp : Box w7 pb 36 #[.slice (some ⟨g, 0, none⟩) n n])
    (hir : Ir w7 B g n (fun i => (z i : Nat))) (hnu : ∀ j, j < lo.length → ∃ b, ∃ ob, A = some ⟨b, ob, none⟩ ∧ w7.cell? ⟨b, ob + j, none⟩ = some (.int .i64 (lo.getD j 0 : Nat)))
    (hnw : ∀ b off, A = some ⟨b, off, none⟩ → B' ≤ b) (hl : lp < B') (hg : B' ≤ g) :
    PlAt ((w7.alloc (.cells (madeCells #[.int .u64 0] Q) 54)).alloc (.cells #[.slice (some ⟨w7.heap.size, 0, none⟩) Q Q] 83)) lp mp f N S T ov mb pb g n Q z A lo w7.heap.size 0 ((w7.alloc (.cells (madeCells #[.int .u64 0] Q) 54)).alloc (.cells #[.slice (some ⟨w7.heap.size, 0, none⟩) Q Q] 83)) := by
  have e : (w7.alloc (.cells (madeCells #[.int .u64 0] Q) 54)).heap.size = w7.heap.size + 1 := by simp
  have hx := Box.new (w7.alloc (.cells (madeCells #[.int .u64 0] Q) 54)) 83 #[.slice (some ⟨w7.heap.size, 0, none⟩) Q Q]
  rw [e] at hx
  have ho : Only nobody w7 ((w7.alloc (.cells (madeCells #[.int .u64 0] Q) 54)).alloc (.cells #[.slice (some ⟨w7.heap.size, 0, none⟩) Q Q] 83)) := ((Only.refl _ w7).alloc _).alloc _
  refine ⟨Nat.zero_le _, by simpa using hB.only ho (not_nobody _), ((World.rowIs_made w7 (.int .u64 0) Q 54).alloc _).congr fun j _ => by simp [msk], hx, hp.only ho (not_nobody _),
    fun j hj => ((hir.below (below_nob ho (Nat.le_refl _)) (Nat.le_refl _)).cell j hj), fun j hj => ?_, Only.refl _ _, ?_⟩
  · obtain ⟨b, ob, hA, hc⟩ := hnu j hj
    have hlt := World.block_lt_of_cell? w7 ⟨b, ob + j, none⟩ hc
    have hnb := hnw b ob hA
    exact ⟨b, ob, hA, by dsimp at hlt; omega, by omega, (World.cell?_of_block (w := w7) (ho.block b hlt (not_nobody _))).trans hc⟩
  · have h1 := hB.lt
    have h2 := hp.lt
    have h3 := hir.lt
    have h4 := Box.ne hp hB (by decide)
    exact ⟨by omega, by omega, h4, by omega, by omega, by omega⟩
theorem PlAt.far {w8 wr : World} {lp mp f N S T pb g n Q gg k : Nat} {ov : Bool} {mb : Option Nat} {z : Nat → Nat} {A : Option Addr} {lo : List Nat} (h : PlAt w8 lp mp f N S T ov mb pb g n Q z A lo gg k wr) (hk : k < lo.length) :
    PlAt w8 lp mp f N S T ov mb pb g n Q z A lo gg (k + 1) ((wr.setCell ⟨gg, lo.getD k 0, none⟩ (.int .u64 18446744073709551615)).setCell ⟨lp, 5, none⟩ (.bool true)) := by
  have ho : Only (fun j => j = lp ∨ j = gg) wr ((wr.setCell ⟨gg, lo.getD k 0, none⟩ (.int .u64 18446744073709551615)).setCell ⟨lp, 5, none⟩ (.bool true)) :=
    ((Only.refl _ wr).setCell (p := ⟨gg, lo.getD k 0, none⟩) (.inl (.inr rfl)) _).setCell (p := ⟨lp, 5, none⟩) (.inl (.inl rfl)) _
  obtain ⟨a1, a2, a3, a4, a5, a6⟩ := h.apart
  refine ⟨hk, ?_, ((h.row.set _ _).setOther (fun e => a1 e.symm) _).congr fun j _ => ?_, h.xg.only ho (by omega), h.xp.only ho (by omega), fun j hj => (World.cell?_of_block (w := wr) (ho.block g (World.block_lt_of_cell? wr ⟨g, j, none⟩ (h.ir j hj)) (by omega))).trans (h.ir j hj), fun j hj => ?_, h.only.trans ho, h.apart⟩
  · have := (h.box.far (a := ⟨gg, lo.getD k 0, none⟩) a1 (.int .u64 18446744073709551615)).put 5 (.bool true)
    rw [LvA_over] at this
    simpa using this
  · have e : lo.take (k + 1) = lo.take k ++ [lo.getD k 0] := by
      rw [List.take_succ_eq_append_getElem hk, List.getD_eq_getElem?_getD, List.getElem?_eq_getElem hk]; rfl
    rw [e]
    show (if j = lo.getD k 0 then _ else _) = _
    by_cases hj : j = lo.getD k 0
    · have e3 : (lo.take k ++ [lo.getD k 0]).contains j = true := by rw [List.contains_iff_mem]; simp only [List.mem_append, List.mem_singleton]; exact .inr hj
      rw [if_pos hj, e3]; rfl
    · have e3 : (lo.take k ++ [lo.getD k 0]).contains j = (lo.take k).contains j := by
        rw [Bool.eq_iff_iff]
        simp only [List.contains_iff_mem, List.mem_append, List.mem_singleton]
        exact ⟨fun h => h.resolve_right hj, .inl⟩
      rw [if_neg hj, e3]
  · obtain ⟨b, ob, hA, h1, h2, hc⟩ := h.nu j hj
    exact ⟨b, ob, hA, h1, h2, (World.cell?_of_block (w := wr) (ho.block b (World.block_lt_of_cell? wr ⟨b, ob + j, none⟩ hc) (by omega))).trans hc⟩
theorem lost_lt {y : Nat → It} {n S D T k : Nat} {o : List Nat} (h : IsOrd y n o) (hk : k < (lostO y S D T o).length) : (lostO y S D T o).getD k 0 < n := by
  have e : (lostO y S D T o).getD k 0 = (lostO y S D T o)[k] := by rw [List.getD_eq_getElem?_getD, List.getElem?_eq_getElem hk]; rfl
  rw [e]
  exact ((lost_mem h _).1 (List.getElem_mem hk)).1.1
theorem lost_le {y : Nat → It} {n S D T : Nat} {o : List Nat} (h : IsOrd y n o) (hS : 0 < S) : (lostO y S D T o).length ≤ n := by
  have h1 := lost_few (D := D) (T := T) hS h
  have h2 := List.countP_le_length (p := fun i => decide (0 ≤ (y i).2)) (l := List.range n)
  rw [List.length_range] at h2
  omega
theorem outP_le {y : Nat → It} {n S D T j : Nat} {o : List Nat} (h : IsOrd y n o) (hS : 0 < S) (hn : (D + 1) * S + T < n) (hj : j < n) : outP (goes y S D T o) n j < n :=
  List.mem_range.1 ((goes_perm hS hn h).mem_iff.1 (List.mem_map.2 ⟨j, List.mem_range.2 hj, rfl⟩))
theorem PlAt.plIn {w8 wr : World} {lp mp f N S T pb g n Q gg : Nat} {ov : Bool} {mb : Option Nat} {z : Nat → Nat} {A : Option Addr} {lo : List Nat} (h : PlAt w8 lp mp f N S T ov mb pb g n Q z A lo gg lo.length wr) :
    PlIn wr (gg + 1) gg pb g Q n (fun j => lo.contains j) z :=
  ⟨h.xg, h.xp, fun j hj => by have := h.row.cell hj; rwa [List.take_length] at this, h.ir⟩
theorem PlAt.last {w w8 wr w9 : World} {lp mp f N S T pb g n Q gg : Nat} {ov : Bool} {mb : Option Nat} {z : Nat → Nat} {A : Option Addr} {lo : List Nat} {X : Nat → Prop} (h : PlAt w8 lp mp f N S T ov mb pb g n Q z A lo gg lo.length wr) (ho : Only nobody w w8) (hg : w.heap.size ≤ gg) (hX : X lp)
    (hk : Kept (fun j => X j ∨ (w.heap.size ≤ j ∧ j < w8.heap.size)) wr w9) : Kept (fun j => X j ∧ j ≠ lp) w w9 ∧ Box w9 lp 80 (LvA mp f N S T (ov || !lo.isEmpty) mb) := by
  have k1 : Only (fun j => j = lp) w wr := (ho.mono (fun _ _ h => absurd h (not_nobody _))).then h.only (fun i hi => hi.imp id (fun e => by rw [e]; exact hg))
  have k2 : Kept (fun j => X j ∧ j ≠ lp) w wr := k1.mono (fun i _ e hx => hx.2 e)
  refine ⟨Only.then k2 hk (fun i hi => .inl (fun hx => hi (.inl hx.1))), ?_⟩
  have hb := hk.box h.box (.inl hX)
  have e : decide (0 < lo.length) = !lo.isEmpty := by cases lo <;> simp
  rwa [e] at hb
theorem place_fn (args : Array Value) (W : World) : Sem.run Tryz.prog (callFunc 89 args) W = .ok (.enter 89 args) W := by go_simp
set_option maxRecDepth 100000 in
set_option maxHeartbeats 4000000 in
theorem place_any {N S T D L n Q P : Nat} (h : Conf N S T D L n Q P) (X : Nat → Prop) (lp mp f gi off cap : Nat) (ov : Bool) (mb : Option Nat) (M : MS) (C : Nat → Cl) (y : Nat → It) (w : World) (hM : LvM M f S D T Q) (hf : f ≤ 100)
    (hC : ∀ a, a < Q → M.c (f + 2) a = C a) (hCw : ∀ i, Wd (C i)) (hO : Own w X mp M) (hX1 : X lp) (hB : Box w lp 80 (LvA mp f N S T ov mb)) (hI : Its w w.heap.size (some ⟨gi, off, none⟩) Q y) (hcap : Q ≤ cap)
    (hy : ∀ j, j < n → (y j).2 ≤ 9223372036854775807) :
    Calls Tryz.prog 73 #[.pointer (some ⟨lp, 0, none⟩), .slice (some ⟨gi, off, none⟩) Q cap] w (PlcPost w X lp mp f N S T D Q n ov mb M C y) := by
  have HSh := Lib.hid (fun W => shape_of h W)
  have HPs := Lib.hid (fun W => places_in D S T L n h.hD h.s1 h.s8 h.t1 h.t64 h.hL h.hn W)
  have HDl := Lib.hid (fun W c (hI : Its W W.heap.size (some ⟨gi, off, none⟩) n y) => deal_new D S T L n c (some ⟨gi, off, none⟩) y W h.hD h.s1 h.s8 h.t1 h.t64 h.hL h.hn hI hy)
  have HEa := Lib.hid (fun X' ov' W Y caps Inv Z => each_any h X' Y lp mp f ov' mb M 89 caps C Z Inv W hM hf hC)
  have hQ := h.big.2.2.2
  have hnQ := h.le
  have hn3 := h.big.2.1
  have s1 := h.s1
  have hnc : n ≤ cap := by omega
  have hnc2 : ¬ cap < n := by omega
  have hcz : ¬ cap = 0 := by omega
  have HL := Lib.hid h.hL
  have HN := Lib.hid h.hn
  have HCw := Lib.hid hCw
  have HI := Lib.hid hI
  have HO := Lib.hid hO
  have HB := Lib.hid hB
  have hBB := hB
  have hlpw := hB.lt
  have hmk := run_make_row' (P := Tryz.prog) 83 54 (.int .u64 0) 8 Tryz.underlying83 infoPl rfl .i64 .i64 Q (by omega) (by omega)
  have p2 := lv2 hB
  have p3 := lv3 hB
  have p4 := lv4 hB
  clear h hM hC hCw hI hO hB hy
  go_enter Tryz.func73, Tryz.ntmps73
  go_wp2_with fail
  refine (HSh.out _).mono ?_
  rintro e w1 ⟨rfl, hb1⟩
  have ho1 : Only nobody w w1 := Only.of_below hb1
  clear hb1 p2 p3 p4
  go_upto_region 1 with fail
  obtain ⟨sh, hsh⟩ : ∃ b, w1.heap.size = b := ⟨_, rfl⟩
  obtain ⟨w2, hw2⟩ : ∃ x, w1.alloc (.cells #[.int .i64 (D : Int), .int .i64 (S : Int), .int .i64 (T : Int)] 68) = x := ⟨_, rfl⟩
  have hs2 : Box w2 sh 68 #[.int .i64 (D : Int), .int .i64 (S : Int), .int .i64 (T : Int)] := by rw [← hw2, ← hsh]; exact Box.new w1 _ _
  have ho2 : Only nobody w w2 := by rw [← hw2]; exact ho1.alloc _
  rw [hsh, hw2]
  clear ho1 hsh hw2
  refine held_s (S := fun w' => Box w' sh 68 #[.int .i64 (D : Int), .int .i64 (S : Int), .int .i64 (T : Int)]) 12 rfl (by kernel_rfl) (hs2.drewN 1) (fun hHeld => ?_)
  simp only [Array.replicate_succ, Array.replicate_zero, List.push_toArray, List.nil_append, List.cons_append]
  have ho3 : Only nobody w w2.drew := ho2.drew
  have hs3 : Box w2.drew sh 68 #[.int .i64 (D : Int), .int .i64 (S : Int), .int .i64 (T : Int)] := hs2.drewN 1
  clear ho2 hs2
  generalize w2.drew = w3 at *
  refine wpAnyH_take (i := 0) (oi := ⟨some 17, _, _, _, _, _⟩) (v := (.agg #[.int .i64 (D : Int), .int .i64 (S : Int), .int .i64 (T : Int)])) rfl (by kernel_rfl) (by kernel_rfl) (by kernel_rfl) (fun _ _ _ h => h) (Or.inl ⟨by rfl, fun w' hw => by (have k0 := hw.cell 0; have k1 := hw.cell 1; have k2 := hw.cell 2; go_simp)⟩) hHeld ?_
  try simp only [Act.put, List.setIfInBounds_toArray, List.set_cons_zero, List.set_cons_succ]
  refine wpAnyH_take (i := 1) (oi := ⟨some 18, _, _, _, _, _⟩) (v := (.slice (some ⟨gi, off, none⟩) Q cap)) rfl (by kernel_rfl) (by kernel_rfl) (by kernel_rfl) (fun _ _ _ h => h) (Or.inl ⟨by rfl, fun w' hw => by go_simp⟩) hHeld ?_
  try simp only [Act.put, List.setIfInBounds_toArray, List.set_cons_zero, List.set_cons_succ]
  refine wpAnyH_take (i := 2) (oi := ⟨some 19, _, _, _, _, _⟩) (v := (.agg #[.int .i64 (D : Int), .int .i64 (S : Int), .int .i64 (T : Int)])) rfl (by kernel_rfl) (by kernel_rfl) (by kernel_rfl) (fun _ _ _ h => h) (Or.inl ⟨by rfl, fun w' hw => by (have k0 := hw.cell 0; have k1 := hw.cell 1; have k2 := hw.cell 2; go_simp)⟩) hHeld ?_
  try simp only [Act.put, List.setIfInBounds_toArray, List.set_cons_zero, List.set_cons_succ]
  -- LEFT [3, 4, 5, 6, 7, 8, 9, 10, 11]
  refine wpAnyH_ready (rs := [3, 9]) (by kernel_rfl) (by simp) ?_
  refine AllReadyH.cons rfl (fun K hK => ?_) ?_
  · go_simp
    refine (HPs.out _).mono ?_
    rintro e w4 ⟨rfl, hb⟩
    have ho : Only nobody w3 w4 := Only.of_below hb
    have ho4 := ho3.trans ho
    have hs4 := hs3.only ho (not_nobody _)
    refine hK.out _ _ hs4 (fun hHeld => ?_)
    clear hK K hb ho
    simp only [List.setIfInBounds_toArray, List.set_cons_zero, List.set_cons_succ]
    refine wpAnyH_take (i := 4) (oi := ⟨some 21, _, _, _, _, _⟩) (v := (.slice (some ⟨gi, off, none⟩) n cap)) rfl (by kernel_rfl) (by kernel_rfl) (by kernel_rfl) (fun _ _ _ h => h) (Or.inl ⟨by rfl, fun w' hw => by go_simp⟩) hHeld ?_
    try simp only [Act.put, List.setIfInBounds_toArray, List.set_cons_zero, List.set_cons_succ]
    -- LEFT [5, 6, 7, 8, 9, 10, 11]
    refine wpAnyH_ready (rs := [5, 9]) (by kernel_rfl) (by simp) ?_
    refine AllReadyH.cons rfl (fun K hK => ?_) ?_
    · go_simp
      refine (HDl.out w4 cap (((HI.out.below (below_nob ho4 (Nat.le_refl _))).more ho4.size).less hnQ)).mono ?_
      rintro e w5 ⟨o, g, A2, cap2, hor, rfl, hir, hnu, hnw, hb⟩
      have ho : Only nobody w4 w5 := Only.of_below hb
      have hnw : ∀ b off, A2 = some ⟨b, off, none⟩ → w.heap.size ≤ b := fun b off e => Nat.le_trans ho4.size (hnw b off e)
      have hwg : w.heap.size ≤ g := Nat.le_trans ho4.size hir.old
      have ho5 := ho4.trans ho
      have hs5 := hs4.only ho (not_nobody _)
      refine hK.out _ _ hs5 (fun hHeld => ?_)
      clear hK K hb ho
      simp only [List.setIfInBounds_toArray, List.set_cons_zero, List.set_cons_succ]
      refine wpAnyH_take (i := 6) (oi := ⟨some 16, _, _, _, _, _⟩) (v := (.tuple #[.slice (some ⟨g, 0, none⟩) n n, .slice A2 (lostO y S D T o).length cap2])) rfl (by kernel_rfl) (by kernel_rfl) (by kernel_rfl) (fun _ _ _ h => h) (Or.inl ⟨by rfl, fun w' hw => by go_simp⟩) hHeld ?_
      try simp only [Act.put, List.setIfInBounds_toArray, List.set_cons_zero, List.set_cons_succ]
      refine wpAnyH_take (i := 7) (oi := ⟨some 23, _, _, _, _, _⟩) (v := (.slice (some ⟨g, 0, none⟩) n n)) rfl (by kernel_rfl) (by kernel_rfl) (by kernel_rfl) (fun _ _ _ h => h) (Or.inl ⟨by rfl, fun w' hw => by go_simp⟩) hHeld ?_
      try simp only [Act.put, List.setIfInBounds_toArray, List.set_cons_zero, List.set_cons_succ]
      refine wpAnyH_take (i := 8) (oi := ⟨some 24, _, _, _, _, _⟩) (v := (.slice A2 (lostO y S D T o).length cap2)) rfl (by kernel_rfl) (by kernel_rfl) (by kernel_rfl) (fun _ _ _ h => h) (Or.inl ⟨by rfl, fun w' hw => by go_simp⟩) hHeld ?_
      try simp only [Act.put, List.setIfInBounds_toArray, List.set_cons_zero, List.set_cons_succ]
      refine one_ready 9 rfl (by kernel_rfl) (fun K hK => ?_)
      go_simp
      obtain ⟨pb, hpb⟩ : ∃ c, w5.heap.size = c := ⟨_, rfl⟩
      obtain ⟨w6, hw6⟩ : ∃ x, w5.alloc (.cells #[.slice none 0 0] 36) = x := ⟨_, rfl⟩
      have hp6 : Box w6 pb 36 #[.slice none 0 0] := by rw [← hw6, ← hpb]; exact Box.new w5 _ _
      have ho6 : Only nobody w w6 := by rw [← hw6]; exact ho5.alloc _
      have hs6 : Box w6 sh 68 #[.int .i64 (D : Int), .int .i64 (S : Int), .int .i64 (T : Int)] := by rw [← hw6]; exact hs5.alloc _
      have hpg : pb ≠ g := by have := hir.lt; omega
      have hir : Ir w6 w4.heap.size g n (fun i => (outP (goes y S D T o) n i : Nat)) := by rw [← hw6]; exact hir.alloc _
      have hnu : Nums .i64 w6 w5.heap.size A2 (lostO y S D T o).length (fun j => ((lostO y S D T o).getD j 0 : Nat)) := by rw [← hw6]; exact hnu.below ((Below.refl _ w5).alloc (Nat.le_refl _) _)
      have hpn : w.heap.size ≤ pb := by rw [← hpb]; exact ho5.size
      refine hK.out _ _ (hs5.alloc _) (fun hHeld => ?_)
      change wpAnyH _ _ _ _ _ _ _ _ (w5.alloc (.cells #[.slice none 0 0] 36))
      rw [hw6]
      simp only [hpb]
      clear hK K hw6
      simp only [List.setIfInBounds_toArray, List.set_cons_zero, List.set_cons_succ]
      refine one_ready 10 (o := ⟨none, _, _, _, _, _⟩) rfl (by kernel_rfl) (fun K hK => ?_)
      have q0 := hp6.cell 0
      have q1 := hp6.frozen 0
      go_simp
      have hpf : Box (w6.setCell ⟨pb, 0, none⟩ (.slice (some ⟨g, 0, none⟩) n n)) pb 36 #[.slice (some ⟨g, 0, none⟩) n n] := hp6.put 0 _
      have hoj : Only (just pb) w6 (w6.setCell ⟨pb, 0, none⟩ (.slice (some ⟨g, 0, none⟩) n n)) := (Only.refl _ _).setCell (p := ⟨pb, 0, none⟩) (.inl (just_self _)) _
      have hsf := hs6.only hoj (just_ne (Box.ne hs6 hp6 (by decide)))
      have hof : Only nobody w (w6.setCell ⟨pb, 0, none⟩ (.slice (some ⟨g, 0, none⟩) n n)) := ho6.setCell (p := ⟨pb, 0, none⟩) (.inr hpn) _
      have hif := hir.far (a := ⟨pb, 0, none⟩) (fun e => hpg e.symm) (.slice (some ⟨g, 0, none⟩) n n)
      have hnf : ∀ j, j < (lostO y S D T o).length → ∃ b, ∃ ob, A2 = some ⟨b, ob, none⟩ ∧ (w6.setCell ⟨pb, 0, none⟩ (.slice (some ⟨g, 0, none⟩) n n)).cell? ⟨b, ob + j, none⟩ = some (.int .i64 ((lostO y S D T o).getD j 0 : Nat)) := fun j hj => by
        obtain ⟨b, ob, e, hb, hc⟩ := hnu (by omega)
        exact ⟨b, ob, e, (World.cell?_of_block (w := w6) (hoj.block b (World.block_lt_of_cell? w6 ⟨b, ob + j, none⟩ (hc j hj)) (just_ne (nums_ne hp6 (hc j hj))))).trans (hc j hj)⟩
      refine hK.out _ _ hsf (fun hHeld => ?_)
      clear hK K q0 q1 hoj hnu hir
      simp only [List.setIfInBounds_toArray, List.set_cons_zero, List.set_cons_succ]
      generalize w6.setCell ⟨pb, 0, none⟩ (.slice (some ⟨g, 0, none⟩) n n) = w7 at hpf hsf hof hif hnf hHeld ⊢
      refine wpAnyH_take (i := 11) (oi := ⟨some 6, _, _, _, _, _⟩) (v := (.slice A2 (lostO y S D T o).length cap2)) rfl (by kernel_rfl) (by kernel_rfl) (by kernel_rfl) (fun _ _ _ h => h) (Or.inl ⟨by rfl, fun w' hw => by go_simp⟩) hHeld ?_
      try simp only [Act.put, List.setIfInBounds_toArray, List.set_cons_zero, List.set_cons_succ]
      refine wpAnyH_done (by kernel_rfl) ?_ _
      have HA := Lib.hid (PlAt.start (Q := Q) (hBB.only hof (not_nobody _)) hpf hif hnf hnw hlpw hwg)
      have HOr := Lib.hid hor
      have HO7 := Lib.hid hof
      have HR := Lib.hid (And.intro hpn (And.intro hpf.lt (And.intro hwg hif.lt)))
      clear hof hif hnf hnw hwg hpf hsf hHeld hor hBB hlpw hpn
      go_upto_region 3 with fail
      have HO8 := Lib.hid ((HO7.out.alloc (.cells (madeCells #[.int .u64 0] Q) 54)).alloc (.cells #[.slice (some ⟨w7.heap.size, 0, none⟩) Q Q] 83))
      have HS8 : Hid (((w7.alloc (.cells (madeCells #[.int .u64 0] Q) 54)).alloc (.cells #[.slice (some ⟨w7.heap.size, 0, none⟩) Q Q] 83)).heap.size = w7.heap.size + 2) := by simp [Hid]
      have HG7 := Lib.hid HO7.out.size
      obtain ⟨gg, hgg⟩ : ∃ b, w7.heap.size = b := ⟨_, rfl⟩
      rw [hgg] at HA HO8 HS8 HR HG7
      simp only [hgg]
      generalize (w7.alloc (.cells (madeCells #[.int .u64 0] Q) 54)).alloc (.cells #[.slice (some ⟨gg, 0, none⟩) Q Q] 83) = w8 at *
      go_wp2_with fail
      go_loopw [30] (fun v wr => ∃ k : Nat, v = .int .i64 k ∧ PlAt w8 lp mp f N S T ov mb pb g n Q (outP (goes y S D T o) n) A2 (lostO y S D T o) gg k wr) (fun v _ => (lostO y S D T o).length - (intOf v).toNat)
      case atStart => exact ⟨0, rfl, HA.out⟩
      case round =>
        obtain ⟨k, rfl, hS⟩ := hrel
        clear HA
        by_cases hk : k < (lostO y S D T o).length
        · have hll := lost_le (D := D) (T := T) HOr.out s1
          obtain ⟨b, ob, hAe, hb1, hb2, c0⟩ := hS.nu k hk
          have hlQ : (lostO y S D T o).getD k 0 < Q := Nat.lt_of_lt_of_le (lost_lt HOr.out hk) hnQ
          have c1 := hS.row.cell hlQ
          have f1 := hS.row.frozen ((lostO y S D T o).getD k 0)
          have c2 : wr.cell? ⟨gg + 1, 0, none⟩ = some (.slice (some ⟨gg, 0, none⟩) Q Q) := hS.xg.cell 0
          have hBm := hS.box.far (a := ⟨gg, (lostO y S D T o).getD k 0, none⟩) hS.apart.1 (.int .u64 18446744073709551615)
          have c5 : (wr.setCell ⟨gg, (lostO y S D T o).getD k 0, none⟩ (.int .u64 18446744073709551615)).cell? ⟨lp, 5, none⟩ = some (.bool (ov || decide (0 < k))) := hBm.cell 5
          have f5 := hBm.frozen 5
          have HN := Lib.hid (hS.far hk)
          subst hAe
          clear hS hBm
          generalize (lostO y S D T o).getD k 0 = q at *
          go_upto_region 7 with fail
          clear c0 c1 c2 f1
          go_wp2_with fail
          go_roundw
          case rel => exact ⟨k + 1, by go_num, HN.out⟩
          case measure => simp [intOf]; omega
        · have hle := hS.le
          obtain rfl : k = (lostO y S D T o).length := by omega
          have HS := Lib.hid hS
          clear hS hle hk
          have hgs : w.heap.size ≤ gg := HG7.out
          have hw8s := HS8.out
          have hrr := HR.out
          have HX1 := Lib.hid (place_clo (fun j => X j ∨ (w.heap.size ≤ j ∧ j < w8.heap.size)) (gg + 1) gg pb g Q n (fun j => (lostO y S D T o).contains j) (outP (goes y S D T o) n) C (by omega)
            (fun j hj => by have := outP_le (T := T) (D := D) HOr.out s1 (by have := HL.out; have := HN.out; omega) hj; omega) HCw.out ⟨.inr ⟨by omega, by omega⟩, .inr ⟨by omega, by omega⟩, .inr ⟨by omega, by omega⟩, .inr ⟨by omega, by omega⟩⟩)
          have HOw : Hid (Own wr (fun j => (X j ∨ (w.heap.size ≤ j ∧ j < w8.heap.size)) ∨ False) mp M) := Lib.hid (((HO.out.grow HO8.out).only HS.out.only (fun i hi => by
            rcases hi with rfl | rfl
            · exact .inl hX1
            · exact .inr ⟨hgs, by omega⟩)).weak (fun j hj => hj.resolve_right id))
          clear hgs hw8s hrr
          go_wp2_with fail
          refine (HEa.out (fun j => X j ∨ (w.heap.size ≤ j ∧ j < w8.heap.size)) _ _ (fun _ => False) _ _ _ HX1.out place_fn ⟨fun _ h => h, HS.out.plIn⟩ HOw.out (.inl hX1) (fun _ _ h => h) HS.out.box).mono ?_
          rintro e w9 ⟨rfl, Y', hInv, hOw, hKe, hd⟩
          have HE := Lib.hid (HS.out.last HO8.out HG7.out hX1 hKe)
          have HW := Lib.hid (hOw.weak (Y := X) (fun j hj => .inl (.inl hj)))
          clear hInv hOw hKe hd
          go_wp2_with fail
          go_end0
          exact ⟨rfl, o, HOr.out, HW.out, HE.out⟩
    · refine AllReadyH.cons rfl (fun K hK => ?_) AllReadyH.nil
      go_simp
      obtain ⟨pb, hpb⟩ : ∃ c, w4.heap.size = c := ⟨_, rfl⟩
      obtain ⟨w5, hw5⟩ : ∃ x, w4.alloc (.cells #[.slice none 0 0] 36) = x := ⟨_, rfl⟩
      have hp5 : Box w5 pb 36 #[.slice none 0 0] := by rw [← hw5, ← hpb]; exact Box.new w4 _ _
      have ho5 : Only nobody w w5 := by rw [← hw5]; exact ho4.alloc _
      have hs5 : Box w5 sh 68 #[.int .i64 (D : Int), .int .i64 (S : Int), .int .i64 (T : Int)] := by rw [← hw5]; exact hs4.alloc _
      have hpn : w.heap.size ≤ pb := by rw [← hpb]; exact ho4.size
      refine hK.out _ _ (hs4.alloc _) (fun hHeld => ?_)
      change wpAnyH _ _ _ _ _ _ _ _ (w4.alloc (.cells #[.slice none 0 0] 36))
      rw [hw5]
      simp only [hpb]
      clear hK K hw5
      simp only [List.setIfInBounds_toArray, List.set_cons_zero, List.set_cons_succ]
      refine one_ready 5 rfl (by kernel_rfl) (fun K hK => ?_)
      go_simp
      refine (HDl.out w5 cap (((HI.out.below (below_nob ho5 (Nat.le_refl _))).more ho5.size).less hnQ)).mono ?_
      rintro e w6 ⟨o, g, A2, cap2, hor, rfl, hir, hnu, hnw, hb⟩
      have ho : Only nobody w5 w6 := Only.of_below hb
      have hnw : ∀ b off, A2 = some ⟨b, off, none⟩ → w.heap.size ≤ b := fun b off e => Nat.le_trans ho5.size (hnw b off e)
      have hwg : w.heap.size ≤ g := Nat.le_trans ho5.size hir.old
      have ho6 := ho5.trans ho
      have hs6 := hs5.only ho (not_nobody _)
      have hp6 := hp5.only ho (not_nobody _)
      have hpg : pb ≠ g := by have := hir.old; have := hp5.lt; omega
      refine hK.out _ _ hs6 (fun hHeld => ?_)
      clear hK K hb ho
      simp only [List.setIfInBounds_toArray, List.set_cons_zero, List.set_cons_succ]
      refine wpAnyH_take (i := 6) (oi := ⟨some 16, _, _, _, _, _⟩) (v := (.tuple #[.slice (some ⟨g, 0, none⟩) n n, .slice A2 (lostO y S D T o).length cap2])) rfl (by kernel_rfl) (by kernel_rfl) (by kernel_rfl) (fun _ _ _ h => h) (Or.inl ⟨by rfl, fun w' hw => by go_simp⟩) hHeld ?_
      try simp only [Act.put, List.setIfInBounds_toArray, List.set_cons_zero, List.set_cons_succ]
      refine wpAnyH_take (i := 7) (oi := ⟨some 23, _, _, _, _, _⟩) (v := (.slice (some ⟨g, 0, none⟩) n n)) rfl (by kernel_rfl) (by kernel_rfl) (by kernel_rfl) (fun _ _ _ h => h) (Or.inl ⟨by rfl, fun w' hw => by go_simp⟩) hHeld ?_
      try simp only [Act.put, List.setIfInBounds_toArray, List.set_cons_zero, List.set_cons_succ]
      refine wpAnyH_take (i := 8) (oi := ⟨some 24, _, _, _, _, _⟩) (v := (.slice A2 (lostO y S D T o).length cap2)) rfl (by kernel_rfl) (by kernel_rfl) (by kernel_rfl) (fun _ _ _ h => h) (Or.inl ⟨by rfl, fun w' hw => by go_simp⟩) hHeld ?_
      try simp only [Act.put, List.setIfInBounds_toArray, List.set_cons_zero, List.set_cons_succ]
      refine one_ready 10 (o := ⟨none, _, _, _, _, _⟩) rfl (by kernel_rfl) (fun K hK => ?_)
      have q0 := hp6.cell 0
      have q1 := hp6.frozen 0
      go_simp
      have hpf : Box (w6.setCell ⟨pb, 0, none⟩ (.slice (some ⟨g, 0, none⟩) n n)) pb 36 #[.slice (some ⟨g, 0, none⟩) n n] := hp6.put 0 _
      have hoj : Only (just pb) w6 (w6.setCell ⟨pb, 0, none⟩ (.slice (some ⟨g, 0, none⟩) n n)) := (Only.refl _ _).setCell (p := ⟨pb, 0, none⟩) (.inl (just_self _)) _
      have hsf := hs6.only hoj (just_ne (Box.ne hs6 hp6 (by decide)))
      have hof : Only nobody w (w6.setCell ⟨pb, 0, none⟩ (.slice (some ⟨g, 0, none⟩) n n)) := ho6.setCell (p := ⟨pb, 0, none⟩) (.inr hpn) _
      have hif := hir.far (a := ⟨pb, 0, none⟩) (fun e => hpg e.symm) (.slice (some ⟨g, 0, none⟩) n n)
      have hnf : ∀ j, j < (lostO y S D T o).length → ∃ b, ∃ ob, A2 = some ⟨b, ob, none⟩ ∧ (w6.setCell ⟨pb, 0, none⟩ (.slice (some ⟨g, 0, none⟩) n n)).cell? ⟨b, ob + j, none⟩ = some (.int .i64 ((lostO y S D T o).getD j 0 : Nat)) := fun j hj => by
        obtain ⟨b, ob, e, hb, hc⟩ := hnu (by omega)
        exact ⟨b, ob, e, (World.cell?_of_block (w := w6) (hoj.block b (World.block_lt_of_cell? w6 ⟨b, ob + j, none⟩ (hc j hj)) (just_ne (nums_ne hp6 (hc j hj))))).trans (hc j hj)⟩
      refine hK.out _ _ hsf (fun hHeld => ?_)
      clear hK K q0 q1 hoj hnu hir
      simp only [List.setIfInBounds_toArray, List.set_cons_zero, List.set_cons_succ]
      generalize w6.setCell ⟨pb, 0, none⟩ (.slice (some ⟨g, 0, none⟩) n n) = w7 at hpf hsf hof hif hnf hHeld ⊢
      refine wpAnyH_take (i := 11) (oi := ⟨some 6, _, _, _, _, _⟩) (v := (.slice A2 (lostO y S D T o).length cap2)) rfl (by kernel_rfl) (by kernel_rfl) (by kernel_rfl) (fun _ _ _ h => h) (Or.inl ⟨by rfl, fun w' hw => by go_simp⟩) hHeld ?_
      try simp only [Act.put, List.setIfInBounds_toArray, List.set_cons_zero, List.set_cons_succ]
      refine wpAnyH_done (by kernel_rfl) ?_ _
      have HA := Lib.hid (PlAt.start (Q := Q) (hBB.only hof (not_nobody _)) hpf hif hnf hnw hlpw hwg)
      have HOr := Lib.hid hor
      have HO7 := Lib.hid hof
      have HR := Lib.hid (And.intro hpn (And.intro hpf.lt (And.intro hwg hif.lt)))
      clear hof hif hnf hnw hwg hpf hsf hHeld hor hBB hlpw hpn
      go_upto_region 3 with fail
      have HO8 := Lib.hid ((HO7.out.alloc (.cells (madeCells #[.int .u64 0] Q) 54)).alloc (.cells #[.slice (some ⟨w7.heap.size, 0, none⟩) Q Q] 83))
      have HS8 : Hid (((w7.alloc (.cells (madeCells #[.int .u64 0] Q) 54)).alloc (.cells #[.slice (some ⟨w7.heap.size, 0, none⟩) Q Q] 83)).heap.size = w7.heap.size + 2) := by simp [Hid]
      have HG7 := Lib.hid HO7.out.size
      obtain ⟨gg, hgg⟩ : ∃ b, w7.heap.size = b := ⟨_, rfl⟩
      rw [hgg] at HA HO8 HS8 HR HG7
      simp only [hgg]
      generalize (w7.alloc (.cells (madeCells #[.int .u64 0] Q) 54)).alloc (.cells #[.slice (some ⟨gg, 0, none⟩) Q Q] 83) = w8 at *
      go_wp2_with fail
      go_loopw [30] (fun v wr => ∃ k : Nat, v = .int .i64 k ∧ PlAt w8 lp mp f N S T ov mb pb g n Q (outP (goes y S D T o) n) A2 (lostO y S D T o) gg k wr) (fun v _ => (lostO y S D T o).length - (intOf v).toNat)
      case atStart => exact ⟨0, rfl, HA.out⟩
      case round =>
        obtain ⟨k, rfl, hS⟩ := hrel
        clear HA
        by_cases hk : k < (lostO y S D T o).length
        · have hll := lost_le (D := D) (T := T) HOr.out s1
          obtain ⟨b, ob, hAe, hb1, hb2, c0⟩ := hS.nu k hk
          have hlQ : (lostO y S D T o).getD k 0 < Q := Nat.lt_of_lt_of_le (lost_lt HOr.out hk) hnQ
          have c1 := hS.row.cell hlQ
          have f1 := hS.row.frozen ((lostO y S D T o).getD k 0)
          have c2 : wr.cell? ⟨gg + 1, 0, none⟩ = some (.slice (some ⟨gg, 0, none⟩) Q Q) := hS.xg.cell 0
          have hBm := hS.box.far (a := ⟨gg, (lostO y S D T o).getD k 0, none⟩) hS.apart.1 (.int .u64 18446744073709551615)
          have c5 : (wr.setCell ⟨gg, (lostO y S D T o).getD k 0, none⟩ (.int .u64 18446744073709551615)).cell? ⟨lp, 5, none⟩ = some (.bool (ov || decide (0 < k))) := hBm.cell 5
          have f5 := hBm.frozen 5
          have HN := Lib.hid (hS.far hk)
          subst hAe
          clear hS hBm
          generalize (lostO y S D T o).getD k 0 = q at *
          go_upto_region 7 with fail
          clear c0 c1 c2 f1
          go_wp2_with fail
          go_roundw
          case rel => exact ⟨k + 1, by go_num, HN.out⟩
          case measure => simp [intOf]; omega
        · have hle := hS.le
          obtain rfl : k = (lostO y S D T o).length := by omega
          have HS := Lib.hid hS
          clear hS hle hk
          have hgs : w.heap.size ≤ gg := HG7.out
          have hw8s := HS8.out
          have hrr := HR.out
          have HX1 := Lib.hid (place_clo (fun j => X j ∨ (w.heap.size ≤ j ∧ j < w8.heap.size)) (gg + 1) gg pb g Q n (fun j => (lostO y S D T o).contains j) (outP (goes y S D T o) n) C (by omega)
            (fun j hj => by have := outP_le (T := T) (D := D) HOr.out s1 (by have := HL.out; have := HN.out; omega) hj; omega) HCw.out ⟨.inr ⟨by omega, by omega⟩, .inr ⟨by omega, by omega⟩, .inr ⟨by omega, by omega⟩, .inr ⟨by omega, by omega⟩⟩)
          have HOw : Hid (Own wr (fun j => (X j ∨ (w.heap.size ≤ j ∧ j < w8.heap.size)) ∨ False) mp M) := Lib.hid (((HO.out.grow HO8.out).only HS.out.only (fun i hi => by
            rcases hi with rfl | rfl
            · exact .inl hX1
            · exact .inr ⟨hgs, by omega⟩)).weak (fun j hj => hj.resolve_right id))
          clear hgs hw8s hrr
          go_wp2_with fail
          refine (HEa.out (fun j => X j ∨ (w.heap.size ≤ j ∧ j < w8.heap.size)) _ _ (fun _ => False) _ _ _ HX1.out place_fn ⟨fun _ h => h, HS.out.plIn⟩ HOw.out (.inl hX1) (fun _ _ h => h) HS.out.box).mono ?_
          rintro e w9 ⟨rfl, Y', hInv, hOw, hKe, hd⟩
          have HE := Lib.hid (HS.out.last HO8.out HG7.out hX1 hKe)
          have HW := Lib.hid (hOw.weak (Y := X) (fun j hj => .inl (.inl hj)))
          clear hInv hOw hKe hd
          go_wp2_with fail
          go_end0
          exact ⟨rfl, o, HOr.out, HW.out, HE.out⟩
  · refine AllReadyH.cons rfl (fun K hK => ?_) AllReadyH.nil
    go_simp
    obtain ⟨pb, hpb⟩ : ∃ c, w3.heap.size = c := ⟨_, rfl⟩
    obtain ⟨w4, hw4⟩ : ∃ x, w3.alloc (.cells #[.slice none 0 0] 36) = x := ⟨_, rfl⟩
    have hp4 : Box w4 pb 36 #[.slice none 0 0] := by rw [← hw4, ← hpb]; exact Box.new w3 _ _
    have ho4 : Only nobody w w4 := by rw [← hw4]; exact ho3.alloc _
    have hs4 : Box w4 sh 68 #[.int .i64 (D : Int), .int .i64 (S : Int), .int .i64 (T : Int)] := by rw [← hw4]; exact hs3.alloc _
    have hpn : w.heap.size ≤ pb := by rw [← hpb]; exact ho3.size
    refine hK.out _ _ (hs3.alloc _) (fun hHeld => ?_)
    change wpAnyH _ _ _ _ _ _ _ _ (w3.alloc (.cells #[.slice none 0 0] 36))
    rw [hw4]
    simp only [hpb]
    clear hK K hw4
    simp only [List.setIfInBounds_toArray, List.set_cons_zero, List.set_cons_succ]
    refine one_ready 3 rfl (by kernel_rfl) (fun K hK => ?_)
    go_simp
    refine (HPs.out _).mono ?_
    rintro e w5 ⟨rfl, hb⟩
    have ho : Only nobody w4 w5 := Only.of_below hb
    have ho5 := ho4.trans ho
    have hs5 := hs4.only ho (not_nobody _)
    have hp5 := hp4.only ho (not_nobody _)
    refine hK.out _ _ hs5 (fun hHeld => ?_)
    clear hK K hb ho
    simp only [List.setIfInBounds_toArray, List.set_cons_zero, List.set_cons_succ]
    refine wpAnyH_take (i := 4) (oi := ⟨some 21, _, _, _, _, _⟩) (v := (.slice (some ⟨gi, off, none⟩) n cap)) rfl (by kernel_rfl) (by kernel_rfl) (by kernel_rfl) (fun _ _ _ h => h) (Or.inl ⟨by rfl, fun w' hw => by go_simp⟩) hHeld ?_
    try simp only [Act.put, List.setIfInBounds_toArray, List.set_cons_zero, List.set_cons_succ]
    refine one_ready 5 rfl (by kernel_rfl) (fun K hK => ?_)
    go_simp
    refine (HDl.out w5 cap (((HI.out.below (below_nob ho5 (Nat.le_refl _))).more ho5.size).less hnQ)).mono ?_
    rintro e w6 ⟨o, g, A2, cap2, hor, rfl, hir, hnu, hnw, hb⟩
    have ho : Only nobody w5 w6 := Only.of_below hb
    have hnw : ∀ b off, A2 = some ⟨b, off, none⟩ → w.heap.size ≤ b := fun b off e => Nat.le_trans ho5.size (hnw b off e)
    have hwg : w.heap.size ≤ g := Nat.le_trans ho5.size hir.old
    have ho6 := ho5.trans ho
    have hs6 := hs5.only ho (not_nobody _)
    have hp6 := hp5.only ho (not_nobody _)
    have hpg : pb ≠ g := by have := hir.old; have := hp5.lt; omega
    refine hK.out _ _ hs6 (fun hHeld => ?_)
    clear hK K hb ho
    simp only [List.setIfInBounds_toArray, List.set_cons_zero, List.set_cons_succ]
    refine wpAnyH_take (i := 6) (oi := ⟨some 16, _, _, _, _, _⟩) (v := (.tuple #[.slice (some ⟨g, 0, none⟩) n n, .slice A2 (lostO y S D T o).length cap2])) rfl (by kernel_rfl) (by kernel_rfl) (by kernel_rfl) (fun _ _ _ h => h) (Or.inl ⟨by rfl, fun w' hw => by go_simp⟩) hHeld ?_
    try simp only [Act.put, List.setIfInBounds_toArray, List.set_cons_zero, List.set_cons_succ]
    refine wpAnyH_take (i := 7) (oi := ⟨some 23, _, _, _, _, _⟩) (v := (.slice (some ⟨g, 0, none⟩) n n)) rfl (by kernel_rfl) (by kernel_rfl) (by kernel_rfl) (fun _ _ _ h => h) (Or.inl ⟨by rfl, fun w' hw => by go_simp⟩) hHeld ?_
    try simp only [Act.put, List.setIfInBounds_toArray, List.set_cons_zero, List.set_cons_succ]
    refine wpAnyH_take (i := 8) (oi := ⟨some 24, _, _, _, _, _⟩) (v := (.slice A2 (lostO y S D T o).length cap2)) rfl (by kernel_rfl) (by kernel_rfl) (by kernel_rfl) (fun _ _ _ h => h) (Or.inl ⟨by rfl, fun w' hw => by go_simp⟩) hHeld ?_
    try simp only [Act.put, List.setIfInBounds_toArray, List.set_cons_zero, List.set_cons_succ]
    refine one_ready 10 (o := ⟨none, _, _, _, _, _⟩) rfl (by kernel_rfl) (fun K hK => ?_)
    have q0 := hp6.cell 0
    have q1 := hp6.frozen 0
    go_simp
    have hpf : Box (w6.setCell ⟨pb, 0, none⟩ (.slice (some ⟨g, 0, none⟩) n n)) pb 36 #[.slice (some ⟨g, 0, none⟩) n n] := hp6.put 0 _
    have hoj : Only (just pb) w6 (w6.setCell ⟨pb, 0, none⟩ (.slice (some ⟨g, 0, none⟩) n n)) := (Only.refl _ _).setCell (p := ⟨pb, 0, none⟩) (.inl (just_self _)) _
    have hsf := hs6.only hoj (just_ne (Box.ne hs6 hp6 (by decide)))
    have hof : Only nobody w (w6.setCell ⟨pb, 0, none⟩ (.slice (some ⟨g, 0, none⟩) n n)) := ho6.setCell (p := ⟨pb, 0, none⟩) (.inr hpn) _
    have hif := hir.far (a := ⟨pb, 0, none⟩) (fun e => hpg e.symm) (.slice (some ⟨g, 0, none⟩) n n)
    have hnf : ∀ j, j < (lostO y S D T o).length → ∃ b, ∃ ob, A2 = some ⟨b, ob, none⟩ ∧ (w6.setCell ⟨pb, 0, none⟩ (.slice (some ⟨g, 0, none⟩) n n)).cell? ⟨b, ob + j, none⟩ = some (.int .i64 ((lostO y S D T o).getD j 0 : Nat)) := fun j hj => by
      obtain ⟨b, ob, e, hb, hc⟩ := hnu (by omega)
      exact ⟨b, ob, e, (World.cell?_of_block (w := w6) (hoj.block b (World.block_lt_of_cell? w6 ⟨b, ob + j, none⟩ (hc j hj)) (just_ne (nums_ne hp6 (hc j hj))))).trans (hc j hj)⟩
    refine hK.out _ _ hsf (fun hHeld => ?_)
    clear hK K q0 q1 hoj hnu hir
    simp only [List.setIfInBounds_toArray, List.set_cons_zero, List.set_cons_succ]
    generalize w6.setCell ⟨pb, 0, none⟩ (.slice (some ⟨g, 0, none⟩) n n) = w7 at hpf hsf hof hif hnf hHeld ⊢
    refine wpAnyH_take (i := 11) (oi := ⟨some 6, _, _, _, _, _⟩) (v := (.slice A2 (lostO y S D T o).length cap2)) rfl (by kernel_rfl) (by kernel_rfl) (by kernel_rfl) (fun _ _ _ h => h) (Or.inl ⟨by rfl, fun w' hw => by go_simp⟩) hHeld ?_
    try simp only [Act.put, List.setIfInBounds_toArray, List.set_cons_zero, List.set_cons_succ]
    refine wpAnyH_done (by kernel_rfl) ?_ _
    have HA := Lib.hid (PlAt.start (Q := Q) (hBB.only hof (not_nobody _)) hpf hif hnf hnw hlpw hwg)
    have HOr := Lib.hid hor
    have HO7 := Lib.hid hof
    have HR := Lib.hid (And.intro hpn (And.intro hpf.lt (And.intro hwg hif.lt)))
    clear hof hif hnf hnw hwg hpf hsf hHeld hor hBB hlpw hpn
    go_upto_region 3 with fail
    have HO8 := Lib.hid ((HO7.out.alloc (.cells (madeCells #[.int .u64 0] Q) 54)).alloc (.cells #[.slice (some ⟨w7.heap.size, 0, none⟩) Q Q] 83))
    have HS8 : Hid (((w7.alloc (.cells (madeCells #[.int .u64 0] Q) 54)).alloc (.cells #[.slice (some ⟨w7.heap.size, 0, none⟩) Q Q] 83)).heap.size = w7.heap.size + 2) := by simp [Hid]
    have HG7 := Lib.hid HO7.out.size
    obtain ⟨gg, hgg⟩ : ∃ b, w7.heap.size = b := ⟨_, rfl⟩
    rw [hgg] at HA HO8 HS8 HR HG7
    simp only [hgg]
    generalize (w7.alloc (.cells (madeCells #[.int .u64 0] Q) 54)).alloc (.cells #[.slice (some ⟨gg, 0, none⟩) Q Q] 83) = w8 at *
    go_wp2_with fail
    go_loopw [30] (fun v wr => ∃ k : Nat, v = .int .i64 k ∧ PlAt w8 lp mp f N S T ov mb pb g n Q (outP (goes y S D T o) n) A2 (lostO y S D T o) gg k wr) (fun v _ => (lostO y S D T o).length - (intOf v).toNat)
    case atStart => exact ⟨0, rfl, HA.out⟩
    case round =>
      obtain ⟨k, rfl, hS⟩ := hrel
      clear HA
      by_cases hk : k < (lostO y S D T o).length
      · have hll := lost_le (D := D) (T := T) HOr.out s1
        obtain ⟨b, ob, hAe, hb1, hb2, c0⟩ := hS.nu k hk
        have hlQ : (lostO y S D T o).getD k 0 < Q := Nat.lt_of_lt_of_le (lost_lt HOr.out hk) hnQ
        have c1 := hS.row.cell hlQ
        have f1 := hS.row.frozen ((lostO y S D T o).getD k 0)
        have c2 : wr.cell? ⟨gg + 1, 0, none⟩ = some (.slice (some ⟨gg, 0, none⟩) Q Q) := hS.xg.cell 0
        have hBm := hS.box.far (a := ⟨gg, (lostO y S D T o).getD k 0, none⟩) hS.apart.1 (.int .u64 18446744073709551615)
        have c5 : (wr.setCell ⟨gg, (lostO y S D T o).getD k 0, none⟩ (.int .u64 18446744073709551615)).cell? ⟨lp, 5, none⟩ = some (.bool (ov || decide (0 < k))) := hBm.cell 5
        have f5 := hBm.frozen 5
        have HN := Lib.hid (hS.far hk)
        subst hAe
        clear hS hBm
        generalize (lostO y S D T o).getD k 0 = q at *
        go_upto_region 7 with fail
        clear c0 c1 c2 f1
        go_wp2_with fail
        go_roundw
        case rel => exact ⟨k + 1, by go_num, HN.out⟩
        case measure => simp [intOf]; omega
      · have hle := hS.le
        obtain rfl : k = (lostO y S D T o).length := by omega
        have HS := Lib.hid hS
        clear hS hle hk
        have hgs : w.heap.size ≤ gg := HG7.out
        have hw8s := HS8.out
        have hrr := HR.out
        have HX1 := Lib.hid (place_clo (fun j => X j ∨ (w.heap.size ≤ j ∧ j < w8.heap.size)) (gg + 1) gg pb g Q n (fun j => (lostO y S D T o).contains j) (outP (goes y S D T o) n) C (by omega)
          (fun j hj => by have := outP_le (T := T) (D := D) HOr.out s1 (by have := HL.out; have := HN.out; omega) hj; omega) HCw.out ⟨.inr ⟨by omega, by omega⟩, .inr ⟨by omega, by omega⟩, .inr ⟨by omega, by omega⟩, .inr ⟨by omega, by omega⟩⟩)
        have HOw : Hid (Own wr (fun j => (X j ∨ (w.heap.size ≤ j ∧ j < w8.heap.size)) ∨ False) mp M) := Lib.hid (((HO.out.grow HO8.out).only HS.out.only (fun i hi => by
          rcases hi with rfl | rfl
          · exact .inl hX1
          · exact .inr ⟨hgs, by omega⟩)).weak (fun j hj => hj.resolve_right id))
        clear hgs hw8s hrr
        go_wp2_with fail
        refine (HEa.out (fun j => X j ∨ (w.heap.size ≤ j ∧ j < w8.heap.size)) _ _ (fun _ => False) _ _ _ HX1.out place_fn ⟨fun _ h => h, HS.out.plIn⟩ HOw.out (.inl hX1) (fun _ _ h => h) HS.out.box).mono ?_
        rintro e w9 ⟨rfl, Y', hInv, hOw, hKe, hd⟩
        have HE := Lib.hid (HS.out.last HO8.out HG7.out hX1 hKe)
        have HW := Lib.hid (hOw.weak (Y := X) (fun j hj => .inl (.inl hj)))
        clear hInv hOw hKe hd
        go_wp2_with fail
        go_end0
        exact ⟨rfl, o, HOr.out, HW.out, HE.out⟩
end Go.Proofs.YtmageeohnfomnaaGreat

