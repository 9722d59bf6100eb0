/- Texts of ours put together: LevelBack. -/
import Derived.Test.YtdbjaaalngbpgaaGreatG34
import Derived.Test.YtdbjaaalngbpgaaGreatG26
/- level: giveBack: the table's first cells are written back to the way and the stash; sortTable. -/
namespace Go.Proofs.YtdbjaaalngbpgaaGreat
set_option maxRecDepth 100000
open Go.RowKit Go.ChangeShapes Go.WideShapes Go.ChangeAt

/-- One word of a whole cell is stored over. -/
theorem Var.put {w : World} {b : Nat} {g : Nat → Int} (h : Var w b g) (k : Nat) (v : Int) : Var (w.setCell ⟨b, k, none⟩ (.int .u64 v)) b (setw g k v) := by
  refine ⟨fun j u hu => ?_, fun j hj => ?_⟩
  · have hj : j < 12 := by have := (List.getElem?_eq_some_iff.1 hu).1; simpa [CA] using this
    rw [Array.getElem?_toList, CA_at _ j hj] at hu
    injection hu with hu
    subst hu
    rw [Nat.zero_add]
    by_cases e : j = k
    · subst e
      rw [World.cell?_setCell_same _ _ _ (h.cell hj), setw_at]
    · rw [World.cell?_setCell_other _ _ _ _ (fun h => e (by injection h with _ h _; exact h.symm)), h.cell hj, setw_far _ _ _ _ e]
  · obtain ⟨h1, h2⟩ := h.there j hj
    refine ⟨?_, by rw [World.frozen?_setCell]; exact h2⟩
    rw [Nat.zero_add] at h1 ⊢
    by_cases e : j = k
    · subst e
      rw [World.cell?_setCell_same _ _ _ (h.cell hj)]; rfl
    · rw [World.cell?_setCell_other _ _ _ _ (fun h => e (by injection h with _ h _; exact h.symm))]; exact h1
theorem Var.free {w : World} {b : Nat} {g : Nat → Int} (h : Var w b g) (k : Nat) (hk : k < 12) : w.frozen? ⟨b, k, none⟩ = false := by
  have := (h.there k hk).2
  rwa [Nat.zero_add] at this
set_option maxRecDepth 100000 in
set_option maxHeartbeats 2000000 in
theorem sort_any {N S T D L n Q P : Nat} (h : Conf N S T D L n Q P) (X : Nat → Prop) (lp mp f : Nat) (ov : Bool) (mb : Option Nat) (M : MS) (w : World) (hM : LvM M f S D T Q) (hf : f ≤ 100) (hO : Own w X mp M) (hX1 : X lp)
    (hB : Box w lp 98 (LvA mp f N S T ov mb)) :
    Calls Tryz.prog 87 #[.pointer (some ⟨lp, 0, none⟩)] w (OwnPost w X mp (M.sorted (f + 2) 11 (netL P)) (.tuple #[])) := by
  have HT := Lib.hid (fun W => table_at f (N : Int) (S : Int) (T : Int) W hf)
  have HR := Lib.hid (fun W => round_of h W)
  have hQP := h.hQ
  have hP := h.hP
  have HRun := Lib.hid (fun W (ho : Own W X mp M) => run_net X mp M (f + 2) 11 P W ho (by omega) hM.hk (by rw [hQP]; exact hM.s2) (by decide) hM.wd hM.len)
  rw [hQP] at HRun
  clear h hM hQP
  go_enter Tryz.func87, Tryz.ntmps87
  refine held_s (S := fun w' => Box w' lp 98 (LvA mp f N S T ov mb)) 16 rfl (by kernel_rfl) (hB.drewN 1) (fun hHeld => ?_)
  simp only [Array.replicate_succ, Array.replicate_zero, List.push_toArray, List.nil_append, List.cons_append]
  have hO2 : Own w.drew X mp M := hO.drewN 1
  have hK2 : Kept X w w.drew := (Kept.refl X w).drewN 1
  clear hO hB
  generalize w.drew = w2 at *
  refine wpAnyH_take (i := 0) (oi := ⟨some 2, _, _, _, _, _⟩) (v := (.pointer (some ⟨lp, 0, none⟩))) rfl (by kernel_rfl) (by kernel_rfl) (by kernel_rfl) (fun _ _ _ h => h) (Or.inl ⟨by rfl, fun w' hw => by go_simp⟩) hHeld ?_
  try simp only [Act.put, List.setIfInBounds_toArray, List.set_cons_zero, List.set_cons_succ]
  refine wpAnyH_take (i := 1) (oi := ⟨some 3, _, _, _, _, _⟩) (v := (.pointer (some ⟨lp, 0, none⟩))) rfl (by kernel_rfl) (by kernel_rfl) (by kernel_rfl) (fun _ _ _ h => h) (Or.inl ⟨by rfl, fun w' hw => by go_simp⟩) hHeld ?_
  try simp only [Act.put, List.setIfInBounds_toArray, List.set_cons_zero, List.set_cons_succ]
  refine wpAnyH_take (i := 2) (oi := ⟨some 4, _, _, _, _, _⟩) (v := (.pointer (some ⟨lp, 0, none⟩))) rfl (by kernel_rfl) (by kernel_rfl) (by kernel_rfl) (fun _ _ _ h => h) (Or.inl ⟨by rfl, fun w' hw => by go_simp⟩) hHeld ?_
  try simp only [Act.put, List.setIfInBounds_toArray, List.set_cons_zero, List.set_cons_succ]
  refine wpAnyH_take (i := 3) (oi := ⟨some 5, _, _, _, _, _⟩) (v := (.pointer (some ⟨mp, 0, none⟩))) rfl (by kernel_rfl) (by kernel_rfl) (by kernel_rfl) (fun _ _ _ h => h) (Or.inl ⟨by rfl, fun w' hw => by (have k0 := lv0 hw; have k1 := lv1 hw; have k2 := lv2 hw; have k3 := lv3 hw; have k4 := lv4 hw; go_simp)⟩) hHeld ?_
  try simp only [Act.put, List.setIfInBounds_toArray, List.set_cons_zero, List.set_cons_succ]
  refine wpAnyH_take (i := 4) (oi := ⟨some 6, _, _, _, _, _⟩) (v := (.pointer (some ⟨lp, 0, none⟩))) rfl (by kernel_rfl) (by kernel_rfl) (by kernel_rfl) (fun _ _ _ h => h) (Or.inl ⟨by rfl, fun w' hw => by go_simp⟩) hHeld ?_
  try simp only [Act.put, List.setIfInBounds_toArray, List.set_cons_zero, List.set_cons_succ]
  refine wpAnyH_take (i := 5) (oi := ⟨some 7, _, _, _, _, _⟩) (v := (.pointer (some ⟨lp, 0, none⟩))) rfl (by kernel_rfl) (by kernel_rfl) (by kernel_rfl) (fun _ _ _ h => h) (Or.inl ⟨by rfl, fun w' hw => by go_simp⟩) hHeld ?_
  try simp only [Act.put, List.setIfInBounds_toArray, List.set_cons_zero, List.set_cons_succ]
  refine wpAnyH_take (i := 6) (oi := ⟨some 8, _, _, _, _, _⟩) (v := (.pointer (some ⟨lp, 1, none⟩))) rfl (by kernel_rfl) (by kernel_rfl) (by kernel_rfl) (fun _ _ _ h => h) (Or.inl ⟨by rfl, fun w' hw => by go_simp⟩) hHeld ?_
  try simp only [Act.put, List.setIfInBounds_toArray, List.set_cons_zero, List.set_cons_succ]
  refine wpAnyH_take (i := 7) (oi := ⟨some 9, _, _, _, _, _⟩) (v := (.agg #[.int .i64 (f : Int), .int .i64 (N : Int), .int .i64 (S : Int), .int .i64 (T : Int)])) rfl (by kernel_rfl) (by kernel_rfl) (by kernel_rfl) (fun _ _ _ h => h) (Or.inl ⟨by rfl, fun w' hw => by (have k0 := lv0 hw; have k1 := lv1 hw; have k2 := lv2 hw; have k3 := lv3 hw; have k4 := lv4 hw; go_simp)⟩) hHeld ?_
  try simp only [Act.put, List.setIfInBounds_toArray, List.set_cons_zero, List.set_cons_succ]
  refine wpAnyH_take (i := 9) (oi := ⟨some 11, _, _, _, _, _⟩) (v := (.pointer (some ⟨lp, 0, none⟩))) rfl (by kernel_rfl) (by kernel_rfl) (by kernel_rfl) (fun _ _ _ h => h) (Or.inl ⟨by rfl, fun w' hw => by go_simp⟩) hHeld ?_
  try simp only [Act.put, List.setIfInBounds_toArray, List.set_cons_zero, List.set_cons_succ]
  refine wpAnyH_take (i := 10) (oi := ⟨some 12, _, _, _, _, _⟩) (v := (.pointer (some ⟨lp, 0, none⟩))) rfl (by kernel_rfl) (by kernel_rfl) (by kernel_rfl) (fun _ _ _ h => h) (Or.inl ⟨by rfl, fun w' hw => by go_simp⟩) hHeld ?_
  try simp only [Act.put, List.setIfInBounds_toArray, List.set_cons_zero, List.set_cons_succ]
  refine wpAnyH_take (i := 11) (oi := ⟨some 13, _, _, _, _, _⟩) (v := (.pointer (some ⟨lp, 1, none⟩))) rfl (by kernel_rfl) (by kernel_rfl) (by kernel_rfl) (fun _ _ _ h => h) (Or.inl ⟨by rfl, fun w' hw => by go_simp⟩) hHeld ?_
  try simp only [Act.put, List.setIfInBounds_toArray, List.set_cons_zero, List.set_cons_succ]
  refine wpAnyH_take (i := 12) (oi := ⟨some 14, _, _, _, _, _⟩) (v := (.pointer (some ⟨lp, 2, none⟩))) rfl (by kernel_rfl) (by kernel_rfl) (by kernel_rfl) (fun _ _ _ h => h) (Or.inl ⟨by rfl, fun w' hw => by go_simp⟩) hHeld ?_
  try simp only [Act.put, List.setIfInBounds_toArray, List.set_cons_zero, List.set_cons_succ]
  refine wpAnyH_take (i := 13) (oi := ⟨some 15, _, _, _, _, _⟩) (v := (.agg #[.int .i64 (N : Int), .int .i64 (S : Int), .int .i64 (T : Int)])) rfl (by kernel_rfl) (by kernel_rfl) (by kernel_rfl) (fun _ _ _ h => h) (Or.inl ⟨by rfl, fun w' hw => by (have k0 := lv0 hw; have k1 := lv1 hw; have k2 := lv2 hw; have k3 := lv3 hw; have k4 := lv4 hw; go_simp)⟩) hHeld ?_
  try simp only [Act.put, List.setIfInBounds_toArray, List.set_cons_zero, List.set_cons_succ]
  refine one_ready 8 rfl (by kernel_rfl) (fun K hK => ?_)
  go_simp
  refine (HT.out _).mono ?_
  rintro e w3 ⟨rfl, hb3⟩
  have ho3 : Only nobody w2 w3 := Only.of_below hb3
  have hO3 := hO2.none ho3
  have hB3 := hHeld.only ho3 (not_nobody _)
  have hK3 := hK2.trans (Kept.of_none ho3)
  refine hK.out _ _ hB3 (fun hHeld => ?_)
  clear hK K hb3 ho3 hO2 hK2
  simp only [List.setIfInBounds_toArray, List.set_cons_zero, List.set_cons_succ]
  refine one_ready 14 rfl (by kernel_rfl) (fun K hK => ?_)
  go_simp
  refine (HR.out _).mono ?_
  rintro e w4 ⟨rfl, hb4⟩
  have ho4 : Only nobody w3 w4 := Only.of_below hb4
  have hO4 := hO3.none ho4
  have hB4 := hB3.only ho4 (not_nobody _)
  have hK4 := hK3.trans (Kept.of_none ho4)
  refine hK.out _ _ hB4 (fun hHeld => ?_)
  clear hK K hb4 ho4 hO3 hK3 hB3
  simp only [List.setIfInBounds_toArray, List.set_cons_zero, List.set_cons_succ]
  refine one_ready 15 rfl (by kernel_rfl) (fun K hK => ?_)
  go_simp
  refine (HRun.out _ hO4).mono ?_
  rintro e w5 ⟨rfl, hO5, hk⟩
  have HE := Lib.hid (And.intro hO5 (hK4.trans hk))
  have hB5 := hk.box hB4 hX1
  refine hK.out _ _ hB5 (fun hHeld => ?_)
  clear hK K hk hO4 hK4 hB4 hO5 hB5
  simp only [List.setIfInBounds_toArray, List.set_cons_zero, List.set_cons_succ]
  refine wpAnyH_done (by kernel_rfl) ?_ _
  go_wp2_with fail
  go_end0
  exact ⟨rfl, HE.out.1, HE.out.2⟩
/-- In the middle of giving back. -/
structure GbAt (w : World) (X : Nat → Prop) (mp f : Nat) (sp : Nat → Nat × Nat) (M : MS) (Z : Nat → Cl) (ev : List Ev) (i : Nat) (wr : World) : Prop where
  own : Own wr X mp (M.gone (cG sp Z M.c i) ev)
  kept : Kept X w wr
set_option maxRecDepth 100000 in
set_option maxHeartbeats 4000000 in
theorem back_any {N S T D L n Q P : Nat} (h : Conf N S T D L n Q P) (X : Nat → Prop) (lp mp f lf g cap : Nat) (ov : Bool) (mb : Option Nat) (M : MS) (C : Nat → Cl) (w : World) (hM : LvM M f S D T Q) (hlf : lf < N) (hf : f ≤ 100)
    (hC : ∀ a, a < Q → M.c (f + 2) a = C a) (hO : Own w X mp M) (hX1 : X lp) (hX3 : X g) (hB : Box w lp 98 (LvA mp f N S T ov mb)) (hs : Sps w 0 g (L + T) (spot S D f lf)) :
    Calls Tryz.prog 52 #[.pointer (some ⟨lp, 0, none⟩), .slice (some ⟨g, 0, none⟩) (L + T) cap] w fun e w' =>
      e = .returned (.tuple #[]) ∧ GbAt w X mp f (spot S D f lf) M (fun i => setw (C i) 11 0) (evG S D f lf (L + T)) (L + T) w' := by
  have HT := Lib.hid (fun W => table_at f (N : Int) (S : Int) (T : Int) W hf)
  have hlf2 : lf < 2 ^ D := by rw [h.hN]; exact hlf
  have HSp := Lib.hid (fun i hi => hM.inM (by have := h.s1; omega) h.hL hlf2 (i := i) hi)
  have hLb := h.big.1
  have ht := h.t64
  have hLQ : L + T < Q := by have := h.hn; have := h.le; omega
  have HA : Hid (GbAt w X mp f (spot S D f lf) M (fun i => setw (C i) 11 0) (evG S D f lf 0) 0 w) := Lib.hid ⟨by show Own w X mp (M.gone M.c []); rw [gone_self]; exact hO, Kept.refl _ _⟩
  have HBx := Lib.hid hB
  have HSs := Lib.hid hs
  have HC := Lib.hid hC
  have hM2 := hM.hk
  have hs2 := hM.s2
  have hml := hM.len
  clear h hO hB hs hM hlf2 hlf hC
  go_enter Tryz.func52, Tryz.ntmps52
  go_wp2_with fail
  go_loopw [9] (fun v wr => ∃ i : Nat, v = .int .i64 i ∧ i ≤ L + T ∧ GbAt w X mp f (spot S D f lf) M (fun i => setw (C i) 11 0) (evG S D f lf i) i wr) (fun v _ => L + T - (intOf v).toNat)
  case atStart => exact ⟨0, rfl, by omega, HA.out⟩
  case round =>
    obtain ⟨i, rfl, hi, hS⟩ := hrel
    clear HA
    have HS := Lib.hid hS
    by_cases hin : i < L + T
    · obtain ⟨c0, c1⟩ := (HSs.out.kept hS.kept hX3).cell i hin
      have hBw := hS.kept.box HBx.out hX1
      obtain ⟨hr, ha⟩ := HSp.out i hin
      have hel := evG_len S D f lf i
      have hcell : cG (spot S D f lf) (fun i => setw (C i) 11 0) M.c i (f + 2) i = C i := by
        rw [cG_far _ _ _ _ _ _ (fun j _ e => spot_ne (S := S) (D := D) (f := f) (lf := lf) j (by rw [e]))]
        exact HC.out i (by omega)
      have hsuc : putC (cG (spot S D f lf) (fun i => setw (C i) 11 0) M.c i) (spot S D f lf i).1 (spot S D f lf i).2 (setw (C i) 11 0) = cG (spot S D f lf) (fun i => setw (C i) 11 0) M.c (i + 1) := rfl
      have hev : evG S D f lf (i + 1) = evG S D f lf i ++ [(f + 2, i, false)] ++ [((spot S D f lf i).1, (spot S D f lf i).2, true)] := rfl
      have hown := hS.own
      have hkept := hS.kept
      clear hS HS
      generalize hsp : spot S D f lf i = sp at c0 c1 hr ha hsuc hev
      obtain ⟨sr, sa⟩ := sp
      dsimp only at c0 c1 hr ha hsuc hev
      have HCELL := Lib.hid hcell
      have HSUC := Lib.hid hsuc
      have HEV := Lib.hid hev
      generalize hcc : cG (spot S D f lf) (fun i => setw (C i) 11 0) M.c i = cc at HCELL HSUC hown
      generalize hll : evG S D f lf i = ll at HEV hown hel
      have hel2 : ll.length ≤ 600 := by omega
      have HO := Lib.hid hown
      have HK := Lib.hid hkept
      have HBw := Lib.hid hBw
      clear hown hkept hBw hcell hsuc hev hel hcc hll hsp
      obtain ⟨w9, h9⟩ : ∃ x, x = wr := ⟨_, rfl⟩
      subst h9
      go_upto_region 3 with fail
      clear c0 c1
      obtain ⟨sb, hsb⟩ : ∃ b, w9.heap.size = b := ⟨_, rfl⟩
      obtain ⟨w1', hw1⟩ : ∃ x, w9.alloc (.cells #[.int .i64 (sr : Int), .int .i64 (sa : Int)] 124) = x := ⟨_, rfl⟩
      have hO1 : Own w1' (plus1 X sb) mp (M.gone cc ll) := by rw [← hw1, ← hsb]; exact HO.out.one _
      have hB1 : Box w1' lp 98 (LvA mp f N S T ov mb) := by rw [← hw1]; exact HBw.out.alloc _
      have hs1 : Box w1' sb 124 #[.int .i64 (sr : Int), .int .i64 (sa : Int)] := by rw [← hw1, ← hsb]; exact Box.new w9 _ _
      have hK1 : Kept X w9 w1' := by rw [← hw1]; exact (Kept.refl _ _).alloc _
      rw [hsb, hw1]
      refine held_s (S := fun w' => Box w' lp 98 (LvA mp f N S T ov mb) ∧ Box w' sb 124 #[.int .i64 (sr : Int), .int .i64 (sa : Int)]) 13 rfl (by kernel_rfl) ⟨hB1.drewN 1, hs1.drewN 1⟩ (fun hHeld => ?_)
      simp only [Array.replicate_succ, Array.replicate_zero, List.push_toArray, List.nil_append, List.cons_append]
      have hO2 : Own w1'.drew (plus1 X sb) mp (M.gone cc ll) := hO1.drewN 1
      have hB2 : Box w1'.drew lp 98 (LvA mp f N S T ov mb) := hB1.drewN 1
      have hs2' : Box w1'.drew sb 124 #[.int .i64 (sr : Int), .int .i64 (sa : Int)] := hs1.drewN 1
      have hK2 : Kept X w9 w1'.drew := hK1.drewN 1
      clear hO1 hB1 hs1 hK1 hw1
      generalize w1'.drew = w2 at *
      refine wpAnyH_take (i := 0) (oi := ⟨some 14, _, _, _, _, _⟩) (v := (.pointer (some ⟨lp, 0, none⟩))) rfl (by kernel_rfl) (by kernel_rfl) (by kernel_rfl) (fun _ _ _ h => h) (Or.inl ⟨by rfl, fun w' hw => by go_simp⟩) hHeld ?_
      try simp only [Act.put, List.setIfInBounds_toArray, List.set_cons_zero, List.set_cons_succ]
      refine wpAnyH_take (i := 1) (oi := ⟨some 15, _, _, _, _, _⟩) (v := (.pointer (some ⟨lp, 0, none⟩))) rfl (by kernel_rfl) (by kernel_rfl) (by kernel_rfl) (fun _ _ _ h => h) (Or.inl ⟨by rfl, fun w' hw => by go_simp⟩) hHeld ?_
      try simp only [Act.put, List.setIfInBounds_toArray, List.set_cons_zero, List.set_cons_succ]
      refine wpAnyH_take (i := 2) (oi := ⟨some 16, _, _, _, _, _⟩) (v := (.pointer (some ⟨lp, 0, none⟩))) rfl (by kernel_rfl) (by kernel_rfl) (by kernel_rfl) (fun _ _ _ h => h) (Or.inl ⟨by rfl, fun w' hw => by go_simp⟩) hHeld ?_
      try simp only [Act.put, List.setIfInBounds_toArray, List.set_cons_zero, List.set_cons_succ]
      refine wpAnyH_take (i := 3) (oi := ⟨some 17, _, _, _, _, _⟩) (v := (.pointer (some ⟨mp, 0, none⟩))) rfl (by kernel_rfl) (by kernel_rfl) (by kernel_rfl) (fun _ _ _ h => h) (Or.inl ⟨by rfl, fun w' hw => by (have k0 := lv0 hw.1; have k1 := lv1 hw.1; have k2 := lv2 hw.1; have k3 := lv3 hw.1; have k4 := lv4 hw.1; skip; go_simp)⟩) hHeld ?_
      try simp only [Act.put, List.setIfInBounds_toArray, List.set_cons_zero, List.set_cons_succ]
      refine wpAnyH_take (i := 4) (oi := ⟨some 18, _, _, _, _, _⟩) (v := (.pointer (some ⟨lp, 0, none⟩))) rfl (by kernel_rfl) (by kernel_rfl) (by kernel_rfl) (fun _ _ _ h => h) (Or.inl ⟨by rfl, fun w' hw => by go_simp⟩) hHeld ?_
      try simp only [Act.put, List.setIfInBounds_toArray, List.set_cons_zero, List.set_cons_succ]
      refine wpAnyH_take (i := 5) (oi := ⟨some 19, _, _, _, _, _⟩) (v := (.pointer (some ⟨lp, 0, none⟩))) rfl (by kernel_rfl) (by kernel_rfl) (by kernel_rfl) (fun _ _ _ h => h) (Or.inl ⟨by rfl, fun w' hw => by go_simp⟩) hHeld ?_
      try simp only [Act.put, List.setIfInBounds_toArray, List.set_cons_zero, List.set_cons_succ]
      refine wpAnyH_take (i := 6) (oi := ⟨some 20, _, _, _, _, _⟩) (v := (.pointer (some ⟨lp, 1, none⟩))) rfl (by kernel_rfl) (by kernel_rfl) (by kernel_rfl) (fun _ _ _ h => h) (Or.inl ⟨by rfl, fun w' hw => by go_simp⟩) hHeld ?_
      try simp only [Act.put, List.setIfInBounds_toArray, List.set_cons_zero, List.set_cons_succ]
      refine wpAnyH_take (i := 7) (oi := ⟨some 21, _, _, _, _, _⟩) (v := (.agg #[.int .i64 (f : Int), .int .i64 (N : Int), .int .i64 (S : Int), .int .i64 (T : Int)])) rfl (by kernel_rfl) (by kernel_rfl) (by kernel_rfl) (fun _ _ _ h => h) (Or.inl ⟨by rfl, fun w' hw => by (have k0 := lv0 hw.1; have k1 := lv1 hw.1; have k2 := lv2 hw.1; have k3 := lv3 hw.1; have k4 := lv4 hw.1; skip; go_simp)⟩) hHeld ?_
      try simp only [Act.put, List.setIfInBounds_toArray, List.set_cons_zero, List.set_cons_succ]
      refine wpAnyH_take (i := 9) (oi := ⟨some 23, _, _, _, _, _⟩) (v := (.int .i64 (i : Int))) rfl (by kernel_rfl) (by kernel_rfl) (by kernel_rfl) (fun _ _ _ h => h) (Or.inl ⟨by rfl, fun w' hw => by go_simp⟩) hHeld ?_
      try simp only [Act.put, List.setIfInBounds_toArray, List.set_cons_zero, List.set_cons_succ]
      -- LEFT [8, 10, 11, 12]
      have HO2 := Lib.hid hO2
      have HB2 := Lib.hid hB2
      have HS2 := Lib.hid hs2'
      have HK2 := Lib.hid hK2
      clear hO2 hB2 hs2' hK2
      refine join_at (S := fun w5 cb => Own w5 (plus1 (plus1 X sb) cb) mp (M.gone cc (ll ++ [(f + 2, i, false)])) ∧ Box w5 lp 98 (LvA mp f N S T ov mb) ∧ Box w5 sb 124 #[.int .i64 (sr : Int), .int .i64 (sa : Int)] ∧ Var w5 cb (C i) ∧ Kept X w9 w5 ∧ (lp < cb ∧ sb < cb ∧ w9.heap.size ≤ cb)) (G := ?G3) (fun key => ?_) ?_
      rotate_left
      · refine wpAnyH_ready (rs := [8, 11]) (by kernel_rfl) (by simp) ?_
        refine AllReadyH.cons rfl (fun K hK => ?_) ?_
        · have hO2 := HO2.out
          have hB2 := HB2.out
          have hs2 := HS2.out
          have hK2 := HK2.out
          go_simp
          refine (HT.out _).mono ?_
          rintro e w3 ⟨rfl, hb⟩
          have ho : Only nobody w2 w3 := Only.of_below hb
          have hO3 := hO2.none ho
          have hB3 := hB2.only ho (not_nobody _)
          have hs3 := hs2.only ho (not_nobody _)
          have hK3 := hK2.trans (Kept.of_none ho)
          refine hK.out _ _ ⟨hB3, hs3⟩ (fun hHeld => ?_)
          clear hK K hb ho
          simp only [List.setIfInBounds_toArray, List.set_cons_zero, List.set_cons_succ]
          -- LEFT [10, 11, 12]
          refine wpAnyH_ready (rs := [10, 11]) (by kernel_rfl) (by simp) ?_
          refine AllReadyH.cons rfl (fun K hK => ?_) ?_
          · go_simp
            refine (own_read (plus1 X sb) mp (M.gone cc ll) w3 ((f + 2 : Nat) : Int) (i : Int) hO3 (by rw [gone_len]; omega)).mono ?_
            rintro e w4 ⟨rfl, hO4, hk⟩
            rw [gone_read (by omega) (by omega)] at hO4
            rw [gone_cell (by omega) (by omega), HCELL.out]
            have hB4 := hk.box hB3 (.inl hX1)
            have hs4 := hk.box hs3 (.inr rfl)
            have hK4 := hK3.trans (hk.mono (fun i hi => .inl hi))
            refine hK.out _ _ ⟨hB4, hs4⟩ (fun hHeld => ?_)
            clear hK K hk
            simp only [List.setIfInBounds_toArray, List.set_cons_zero, List.set_cons_succ]
            refine one_ready 11 rfl (by kernel_rfl) (fun K hK => ?_)
            go_simp
            obtain ⟨cb, hcb⟩ : ∃ c, w4.heap.size = c := ⟨_, rfl⟩
            obtain ⟨w5, hw5⟩ : ∃ x, w4.alloc (.cells (CA fun _ => 0) 64) = x := ⟨_, rfl⟩
            have hO5 : Own w5 (plus1 (plus1 X sb) cb) mp (M.gone cc (ll ++ [(f + 2, i, false)])) := by rw [← hw5, ← hcb]; exact hO4.one _
            have hB5 : Box w5 lp 98 (LvA mp f N S T ov mb) := by rw [← hw5]; exact hB4.alloc _
            have hs5 : Box w5 sb 124 #[.int .i64 (sr : Int), .int .i64 (sa : Int)] := by rw [← hw5]; exact hs4.alloc _
            have hC5 : Var w5 cb (fun _ => 0) := by rw [← hw5, ← hcb]; exact Var.new w4 _ _
            have hK5 : Kept X w9 w5 := by rw [← hw5]; exact hK4.alloc _
            have hcn : lp < cb ∧ sb < cb ∧ w9.heap.size ≤ cb := ⟨by rw [← hcb]; exact hB4.lt, by rw [← hcb]; exact hs4.lt, by rw [← hcb]; exact hK4.size⟩
            refine hK.out _ _ ⟨hB4.alloc _, hs4.alloc _⟩ (fun hHeld => ?_)
            change wpAnyH _ _ _ _ _ _ _ _ (w4.alloc (.cells (CA fun _ => 0) 64))
            rw [hw5]
            simp only [hcb]
            clear hK K hw5
            simp only [List.setIfInBounds_toArray, List.set_cons_zero, List.set_cons_succ]
            refine one_ready 12 (o := ⟨none, _, _, _, _, _⟩) rfl (by kernel_rfl) (fun K hK => ?_)
            refine step_store_cell rfl (.tmp 6) (.tmp 24) rfl cb 0 rfl (C i) rfl hC5.there ?_
            have hoc : Only (just cb) w5 (w5.setCells cb 0 (CA (C i)).toList) := only_setCells _ 0 _ (Only.refl _ _) (.inl (just_self cb))
            have hOe := hO5.setCells cb (CA (C i)).toList (.inr rfl)
            have hBe := hB5.only hoc (just_ne (by omega))
            have hse := hs5.only hoc (just_ne (by omega))
            have hCe := hC5.set (C i)
            have hKe := hK5.setCells cb (CA (C i)).toList hcn.2.2
            refine hK.out _ _ ⟨hBe, hse⟩ (fun hHeld => ?_)
            clear hK K hoc
            simp only [List.setIfInBounds_toArray, List.set_cons_zero, List.set_cons_succ]
            generalize w5.setCells cb 0 (CA (C i)).toList = we at hOe hBe hse hCe hKe ⊢
            exact key we cb ⟨hOe, hBe, hse, hCe, hKe, hcn⟩
          · refine AllReadyH.cons rfl (fun K hK => ?_) AllReadyH.nil
            go_simp
            obtain ⟨cb, hcb⟩ : ∃ c, w3.heap.size = c := ⟨_, rfl⟩
            obtain ⟨w4, hw4⟩ : ∃ x, w3.alloc (.cells (CA fun _ => 0) 64) = x := ⟨_, rfl⟩
            have hO4 : Own w4 (plus1 (plus1 X sb) cb) mp (M.gone cc ll) := by rw [← hw4, ← hcb]; exact hO3.one _
            have hB4 : Box w4 lp 98 (LvA mp f N S T ov mb) := by rw [← hw4]; exact hB3.alloc _
            have hs4 : Box w4 sb 124 #[.int .i64 (sr : Int), .int .i64 (sa : Int)] := by rw [← hw4]; exact hs3.alloc _
            have hC4 : Var w4 cb (fun _ => 0) := by rw [← hw4, ← hcb]; exact Var.new w3 _ _
            have hK4 : Kept X w9 w4 := by rw [← hw4]; exact hK3.alloc _
            have hcn : lp < cb ∧ sb < cb ∧ w9.heap.size ≤ cb := ⟨by rw [← hcb]; exact hB3.lt, by rw [← hcb]; exact hs3.lt, by rw [← hcb]; exact hK3.size⟩
            refine hK.out _ _ ⟨hB3.alloc _, hs3.alloc _⟩ (fun hHeld => ?_)
            change wpAnyH _ _ _ _ _ _ _ _ (w3.alloc (.cells (CA fun _ => 0) 64))
            rw [hw4]
            simp only [hcb]
            clear hK K hw4
            simp only [List.setIfInBounds_toArray, List.set_cons_zero, List.set_cons_succ]
            refine one_ready 10 rfl (by kernel_rfl) (fun K hK => ?_)
            go_simp
            refine (own_read (plus1 (plus1 X sb) cb) mp (M.gone cc ll) w4 ((f + 2 : Nat) : Int) (i : Int) hO4 (by rw [gone_len]; omega)).mono ?_
            rintro e w5 ⟨rfl, hO5, hk⟩
            rw [gone_read (by omega) (by omega)] at hO5
            rw [gone_cell (by omega) (by omega), HCELL.out]
            have hB5 := hk.box hB4 (.inl (.inl hX1))
            have hs5 := hk.box hs4 (.inl (.inr rfl))
            have hK5 := hK4.trans (hk.mono (fun i hi => .inl (.inl hi)))
            have hC5 := hC4.kept hk (.inr rfl)
            refine hK.out _ _ ⟨hB5, hs5⟩ (fun hHeld => ?_)
            clear hK K hk
            simp only [List.setIfInBounds_toArray, List.set_cons_zero, List.set_cons_succ]
            refine one_ready 12 (o := ⟨none, _, _, _, _, _⟩) rfl (by kernel_rfl) (fun K hK => ?_)
            refine step_store_cell rfl (.tmp 6) (.tmp 24) rfl cb 0 rfl (C i) rfl hC5.there ?_
            have hoc : Only (just cb) w5 (w5.setCells cb 0 (CA (C i)).toList) := only_setCells _ 0 _ (Only.refl _ _) (.inl (just_self cb))
            have hOe := hO5.setCells cb (CA (C i)).toList (.inr rfl)
            have hBe := hB5.only hoc (just_ne (by omega))
            have hse := hs5.only hoc (just_ne (by omega))
            have hCe := hC5.set (C i)
            have hKe := hK5.setCells cb (CA (C i)).toList hcn.2.2
            refine hK.out _ _ ⟨hBe, hse⟩ (fun hHeld => ?_)
            clear hK K hoc
            simp only [List.setIfInBounds_toArray, List.set_cons_zero, List.set_cons_succ]
            generalize w5.setCells cb 0 (CA (C i)).toList = we at hOe hBe hse hCe hKe ⊢
            exact key we cb ⟨hOe, hBe, hse, hCe, hKe, hcn⟩
        · refine AllReadyH.cons rfl (fun K hK => ?_) AllReadyH.nil
          have hO2 := HO2.out
          have hB2 := HB2.out
          have hs2 := HS2.out
          have hK2 := HK2.out
          go_simp
          obtain ⟨cb, hcb⟩ : ∃ c, w2.heap.size = c := ⟨_, rfl⟩
          obtain ⟨w3, hw3⟩ : ∃ x, w2.alloc (.cells (CA fun _ => 0) 64) = x := ⟨_, rfl⟩
          have hO3 : Own w3 (plus1 (plus1 X sb) cb) mp (M.gone cc ll) := by rw [← hw3, ← hcb]; exact hO2.one _
          have hB3 : Box w3 lp 98 (LvA mp f N S T ov mb) := by rw [← hw3]; exact hB2.alloc _
          have hs3 : Box w3 sb 124 #[.int .i64 (sr : Int), .int .i64 (sa : Int)] := by rw [← hw3]; exact hs2.alloc _
          have hC3 : Var w3 cb (fun _ => 0) := by rw [← hw3, ← hcb]; exact Var.new w2 _ _
          have hK3 : Kept X w9 w3 := by rw [← hw3]; exact hK2.alloc _
          have hcn : lp < cb ∧ sb < cb ∧ w9.heap.size ≤ cb := ⟨by rw [← hcb]; exact hB2.lt, by rw [← hcb]; exact hs2.lt, by rw [← hcb]; exact hK2.size⟩
          refine hK.out _ _ ⟨hB2.alloc _, hs2.alloc _⟩ (fun hHeld => ?_)
          change wpAnyH _ _ _ _ _ _ _ _ (w2.alloc (.cells (CA fun _ => 0) 64))
          rw [hw3]
          simp only [hcb]
          clear hK K hw3
          simp only [List.setIfInBounds_toArray, List.set_cons_zero, List.set_cons_succ]
          refine one_ready 8 rfl (by kernel_rfl) (fun K hK => ?_)
          go_simp
          refine (HT.out _).mono ?_
          rintro e w4 ⟨rfl, hb⟩
          have ho : Only nobody w3 w4 := Only.of_below hb
          have hO4 := hO3.none ho
          have hB4 := hB3.only ho (not_nobody _)
          have hs4 := hs3.only ho (not_nobody _)
          have hK4 := hK3.trans (Kept.of_none ho)
          have hC4 := hC3.nob ho
          refine hK.out _ _ ⟨hB4, hs4⟩ (fun hHeld => ?_)
          clear hK K hb ho
          simp only [List.setIfInBounds_toArray, List.set_cons_zero, List.set_cons_succ]
          refine one_ready 10 rfl (by kernel_rfl) (fun K hK => ?_)
          go_simp
          refine (own_read (plus1 (plus1 X sb) cb) mp (M.gone cc ll) w4 ((f + 2 : Nat) : Int) (i : Int) hO4 (by rw [gone_len]; omega)).mono ?_
          rintro e w5 ⟨rfl, hO5, hk⟩
          rw [gone_read (by omega) (by omega)] at hO5
          rw [gone_cell (by omega) (by omega), HCELL.out]
          have hB5 := hk.box hB4 (.inl (.inl hX1))
          have hs5 := hk.box hs4 (.inl (.inr rfl))
          have hK5 := hK4.trans (hk.mono (fun i hi => .inl (.inl hi)))
          have hC5 := hC4.kept hk (.inr rfl)
          refine hK.out _ _ ⟨hB5, hs5⟩ (fun hHeld => ?_)
          clear hK K hk
          simp only [List.setIfInBounds_toArray, List.set_cons_zero, List.set_cons_succ]
          refine one_ready 12 (o := ⟨none, _, _, _, _, _⟩) rfl (by kernel_rfl) (fun K hK => ?_)
          refine step_store_cell rfl (.tmp 6) (.tmp 24) rfl cb 0 rfl (C i) rfl hC5.there ?_
          have hoc : Only (just cb) w5 (w5.setCells cb 0 (CA (C i)).toList) := only_setCells _ 0 _ (Only.refl _ _) (.inl (just_self cb))
          have hOe := hO5.setCells cb (CA (C i)).toList (.inr rfl)
          have hBe := hB5.only hoc (just_ne (by omega))
          have hse := hs5.only hoc (just_ne (by omega))
          have hCe := hC5.set (C i)
          have hKe := hK5.setCells cb (CA (C i)).toList hcn.2.2
          refine hK.out _ _ ⟨hBe, hse⟩ (fun hHeld => ?_)
          clear hK K hoc
          simp only [List.setIfInBounds_toArray, List.set_cons_zero, List.set_cons_succ]
          generalize w5.setCells cb 0 (CA (C i)).toList = we at hOe hBe hse hCe hKe ⊢
          exact key we cb ⟨hOe, hBe, hse, hCe, hKe, hcn⟩
      intro w5 cb hkey
      obtain ⟨hO5, hB5, hs5, hC5, hK5, hcn⟩ := hkey
      refine wpAnyH_done (by kernel_rfl) ?_ _
      have hfc := hC5.free 11 (by decide)
      have hcc11 := hC5.cell (κ := 11) (by decide)
      have hO6 := hO5.only (Only.setCell (p := ⟨cb, 11, none⟩) (Only.refl (just cb) w5) (.inl (just_self cb)) (.int .u64 0)) (fun j hj => by have e : j = cb := hj; subst e; exact .inr rfl)
      have hB6 := hB5.far (a := ⟨cb, 11, none⟩) (by show lp ≠ cb; omega) (.int .u64 0)
      have hs6 := hs5.far (a := ⟨cb, 11, none⟩) (by show sb ≠ cb; omega) (.int .u64 0)
      have hC6 := hC5.put 11 0
      have hK6 : Kept X w9 (w5.setCell ⟨cb, 11, none⟩ (.int .u64 0)) := Only.setCell (p := ⟨cb, 11, none⟩) hK5 (.inr hcn.2.2) (.int .u64 0)
      have HO6 := Lib.hid hO6
      have HB6 := Lib.hid hB6
      have HS6 := Lib.hid hs6
      have HC6 := Lib.hid hC6
      have HK6 := Lib.hid hK6
      clear hO5 hB5 hs5 hC5 hK5 hO6 hB6 hs6 hC6 hK6
      go_upto_region 5 with fail
      clear hfc hcc11
      generalize w5.setCell ⟨cb, 11, none⟩ (.int .u64 0) = w6 at *
      refine held_s (S := fun w' => Box w' lp 98 (LvA mp f N S T ov mb) ∧ Box w' sb 124 #[.int .i64 (sr : Int), .int .i64 (sa : Int)] ∧ Var w' cb (setw (C i) 11 0)) 10 rfl (by kernel_rfl) ⟨HB6.out.drewN 1, HS6.out.drewN 1, HC6.out.drew⟩ (fun hHeld => ?_)
      simp only [Array.replicate_succ, Array.replicate_zero, List.push_toArray, List.nil_append, List.cons_append]
      have hO7 : Own w6.drew (plus1 (plus1 X sb) cb) mp (M.gone cc (ll ++ [(f + 2, i, false)])) := HO6.out.drewN 1
      have hB7 : Box w6.drew lp 98 (LvA mp f N S T ov mb) := HB6.out.drewN 1
      have hs7 : Box w6.drew sb 124 #[.int .i64 (sr : Int), .int .i64 (sa : Int)] := HS6.out.drewN 1
      have hC7 : Var w6.drew cb (setw (C i) 11 0) := HC6.out.drew
      have hK7 : Kept X w9 w6.drew := HK6.out.drewN 1
      clear HO6 HB6 HS6 HC6 HK6
      generalize w6.drew = w7 at *
      refine wpAnyH_take (i := 0) (oi := ⟨some 26, _, _, _, _, _⟩) (v := (.pointer (some ⟨lp, 0, none⟩))) rfl (by kernel_rfl) (by kernel_rfl) (by kernel_rfl) (fun _ _ _ h => h) (Or.inl ⟨by rfl, fun w' hw => by go_simp⟩) hHeld ?_
      try simp only [Act.put, List.setIfInBounds_toArray, List.set_cons_zero, List.set_cons_succ]
      refine wpAnyH_take (i := 1) (oi := ⟨some 27, _, _, _, _, _⟩) (v := (.pointer (some ⟨lp, 0, none⟩))) rfl (by kernel_rfl) (by kernel_rfl) (by kernel_rfl) (fun _ _ _ h => h) (Or.inl ⟨by rfl, fun w' hw => by go_simp⟩) hHeld ?_
      try simp only [Act.put, List.setIfInBounds_toArray, List.set_cons_zero, List.set_cons_succ]
      refine wpAnyH_take (i := 2) (oi := ⟨some 28, _, _, _, _, _⟩) (v := (.pointer (some ⟨lp, 0, none⟩))) rfl (by kernel_rfl) (by kernel_rfl) (by kernel_rfl) (fun _ _ _ h => h) (Or.inl ⟨by rfl, fun w' hw => by go_simp⟩) hHeld ?_
      try simp only [Act.put, List.setIfInBounds_toArray, List.set_cons_zero, List.set_cons_succ]
      refine wpAnyH_take (i := 3) (oi := ⟨some 29, _, _, _, _, _⟩) (v := (.pointer (some ⟨mp, 0, none⟩))) rfl (by kernel_rfl) (by kernel_rfl) (by kernel_rfl) (fun _ _ _ h => h) (Or.inl ⟨by rfl, fun w' hw => by (have k0 := lv0 hw.1; have k1 := lv1 hw.1; have k2 := lv2 hw.1; have k3 := lv3 hw.1; have k4 := lv4 hw.1; have s0 := hw.2.1.cell 0; have s1 := hw.2.1.cell 1; go_simp)⟩) hHeld ?_
      try simp only [Act.put, List.setIfInBounds_toArray, List.set_cons_zero, List.set_cons_succ]
      refine wpAnyH_take (i := 4) (oi := ⟨some 30, _, _, _, _, _⟩) (v := (.pointer (some ⟨sb, 0, none⟩))) rfl (by kernel_rfl) (by kernel_rfl) (by kernel_rfl) (fun _ _ _ h => h) (Or.inl ⟨by rfl, fun w' hw => by go_simp⟩) hHeld ?_
      try simp only [Act.put, List.setIfInBounds_toArray, List.set_cons_zero, List.set_cons_succ]
      refine wpAnyH_take (i := 5) (oi := ⟨some 31, _, _, _, _, _⟩) (v := (.int .i64 (sr : Int))) rfl (by kernel_rfl) (by kernel_rfl) (by kernel_rfl) (fun _ _ _ h => h) (Or.inl ⟨by rfl, fun w' hw => by (have k0 := lv0 hw.1; have k1 := lv1 hw.1; have k2 := lv2 hw.1; have k3 := lv3 hw.1; have k4 := lv4 hw.1; have s0 := hw.2.1.cell 0; have s1 := hw.2.1.cell 1; go_simp)⟩) hHeld ?_
      try simp only [Act.put, List.setIfInBounds_toArray, List.set_cons_zero, List.set_cons_succ]
      refine wpAnyH_take (i := 6) (oi := ⟨some 32, _, _, _, _, _⟩) (v := (.pointer (some ⟨sb, 1, none⟩))) rfl (by kernel_rfl) (by kernel_rfl) (by kernel_rfl) (fun _ _ _ h => h) (Or.inl ⟨by rfl, fun w' hw => by go_simp⟩) hHeld ?_
      try simp only [Act.put, List.setIfInBounds_toArray, List.set_cons_zero, List.set_cons_succ]
      refine wpAnyH_take (i := 7) (oi := ⟨some 33, _, _, _, _, _⟩) (v := (.int .i64 (sa : Int))) rfl (by kernel_rfl) (by kernel_rfl) (by kernel_rfl) (fun _ _ _ h => h) (Or.inl ⟨by rfl, fun w' hw => by (have k0 := lv0 hw.1; have k1 := lv1 hw.1; have k2 := lv2 hw.1; have k3 := lv3 hw.1; have k4 := lv4 hw.1; have s0 := hw.2.1.cell 0; have s1 := hw.2.1.cell 1; go_simp)⟩) hHeld ?_
      try simp only [Act.put, List.setIfInBounds_toArray, List.set_cons_zero, List.set_cons_succ]
      refine take_row 8 (oi := ⟨some 34, _, _, _, _, _⟩) (CA (setw (C i) 11 0)).toList rfl (by kernel_rfl) (by kernel_rfl) (by kernel_rfl) (fun _ _ _ h => h) (by rfl) _ _ rfl _ _ rfl _ (fun w' hw => hw.2.2.rng) Tryz.underlying64 rfl (infoCellL (setw (C i) 11 0)) hHeld ?_
      try simp only [Act.put, List.setIfInBounds_toArray, List.set_cons_zero, List.set_cons_succ]
      refine one_ready 9 rfl (by kernel_rfl) (fun K hK => ?_)
      go_simp
      refine (own_write _ mp (M.gone cc (ll ++ [(f + 2, i, false)])) w7 (sr : Int) (sa : Int) (setw (C i) 11 0) hO7 (by rw [gone_len, List.length_append]; simp only [List.length_cons, List.length_nil]; omega)).mono ?_
      rintro e w8 ⟨rfl, ho, hk⟩
      rw [gone_write hr ha, HSUC.out, ← HEV.out] at ho
      have hB8 := hk.box hB7 (.inl (.inl hX1))
      have hs8 := hk.box hs7 (.inl (.inr rfl))
      have hC8 := hC7.kept hk (.inr rfl)
      have HE : Hid (GbAt w X mp f (spot S D f lf) M (fun i => setw (C i) 11 0) (evG S D f lf (i + 1)) (i + 1) w8) := Lib.hid ⟨ho.weak (fun j hj => .inl (.inl hj)), (HK.out.trans hK7).trans (hk.mono (fun j hj => .inl (.inl hj)))⟩
      refine hK.out _ _ ⟨hB8, hs8, hC8⟩ (fun hHeld => ?_)
      clear hK K hk ho hO7 hB7 hs7 hC7 hK7 hB8 hs8 hC8
      simp only [List.setIfInBounds_toArray, List.set_cons_zero, List.set_cons_succ]
      refine wpAnyH_done (by kernel_rfl) ?_ _
      go_wp2_with fail
      go_roundw
      case rel => exact ⟨i + 1, by go_num, by omega, HE.out⟩
      case measure => simp [intOf]; omega
    · obtain rfl : i = L + T := by omega
      clear hS
      go_wp2_with fail
      go_end0
      exact ⟨rfl, HS.out⟩
end Go.Proofs.YtdbjaaalngbpgaaGreat
