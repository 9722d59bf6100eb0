/- Texts of ours put together: LevelAdd. -/
import Derived.Test.YtdbjaaalngbpgaaGreatG34
/- level: add: the block is written behind the cells of the way and the stash, and noughts behind it; the item of a cell. -/
namespace Go.Proofs.YtdbjaaalngbpgaaGreat
set_option maxRecDepth 100000
open Go.RowKit Go.ChangeShapes Go.WideShapes Go.ChangeAt

/-- A cell as it may stand: of a block whose leaf there is, or of none. -/
def GoodC (N : Nat) (g : Cl) : Prop := Wd g ∧ (g 0 = 1 → (g 1 ≤ 2147483648) ∧ ∃ l : Nat, g 2 = (l : Int) ∧ l < N)
def itA (y : It) : Array Value := #[.int .u64 y.1, .int .i64 y.2]
set_option maxRecDepth 100000 in
set_option maxHeartbeats 2000000 in
theorem item_any {N S T D L n Q P : Nat} (h : Conf N S T D L n Q P) (lf : Nat) (g : Nat → Int) (w : World) (hlf : lf < N) (hg : GoodC N g) :
    Calls Tryz.prog 103 #[.agg #[.int .i64 (N : Int), .int .i64 (S : Int), .int .i64 (T : Int)], .agg (CA g), .int .i64 (lf : Int)] w fun e w' => e = .returned (.agg (itA (itemOf (dpW D lf) g))) ∧ Only nobody w w' := by
  have HH := Lib.hid (fun W => has_any g W)
  obtain ⟨b, hb⟩ : ∃ b, w.heap.size = b := ⟨_, rfl⟩
  obtain ⟨w2, hw2⟩ : ∃ w2, ((w.alloc (.cells #[.int .i64 (N : Int), .int .i64 (S : Int), .int .i64 (T : Int)] 25)).alloc (.cells (CA g) 64)).alloc (.cells #[.int .u64 0, .int .i64 0] 157) = w2 := ⟨_, rfl⟩
  have hx : Box w2 b 25 #[.int .i64 (N : Int), .int .i64 (S : Int), .int .i64 (T : Int)] := by rw [← hw2, ← hb]; exact ((Box.new w _ _).alloc _).alloc _
  have hy : Var w2 (b + 1) g := by
    rw [← hw2, ← hb]
    have := (Var.new (w.alloc (.cells #[.int .i64 (N : Int), .int .i64 (S : Int), .int .i64 (T : Int)] 25)) g 64).alloc (.cells #[.int .u64 0, .int .i64 0] 157)
    have e : (w.alloc (.cells #[.int .i64 (N : Int), .int .i64 (S : Int), .int .i64 (T : Int)] 25)).heap.size = w.heap.size + 1 := by simp
    rw [e] at this
    exact this
  have hz : Box w2 (b + 2) 157 #[.int .u64 0, .int .i64 0] := by
    rw [← hw2, ← hb]
    have := Box.new ((w.alloc (.cells #[.int .i64 (N : Int), .int .i64 (S : Int), .int .i64 (T : Int)] 25)).alloc (.cells (CA g) 64)) 157 #[.int .u64 0, .int .i64 0]
    have e : ((w.alloc (.cells #[.int .i64 (N : Int), .int .i64 (S : Int), .int .i64 (T : Int)] 25)).alloc (.cells (CA g) 64)).heap.size = w.heap.size + 2 := by simp
    rw [e] at this
    exact this
  have ho2 : Only nobody w w2 := by rw [← hw2]; exact (((Only.refl nobody w).alloc _).alloc _).alloc _
  have HX := Lib.hid hx
  have HY := Lib.hid hy
  have HZ := Lib.hid hz
  have HO := Lib.hid ho2
  have HW2 := Lib.hid hw2
  have HBb := Lib.hid hb
  clear hx hy hz ho2 hw2 hb
  have e2 : b + 1 + 1 = b + 2 := rfl
  go_enter Tryz.func103, Tryz.ntmps103
  go_upto_region 1 with fail
  rw [HBb.out]
  simp only [HW2.out, e2]
  go_wp2_with (with_reducible refine wpList_load_cell rfl (.tmp 4) rfl (b + 1) 0 rfl g HY.out.rng ?_)
  refine (HH.out _).mono ?_
  rintro e w3 ⟨rfl, hb3⟩
  have ho3 : Only nobody w2 w3 := Only.of_below hb3
  have HX3 := Lib.hid (HX.out.only ho3 (not_nobody _))
  have HY3 := Lib.hid (HY.out.nob ho3)
  have HZ3 := Lib.hid (HZ.out.only ho3 (not_nobody _))
  have HO3 := Lib.hid (HO.out.trans ho3)
  have hbw : b + 2 < w3.heap.size := HZ3.out.lt
  clear hb3 ho3 HX HY HZ HO
  by_cases h0 : g 0 = 1
  · have e0 : (g 0 == 1) = true := by rw [beq_iff_eq]; exact h0
    obtain ⟨h1, l, hl, hlN⟩ := hg.2 h0
    have hn1 := h.n1
    have hDp := deep_turn D lf l (by rw [h.hN]; exact hlf) (by rw [h.hN]; exact hlN)
    have HDp := Lib.hid (fun W => deep_in D N l lf W h.hD h.hN hlN hlf)
    have hit : itemOf (dpW D lf) g = (g 1, ((deep D l lf D : Nat) : Int)) := by
      unfold itemOf dpW
      rw [if_pos h0, hl, Int.toNat_natCast, hDp]
    have hc : IntKind.i64.wrap (l : Int) = (l : Int) := by rw [IntKind.wrap_i64]; omega
    have HIt := Lib.hid hit
    have hg1 := HY3.out.cell (κ := 1) (by decide)
    generalize hq : deep D l lf D = q at *
    clear hDp hit hq hg
    rw [e0]
    go_wp2_with fail
    refine held_s (S := fun w' => Box w' b 25 #[.int .i64 (N : Int), .int .i64 (S : Int), .int .i64 (T : Int)] ∧ Var w' (b + 1) g) 11 rfl (by kernel_rfl) ⟨HX3.out.drewN 1, HY3.out.drew⟩ (fun hHeld => ?_)
    simp only [Array.replicate_succ, Array.replicate_zero, List.push_toArray, List.nil_append, List.cons_append]
    have z0 := (HZ3.out.drewN 1).cell 0
    have z1 := (HZ3.out.drewN 1).cell 1
    have f0 := (HZ3.out.drewN 1).frozen 0
    have f1 := (HZ3.out.drewN 1).frozen 1
    have HZ4 : Hid (Box w3.drew (b + 2) 157 #[.int .u64 0, .int .i64 0]) := Lib.hid (HZ3.out.drewN 1)
    have HO4 : Hid (Only nobody w w3.drew) := Lib.hid HO3.out.drew
    change w3.drew.cell? _ = _ at z0
    change w3.drew.cell? _ = _ at z1
    change w3.drew.frozen? _ = _ at f0
    change w3.drew.frozen? _ = _ at f1
    clear HX3 HY3 HZ3 HO3 hg1
    generalize w3.drew = w4 at *
    refine wpAnyH_take (i := 0) (oi := ⟨some 11, _, _, _, _, _⟩) (v := (.pointer (some ⟨b + 1, 1, none⟩))) rfl (by kernel_rfl) (by kernel_rfl) (by kernel_rfl) (fun _ _ _ h => h) (Or.inl ⟨by rfl, fun w' hw => by go_simp⟩) hHeld ?_
    try simp only [Act.put, List.setIfInBounds_toArray, List.set_cons_zero, List.set_cons_succ]
    refine wpAnyH_take (i := 1) (oi := ⟨some 12, _, _, _, _, _⟩) (v := (.int .u64 (g 1))) rfl (by kernel_rfl) (by kernel_rfl) (by kernel_rfl) (fun _ _ _ h => h) (Or.inl ⟨by rfl, fun w' hw => by (have k0 := hw.1.cell 0; have k1 := hw.2.cell (κ := 1) (by decide); have k2 := hw.2.cell (κ := 2) (by decide); rw [hl] at k2; go_simp)⟩) hHeld ?_
    try simp only [Act.put, List.setIfInBounds_toArray, List.set_cons_zero, List.set_cons_succ]
    refine wpAnyH_take (i := 2) (oi := ⟨some 13, _, _, _, _, _⟩) (v := (.pointer (some ⟨b, 0, none⟩))) rfl (by kernel_rfl) (by kernel_rfl) (by kernel_rfl) (fun _ _ _ h => h) (Or.inl ⟨by rfl, fun w' hw => by go_simp⟩) hHeld ?_
    try simp only [Act.put, List.setIfInBounds_toArray, List.set_cons_zero, List.set_cons_succ]
    refine wpAnyH_take (i := 3) (oi := ⟨some 14, _, _, _, _, _⟩) (v := (.int .i64 (N : Int))) rfl (by kernel_rfl) (by kernel_rfl) (by kernel_rfl) (fun _ _ _ h => h) (Or.inl ⟨by rfl, fun w' hw => by (have k0 := hw.1.cell 0; have k1 := hw.2.cell (κ := 1) (by decide); have k2 := hw.2.cell (κ := 2) (by decide); rw [hl] at k2; go_simp)⟩) hHeld ?_
    try simp only [Act.put, List.setIfInBounds_toArray, List.set_cons_zero, List.set_cons_succ]
    refine wpAnyH_take (i := 4) (oi := ⟨some 15, _, _, _, _, _⟩) (v := (.pointer (some ⟨b + 1, 2, none⟩))) rfl (by kernel_rfl) (by kernel_rfl) (by kernel_rfl) (fun _ _ _ h => h) (Or.inl ⟨by rfl, fun w' hw => by go_simp⟩) hHeld ?_
    try simp only [Act.put, List.setIfInBounds_toArray, List.set_cons_zero, List.set_cons_succ]
    refine wpAnyH_take (i := 5) (oi := ⟨some 16, _, _, _, _, _⟩) (v := (.int .u64 (l : Int))) rfl (by kernel_rfl) (by kernel_rfl) (by kernel_rfl) (fun _ _ _ h => h) (Or.inl ⟨by rfl, fun w' hw => by (have k0 := hw.1.cell 0; have k1 := hw.2.cell (κ := 1) (by decide); have k2 := hw.2.cell (κ := 2) (by decide); rw [hl] at k2; go_simp)⟩) hHeld ?_
    try simp only [Act.put, List.setIfInBounds_toArray, List.set_cons_zero, List.set_cons_succ]
    refine wpAnyH_take (i := 6) (oi := ⟨some 17, _, _, _, _, _⟩) (v := (.int .i64 (l : Int))) rfl (by kernel_rfl) (by kernel_rfl) (by kernel_rfl) (fun _ _ _ h => h) (Or.inl ⟨by rfl, fun w' hw => by go_simp⟩) hHeld ?_
    try simp only [Act.put, List.setIfInBounds_toArray, List.set_cons_zero, List.set_cons_succ]
    refine wpAnyH_take (i := 7) (oi := ⟨some 18, _, _, _, _, _⟩) (v := (.int .i64 (lf : Int))) rfl (by kernel_rfl) (by kernel_rfl) (by kernel_rfl) (fun _ _ _ h => h) (Or.inl ⟨by rfl, fun w' hw => by go_simp⟩) hHeld ?_
    try simp only [Act.put, List.setIfInBounds_toArray, List.set_cons_zero, List.set_cons_succ]
    refine one_ready 8 rfl (by kernel_rfl) (fun K hK => ?_)
    go_simp
    refine (HDp.out _).mono ?_
    rintro e w5 ⟨rfl, hw5⟩
    obtain rfl : w4 = w5 := hw5.symm
    refine hK.out _ _ hHeld (fun hHeld => ?_)
    clear hK K
    simp only [List.setIfInBounds_toArray, List.set_cons_zero, List.set_cons_succ]
    refine wpAnyH_take (i := 9) (oi := ⟨some 20, _, _, _, _, _⟩) (v := (.agg #[.int .u64 (g 1), .int .i64 (q : Int)])) rfl (by kernel_rfl) (by kernel_rfl) (by kernel_rfl) (fun _ _ _ h => h) (Or.inl ⟨by rfl, fun w' hw => by go_simp⟩) hHeld ?_
    try simp only [Act.put, List.setIfInBounds_toArray, List.set_cons_zero, List.set_cons_succ]
    refine one_ready 10 (o := ⟨none, _, _, _, _, _⟩) rfl (by kernel_rfl) (fun K hK => ?_)
    go_simp
    have hbb := HBb.out
    have hZf : Box ((w4.setCell ⟨b + 2, 0, none⟩ (.int .u64 (g 1))).setCell ⟨b + 2, 1, none⟩ (.int .i64 (q : Int))) (b + 2) 157 #[.int .u64 (g 1), .int .i64 (q : Int)] := (HZ4.out.put 0 _).put 1 _
    have hOf : Only nobody w ((w4.setCell ⟨b + 2, 0, none⟩ (.int .u64 (g 1))).setCell ⟨b + 2, 1, none⟩ (.int .i64 (q : Int))) := (HO4.out.setCell (p := ⟨b + 2, 0, none⟩) (.inr (by show w.heap.size ≤ b + 2; omega)) _).setCell (p := ⟨b + 2, 1, none⟩) (.inr (by show w.heap.size ≤ b + 2; omega)) _
    have hoj : Only (just (b + 2)) w4 ((w4.setCell ⟨b + 2, 0, none⟩ (.int .u64 (g 1))).setCell ⟨b + 2, 1, none⟩ (.int .i64 (q : Int))) := ((Only.refl _ w4).setCell (p := ⟨b + 2, 0, none⟩) (.inl (just_self _)) _).setCell (p := ⟨b + 2, 1, none⟩) (.inl (just_self _)) _
    refine hK.out _ _ ⟨hHeld.1.only hoj (just_ne (by omega)), hHeld.2.only hoj (just_ne (by omega))⟩ (fun _ => ?_)
    clear hK K
    have HZf := Lib.hid hZf
    have HOf := Lib.hid hOf
    clear hZf hOf hoj z0 z1 f0 f1 hHeld
    refine wpAnyH_done (by kernel_rfl) ?_ _
    go_wp2_with fail
    exact bodyPost_ret (v := .agg #[.int .u64 (g 1), .int .i64 (q : Int)]) (results_one Tryz.results103 rfl (load_box HZf.out Tryz.underlying157 rfl (by kernel_rfl))) rfl ⟨by rw [HIt.out]; rfl, HOf.out⟩
  · have e0 : (g 0 == 1) = false := by rw [beq_eq_false_iff_ne]; exact h0
    have hit : itemOf (dpW D lf) g = (0, -1) := by unfold itemOf; rw [if_neg h0]
    have HIt := Lib.hid hit
    have z0 := HZ3.out.cell 0
    have z1 := HZ3.out.cell 1
    have f0 := HZ3.out.frozen 0
    have f1 := HZ3.out.frozen 1
    have HZf : Hid (Box ((w3.setCell ⟨b + 2, 0, none⟩ (.int .u64 0)).setCell ⟨b + 2, 1, none⟩ (.int .i64 (-1))) (b + 2) 157 #[.int .u64 0, .int .i64 (-1)]) := Lib.hid ((HZ3.out.put 0 _).put 1 _)
    have HE : Hid (Only nobody w ((w3.setCell ⟨b + 2, 0, none⟩ (.int .u64 0)).setCell ⟨b + 2, 1, none⟩ (.int .i64 (-1)))) := Lib.hid ((HO3.out.setCell (p := ⟨b + 2, 0, none⟩) (.inr (by have := HBb.out; show w.heap.size ≤ b + 2; omega)) _).setCell (p := ⟨b + 2, 1, none⟩) (.inr (by have := HBb.out; show w.heap.size ≤ b + 2; omega)) _)
    clear hit HX3 HY3 HZ3 HO3
    rw [e0]
    go_wp2_with fail
    exact bodyPost_ret (v := .agg #[.int .u64 0, .int .i64 (-1)]) (results_one Tryz.results103 rfl (load_box HZf.out Tryz.underlying157 rfl (by kernel_rfl))) rfl ⟨by rw [HIt.out]; rfl, HE.out⟩
theorem evF_past (S D T f lf i : Nat) (hi : (D + 1) * S + T ≤ i) : evF S D T f lf (i + 1) = evF S D T f lf i ++ [(f + 2, i, true)] := by
  show evF S D T f lf i ++ (if i < (D + 1) * S + T then _ else _) ++ _ = _
  rw [if_neg (by omega), List.append_nil]
set_option maxRecDepth 100000 in
set_option maxHeartbeats 4000000 in
theorem add_any {N S T D L n Q P : Nat} (h : Conf N S T D L n Q P) (X : Nat → Prop) (lp mp f lf : Nat) (ov : Bool) (mb : Option Nat) (M : MS) (B : Nat → Int) (Z : Nat → Cl) (w : World) (hM : LvM M f S D T Q) (hf : f ≤ 100)
    (hZ : Z (L + T) = B) (hZn : ∀ j, L + T < j → Z j = nul) (hO : Own w X mp (M.gone (cT (f + 2) Z M.c (L + T)) (evF S D T f lf (L + T)))) (hX1 : X lp) (hB : Box w lp 98 (LvA mp f N S T ov mb)) :
    Calls Tryz.prog 49 #[.pointer (some ⟨lp, 0, none⟩), .int .i64 ((L + T : Nat) : Int), .agg (CA B)] w (OwnPost w X mp (M.gone (cT (f + 2) Z M.c Q) (evF S D T f lf Q)) (.tuple #[])) := by
  have HT := Lib.hid (fun W => table_at f (N : Int) (S : Int) (T : Int) W hf)
  have HR := Lib.hid (fun W => round_of h W)
  have HEv := Lib.hid (fun i hi => evF_past S D T f lf i (by rw [h.hL]; exact hi))
  have hLn := h.hn
  have hnQ := h.le
  have hQ := h.big.2.2.2
  have hLb := h.big.1
  have ht := h.t64
  have hM2 := hM.hk
  have hs2 := hM.s2
  have hml := hM.len
  have HZn := Lib.hid hZn
  have hev0 := HEv.out (L + T) (Nat.le_refl _)
  have hel0 := evF_len S D T f lf (L + T)
  have hsuc0 := cT_succ (t := f + 2) (X := Z) (c := M.c) (i := L + T)
  rw [hZ] at hsuc0
  have HSUC0 := Lib.hid hsuc0
  have HEV0 := Lib.hid hev0
  obtain ⟨m, hm⟩ : ∃ m, L + T = m := ⟨_, rfl⟩
  rw [hm] at hO HSUC0 HEV0 HZn hel0 HEv
  rw [hm]
  have hmQ : m + 1 ≤ Q := by omega
  have hmb : m ≤ 152 := by omega
  generalize hcc : cT (f + 2) Z M.c m = cc at hO HSUC0
  generalize hll : evF S D T f lf m = ll at hO HEV0 hel0
  have hel2 : ll.length ≤ 400 := by omega
  clear h hM hZ hZn hev0 hsuc0 hel0 hcc hll hLn hnQ hm
  obtain ⟨b, hb⟩ : ∃ b, w.heap.size = b := ⟨_, rfl⟩
  obtain ⟨w1, hw1⟩ : ∃ x, w.alloc (.cells (CA B) 64) = x := ⟨_, rfl⟩
  have hO1 : Own w1 (plus1 X b) mp (M.gone cc ll) := by rw [← hw1, ← hb]; exact hO.one _
  have hB1 : Box w1 lp 98 (LvA mp f N S T ov mb) := by rw [← hw1]; exact hB.alloc _
  have hV1 : Var w1 b B := by rw [← hw1, ← hb]; exact Var.new w _ _
  have hK1 : Kept X w w1 := by rw [← hw1]; exact (Kept.refl _ _).alloc _
  have HW1 := Lib.hid hw1
  have HBb := Lib.hid hb
  clear hO hB hw1 hb
  go_enter Tryz.func49, Tryz.ntmps49
  go_upto_region 1 with fail
  rw [HBb.out, HW1.out]
  refine held_s (S := fun w' => Box w' lp 98 (LvA mp f N S T ov mb) ∧ Var w' b B) 12 rfl (by kernel_rfl) ⟨hB1.drewN 1, hV1.drew⟩ (fun hHeld => ?_)
  simp only [Array.replicate_succ, Array.replicate_zero, List.push_toArray, List.nil_append, List.cons_append]
  have hO2 : Own w1.drew (plus1 X b) mp (M.gone cc ll) := hO1.drewN 1
  have hB2 : Box w1.drew lp 98 (LvA mp f N S T ov mb) := hB1.drewN 1
  have hV2 : Var w1.drew b B := hV1.drew
  have hK2 : Kept X w w1.drew := hK1.drewN 1
  clear hO1 hB1 hV1 hK1 HW1
  generalize w1.drew = w2 at *
  refine wpAnyH_take (i := 0) (oi := ⟨some 7, _, _, _, _, _⟩) (v := (.pointer (some ⟨lp, 0, none⟩))) rfl (by kernel_rfl) (by kernel_rfl) (by kernel_rfl) (fun _ _ _ h => h) (Or.inl ⟨by rfl, fun w' hw => by go_simp⟩) hHeld ?_
  try simp only [Act.put, List.setIfInBounds_toArray, List.set_cons_zero, List.set_cons_succ]
  refine wpAnyH_take (i := 1) (oi := ⟨some 8, _, _, _, _, _⟩) (v := (.pointer (some ⟨lp, 0, none⟩))) rfl (by kernel_rfl) (by kernel_rfl) (by kernel_rfl) (fun _ _ _ h => h) (Or.inl ⟨by rfl, fun w' hw => by go_simp⟩) hHeld ?_
  try simp only [Act.put, List.setIfInBounds_toArray, List.set_cons_zero, List.set_cons_succ]
  refine wpAnyH_take (i := 2) (oi := ⟨some 9, _, _, _, _, _⟩) (v := (.pointer (some ⟨lp, 0, none⟩))) rfl (by kernel_rfl) (by kernel_rfl) (by kernel_rfl) (fun _ _ _ h => h) (Or.inl ⟨by rfl, fun w' hw => by go_simp⟩) hHeld ?_
  try simp only [Act.put, List.setIfInBounds_toArray, List.set_cons_zero, List.set_cons_succ]
  refine wpAnyH_take (i := 3) (oi := ⟨some 10, _, _, _, _, _⟩) (v := (.pointer (some ⟨mp, 0, none⟩))) rfl (by kernel_rfl) (by kernel_rfl) (by kernel_rfl) (fun _ _ _ h => h) (Or.inl ⟨by rfl, fun w' hw => by (have k0 := lv0 hw.1; have k1 := lv1 hw.1; have k2 := lv2 hw.1; have k3 := lv3 hw.1; have k4 := lv4 hw.1; skip; go_simp)⟩) hHeld ?_
  try simp only [Act.put, List.setIfInBounds_toArray, List.set_cons_zero, List.set_cons_succ]
  refine wpAnyH_take (i := 4) (oi := ⟨some 11, _, _, _, _, _⟩) (v := (.pointer (some ⟨lp, 0, none⟩))) rfl (by kernel_rfl) (by kernel_rfl) (by kernel_rfl) (fun _ _ _ h => h) (Or.inl ⟨by rfl, fun w' hw => by go_simp⟩) hHeld ?_
  try simp only [Act.put, List.setIfInBounds_toArray, List.set_cons_zero, List.set_cons_succ]
  refine wpAnyH_take (i := 5) (oi := ⟨some 12, _, _, _, _, _⟩) (v := (.pointer (some ⟨lp, 0, none⟩))) rfl (by kernel_rfl) (by kernel_rfl) (by kernel_rfl) (fun _ _ _ h => h) (Or.inl ⟨by rfl, fun w' hw => by go_simp⟩) hHeld ?_
  try simp only [Act.put, List.setIfInBounds_toArray, List.set_cons_zero, List.set_cons_succ]
  refine wpAnyH_take (i := 6) (oi := ⟨some 13, _, _, _, _, _⟩) (v := (.pointer (some ⟨lp, 1, none⟩))) rfl (by kernel_rfl) (by kernel_rfl) (by kernel_rfl) (fun _ _ _ h => h) (Or.inl ⟨by rfl, fun w' hw => by go_simp⟩) hHeld ?_
  try simp only [Act.put, List.setIfInBounds_toArray, List.set_cons_zero, List.set_cons_succ]
  refine wpAnyH_take (i := 7) (oi := ⟨some 14, _, _, _, _, _⟩) (v := (.agg #[.int .i64 (f : Int), .int .i64 (N : Int), .int .i64 (S : Int), .int .i64 (T : Int)])) rfl (by kernel_rfl) (by kernel_rfl) (by kernel_rfl) (fun _ _ _ h => h) (Or.inl ⟨by rfl, fun w' hw => by (have k0 := lv0 hw.1; have k1 := lv1 hw.1; have k2 := lv2 hw.1; have k3 := lv3 hw.1; have k4 := lv4 hw.1; skip; go_simp)⟩) hHeld ?_
  try simp only [Act.put, List.setIfInBounds_toArray, List.set_cons_zero, List.set_cons_succ]
  refine wpAnyH_take (i := 9) (oi := ⟨some 16, _, _, _, _, _⟩) (v := (.int .i64 (m : Int))) rfl (by kernel_rfl) (by kernel_rfl) (by kernel_rfl) (fun _ _ _ h => h) (Or.inl ⟨by rfl, fun w' hw => by go_simp⟩) hHeld ?_
  try simp only [Act.put, List.setIfInBounds_toArray, List.set_cons_zero, List.set_cons_succ]
  refine take_row 10 (oi := ⟨some 17, _, _, _, _, _⟩) (CA B).toList rfl (by kernel_rfl) (by kernel_rfl) (by kernel_rfl) (fun _ _ _ h => h) (by rfl) _ _ rfl _ _ rfl _ (fun w' hw => hw.2.rng) Tryz.underlying64 rfl (infoCellL B) hHeld ?_
  try simp only [Act.put, List.setIfInBounds_toArray, List.set_cons_zero, List.set_cons_succ]
  refine one_ready 8 rfl (by kernel_rfl) (fun K hK => ?_)
  go_simp
  refine (HT.out _).mono ?_
  rintro e w3 ⟨rfl, hb3⟩
  have ho3 : Only nobody w2 w3 := Only.of_below hb3
  have hO3 := hO2.none ho3
  have hB3 := hB2.only ho3 (not_nobody _)
  have hV3 := hV2.nob ho3
  have hK3 := hK2.trans (Kept.of_none ho3)
  refine hK.out _ _ ⟨hB3, hV3⟩ (fun hHeld => ?_)
  clear hK K hb3 ho3 hO2 hB2 hV2 hK2
  simp only [List.setIfInBounds_toArray, List.set_cons_zero, List.set_cons_succ]
  refine one_ready 11 rfl (by kernel_rfl) (fun K hK => ?_)
  go_simp
  refine (own_write _ mp (M.gone cc ll) w3 ((f + 2 : Nat) : Int) (m : Int) B hO3 (by rw [gone_len]; omega)).mono ?_
  rintro e w5 ⟨rfl, ho, hk⟩
  rw [gone_write (by omega) (by omega), HSUC0.out, ← HEV0.out] at ho
  have hB5 := hk.box hB3 (.inl hX1)
  have hV5 := hV3.kept hk (.inr rfl)
  have hA := And.intro (ho.weak (fun j (hj : X j) => .inl hj)) (hK3.trans (hk.mono (fun j hj => .inl hj)))
  refine hK.out _ _ ⟨hB5, hV5⟩ (fun hHeld => ?_)
  clear hK K hk ho hO3 hB3 hV3 hK3 hV5
  simp only [List.setIfInBounds_toArray, List.set_cons_zero, List.set_cons_succ]
  refine wpAnyH_done (by kernel_rfl) ?_ _
  have HA := Lib.hid hA
  have HB5 := Lib.hid hB5
  clear hA hB5
  go_wp2_with fail
  go_loopw [6] (fun v wr => ∃ i : Nat, v = .int .i64 i ∧ m + 1 ≤ i ∧ i ≤ Q ∧ Own wr X mp (M.gone (cT (f + 2) Z M.c i) (evF S D T f lf i)) ∧ Kept X w wr ∧ Box wr lp 98 (LvA mp f N S T ov mb)) (fun v _ => Q - (intOf v).toNat)
  case atStart => exact ⟨m + 1, by go_num, by omega, by omega, HA.out.1, HA.out.2, HB5.out⟩
  case round =>
    obtain ⟨i, rfl, hi0, hi, hOw, hKp, hBx⟩ := hrel
    clear HA HB5
    have HOw := Lib.hid hOw
    have HKp := Lib.hid hKp
    have HBx := Lib.hid hBx
    have p2 := lv2 hBx
    have p3 := lv3 hBx
    have p4 := lv4 hBx
    clear hOw hKp hBx
    go_wp2_with fail
    refine (HR.out _).mono ?_
    rintro e w6 ⟨rfl, hb6⟩
    have ho6 : Only nobody wr w6 := Only.of_below hb6
    have HO6 := Lib.hid (HOw.out.none ho6)
    have HB6 := Lib.hid (HBx.out.only ho6 (not_nobody _))
    have HK6 := Lib.hid (HKp.out.trans (Kept.of_none ho6))
    clear hb6 ho6 p2 p3 p4 HOw HKp HBx
    by_cases hin : i < Q
    · have hsuc := cT_succ (t := f + 2) (X := Z) (c := M.c) (i := i)
      rw [HZn.out i (by omega)] at hsuc
      have HSUC := Lib.hid hsuc
      have HEV := Lib.hid (HEv.out i (by omega))
      have hel := evF_len S D T f lf i
      generalize hcc : cT (f + 2) Z M.c i = cc' at HO6 HSUC
      generalize hll : evF S D T f lf i = ll' at HO6 HEV hel
      have hel2 : ll'.length ≤ 600 := by omega
      clear hsuc hel hcc hll
      go_upto_region 5 with fail
      refine held_s (S := fun w' => Box w' lp 98 (LvA mp f N S T ov mb)) 12 rfl (by kernel_rfl) (HB6.out.drewN 1) (fun hHeld => ?_)
      simp only [Array.replicate_succ, Array.replicate_zero, List.push_toArray, List.nil_append, List.cons_append]
      have hO7 : Own w6.drew X mp (M.gone cc' ll') := HO6.out.drewN 1
      have hK7 : Kept X w w6.drew := HK6.out.drewN 1
      have hB7 : Box w6.drew lp 98 (LvA mp f N S T ov mb) := HB6.out.drewN 1
      clear HO6 HK6 HB6
      generalize w6.drew = w7 at *
      refine wpAnyH_take (i := 0) (oi := ⟨some 31, _, _, _, _, _⟩) (v := (.pointer (some ⟨lp, 0, none⟩))) rfl (by kernel_rfl) (by kernel_rfl) (by kernel_rfl) (fun _ _ _ h => h) (Or.inl ⟨by rfl, fun w' hw => by go_simp⟩) hHeld ?_
      try simp only [Act.put, List.setIfInBounds_toArray, List.set_cons_zero, List.set_cons_succ]
      refine wpAnyH_take (i := 1) (oi := ⟨some 32, _, _, _, _, _⟩) (v := (.pointer (some ⟨lp, 0, none⟩))) rfl (by kernel_rfl) (by kernel_rfl) (by kernel_rfl) (fun _ _ _ h => h) (Or.inl ⟨by rfl, fun w' hw => by go_simp⟩) hHeld ?_
      try simp only [Act.put, List.setIfInBounds_toArray, List.set_cons_zero, List.set_cons_succ]
      refine wpAnyH_take (i := 2) (oi := ⟨some 33, _, _, _, _, _⟩) (v := (.pointer (some ⟨lp, 0, none⟩))) rfl (by kernel_rfl) (by kernel_rfl) (by kernel_rfl) (fun _ _ _ h => h) (Or.inl ⟨by rfl, fun w' hw => by go_simp⟩) hHeld ?_
      try simp only [Act.put, List.setIfInBounds_toArray, List.set_cons_zero, List.set_cons_succ]
      refine wpAnyH_take (i := 3) (oi := ⟨some 34, _, _, _, _, _⟩) (v := (.pointer (some ⟨mp, 0, none⟩))) rfl (by kernel_rfl) (by kernel_rfl) (by kernel_rfl) (fun _ _ _ h => h) (Or.inl ⟨by rfl, fun w' hw => by (have k0 := lv0 hw; have k1 := lv1 hw; have k2 := lv2 hw; have k3 := lv3 hw; have k4 := lv4 hw; skip; go_simp)⟩) hHeld ?_
      try simp only [Act.put, List.setIfInBounds_toArray, List.set_cons_zero, List.set_cons_succ]
      refine wpAnyH_take (i := 4) (oi := ⟨some 35, _, _, _, _, _⟩) (v := (.pointer (some ⟨lp, 0, none⟩))) rfl (by kernel_rfl) (by kernel_rfl) (by kernel_rfl) (fun _ _ _ h => h) (Or.inl ⟨by rfl, fun w' hw => by go_simp⟩) hHeld ?_
      try simp only [Act.put, List.setIfInBounds_toArray, List.set_cons_zero, List.set_cons_succ]
      refine wpAnyH_take (i := 5) (oi := ⟨some 36, _, _, _, _, _⟩) (v := (.pointer (some ⟨lp, 0, none⟩))) rfl (by kernel_rfl) (by kernel_rfl) (by kernel_rfl) (fun _ _ _ h => h) (Or.inl ⟨by rfl, fun w' hw => by go_simp⟩) hHeld ?_
      try simp only [Act.put, List.setIfInBounds_toArray, List.set_cons_zero, List.set_cons_succ]
      refine wpAnyH_take (i := 6) (oi := ⟨some 37, _, _, _, _, _⟩) (v := (.pointer (some ⟨lp, 1, none⟩))) rfl (by kernel_rfl) (by kernel_rfl) (by kernel_rfl) (fun _ _ _ h => h) (Or.inl ⟨by rfl, fun w' hw => by go_simp⟩) hHeld ?_
      try simp only [Act.put, List.setIfInBounds_toArray, List.set_cons_zero, List.set_cons_succ]
      refine wpAnyH_take (i := 7) (oi := ⟨some 38, _, _, _, _, _⟩) (v := (.agg #[.int .i64 (f : Int), .int .i64 (N : Int), .int .i64 (S : Int), .int .i64 (T : Int)])) rfl (by kernel_rfl) (by kernel_rfl) (by kernel_rfl) (fun _ _ _ h => h) (Or.inl ⟨by rfl, fun w' hw => by (have k0 := lv0 hw; have k1 := lv1 hw; have k2 := lv2 hw; have k3 := lv3 hw; have k4 := lv4 hw; skip; go_simp)⟩) hHeld ?_
      try simp only [Act.put, List.setIfInBounds_toArray, List.set_cons_zero, List.set_cons_succ]
      refine wpAnyH_take (i := 9) (oi := ⟨some 40, _, _, _, _, _⟩) (v := (.int .i64 (i : Int))) rfl (by kernel_rfl) (by kernel_rfl) (by kernel_rfl) (fun _ _ _ h => h) (Or.inl ⟨by rfl, fun w' hw => by go_simp⟩) hHeld ?_
      try simp only [Act.put, List.setIfInBounds_toArray, List.set_cons_zero, List.set_cons_succ]
      refine wpAnyH_take (i := 10) (oi := ⟨some 41, _, _, _, _, _⟩) (v := (.agg (CA nul))) rfl (by kernel_rfl) (by kernel_rfl) (by kernel_rfl) (fun _ _ _ h => h) (Or.inl ⟨by rfl, fun w' hw => by (go_simp; rfl)⟩) hHeld ?_
      try simp only [Act.put, List.setIfInBounds_toArray, List.set_cons_zero, List.set_cons_succ]
      refine one_ready 8 rfl (by kernel_rfl) (fun K hK => ?_)
      go_simp
      refine (HT.out _).mono ?_
      rintro e w8 ⟨rfl, hb8⟩
      have ho8 : Only nobody w7 w8 := Only.of_below hb8
      have hO8 := hO7.none ho8
      have hB8 := hB7.only ho8 (not_nobody _)
      have hK8 := hK7.trans (Kept.of_none ho8)
      refine hK.out _ _ hB8 (fun hHeld => ?_)
      clear hK K hb8 ho8 hO7 hB7 hK7
      simp only [List.setIfInBounds_toArray, List.set_cons_zero, List.set_cons_succ]
      refine one_ready 11 rfl (by kernel_rfl) (fun K hK => ?_)
      go_simp
      refine (own_write _ mp (M.gone cc' ll') w8 ((f + 2 : Nat) : Int) (i : Int) nul hO8 (by rw [gone_len]; omega)).mono ?_
      rintro e w9 ⟨rfl, ho, hk⟩
      rw [gone_write (by omega) (by omega), HSUC.out, ← HEV.out] at ho
      have hO9 := ho
      have hB9 := hk.box hB8 hX1
      have hK9 := hK8.trans hk
      refine hK.out _ _ hB9 (fun hHeld => ?_)
      clear hK K hk ho hO8 hB8 hK8
      simp only [List.setIfInBounds_toArray, List.set_cons_zero, List.set_cons_succ]
      refine wpAnyH_done (by kernel_rfl) ?_ _
      have HE := Lib.hid (And.intro hO9 (And.intro hK9 hB9))
      clear hO9 hK9 hB9 hHeld
      go_wp2_with fail
      go_roundw
      case rel => exact ⟨i + 1, by go_num, by omega, by omega, HE.out.1, HE.out.2.1, HE.out.2.2⟩
      case measure => simp [intOf]; omega
    · obtain rfl : i = Q := by omega
      go_wp2_with fail
      go_end0
      exact ⟨rfl, HO6.out, HK6.out⟩
end Go.Proofs.YtdbjaaalngbpgaaGreat
