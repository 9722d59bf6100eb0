/- The seventh chapter's example, as the law texts ask it first: it returns true; nothing that was there turns. -/
import Derived.Test.YtgppediikggogaaLaid
import Derived.Test.YtgppediikggogaaRefFind
namespace Go.Proofs.Ytgppediikggogaa
open Go.RowKit Go.ChangeShapes Go.WideShapes Go.ChangeAt

def zz (j : Nat) : Int := if j = 0 then 7 else 9
/-- What the example makes of a memory. -/
theorem shown_mem : ∃ M0 : MS, laidM 1 3 zz (min 3 3) = M0 ∧ M0.size 0 = 3 ∧ M0.es.length = 3 ∧ M0.wd ∧ fndV 0 9 (M0.c 0) 3 = .tuple #[.int .u64 1, .agg (CA (cw 9)), .int .u64 18446744073709551615] ∧ gt 1 (M0.c 0) 3 = cw 9 := by
  refine ⟨_, rfl, rfl, rfl, laidM_wd _ _ _ _, ?_, rfl⟩
  obtain ⟨C, hC⟩ : ∃ C, (laidM 1 3 zz (min 3 3)).c 0 = C := ⟨_, rfl⟩
  have h0 : hs 0 9 C 0 = false := by rw [← hC]; decide
  have h1 : hs 0 9 C 1 = true := by rw [← hC]; decide
  have hc1 : C 1 = cw 9 := by rw [← hC]; rfl
  rw [hC]
  have e1 : fnd (hs 0 9 C) C 1 = (0, fun _ => 0, false) := fnd_no _ _ 0 (.inl h0)
  have e2 : fnd (hs 0 9 C) C 2 = (1, C 1, true) := fnd_yes _ _ 1 h1 (by rw [e1])
  have e3 : fnd (hs 0 9 C) C 3 = (1, C 1, true) := (fnd_no _ _ 2 (.inr (by rw [e2]))).trans e2
  unfold fndV
  rw [e3, hc1]
  rfl
set_option linter.unusedSimpArgs false in
set_option maxRecDepth 100000 in
set_option maxHeartbeats 1000000 in
theorem shown_any (w : World) : Calls Try.prog 8 #[] w (Yes w) := by
  obtain ⟨M0, e0, s0, l0, wd0, c1, c2⟩ := shown_mem
  have E0 := Lib.hid e0
  have S0 := Lib.hid s0
  have C1 := Lib.hid c1
  have C2 := Lib.hid c2
  have W0 := Lib.hid wd0
  have L0 := Lib.hid l0
  clear e0 c1 c2 wd0 s0 l0
  have hz : Nums .u64 (w.alloc (.cells #[.int .u64 7, .int .u64 9, .int .u64 9] 23)) (w.heap.size + 1) (some ⟨w.heap.size, 0, none⟩) 3 zz := fun _ => ⟨_, 0, rfl, by omega, fun j hj => by
    rw [Nat.zero_add, (Box.new w _ _).cell j]
    match j, hj with
    | 0, _ => rfl
    | 1, _ => rfl
    | 2, _ => rfl⟩
  have HZ := Lib.hid hz
  clear hz
  go_enter Try.func8, Try.ntmps8
  go_wp2_with fail
  refine (laid_any 1 3 _ 3 3 (w.heap.size + 1) zz _ (by decide) (by decide) (by decide) (by decide) HZ.out (by simp)).mono ?_
  rintro e w1 ⟨p, q, rfl, hm, ho⟩
  rw [E0.out] at hm
  have O1 := Lib.hid (hm.left.weak (Y := old w) (fun i (hi : i < w.heap.size) => by show i < _; simp; omega))
  have K1 : Hid (Kept (old w) w w1) := (Kept.alloc (Kept.refl _ w) _).trans (Kept.of_none ho)
  clear hm ho
  go_wp2_with fail
  refine (find_any _ p M0 0 0 9 _ O1.out W0.out (by decide) (by decide) (by decide) (by decide) (by rw [S0.out, L0.out]; decide)).mono ?_
  rw [S0.out, show ((0 : Int).toNat) = 0 from rfl, C1.out]
  rintro e w2 ⟨rfl, ho, hk⟩
  have O2 := Lib.hid (ho.alloc (.cells (CA (cw 9)) 30))
  have K2 := Lib.hid ((K1.out.trans hk).alloc (.cells (CA (cw 9)) 30))
  have V2 := Lib.hid (Var.new w2 (cw 9) 30)
  clear ho hk O1 K1
  go_wp2_with (with_reducible refine wpList_store_new rfl (.tmp 4) (.tmp 17) rfl rfl (cw 9) rfl rfl ?_)
  generalize w2.alloc (.cells (CA (cw 9)) 30) = w3 at *
  have hq := eql_cell (cw 9) (cw 9)
  rw [ceq_self] at hq
  refine held_S (S := fun w' => Var w' w2.heap.size (cw 9)) 18 rfl (by kernel_rfl) V2.out.drew (fun hHeld => ?_)
  simp only [Array.replicate_succ, Array.replicate_zero, List.push_toArray, List.nil_append, List.cons_append]
  refine wpAnyH_take (i := 0) (oi := ⟨some 19, _, _, _, _, _⟩) (v := .pointer (some ⟨p, 0, none⟩)) rfl (by kernel_rfl) (by kernel_rfl) (by kernel_rfl) (fun _ _ _ h => h) (Or.inl ⟨by rfl, fun w' hw => by go_simp⟩) hHeld ?_
  try simp only [Act.put, List.setIfInBounds_toArray, List.set_cons_zero, List.set_cons_succ]
  refine one_ready 1 rfl (by kernel_rfl) (fun K hK => ?_)
  go_simp
  refine (get_any _ p (M0.looked 0 3) 0 1 _ (O2.out.drewN 1) W0.out (by decide) (by decide) (by rw [looked_size, S0.out, looked_len, L0.out]; decide)).mono ?_
  rw [looked_size, S0.out, show gt 1 ((M0.looked 0 3).c (0 : Int).toNat) 3 = cw 9 from C2.out]
  rintro e w4 ⟨rfl, ho, hk⟩
  have K4 := Lib.hid ((K2.out.drewN 1).trans (hk.mono (fun i hi => .inl hi)))
  have hV := hHeld.kept hk (.inr rfl)
  clear ho hk O2 K2
  refine hK.out _ _ (hV) (fun hHeld => ?_)
  clear hK K
  try simp only [Act.put, List.setIfInBounds_toArray, List.set_cons_zero, List.set_cons_succ]
  refine one_ready 2 rfl (by kernel_rfl) (fun K hK => ?_)
  go_simp
  refine (cell_only 9 _).mono ?_
  rintro e w5 ⟨rfl, ho⟩
  have K5 := Lib.hid (K4.out.trans (Kept.of_none ho))
  have hV := hHeld.nob ho
  clear ho K4
  refine hK.out _ _ (hV) (fun hHeld => ?_)
  clear hK K
  try simp only [Act.put, List.setIfInBounds_toArray, List.set_cons_zero, List.set_cons_succ]
  refine wpAnyH_take (i := 3) (oi := ⟨some 22, _, _, _, _, _⟩) (v := .bool true) rfl (by kernel_rfl) (by kernel_rfl) (by kernel_rfl) (fun _ _ _ h => h) (Or.inl ⟨by rfl, fun w' hw => by go_simp⟩) hHeld ?_
  try simp only [Act.put, List.setIfInBounds_toArray, List.set_cons_zero, List.set_cons_succ]
  refine wpAnyH_take (i := 4) (oi := ⟨some 23, _, _, _, _, _⟩) (v := .bool true) rfl (by kernel_rfl) (by kernel_rfl) (by kernel_rfl) (fun _ _ _ h => h) (Or.inl ⟨by rfl, fun w' hw => by go_simp⟩) hHeld ?_
  try simp only [Act.put, List.setIfInBounds_toArray, List.set_cons_zero, List.set_cons_succ]
  refine wpAnyH_take (i := 5) (oi := ⟨some 24, _, _, _, _, _⟩) (v := .int .u64 1) rfl (by kernel_rfl) (by kernel_rfl) (by kernel_rfl) (fun _ _ _ h => h) (Or.inl ⟨by rfl, fun w' hw => by go_simp⟩) hHeld ?_
  try simp only [Act.put, List.setIfInBounds_toArray, List.set_cons_zero, List.set_cons_succ]
  refine wpAnyH_take (i := 6) (oi := ⟨some 25, _, _, _, _, _⟩) (v := .bool true) rfl (by kernel_rfl) (by kernel_rfl) (by kernel_rfl) (fun _ _ _ h => h) (Or.inl ⟨by rfl, fun w' hw => by go_simp⟩) hHeld ?_
  try simp only [Act.put, List.setIfInBounds_toArray, List.set_cons_zero, List.set_cons_succ]
  refine wpAnyH_take (i := 7) (oi := ⟨some 26, _, _, _, _, _⟩) (v := .bool true) rfl (by kernel_rfl) (by kernel_rfl) (by kernel_rfl) (fun _ _ _ h => h) (Or.inl ⟨by rfl, fun w' hw => by go_simp⟩) hHeld ?_
  try simp only [Act.put, List.setIfInBounds_toArray, List.set_cons_zero, List.set_cons_succ]
  refine wpAnyH_take (i := 8) (oi := ⟨some 27, _, _, _, _, _⟩) (v := .bool true) rfl (by kernel_rfl) (by kernel_rfl) (by kernel_rfl) (fun _ _ _ h => h) (Or.inl ⟨by rfl, fun w' hw => by go_simp⟩) hHeld ?_
  try simp only [Act.put, List.setIfInBounds_toArray, List.set_cons_zero, List.set_cons_succ]
  refine take_row 9 (oi := ⟨some 28, _, _, _, _, _⟩) (CA (cw 9)).toList rfl (by kernel_rfl) (by kernel_rfl) (by kernel_rfl) (fun _ _ _ h => h) (by rfl) _ _ rfl _ _ rfl _ (fun _ h => h.rng) Try.underlying30 rfl (infoCellL (cw 9)) hHeld ?_
  try simp only [Act.put, List.setIfInBounds_toArray, List.set_cons_zero, List.set_cons_succ]
  refine one_ready 10 rfl (by kernel_rfl) (fun K hK => ?_)
  go_simp
  refine (cell_only 9 _).mono ?_
  rintro e w6 ⟨rfl, ho⟩
  have K6 := Lib.hid (K5.out.trans (Kept.of_none ho))
  have hV := hHeld.nob ho
  clear ho K5
  refine hK.out _ _ (hV) (fun hHeld => ?_)
  clear hK K
  try simp only [Act.put, List.setIfInBounds_toArray, List.set_cons_zero, List.set_cons_succ]
  refine wpAnyH_take (i := 11) (oi := ⟨some 30, _, _, _, _, _⟩) (v := .bool true) rfl (by kernel_rfl) (by kernel_rfl) (by kernel_rfl) (fun _ _ _ h => h) (Or.inl ⟨by rfl, fun w' hw => by go_simp⟩) hHeld ?_
  try simp only [Act.put, List.setIfInBounds_toArray, List.set_cons_zero, List.set_cons_succ]
  refine wpAnyH_take (i := 12) (oi := ⟨some 31, _, _, _, _, _⟩) (v := .bool true) rfl (by kernel_rfl) (by kernel_rfl) (by kernel_rfl) (fun _ _ _ h => h) (Or.inl ⟨by rfl, fun w' hw => by go_simp⟩) hHeld ?_
  try simp only [Act.put, List.setIfInBounds_toArray, List.set_cons_zero, List.set_cons_succ]
  refine wpAnyH_take (i := 13) (oi := ⟨some 32, _, _, _, _, _⟩) (v := .bool true) rfl (by kernel_rfl) (by kernel_rfl) (by kernel_rfl) (fun _ _ _ h => h) (Or.inl ⟨by rfl, fun w' hw => by go_simp⟩) hHeld ?_
  try simp only [Act.put, List.setIfInBounds_toArray, List.set_cons_zero, List.set_cons_succ]
  refine wpAnyH_take (i := 14) (oi := ⟨some 33, _, _, _, _, _⟩) (v := .int .u64 18446744073709551615) rfl (by kernel_rfl) (by kernel_rfl) (by kernel_rfl) (fun _ _ _ h => h) (Or.inl ⟨by rfl, fun w' hw => by go_simp⟩) hHeld ?_
  try simp only [Act.put, List.setIfInBounds_toArray, List.set_cons_zero, List.set_cons_succ]
  refine wpAnyH_take (i := 15) (oi := ⟨some 34, _, _, _, _, _⟩) (v := .bool true) rfl (by kernel_rfl) (by kernel_rfl) (by kernel_rfl) (fun _ _ _ h => h) (Or.inl ⟨by rfl, fun w' hw => by go_simp⟩) hHeld ?_
  try simp only [Act.put, List.setIfInBounds_toArray, List.set_cons_zero, List.set_cons_succ]
  refine wpAnyH_take (i := 16) (oi := ⟨some 35, _, _, _, _, _⟩) (v := .bool true) rfl (by kernel_rfl) (by kernel_rfl) (by kernel_rfl) (fun _ _ _ h => h) (Or.inl ⟨by rfl, fun w' hw => by go_simp⟩) hHeld ?_
  try simp only [Act.put, List.setIfInBounds_toArray, List.set_cons_zero, List.set_cons_succ]
  refine one_ready 17 rfl (by kernel_rfl) (fun K hK => ?_)
  go_simp
  refine hK.out _ _ (hHeld) (fun hHeld => ?_)
  clear hK K
  try simp only [Act.put, List.setIfInBounds_toArray, List.set_cons_zero, List.set_cons_succ]
  refine wpAnyH_done (by kernel_rfl) ?_ _
  go_wp2_with fail
  go_ret
  exact ⟨rfl, K6.out.below (Nat.le_refl _) (fun i hi => hi)⟩
end Go.Proofs.Ytgppediikggogaa
