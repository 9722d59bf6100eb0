/- The walk of the law on what is found: the first of those that are counted; what is looked for does not change the events. Conditions: the slice's cells hold numbers, the words are words of 64 bits. -/
import Derived.Test.YtgppediikggogaaSeen
namespace Go.Proofs.Ytgppediikggogaa
open Go.RowKit Go.ChangeShapes Go.WideShapes Go.ChangeAt

theorem finds_out (a : Option Addr) (n cap : Nat) (key x y : Int) (W : World) (hn : n ≤ 9223372036854775807) (h : 40 < n ∨ key < 0 ∨ 11 < key) :
    Calls Try.prog 5 #[.slice a n cap, .int .i64 key, .int .u64 x, .int .u64 y] W (Yes W) := by
  by_cases h1 : 40 < n
  · go_enter Try.func5, Try.ntmps5
    go_wp2_with fail
    refine (shown_any W).mono ?_
    rintro e w0 ⟨rfl, hb0⟩
    have HB := Lib.hid hb0
    clear hb0
    go_wp2_with fail
    go_ret
    exact ⟨rfl, HB.out⟩
  · by_cases h2 : key < 0
    · go_enter Try.func5, Try.ntmps5
      go_wp2_with fail
      refine (shown_any W).mono ?_
      rintro e w0 ⟨rfl, hb0⟩
      have HB := Lib.hid hb0
      clear hb0
      go_wp2_with fail
      go_ret
      exact ⟨rfl, HB.out⟩
    · have h3 : 11 < key := by omega
      go_enter Try.func5, Try.ntmps5
      go_wp2_with fail
      refine (shown_any W).mono ?_
      rintro e w0 ⟨rfl, hb0⟩
      have HB := Lib.hid hb0
      clear hb0
      go_wp2_with fail
      go_ret
      exact ⟨rfl, HB.out⟩
theorem eql_zero (w : World) : (binOp .eql 30 (.agg (CA fun _ => 0)) (.agg #[.int .u64 0, .int .u64 0, .int .u64 0, .int .u64 0, .int .u64 0, .int .u64 0, .int .u64 0, .int .u64 0, .int .u64 0, .int .u64 0, .int .u64 0, .int .u64 0])).run Try.prog w = .ok (.bool true) w := by
  have h := eql_cell (fun _ => 0) (fun _ => 0) w
  rw [ceq_self] at h
  exact h
/-- Between two looks of the law's own count. -/
structure FindsAt (W : World) (X : Nat → Prop) (p b : Nat) (M : MS) (g : Nat → Int) (i : Nat) (wr : World) : Prop where
  own : Own wr X p (M.looked 0 i)
  kept : Kept (old W) W wr
  var : Var wr b g
set_option linter.unusedSimpArgs false in
set_option maxRecDepth 100000 in
set_option maxHeartbeats 2000000 in
theorem finds_in (a : Option Addr) (n cap : Nat) (z : Nat → Int) (κ : Nat) (x y : Int) (W : World) (hn : n ≤ 40) (hz : Nums .u64 W W.heap.size a n z) (hκ : κ < 12) (x0 : 0 ≤ x) (x1 : x ≤ 18446744073709551615) (y0 : 0 ≤ y) (y1 : y ≤ 18446744073709551615) :
    Calls Try.prog 5 #[.slice a n cap, .int .i64 (κ : Int), .int .u64 x, .int .u64 y] W (Yes W) := by
  have HZ := Lib.hid hz
  have hk1 : decide ((κ : Int) < 0) = false := decide_eq_false (by omega)
  have hk2 : decide (11 < (κ : Int)) = false := decide_eq_false (by omega)
  have k12 : ¬ (12 : Int) ≤ (κ : Int) := by omega
  clear hz
  go_enter Try.func5, Try.ntmps5
  go_wp2_with fail
  refine (shown_any W).mono ?_
  rintro e w0 ⟨rfl, hb0⟩
  have B0 := Lib.hid hb0
  have K0 : Hid (Kept (old W) W w0) := Only.of_below hb0
  clear hb0
  go_wp2_with fail
  refine (laid_any 1 20 a n cap W.heap.size z _ (by decide) (by decide) (by decide) (by decide) (HZ.out.below B0.out) B0.out.size).mono ?_
  rintro e w1 ⟨p, q, rfl, hm, ho⟩
  have O1 := Lib.hid (hm.left.weak (Y := old W) (fun i (hi : i < W.heap.size) => Nat.lt_of_lt_of_le hi B0.out.size))
  have K1 := Lib.hid (K0.out.trans (Kept.of_none ho))
  clear hm ho K0 B0
  obtain ⟨lm, l1⟩ : ∃ lm, (laidM 1 20 z (min n 20)).es.length = lm := ⟨_, rfl⟩
  have S1 : Hid ((laidM 1 20 z (min n 20)).size 0 = 20) := rfl
  have W1 := Lib.hid (laidM_wd 1 20 z (min n 20))
  have T1 : Hid (0 < (laidM 1 20 z (min n 20)).k ∧ (laidM 1 20 z (min n 20)).sz 0 = 20) := ⟨Nat.zero_lt_one, rfl⟩
  have hlm : lm ≤ 20 := by rw [← l1, laidM_len]; omega
  generalize laidM 1 20 z (min n 20) = M0 at *
  obtain ⟨C, hC⟩ : ∃ C, M0.c 0 = C := ⟨_, rfl⟩
  obtain ⟨P, hP⟩ : ∃ P, hs (κ : Int) x C = P := ⟨_, rfl⟩
  have hPd : ∀ j, P j = decide (C j κ = x) := fun j => by rw [← hP]; exact hw_nat hκ
  obtain ⟨A, hA⟩ : ∃ A, (fnd P C 20).1 = A := ⟨_, rfl⟩
  obtain ⟨g, hg⟩ : ∃ G, (fnd P C 20).2.1 = G := ⟨_, rfl⟩
  obtain ⟨B, hB⟩ : ∃ B, (fnd P C 20).2.2 = B := ⟨_, rfl⟩
  obtain ⟨c, hc⟩ : ∃ c, cnt P 20 = c := ⟨_, rfl⟩
  have hcl : c ≤ 20 := by rw [← hc]; exact cnt_le P 20
  have hcz := cnt_zero P C 20
  have hno := fnd_none P C 20
  have hso := fnd_some P C 20
  have hfv : fndV (κ : Int) x C 20 = .tuple #[.int .u64 (A : Int), .agg (CA g), .int .u64 (msk B)] := by unfold fndV; rw [hP, hA, hg, hB]
  rw [hB, hc] at hcz
  rw [hB] at hno hso
  rw [hA, hg] at hso
  have HFA : Hid (∀ i, P i = true → i < 20 → ¬ i < A) := fun i hi h20 hlt => by
    cases hb : B
    · rw [(hno hb).2 i h20] at hi; cases hi
    · rw [(hso hb).2.2.2 i hlt] at hi; cases hi
  have HNO : Hid (B = false → A = 0 ∧ g = fun _ => 0) := fun hb => by
    have h := (hno hb).1
    exact ⟨by rw [← hA, h], by rw [← hg, h]⟩
  have HSO : Hid (B = true → A < 20 ∧ g = C A ∧ g κ = x) := fun hb => by
    obtain ⟨h1, h2, h3, _⟩ := hso hb
    exact ⟨h1, h2, by rw [h2]; rw [hPd] at h3; exact of_decide_eq_true h3⟩
  have HCZ := Lib.hid hcz
  have HFV := Lib.hid hfv
  have HC := Lib.hid hC
  have HPD := Lib.hid hPd
  have HCC := Lib.hid hc
  have HPP := Lib.hid hP
  clear hcz hno hso hfv hC hPd hc hA hg hB hP
  go_wp2_with fail
  refine (own_many _ p M0 _ O1.out).mono ?_
  rintro e w' ⟨rfl, rfl⟩
  rw [l1]
  go_wp2_with fail
  refine (find_any _ p M0 0 (κ : Int) x _ O1.out W1.out (by omega) (by omega) x0 x1 (by rw [S1.out]; omega)).mono ?_
  rw [S1.out, show ((0 : Int).toNat) = 0 from rfl, HC.out, HFV.out]
  rintro e w2 ⟨rfl, ho, hk⟩
  have O2 := Lib.hid (ho.alloc (.cells (CA g) 30))
  have K2 := Lib.hid ((K1.out.trans hk).alloc (.cells (CA g) 30))
  have V2 := Lib.hid (Var.new w2 g 30)
  clear ho hk O1 K1 HFV
  go_wp2_with (with_reducible refine wpList_store_new rfl (.tmp 14) (.tmp 54) rfl rfl g rfl rfl ?_)
  generalize w2.alloc (.cells (CA g) 30) = w3 at *
  generalize w2.heap.size = b2 at *
  refine (seen_reads _ p M0 0 20 lm _ O2.out (fun _ => rfl) l1 (by omega)).mono ?_
  rw [show ((0 : Int).toNat) = 0 from rfl]
  rintro e w4 ⟨A4, c4, Y4, rfl, ho, hv, hy, hk⟩
  have O4 := Lib.hid ho
  have K4 := Lib.hid (K2.out.trans (hk.mono (fun i hi => .inl hi)))
  have V4 := Lib.hid (V2.out.kept hk (.inr rfl))
  have N4 := Lib.hid hv
  have Y4b : Hid (Y4 b2) := hy b2 (.inr rfl)
  have Y4o : Hid (∀ i, old W i → Y4 i) := fun i hi => hy i (.inl hi)
  have S2 : Hid ((M0.looked 0 20).size 0 = 20) := S1.out
  have W2 : Hid (M0.looked 0 20).wd := W1.out
  have T2 : Hid (0 < (M0.looked 0 20).k ∧ (M0.looked 0 20).sz 0 = 20) := T1.out
  have C2 : Hid ((M0.looked 0 20).c 0 = C) := HC.out
  have l2 := looked_len M0 0 20
  rw [l1] at l2
  clear ho hv hy hk O2 K2 V2 S1 W1 T1 HC l1
  generalize M0.looked 0 20 = M1 at *
  go_wp2_with fail
  refine (own_many _ p M1 _ O4.out).mono ?_
  rintro e w' ⟨rfl, rfl⟩
  rw [l2]
  go_wp2_with fail
  refine (find_any _ p M1 0 (κ : Int) y _ O4.out W2.out (by omega) (by omega) y0 y1 (by rw [S2.out]; omega)).mono ?_
  rw [S2.out, show ((0 : Int).toNat) = 0 from rfl]
  obtain ⟨fv, hfv⟩ : ∃ v, fndV (κ : Int) y (M1.c 0) 20 = v := ⟨_, rfl⟩
  rw [hfv]
  clear hfv
  rintro e w5 ⟨rfl, ho, hk⟩
  have O5 := Lib.hid ho
  have K5 := Lib.hid (K4.out.trans (hk.mono Y4o.out))
  have V5 := Lib.hid (V4.out.kept hk Y4b.out)
  have N5 := Lib.hid (N4.out.kept hk)
  clear ho hk O4 K4 V4 N4
  go_wp2_with fail
  refine (seen_reads _ p M1 0 20 (lm + 20) _ O5.out (fun _ => rfl) l2 (by omega)).mono ?_
  rw [show ((0 : Int).toNat) = 0 from rfl]
  rintro e w6 ⟨A6, c6, Y6, rfl, ho, hv, hy, hk⟩
  have O6 := Lib.hid ho
  have K6 := Lib.hid (K5.out.trans (hk.mono Y4o.out))
  have V6 := Lib.hid (V5.out.kept hk Y4b.out)
  have NA6 := Lib.hid ((N5.out.kept hk).weak hy)
  have NB6 := Lib.hid hv
  have Y6b : Hid (Y6 b2) := hy b2 Y4b.out
  have Y6o : Hid (∀ i, old W i → Y6 i) := fun i hi => hy i (Y4o.out i hi)
  have S3 : Hid ((M1.looked 0 20).size 0 = 20) := S2.out
  have W3 : Hid (M1.looked 0 20).wd := W2.out
  have T3 : Hid (0 < (M1.looked 0 20).k ∧ (M1.looked 0 20).sz 0 = 20) := T2.out
  have C3 : Hid ((M1.looked 0 20).c 0 = C) := C2.out
  have l3 := looked_len M1 0 20
  rw [l2] at l3
  clear ho hv hy hk O5 K5 V5 N5 S2 W2 T2 C2 l2 Y4b Y4o
  generalize M1.looked 0 20 = M2 at *
  go_wp2_with fail
  refine (count_any _ p M2 0 (κ : Int) x _ O6.out W3.out (by omega) (by omega) x0 x1 (by rw [S3.out]; omega)).mono ?_
  rw [S3.out, show ((0 : Int).toNat) = 0 from rfl, C3.out, HPP.out, HCC.out]
  rintro e w7 ⟨rfl, ho, hk⟩
  have O7 := Lib.hid ho
  have K7 := Lib.hid (K6.out.trans (hk.mono Y6o.out))
  have V7 := Lib.hid (V6.out.kept hk Y6b.out)
  have NA7 := Lib.hid ((NA6.out.kept hk).view)
  have NB7 := Lib.hid ((NB6.out.kept hk).view)
  have T4 : Hid (0 < (M2.looked 0 20).k ∧ (M2.looked 0 20).sz 0 = 20) := T3.out
  have C4 : Hid ((M2.looked 0 20).c 0 = C) := C3.out
  have hl4 : (M2.looked 0 20).es.length ≤ 100 := by rw [looked_len, l3]; omega
  clear ho hk O6 K6 V6 NA6 NB6 S3 W3 T3 C3 l3
  generalize M2.looked 0 20 = M3 at *
  go_wp2_with fail
  refine held_S (S := fun w' => Var w' b2 g) 35 rfl (by kernel_rfl) V7.out.drew (fun hHeld => ?_)
  simp only [Array.replicate_succ, Array.replicate_zero, List.push_toArray, List.nil_append, List.cons_append]
  refine wpAnyH_take (i := 0) (oi := ⟨some 72, _, _, _, _, _⟩) (v := .slice A4 20 c4) rfl (by kernel_rfl) (by kernel_rfl) (by kernel_rfl) (fun _ _ _ h => h) (Or.inl ⟨by rfl, fun w' hw => by go_simp⟩) hHeld ?_
  try simp only [Act.put, List.setIfInBounds_toArray, List.set_cons_zero, List.set_cons_succ]
  refine wpAnyH_take (i := 1) (oi := ⟨some 73, _, _, _, _, _⟩) (v := .slice A6 20 c6) rfl (by kernel_rfl) (by kernel_rfl) (by kernel_rfl) (fun _ _ _ h => h) (Or.inl ⟨by rfl, fun w' hw => by go_simp⟩) hHeld ?_
  try simp only [Act.put, List.setIfInBounds_toArray, List.set_cons_zero, List.set_cons_succ]
  refine one_ready 2 rfl (by kernel_rfl) (fun K hK => ?_)
  go_simp
  refine (same_told A4 A6 20 c4 c6 (ireads 0 20) _ w7.drew (ireads_len 0 20) rfl (NA7.out.only ((Only.refl nobody w7).drewN 1)) (NB7.out.only ((Only.refl nobody w7).drewN 1)) (by omega)).mono ?_
  rintro e w8 ⟨rfl, ho⟩
  have hV := hHeld.nob ho
  have O8 := Lib.hid ((O7.out.drewN 1).none ho)
  have K8 := Lib.hid ((K7.out.drewN 1).trans (Kept.of_none ho))
  clear ho O7 K7 V7 NA7 NB7
  refine hK.out _ _ (hV) (fun hHeld => ?_)
  clear hK K
  try simp only [Act.put, List.setIfInBounds_toArray, List.set_cons_zero, List.set_cons_succ]
  refine wpAnyH_take (i := 3) (oi := ⟨some 75, _, _, _, _, _⟩) (v := .bool false) rfl (by kernel_rfl) (by kernel_rfl) (by kernel_rfl) (fun _ _ _ h => h) (Or.inl ⟨by rfl, fun w' hw => by go_simp⟩) hHeld ?_
  try simp only [Act.put, List.setIfInBounds_toArray, List.set_cons_zero, List.set_cons_succ]
  refine wpAnyH_take (i := 4) (oi := ⟨some 76, _, _, _, _, _⟩) (v := .bool false) rfl (by kernel_rfl) (by kernel_rfl) (by kernel_rfl) (fun _ _ _ h => h) (Or.inl ⟨by rfl, fun w' hw => by go_simp⟩) hHeld ?_
  try simp only [Act.put, List.setIfInBounds_toArray, List.set_cons_zero, List.set_cons_succ]
  cases B
  · have hm0 : msk false = 0 := rfl
    obtain ⟨hA0, hg0⟩ := HNO.out rfl
    subst hA0
    have hc0 : c = 0 := HCZ.out.2 rfl
    subst hc0
    rw [hm0]
    refine wpAnyH_take (i := 5) (oi := ⟨some 77, _, _, _, _, _⟩) (v := .int .u64 0) rfl (by kernel_rfl) (by kernel_rfl) (by kernel_rfl) (fun _ _ _ h => h) (Or.inl ⟨by rfl, fun w' hw => by go_simp⟩) hHeld ?_
    try simp only [Act.put, List.setIfInBounds_toArray, List.set_cons_zero, List.set_cons_succ]
    refine wpAnyH_take (i := 6) (oi := ⟨some 78, _, _, _, _, _⟩) (v := .bool true) rfl (by kernel_rfl) (by kernel_rfl) (by kernel_rfl) (fun _ _ _ h => h) (Or.inl ⟨by rfl, fun w' hw => by go_simp⟩) hHeld ?_
    try simp only [Act.put, List.setIfInBounds_toArray, List.set_cons_zero, List.set_cons_succ]
    refine wpAnyH_take (i := 7) (oi := ⟨some 79, _, _, _, _, _⟩) (v := .int .i64 ((0 : Nat) : Int)) rfl (by kernel_rfl) (by kernel_rfl) (by kernel_rfl) (fun _ _ _ h => h) (Or.inl ⟨by rfl, fun w' hw => by go_simp⟩) hHeld ?_
    try simp only [Act.put, List.setIfInBounds_toArray, List.set_cons_zero, List.set_cons_succ]
    refine wpAnyH_take (i := 8) (oi := ⟨some 80, _, _, _, _, _⟩) (v := .bool true) rfl (by kernel_rfl) (by kernel_rfl) (by kernel_rfl) (fun _ _ _ h => h) (Or.inl ⟨by rfl, fun w' hw => by go_simp⟩) hHeld ?_
    try simp only [Act.put, List.setIfInBounds_toArray, List.set_cons_zero, List.set_cons_succ]
    refine wpAnyH_take (i := 9) (oi := ⟨some 81, _, _, _, _, _⟩) (v := .bool false) rfl (by kernel_rfl) (by kernel_rfl) (by kernel_rfl) (fun _ _ _ h => h) (Or.inl ⟨by rfl, fun w' hw => by go_simp⟩) hHeld ?_
    try simp only [Act.put, List.setIfInBounds_toArray, List.set_cons_zero, List.set_cons_succ]
    refine wpAnyH_take (i := 10) (oi := ⟨some 82, _, _, _, _, _⟩) (v := .bool false) rfl (by kernel_rfl) (by kernel_rfl) (by kernel_rfl) (fun _ _ _ h => h) (Or.inl ⟨by rfl, fun w' hw => by go_simp⟩) hHeld ?_
    try simp only [Act.put, List.setIfInBounds_toArray, List.set_cons_zero, List.set_cons_succ]
    refine wpAnyH_take (i := 11) (oi := ⟨some 83, _, _, _, _, _⟩) (v := .bool false) rfl (by kernel_rfl) (by kernel_rfl) (by kernel_rfl) (fun _ _ _ h => h) (Or.inl ⟨by rfl, fun w' hw => by go_simp⟩) hHeld ?_
    try simp only [Act.put, List.setIfInBounds_toArray, List.set_cons_zero, List.set_cons_succ]
    refine wpAnyH_take (i := 12) (oi := ⟨some 84, _, _, _, _, _⟩) (v := .int .u64 0) rfl (by kernel_rfl) (by kernel_rfl) (by kernel_rfl) (fun _ _ _ h => h) (Or.inl ⟨by rfl, fun w' hw => by go_simp⟩) hHeld ?_
    try simp only [Act.put, List.setIfInBounds_toArray, List.set_cons_zero, List.set_cons_succ]
    refine wpAnyH_take (i := 13) (oi := ⟨some 85, _, _, _, _, _⟩) (v := .bool false) rfl (by kernel_rfl) (by kernel_rfl) (by kernel_rfl) (fun _ _ _ h => h) (Or.inl ⟨by rfl, fun w' hw => by go_simp⟩) hHeld ?_
    try simp only [Act.put, List.setIfInBounds_toArray, List.set_cons_zero, List.set_cons_succ]
    refine wpAnyH_take (i := 14) (oi := ⟨some 86, _, _, _, _, _⟩) (v := .bool false) rfl (by kernel_rfl) (by kernel_rfl) (by kernel_rfl) (fun _ _ _ h => h) (Or.inl ⟨by rfl, fun w' hw => by go_simp⟩) hHeld ?_
    try simp only [Act.put, List.setIfInBounds_toArray, List.set_cons_zero, List.set_cons_succ]
    refine wpAnyH_take (i := 15) (oi := ⟨some 87, _, _, _, _, _⟩) (v := undef) rfl (by kernel_rfl) (by kernel_rfl) (by kernel_rfl) (fun _ _ _ h => h) (Or.inr ⟨by rfl, rfl⟩) hHeld ?_
    try simp only [Act.put, List.setIfInBounds_toArray, List.set_cons_zero, List.set_cons_succ]
    refine wpAnyH_take (i := 16) (oi := ⟨some 88, _, _, _, _, _⟩) (v := undef) rfl (by kernel_rfl) (by kernel_rfl) (by kernel_rfl) (fun _ _ _ h => h) (Or.inr ⟨by rfl, rfl⟩) hHeld ?_
    try simp only [Act.put, List.setIfInBounds_toArray, List.set_cons_zero, List.set_cons_succ]
    refine wpAnyH_take (i := 17) (oi := ⟨some 89, _, _, _, _, _⟩) (v := undef) rfl (by kernel_rfl) (by kernel_rfl) (by kernel_rfl) (fun _ _ _ h => h) (Or.inr ⟨by rfl, rfl⟩) hHeld ?_
    try simp only [Act.put, List.setIfInBounds_toArray, List.set_cons_zero, List.set_cons_succ]
    refine wpAnyH_take (i := 18) (oi := ⟨some 90, _, _, _, _, _⟩) (v := undef) rfl (by kernel_rfl) (by kernel_rfl) (by kernel_rfl) (fun _ _ _ h => h) (Or.inr ⟨by rfl, rfl⟩) hHeld ?_
    try simp only [Act.put, List.setIfInBounds_toArray, List.set_cons_zero, List.set_cons_succ]
    refine wpAnyH_take (i := 19) (oi := ⟨some 91, _, _, _, _, _⟩) (v := undef) rfl (by kernel_rfl) (by kernel_rfl) (by kernel_rfl) (fun _ _ _ h => h) (Or.inr ⟨by rfl, rfl⟩) hHeld ?_
    try simp only [Act.put, List.setIfInBounds_toArray, List.set_cons_zero, List.set_cons_succ]
    refine wpAnyH_take (i := 20) (oi := ⟨some 92, _, _, _, _, _⟩) (v := undef) rfl (by kernel_rfl) (by kernel_rfl) (by kernel_rfl) (fun _ _ _ h => h) (Or.inr ⟨by rfl, rfl⟩) hHeld ?_
    try simp only [Act.put, List.setIfInBounds_toArray, List.set_cons_zero, List.set_cons_succ]
    refine wpAnyH_take (i := 21) (oi := ⟨some 93, _, _, _, _, _⟩) (v := undef) rfl (by kernel_rfl) (by kernel_rfl) (by kernel_rfl) (fun _ _ _ h => h) (Or.inr ⟨by rfl, rfl⟩) hHeld ?_
    try simp only [Act.put, List.setIfInBounds_toArray, List.set_cons_zero, List.set_cons_succ]
    refine wpAnyH_take (i := 22) (oi := ⟨some 94, _, _, _, _, _⟩) (v := undef) rfl (by kernel_rfl) (by kernel_rfl) (by kernel_rfl) (fun _ _ _ h => h) (Or.inr ⟨by rfl, rfl⟩) hHeld ?_
    try simp only [Act.put, List.setIfInBounds_toArray, List.set_cons_zero, List.set_cons_succ]
    refine wpAnyH_take (i := 23) (oi := ⟨some 95, _, _, _, _, _⟩) (v := undef) rfl (by kernel_rfl) (by kernel_rfl) (by kernel_rfl) (fun _ _ _ h => h) (Or.inr ⟨by rfl, rfl⟩) hHeld ?_
    try simp only [Act.put, List.setIfInBounds_toArray, List.set_cons_zero, List.set_cons_succ]
    refine wpAnyH_take (i := 24) (oi := ⟨some 96, _, _, _, _, _⟩) (v := undef) rfl (by kernel_rfl) (by kernel_rfl) (by kernel_rfl) (fun _ _ _ h => h) (Or.inr ⟨by rfl, rfl⟩) hHeld ?_
    try simp only [Act.put, List.setIfInBounds_toArray, List.set_cons_zero, List.set_cons_succ]
    refine wpAnyH_take (i := 25) (oi := ⟨some 97, _, _, _, _, _⟩) (v := undef) rfl (by kernel_rfl) (by kernel_rfl) (by kernel_rfl) (fun _ _ _ h => h) (Or.inr ⟨by rfl, rfl⟩) hHeld ?_
    try simp only [Act.put, List.setIfInBounds_toArray, List.set_cons_zero, List.set_cons_succ]
    refine wpAnyH_take (i := 26) (oi := ⟨some 98, _, _, _, _, _⟩) (v := undef) rfl (by kernel_rfl) (by kernel_rfl) (by kernel_rfl) (fun _ _ _ h => h) (Or.inr ⟨by rfl, rfl⟩) hHeld ?_
    try simp only [Act.put, List.setIfInBounds_toArray, List.set_cons_zero, List.set_cons_succ]
    refine wpAnyH_take (i := 27) (oi := ⟨some 99, _, _, _, _, _⟩) (v := undef) rfl (by kernel_rfl) (by kernel_rfl) (by kernel_rfl) (fun _ _ _ h => h) (Or.inr ⟨by rfl, rfl⟩) hHeld ?_
    try simp only [Act.put, List.setIfInBounds_toArray, List.set_cons_zero, List.set_cons_succ]
    refine wpAnyH_take (i := 28) (oi := ⟨some 100, _, _, _, _, _⟩) (v := undef) rfl (by kernel_rfl) (by kernel_rfl) (by kernel_rfl) (fun _ _ _ h => h) (Or.inr ⟨by rfl, rfl⟩) hHeld ?_
    try simp only [Act.put, List.setIfInBounds_toArray, List.set_cons_zero, List.set_cons_succ]
    refine wpAnyH_take (i := 29) (oi := ⟨some 101, _, _, _, _, _⟩) (v := undef) rfl (by kernel_rfl) (by kernel_rfl) (by kernel_rfl) (fun _ _ _ h => h) (Or.inr ⟨by rfl, rfl⟩) hHeld ?_
    try simp only [Act.put, List.setIfInBounds_toArray, List.set_cons_zero, List.set_cons_succ]
    refine wpAnyH_take (i := 30) (oi := ⟨some 102, _, _, _, _, _⟩) (v := undef) rfl (by kernel_rfl) (by kernel_rfl) (by kernel_rfl) (fun _ _ _ h => h) (Or.inr ⟨by rfl, rfl⟩) hHeld ?_
    try simp only [Act.put, List.setIfInBounds_toArray, List.set_cons_zero, List.set_cons_succ]
    refine wpAnyH_take (i := 31) (oi := ⟨some 103, _, _, _, _, _⟩) (v := undef) rfl (by kernel_rfl) (by kernel_rfl) (by kernel_rfl) (fun _ _ _ h => h) (Or.inr ⟨by rfl, rfl⟩) hHeld ?_
    try simp only [Act.put, List.setIfInBounds_toArray, List.set_cons_zero, List.set_cons_succ]
    refine wpAnyH_take (i := 32) (oi := ⟨some 104, _, _, _, _, _⟩) (v := undef) rfl (by kernel_rfl) (by kernel_rfl) (by kernel_rfl) (fun _ _ _ h => h) (Or.inr ⟨by rfl, rfl⟩) hHeld ?_
    try simp only [Act.put, List.setIfInBounds_toArray, List.set_cons_zero, List.set_cons_succ]
    refine wpAnyH_take (i := 33) (oi := ⟨some 105, _, _, _, _, _⟩) (v := .bool false) rfl (by kernel_rfl) (by kernel_rfl) (by kernel_rfl) (fun _ _ _ h => h) (Or.inl ⟨by rfl, fun w' hw => by go_simp⟩) hHeld ?_
    try simp only [Act.put, List.setIfInBounds_toArray, List.set_cons_zero, List.set_cons_succ]
    refine wpAnyH_take (i := 34) (oi := ⟨some 106, _, _, _, _, _⟩) (v := .bool false) rfl (by kernel_rfl) (by kernel_rfl) (by kernel_rfl) (fun _ _ _ h => h) (Or.inl ⟨by rfl, fun w' hw => by go_simp⟩) hHeld ?_
    try simp only [Act.put, List.setIfInBounds_toArray, List.set_cons_zero, List.set_cons_succ]
    have R0 : Hid (FindsAt W Y6 p b2 M3 g 0 w8) := ⟨by rw [looked_zero]; exact O8.out, K8.out, hHeld⟩
    have hq0 := eql_zero
    refine wpAnyH_done (by kernel_rfl) ?_ _
    clear hHeld O8 K8
    rw [hg0] at R0
    go_wp2_with fail
    go_loopw [19, 20] (fun v19 v wr => ∃ i : Nat, v = .int .i64 i ∧ i ≤ 20 ∧ v19 = .int .i64 (cnt P i : Int) ∧ FindsAt W Y6 p b2 M3 (fun _ => 0) i wr) (fun _ v _ => 20 - (intOf v).toNat)
    case atStart => exact ⟨0, rfl, Nat.zero_le _, rfl, R0.out⟩
    case round =>
      obtain ⟨i, rfl, hi, rfl, hF⟩ := hrel
      have HF := Lib.hid hF
      clear hF R0
      by_cases hlt : i < 20
      · have HST := Lib.hid (looked_step M3 0 i T4.out.1 (by rw [T4.out.2]; exact hlt))
        have HCL := Lib.hid (looked_cell M3 0 i T4.out.1 (by rw [T4.out.2]; exact hlt))
        have HEL : Hid ((M3.looked 0 i).es.length < 1000000000) := by show (M3.looked 0 i).es.length < 1000000000; rw [looked_len]; omega
        have hle := cnt_le P i
        have hsu := cnt_succ P i
        have hfa := HFA.out i
        have hpd := HPD.out i
        obtain ⟨f, hf⟩ : ∃ f, C i = f := ⟨_, rfl⟩
        rw [hf] at hpd
        have HCF : Hid (M3.c 0 i = f) := by show _ = _; rw [C4.out, hf]
        have hu : IntKind.u64.wrap (i : Int) = (i : Int) := by rw [IntKind.wrap_u64]; omega
        go_wp2_with fail
        refine (own_read _ p (M3.looked 0 i) _ (0 : Nat) (i : Int) HF.out.own HEL.out).mono ?_
        rw [HST.out, HCL.out, HCF.out]
        rintro e w10 ⟨rfl, ho, hk⟩
        have HE : Hid (FindsAt W Y6 p b2 M3 (fun _ => 0) (i + 1) (w10.alloc (.cells (CA f) 30))) := ⟨(ho.alloc _).weak (fun i hi => .inl hi), (HF.out.kept.trans (hk.mono Y6o.out)).alloc _, (HF.out.var.kept hk Y6b.out).alloc _⟩
        have v0 : (w10.alloc (.cells (CA f) 30)).cell? ⟨w10.heap.size, κ, none⟩ = some (.int .u64 (f κ)) := (Var.new w10 f _).cell hκ
        obtain ⟨m, hm⟩ : ∃ m, cnt P i = m := ⟨_, rfl⟩
        rw [hm] at hle hsu ⊢
        have HSU := Lib.hid hsu
        clear ho hk HF hm hsu hf
        by_cases hd : f κ = x
        · have hd1 : (f κ == x) = true := by simp [hd]
          have hd2 : decide (f κ = x) = true := decide_eq_true hd
          rw [hd2] at hpd
          have hnl : ¬ i < 0 := hfa hpd hlt
          have hn1 : decide ((i : Int) < (0 : Int)) = false := decide_eq_false (by omega)
          have hn2 : decide (i < 0) = false := decide_eq_false hnl
          have HS1 : Hid (cnt P (i + 1) = m + 1) := by show _ = _; rw [HSU.out, if_pos hpd]
          clear hpd hfa hnl HSU
          go_wp2_with (with_reducible refine wpList_store_new rfl (.tmp 21) (.tmp 113) rfl rfl f rfl rfl ?_)
          go_roundw
          case rel => exact ⟨i + 1, by go_num, by omega, by rw [HS1.out]; simp, HE.out⟩
          case measure => simp [intOf]; omega
        · have hd1 : (f κ == x) = false := by simp [hd]
          have hd2 : decide (f κ = x) = false := decide_eq_false hd
          rw [hd2] at hpd
          have HS1 : Hid (cnt P (i + 1) = m) := by show _ = _; rw [HSU.out, if_neg (by rw [hpd]; simp)]; rfl
          clear hpd hfa HSU
          go_wp2_with (with_reducible refine wpList_store_new rfl (.tmp 21) (.tmp 113) rfl rfl f rfl rfl ?_)
          go_roundw
          case rel => exact ⟨i + 1, by go_num, by omega, by rw [HS1.out], HE.out⟩
          case measure => simp [intOf]; omega
      · obtain rfl : i = 20 := by omega
        have HK := Lib.hid (HF.out.kept.below (B := W.heap.size) (Nat.le_refl _) (fun i hi => hi))
        have HV := Lib.hid HF.out.var
        rw [HCC.out]
        clear HF
        go_wp2_with (with_reducible refine wpList_load_want (by kernel_rfl) (.tmp 14) rfl b2 0 rfl (fun _ => 0) HV.out.rng ?_)
        go_ret
        exact ⟨rfl, HK.out⟩
  · have hm0 : msk true = 18446744073709551615 := rfl
    obtain ⟨hA0, hg0, hgx⟩ := HSO.out rfl
    have hcn : c ≠ 0 := fun h => by have := HCZ.out.1 h; cases this
    have hc1 : ((c : Int) == 0) = false := beq_eq_false_iff_ne.2 (by omega)
    have hc2 : decide ((c : Int) = 0) = false := decide_eq_false (by omega)
    have hc3 : ¬ ((c : Int) = 0) := by omega
    have hr1 : (A : Int) % 20 = (A : Int) := by omega
    have hr2 : A % 20 = A := by omega
    have hr3 : (A : Int).tmod 20 = (A : Int) := by rw [Int.tmod_eq_emod_of_nonneg (by omega)]; omega
    have hr4 : IntKind.i64.wrap (A : Int) = (A : Int) := by simp only [IntKind.wrap_i64]; omega
    have hcell : ∀ w', Var w' b2 g → w'.cell? ⟨b2, κ, none⟩ = some (.int .u64 x) := fun w' h => by rw [h.cell hκ, hgx]
    have HCE := Lib.hid hcell
    have HG0 := Lib.hid hg0
    have hq := neq_cell g g
    rw [ceq_self, Bool.not_true] at hq
    clear hcell hg0 hgx
    rw [hm0]
    refine wpAnyH_take (i := 5) (oi := ⟨some 77, _, _, _, _, _⟩) (v := .int .u64 18446744073709551615) rfl (by kernel_rfl) (by kernel_rfl) (by kernel_rfl) (fun _ _ _ h => h) (Or.inl ⟨by rfl, fun w' hw => by go_simp⟩) hHeld ?_
    try simp only [Act.put, List.setIfInBounds_toArray, List.set_cons_zero, List.set_cons_succ]
    refine wpAnyH_take (i := 6) (oi := ⟨some 78, _, _, _, _, _⟩) (v := .bool false) rfl (by kernel_rfl) (by kernel_rfl) (by kernel_rfl) (fun _ _ _ h => h) (Or.inl ⟨by rfl, fun w' hw => by go_simp⟩) hHeld ?_
    try simp only [Act.put, List.setIfInBounds_toArray, List.set_cons_zero, List.set_cons_succ]
    refine wpAnyH_take (i := 7) (oi := ⟨some 79, _, _, _, _, _⟩) (v := .int .i64 (c : Int)) rfl (by kernel_rfl) (by kernel_rfl) (by kernel_rfl) (fun _ _ _ h => h) (Or.inl ⟨by rfl, fun w' hw => by go_simp⟩) hHeld ?_
    try simp only [Act.put, List.setIfInBounds_toArray, List.set_cons_zero, List.set_cons_succ]
    refine wpAnyH_take (i := 8) (oi := ⟨some 80, _, _, _, _, _⟩) (v := .bool false) rfl (by kernel_rfl) (by kernel_rfl) (by kernel_rfl) (fun _ _ _ h => h) (Or.inl ⟨by rfl, fun w' hw => by go_simp⟩) hHeld ?_
    try simp only [Act.put, List.setIfInBounds_toArray, List.set_cons_zero, List.set_cons_succ]
    refine wpAnyH_take (i := 9) (oi := ⟨some 81, _, _, _, _, _⟩) (v := .bool false) rfl (by kernel_rfl) (by kernel_rfl) (by kernel_rfl) (fun _ _ _ h => h) (Or.inl ⟨by rfl, fun w' hw => by go_simp⟩) hHeld ?_
    try simp only [Act.put, List.setIfInBounds_toArray, List.set_cons_zero, List.set_cons_succ]
    refine wpAnyH_take (i := 10) (oi := ⟨some 82, _, _, _, _, _⟩) (v := .bool false) rfl (by kernel_rfl) (by kernel_rfl) (by kernel_rfl) (fun _ _ _ h => h) (Or.inl ⟨by rfl, fun w' hw => by go_simp⟩) hHeld ?_
    try simp only [Act.put, List.setIfInBounds_toArray, List.set_cons_zero, List.set_cons_succ]
    refine wpAnyH_take (i := 11) (oi := ⟨some 83, _, _, _, _, _⟩) (v := .bool false) rfl (by kernel_rfl) (by kernel_rfl) (by kernel_rfl) (fun _ _ _ h => h) (Or.inl ⟨by rfl, fun w' hw => by go_simp⟩) hHeld ?_
    try simp only [Act.put, List.setIfInBounds_toArray, List.set_cons_zero, List.set_cons_succ]
    refine wpAnyH_take (i := 12) (oi := ⟨some 84, _, _, _, _, _⟩) (v := .int .u64 18446744073709551615) rfl (by kernel_rfl) (by kernel_rfl) (by kernel_rfl) (fun _ _ _ h => h) (Or.inl ⟨by rfl, fun w' hw => by go_simp⟩) hHeld ?_
    try simp only [Act.put, List.setIfInBounds_toArray, List.set_cons_zero, List.set_cons_succ]
    refine wpAnyH_take (i := 13) (oi := ⟨some 85, _, _, _, _, _⟩) (v := .bool true) rfl (by kernel_rfl) (by kernel_rfl) (by kernel_rfl) (fun _ _ _ h => h) (Or.inl ⟨by rfl, fun w' hw => by go_simp⟩) hHeld ?_
    try simp only [Act.put, List.setIfInBounds_toArray, List.set_cons_zero, List.set_cons_succ]
    refine wpAnyH_take (i := 14) (oi := ⟨some 86, _, _, _, _, _⟩) (v := .bool true) rfl (by kernel_rfl) (by kernel_rfl) (by kernel_rfl) (fun _ _ _ h => h) (Or.inl ⟨by rfl, fun w' hw => by go_simp⟩) hHeld ?_
    try simp only [Act.put, List.setIfInBounds_toArray, List.set_cons_zero, List.set_cons_succ]
    refine wpAnyH_take (i := 15) (oi := ⟨some 87, _, _, _, _, _⟩) (v := .int .u64 18446744073709551615) rfl (by kernel_rfl) (by kernel_rfl) (by kernel_rfl) (fun _ _ _ h => h) (Or.inl ⟨by rfl, fun w' hw => by go_simp⟩) hHeld ?_
    try simp only [Act.put, List.setIfInBounds_toArray, List.set_cons_zero, List.set_cons_succ]
    refine wpAnyH_take (i := 16) (oi := ⟨some 88, _, _, _, _, _⟩) (v := .bool false) rfl (by kernel_rfl) (by kernel_rfl) (by kernel_rfl) (fun _ _ _ h => h) (Or.inl ⟨by rfl, fun w' hw => by go_simp⟩) hHeld ?_
    try simp only [Act.put, List.setIfInBounds_toArray, List.set_cons_zero, List.set_cons_succ]
    refine wpAnyH_take (i := 17) (oi := ⟨some 89, _, _, _, _, _⟩) (v := .bool false) rfl (by kernel_rfl) (by kernel_rfl) (by kernel_rfl) (fun _ _ _ h => h) (Or.inl ⟨by rfl, fun w' hw => by go_simp⟩) hHeld ?_
    try simp only [Act.put, List.setIfInBounds_toArray, List.set_cons_zero, List.set_cons_succ]
    refine wpAnyH_take (i := 18) (oi := ⟨some 90, _, _, _, _, _⟩) (v := .int .i64 (κ : Int)) rfl (by kernel_rfl) (by kernel_rfl) (by kernel_rfl) (fun _ _ _ h => h) (Or.inl ⟨by rfl, fun w' hw => by go_simp⟩) hHeld ?_
    try simp only [Act.put, List.setIfInBounds_toArray, List.set_cons_zero, List.set_cons_succ]
    refine wpAnyH_take (i := 19) (oi := ⟨some 91, _, _, _, _, _⟩) (v := .pointer (some ⟨b2, κ, none⟩)) rfl (by kernel_rfl) (by kernel_rfl) (by kernel_rfl) (fun _ _ _ h => h) (Or.inl ⟨by rfl, fun w' hw => by go_simp; try (intro h; omega)⟩) hHeld ?_
    try simp only [Act.put, List.setIfInBounds_toArray, List.set_cons_zero, List.set_cons_succ]
    refine wpAnyH_take (i := 20) (oi := ⟨some 92, _, _, _, _, _⟩) (v := .int .u64 x) rfl (by kernel_rfl) (by kernel_rfl) (by kernel_rfl) (fun _ _ _ h => h) (Or.inl ⟨by rfl, fun w' hw => by have h0 := HCE.out w' hw; go_simp⟩) hHeld ?_
    try simp only [Act.put, List.setIfInBounds_toArray, List.set_cons_zero, List.set_cons_succ]
    refine wpAnyH_take (i := 21) (oi := ⟨some 93, _, _, _, _, _⟩) (v := .int .u64 x) rfl (by kernel_rfl) (by kernel_rfl) (by kernel_rfl) (fun _ _ _ h => h) (Or.inl ⟨by rfl, fun w' hw => by go_simp⟩) hHeld ?_
    try simp only [Act.put, List.setIfInBounds_toArray, List.set_cons_zero, List.set_cons_succ]
    refine wpAnyH_take (i := 22) (oi := ⟨some 94, _, _, _, _, _⟩) (v := .bool false) rfl (by kernel_rfl) (by kernel_rfl) (by kernel_rfl) (fun _ _ _ h => h) (Or.inl ⟨by rfl, fun w' hw => by go_simp⟩) hHeld ?_
    try simp only [Act.put, List.setIfInBounds_toArray, List.set_cons_zero, List.set_cons_succ]
    refine wpAnyH_take (i := 23) (oi := ⟨some 95, _, _, _, _, _⟩) (v := .bool false) rfl (by kernel_rfl) (by kernel_rfl) (by kernel_rfl) (fun _ _ _ h => h) (Or.inl ⟨by rfl, fun w' hw => by go_simp⟩) hHeld ?_
    try simp only [Act.put, List.setIfInBounds_toArray, List.set_cons_zero, List.set_cons_succ]
    refine wpAnyH_take (i := 24) (oi := ⟨some 96, _, _, _, _, _⟩) (v := .bool false) rfl (by kernel_rfl) (by kernel_rfl) (by kernel_rfl) (fun _ _ _ h => h) (Or.inl ⟨by rfl, fun w' hw => by go_simp⟩) hHeld ?_
    try simp only [Act.put, List.setIfInBounds_toArray, List.set_cons_zero, List.set_cons_succ]
    refine wpAnyH_take (i := 25) (oi := ⟨some 97, _, _, _, _, _⟩) (v := .pointer (some ⟨p, 0, none⟩)) rfl (by kernel_rfl) (by kernel_rfl) (by kernel_rfl) (fun _ _ _ h => h) (Or.inl ⟨by rfl, fun w' hw => by go_simp⟩) hHeld ?_
    try simp only [Act.put, List.setIfInBounds_toArray, List.set_cons_zero, List.set_cons_succ]
    refine wpAnyH_take (i := 26) (oi := ⟨some 98, _, _, _, _, _⟩) (v := .int .u64 (A : Int)) rfl (by kernel_rfl) (by kernel_rfl) (by kernel_rfl) (fun _ _ _ h => h) (Or.inl ⟨by rfl, fun w' hw => by go_simp⟩) hHeld ?_
    try simp only [Act.put, List.setIfInBounds_toArray, List.set_cons_zero, List.set_cons_succ]
    refine wpAnyH_take (i := 27) (oi := ⟨some 99, _, _, _, _, _⟩) (v := .int .u64 (A : Int)) rfl (by kernel_rfl) (by kernel_rfl) (by kernel_rfl) (fun _ _ _ h => h) (Or.inl ⟨by rfl, fun w' hw => by go_simp⟩) hHeld ?_
    try simp only [Act.put, List.setIfInBounds_toArray, List.set_cons_zero, List.set_cons_succ]
    refine wpAnyH_take (i := 28) (oi := ⟨some 100, _, _, _, _, _⟩) (v := .int .i64 (A : Int)) rfl (by kernel_rfl) (by kernel_rfl) (by kernel_rfl) (fun _ _ _ h => h) (Or.inl ⟨by rfl, fun w' hw => by go_simp⟩) hHeld ?_
    try simp only [Act.put, List.setIfInBounds_toArray, List.set_cons_zero, List.set_cons_succ]
    refine take_row 30 (oi := ⟨some 102, _, _, _, _, _⟩) (CA g).toList rfl (by kernel_rfl) (by kernel_rfl) (by kernel_rfl) (fun _ _ _ h => h) (by rfl) _ _ rfl _ _ rfl _ (fun _ h => h.rng) Try.underlying30 rfl (infoCellL g) hHeld ?_
    try simp only [Act.put, List.setIfInBounds_toArray, List.set_cons_zero, List.set_cons_succ]
    have HST := Lib.hid (looked_step M3 0 A T4.out.1 (by rw [T4.out.2]; exact hA0))
    refine one_ready 29 rfl (by kernel_rfl) (fun K hK => ?_)
    go_simp
    refine (own_read _ p M3 _ (0 : Nat) (A : Int) O8.out (by omega)).mono ?_
    rw [show M3.cell ((0 : Nat) : Int) (A : Int) = g from by rw [HG0.out, ← C4.out]; unfold MS.cell; rw [if_pos (MS.hit_of T4.out.1 (by rw [T4.out.2]; exact hA0))]; simp]
    rintro e w9 ⟨rfl, ho, hk⟩
    have hV := hHeld.kept hk Y6b.out
    have hrs := read_same M3 ((0 : Nat) : Int) (A : Int)
    have hrl := len_read M3 ((0 : Nat) : Int) (A : Int)
    have hrc : (M3.read ((0 : Nat) : Int) (A : Int)).c 0 = C := by
      rw [← C4.out]; unfold MS.read; split <;> rfl
    have O9 := Lib.hid ho
    have K9 := Lib.hid (K8.out.trans (hk.mono Y6o.out))
    have T5 : Hid (0 < (M3.read ((0 : Nat) : Int) (A : Int)).k ∧ (M3.read ((0 : Nat) : Int) (A : Int)).sz 0 = 20) := ⟨by rw [hrs.1]; exact T4.out.1, by rw [hrs.2]; exact T4.out.2⟩
    have C5 := Lib.hid hrc
    have hl5 : (M3.read ((0 : Nat) : Int) (A : Int)).es.length ≤ 101 := by omega
    clear ho hk O8 K8 T4 C4 hl4 hrs hrl hrc HST
    generalize M3.read ((0 : Nat) : Int) (A : Int) = M4 at *
    have R0 : Hid (FindsAt W Y6 p b2 M4 g 0 w9) := ⟨by rw [looked_zero]; exact O9.out, K9.out, hV⟩
    clear O9 K9
    refine hK.out _ _ (hV) (fun hHeld => ?_)
    clear hK K
    try simp only [Act.put, List.setIfInBounds_toArray, List.set_cons_zero, List.set_cons_succ]
    refine wpAnyH_take (i := 31) (oi := ⟨some 103, _, _, _, _, _⟩) (v := .bool false) rfl (by kernel_rfl) (by kernel_rfl) (by kernel_rfl) (fun _ _ _ h => h) (Or.inl ⟨by rfl, fun w' hw => by go_simp⟩) hHeld ?_
    try simp only [Act.put, List.setIfInBounds_toArray, List.set_cons_zero, List.set_cons_succ]
    refine wpAnyH_take (i := 32) (oi := ⟨some 104, _, _, _, _, _⟩) (v := .bool false) rfl (by kernel_rfl) (by kernel_rfl) (by kernel_rfl) (fun _ _ _ h => h) (Or.inl ⟨by rfl, fun w' hw => by go_simp⟩) hHeld ?_
    try simp only [Act.put, List.setIfInBounds_toArray, List.set_cons_zero, List.set_cons_succ]
    refine wpAnyH_take (i := 33) (oi := ⟨some 105, _, _, _, _, _⟩) (v := .bool false) rfl (by kernel_rfl) (by kernel_rfl) (by kernel_rfl) (fun _ _ _ h => h) (Or.inl ⟨by rfl, fun w' hw => by go_simp⟩) hHeld ?_
    try simp only [Act.put, List.setIfInBounds_toArray, List.set_cons_zero, List.set_cons_succ]
    refine wpAnyH_take (i := 34) (oi := ⟨some 106, _, _, _, _, _⟩) (v := .bool false) rfl (by kernel_rfl) (by kernel_rfl) (by kernel_rfl) (fun _ _ _ h => h) (Or.inl ⟨by rfl, fun w' hw => by go_simp⟩) hHeld ?_
    try simp only [Act.put, List.setIfInBounds_toArray, List.set_cons_zero, List.set_cons_succ]
    refine wpAnyH_done (by kernel_rfl) ?_ _
    clear hHeld hV hq HG0 HCE hr1 hr2 hr3 hr4
    go_wp2_with fail
    go_loopw [19, 20] (fun v19 v wr => ∃ i : Nat, v = .int .i64 i ∧ i ≤ 20 ∧ v19 = .int .i64 (cnt P i : Int) ∧ FindsAt W Y6 p b2 M4 g i wr) (fun _ v _ => 20 - (intOf v).toNat)
    case atStart => exact ⟨0, rfl, Nat.zero_le _, rfl, R0.out⟩
    case round =>
      obtain ⟨i, rfl, hi, rfl, hF⟩ := hrel
      have HF := Lib.hid hF
      clear hF R0
      by_cases hlt : i < 20
      · have HST := Lib.hid (looked_step M4 0 i T5.out.1 (by rw [T5.out.2]; exact hlt))
        have HCL := Lib.hid (looked_cell M4 0 i T5.out.1 (by rw [T5.out.2]; exact hlt))
        have HEL : Hid ((M4.looked 0 i).es.length < 1000000000) := by show (M4.looked 0 i).es.length < 1000000000; rw [looked_len]; omega
        have hle := cnt_le P i
        have hsu := cnt_succ P i
        have hfa := HFA.out i
        have hpd := HPD.out i
        obtain ⟨f, hf⟩ : ∃ f, C i = f := ⟨_, rfl⟩
        rw [hf] at hpd
        have HCF : Hid (M4.c 0 i = f) := by show _ = _; rw [C5.out, hf]
        have hu : IntKind.u64.wrap (i : Int) = (i : Int) := by rw [IntKind.wrap_u64]; omega
        go_wp2_with fail
        refine (own_read _ p (M4.looked 0 i) _ (0 : Nat) (i : Int) HF.out.own HEL.out).mono ?_
        rw [HST.out, HCL.out, HCF.out]
        rintro e w10 ⟨rfl, ho, hk⟩
        have HE : Hid (FindsAt W Y6 p b2 M4 g (i + 1) (w10.alloc (.cells (CA f) 30))) := ⟨(ho.alloc _).weak (fun i hi => .inl hi), (HF.out.kept.trans (hk.mono Y6o.out)).alloc _, (HF.out.var.kept hk Y6b.out).alloc _⟩
        have v0 : (w10.alloc (.cells (CA f) 30)).cell? ⟨w10.heap.size, κ, none⟩ = some (.int .u64 (f κ)) := (Var.new w10 f _).cell hκ
        obtain ⟨m, hm⟩ : ∃ m, cnt P i = m := ⟨_, rfl⟩
        rw [hm] at hle hsu ⊢
        have HSU := Lib.hid hsu
        clear ho hk HF hm hsu hf
        by_cases hd : f κ = x
        · have hd1 : (f κ == x) = true := by simp [hd]
          have hd2 : decide (f κ = x) = true := decide_eq_true hd
          rw [hd2] at hpd
          have hnl : ¬ i < A := hfa hpd hlt
          have hn1 : decide ((i : Int) < (A : Int)) = false := decide_eq_false (by omega)
          have hn2 : decide (i < A) = false := decide_eq_false hnl
          have HS1 : Hid (cnt P (i + 1) = m + 1) := by show _ = _; rw [HSU.out, if_pos hpd]
          clear hpd hfa hnl HSU
          go_wp2_with (with_reducible refine wpList_store_new rfl (.tmp 21) (.tmp 113) rfl rfl f rfl rfl ?_)
          go_roundw
          case rel => exact ⟨i + 1, by go_num, by omega, by rw [HS1.out]; simp, HE.out⟩
          case measure => simp [intOf]; omega
        · have hd1 : (f κ == x) = false := by simp [hd]
          have hd2 : decide (f κ = x) = false := decide_eq_false hd
          rw [hd2] at hpd
          have HS1 : Hid (cnt P (i + 1) = m) := by show _ = _; rw [HSU.out, if_neg (by rw [hpd]; simp)]; rfl
          clear hpd hfa HSU
          go_wp2_with (with_reducible refine wpList_store_new rfl (.tmp 21) (.tmp 113) rfl rfl f rfl rfl ?_)
          go_roundw
          case rel => exact ⟨i + 1, by go_num, by omega, by rw [HS1.out], HE.out⟩
          case measure => simp [intOf]; omega
      · obtain rfl : i = 20 := by omega
        have HK := Lib.hid (HF.out.kept.below (B := W.heap.size) (Nat.le_refl _) (fun i hi => hi))
        have HV := Lib.hid HF.out.var
        rw [HCC.out]
        clear HF
        go_wp2_with (with_reducible refine wpList_load_want (by kernel_rfl) (.tmp 14) rfl b2 0 rfl g HV.out.rng ?_)
        go_ret
        exact ⟨rfl, HK.out⟩
theorem finds_law (a : Option Addr) (n cap : Nat) (z : Nat → Int) (key x y : Int) (W : World) (hn : n ≤ 9223372036854775807) (hz : Nums .u64 W W.heap.size a n z) (hx : (Lit.int .u64 x).wf = true) (hy : (Lit.int .u64 y).wf = true) :
    Calls Try.prog 5 #[.slice a n cap, .int .i64 key, .int .u64 x, .int .u64 y] W (Yes W) := by
  by_cases h : 40 < n ∨ key < 0 ∨ 11 < key
  · exact finds_out a n cap key x y W hn h
  · obtain ⟨κ, rfl⟩ := Int.eq_ofNat_of_zero_le (a := key) (by omega)
    exact finds_in a n cap z κ x y W (by omega) hz (by omega) (u64_rng hx).1 (u64_rng hx).2 (u64_rng hy).1 (u64_rng hy).2
end Go.Proofs.Ytgppediikggogaa
