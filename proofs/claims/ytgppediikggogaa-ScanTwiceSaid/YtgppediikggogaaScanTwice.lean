/- The walk of the law on two that are put: the last one is got; what is found by a word is told to be there. Conditions: the slice's cells hold numbers, the words are words of 64 bits. -/
import Derived.Test.YtgppediikggogaaScanLaw
namespace Go.Proofs.Ytgppediikggogaa
open Go.RowKit Go.ChangeShapes Go.WideShapes Go.ChangeAt

theorem twice_out (a : Option Addr) (n cap : Nat) (i k x y : Int) (W : World) (hn : n ≤ 9223372036854775807) (h : 40 < n) :
    Calls Try.prog 7 #[.slice a n cap, .int .u64 i, .int .u64 k, .int .u64 x, .int .u64 y] W (Yes W) := by
  go_enter Try.func7, Try.ntmps7
  go_wp2_with fail
  refine (shown_any W).mono ?_
  rintro e w0 ⟨rfl, hb0⟩
  have HB := Lib.hid hb0
  clear hb0
  go_wp2_with fail
  go_ret
  exact ⟨rfl, HB.out⟩
/-- Between two looks ahead. -/
def AheadAt (W : World) (X : Nat → Prop) (p : Nat) (M : MS) (b : Nat) (c : Nat → Int) (j : Nat) (wr : World) : Prop := Own wr X p (M.looked 0 j) ∧ Kept (old W) W wr ∧ Var wr b c ∧ X b ∧ ∀ i, i < W.heap.size → X i
set_option linter.unusedSimpArgs false in
set_option maxRecDepth 100000 in
set_option maxHeartbeats 1000000 in
theorem twice_in (a : Option Addr) (n cap : Nat) (z : Nat → Int) (i0 k0 : Nat) (x y : Int) (W : World) (hn : n ≤ 40) (hz : Nums .u64 W W.heap.size a n z) (y0 : 0 ≤ y) (y1 : y ≤ 18446744073709551615) (hi0 : (i0 : Int) ≤ 18446744073709551615) (hk0 : (k0 : Int) ≤ 18446744073709551615) :
    Calls Try.prog 7 #[.slice a n cap, .int .u64 (i0 : Int), .int .u64 (k0 : Int), .int .u64 x, .int .u64 y] W (Yes W) := by
  have HZ := Lib.hid hz
  obtain ⟨i, hi, hri⟩ : ∃ i : Nat, i < 16 ∧ (i0 : Int) % 16 = (i : Int) := ⟨i0 % 16, by omega, by omega⟩
  obtain ⟨k, hk, hrk⟩ : ∃ k : Nat, k < 16 ∧ (k0 : Int) % 16 = (k : Int) := ⟨k0 % 16, by omega, by omega⟩
  clear hz
  go_enter Try.func7, Try.ntmps7
  go_wp2_with fail
  refine (shown_any W).mono ?_
  rintro e w0 ⟨rfl, hb0⟩
  have B0 := Lib.hid hb0
  have K0 : Hid (Kept (old W) W w0) := Only.of_below hb0
  clear hb0
  go_wp2_with fail
  refine (laid_any 1 16 a n cap W.heap.size z _ (by decide) (by decide) (by decide) (by decide) (HZ.out.below B0.out) B0.out.size).mono ?_
  rintro e w1 ⟨p, q, rfl, hm, ho⟩
  have O1 := Lib.hid (hm.left.weak (Y := old W) (fun i (hi : i < W.heap.size) => Nat.lt_of_lt_of_le hi B0.out.size))
  have K1 := Lib.hid (K0.out.trans (Kept.of_none ho))
  clear hm ho K0 B0
  have l1 := laidM_len 1 16 z (min n 16)
  have hm1 : min n 16 ≤ 16 := by omega
  have S1 : Hid ((laidM 1 16 z (min n 16)).size 0 = 16) := rfl
  have W1 := Lib.hid (laidM_wd 1 16 z (min n 16))
  have T1 : Hid (0 < (laidM 1 16 z (min n 16)).k ∧ (laidM 1 16 z (min n 16)).sz 0 = 16) := ⟨Nat.zero_lt_one, rfl⟩
  generalize laidM 1 16 z (min n 16) = M0 at *
  generalize min n 16 = m at *
  go_wp2_with fail
  refine (cell_only x _).mono ?_
  rintro e w2 ⟨rfl, ho⟩
  have O2 := Lib.hid (O1.out.none ho)
  have K2 := Lib.hid (K1.out.trans (Kept.of_none ho))
  clear ho O1 K1
  go_wp2_with fail
  refine (put_any _ p M0 0 (i : Int) (cw x) true _ O2.out W1.out (wd_cw x) (by omega) (by omega) (by rw [S1.out, l1]; omega)).mono ?_
  rw [S1.out, show ((0 : Int).toNat) = 0 from rfl, Int.toNat_natCast]
  rintro e w3 ⟨rfl, ho, hkk⟩
  have O3 := Lib.hid ho
  have K3 := Lib.hid (K2.out.trans hkk)
  have l3 := anew_len M0 0 i (cw x) true 16
  have S3 : Hid ((M0.anew 0 i (cw x) true 16).size 0 = 16) := S1.out
  have W3 := Lib.hid (wd_anew W1.out (wd_cw x) 0 i true 16)
  have C3 : Hid ((M0.anew 0 i (cw x) true 16).c 0 i = cw x) := by show _ = _; rw [anew_c, if_pos ⟨rfl, hi, rfl, rfl⟩]
  have T3 : Hid (0 < (M0.anew 0 i (cw x) true 16).k ∧ (M0.anew 0 i (cw x) true 16).sz 0 = 16) := T1.out
  rw [l1] at l3
  clear ho hkk O2 K2 S1 W1 T1
  generalize M0.anew 0 i (cw x) true 16 = M1 at *
  go_wp2_with fail
  refine (cell_only y _).mono ?_
  rintro e w4 ⟨rfl, ho⟩
  have O4 := Lib.hid (O3.out.none ho)
  have K4 := Lib.hid (K3.out.trans (Kept.of_none ho))
  clear ho O3 K3
  go_wp2_with fail
  refine (put_any _ p M1 0 (k : Int) (cw y) true _ O4.out W3.out (wd_cw y) (by omega) (by omega) (by rw [S3.out, l3]; omega)).mono ?_
  rw [S3.out, show ((0 : Int).toNat) = 0 from rfl, Int.toNat_natCast]
  rintro e w5 ⟨rfl, ho, hkk⟩
  have O5 := Lib.hid ho
  have K5 := Lib.hid (K4.out.trans hkk)
  have l5 := anew_len M1 0 k (cw y) true 16
  have S5 : Hid ((M1.anew 0 k (cw y) true 16).size 0 = 16) := S3.out
  have W5 := Lib.hid (wd_anew W3.out (wd_cw y) 0 k true 16)
  have C5 : Hid ((M1.anew 0 k (cw y) true 16).c 0 k = cw y) := by show _ = _; rw [anew_c, if_pos ⟨rfl, hk, rfl, rfl⟩]
  have D5 : Hid (i ≠ k → (M1.anew 0 k (cw y) true 16).c 0 i = cw x) := fun hne => by rw [anew_c, if_neg (fun h => hne h.2.2.1)]; exact C3.out
  have T5 : Hid (0 < (M1.anew 0 k (cw y) true 16).k ∧ (M1.anew 0 k (cw y) true 16).sz 0 = 16) := T3.out
  rw [l3] at l5
  clear ho hkk O4 K4 S3 W3 C3 T3
  generalize M1.anew 0 k (cw y) true 16 = M2 at *
  have hq := neq_cell (cw y) (cw y)
  rw [ceq_self, Bool.not_true] at hq
  go_wp2_with fail
  refine (get_any _ p M2 0 (k : Int) _ O5.out W5.out (by omega) (by omega) (by rw [S5.out, l5]; omega)).mono ?_
  rw [S5.out, show ((0 : Int).toNat) = 0 from rfl, gt_in k _ 16 hk, C5.out]
  rintro e w6 ⟨rfl, ho, hkk⟩
  have O6 := Lib.hid ho
  have K6 := Lib.hid (K5.out.trans hkk)
  clear ho hkk O5 K5
  go_wp2_with fail
  refine (cell_only y _).mono ?_
  rintro e w7 ⟨rfl, ho⟩
  have O7 := Lib.hid (O6.out.none ho)
  have K7 := Lib.hid (K6.out.trans (Kept.of_none ho))
  clear ho O6 K6
  by_cases hik : i = k
  · have hik1 : ((i : Int) == (k : Int)) = true := by simp [hik]
    have hik2 : decide ((i : Int) = (k : Int)) = true := by simp [hik]
    have hik3 : (i == k) = true := by simp [hik]
    have hik4 : decide (i = k) = true := by simp [hik]
    have O8 := O7
    have K8 := K7
    clear O7 K7
    have l8 : (M2.looked 0 16).es.length ≤ 200 := by simp only [looked_len]; omega
    have S4 : Hid ((M2.looked 0 16).size 0 = 16) := S5.out
    have W4 : Hid (M2.looked 0 16).wd := W5.out
    have C4 : Hid ((M2.looked 0 16).c 0 k = cw y) := C5.out
    have T4 : Hid (0 < (M2.looked 0 16).k ∧ (M2.looked 0 16).sz 0 = 16) := T5.out
    clear l5 S5 W5 C5 T5 D5
    generalize M2.looked 0 16 = M4 at *
    go_wp2_with fail
    refine (find_any _ p M4 0 0 y _ O8.out W4.out (by decide) (by decide) y0 y1 (by rw [S4.out]; omega)).mono ?_
    obtain ⟨C, hC⟩ : ∃ C, M4.c 0 = C := ⟨_, rfl⟩
    obtain ⟨P, hP⟩ : ∃ P, hs 0 y C = P := ⟨_, rfl⟩
    have hPd : ∀ j, P j = decide (C j 0 = y) := fun j => by rw [← hP]; exact hw_nat (κ := 0) (by decide)
    have hPk : P k = true := by rw [hPd, ← hC, C4.out, cw_zero y y0 y1]; exact decide_eq_true rfl
    obtain ⟨f1, f2, f3, f4, f5⟩ := fnd_first P C 16 k hk hPk
    obtain ⟨A, hA⟩ : ∃ A, (fnd P C 16).1 = A := ⟨_, rfl⟩
    obtain ⟨G, hG⟩ : ∃ G, (fnd P C 16).2.1 = G := ⟨_, rfl⟩
    have hfv : fndV 0 y (M4.c 0) 16 = .tuple #[.int .u64 (A : Int), .agg (CA G), .int .u64 18446744073709551615] := by unfold fndV; rw [hC, hP, hA, hG, f1]; rfl
    rw [S4.out, show ((0 : Int).toNat) = 0 from rfl, hfv]
    rw [hA] at f2 f3 f4 f5
    rw [hG] at f3
    have hG0 : G 0 = y := by rw [f3]; rw [hPd] at f4; exact of_decide_eq_true f4
    have FA := Lib.hid f5
    have PD := Lib.hid hPd
    have HC := Lib.hid hC
    have G0 := Lib.hid hG0
    clear hfv f1 f3 f4 f5 hG hA hP hPk hPd hC hG0
    rintro e w9 ⟨rfl, ho, hkk⟩
    have R0 : Hid (AheadAt W (fun i => old W i ∨ i = w9.heap.size) p (M4.looked 0 16) w9.heap.size G 0 (w9.alloc (.cells (CA G) 30))) := by
      refine ⟨?_, ?_, Var.new w9 G _, .inr rfl, fun i hi => .inl hi⟩
      · rw [looked_zero]; exact ho.alloc _
      · exact (K8.out.trans hkk).alloc _
    clear ho hkk O8 K8
    go_wp2_with (with_reducible refine wpList_store_new rfl (.tmp 16) (.tmp 77) rfl rfl G rfl rfl ?_)
    generalize w9.heap.size = b9 at *
    go_loopw [18, 19] (fun v18 v19 wr => ∃ j : Nat, v19 = .int .u64 j ∧ j ≤ k ∧ v18 = .bool (anyb P j) ∧ AheadAt W (fun i => old W i ∨ i = b9) p (M4.looked 0 16) b9 G j wr) (fun _ v _ => k - (intOf v).toNat)
    case atStart => exact ⟨0, rfl, Nat.zero_le _, rfl, R0.out⟩
    case round =>
      obtain ⟨j, rfl, hj, rfl, hA⟩ := hrel
      have HA := Lib.hid hA
      clear hA R0
      by_cases hlt : j < k
      · have HST := Lib.hid (looked_step (M4.looked 0 16) 0 j T4.out.1 (by show j < M4.sz 0; rw [T4.out.2]; omega))
        have HCL := Lib.hid (looked_cell (M4.looked 0 16) 0 j T4.out.1 (by show j < M4.sz 0; rw [T4.out.2]; omega))
        have hel : ((M4.looked 0 16).looked 0 j).es.length < 1000000000 := by rw [looked_len, looked_len]; omega
        have HEL := Lib.hid hel
        obtain ⟨f, hf⟩ : ∃ f, M4.c 0 j = f := ⟨_, rfl⟩
        have hpj : P j = decide (f 0 = y) := by rw [PD.out, ← HC.out, hf]
        have HF := Lib.hid (show (M4.looked 0 16).c 0 j = f from hf)
        clear hel hf
        go_wp2_with fail
        refine (own_read _ p _ _ 0 (j : Int) HA.out.1 HEL.out).mono ?_
        rw [show (0 : Int) = ((0 : Nat) : Int) from rfl, HST.out, HCL.out, HF.out]
        rintro e w10 ⟨rfl, ho, hkk⟩
        have HE : Hid (AheadAt W (fun i => old W i ∨ i = b9) p (M4.looked 0 16) b9 G (j + 1) (w10.alloc (.cells (CA f) 30))) := by
          refine ⟨(ho.alloc _).weak (fun i hi => .inl hi), (HA.out.2.1.trans (hkk.mono (fun i hi => .inl hi))).alloc _, (HA.out.2.2.1.kept hkk (.inr rfl)).alloc _, .inr rfl, fun i hi => .inl hi⟩
        have V0 : (w10.alloc (.cells (CA f) 30)).cell? ⟨w10.heap.size, 0, none⟩ = some (.int .u64 (f 0)) := (Var.new w10 f _).cell (by decide)
        have hsu := anyb_succ P j
        rw [hpj] at hsu
        clear ho hkk HA
        cases hb : anyb P j
        · rw [hb, Bool.false_or] at hsu
          by_cases hd : f 0 = y
          · have hd1 : (f 0 == y) = true := by simp [hd]
            have hd2 : decide (f 0 = y) = true := decide_eq_true hd
            rw [hd2] at hsu
            have HSU := Lib.hid hsu
            clear hsu hb hpj
            go_wp2_with (with_reducible refine wpList_store_new rfl (.tmp 20) (.tmp 87) rfl rfl f rfl rfl ?_)
            go_roundw
            case rel => exact ⟨j + 1, by go_num, by omega, by rw [HSU.out], HE.out⟩
            case measure => simp [intOf]; omega
          · have hd1 : (f 0 == y) = false := by simp [hd]
            have hd2 : decide (f 0 = y) = false := decide_eq_false hd
            rw [hd2] at hsu
            have HSU := Lib.hid hsu
            clear hsu hb hpj
            go_wp2_with (with_reducible refine wpList_store_new rfl (.tmp 20) (.tmp 87) rfl rfl f rfl rfl ?_)
            go_roundw
            case rel => exact ⟨j + 1, by go_num, by omega, by rw [HSU.out], HE.out⟩
            case measure => simp [intOf]; omega
        · rw [hb, Bool.true_or] at hsu
          have HSU := Lib.hid hsu
          clear hsu hb hpj
          go_wp2_with (with_reducible refine wpList_store_new rfl (.tmp 20) (.tmp 87) rfl rfl f rfl rfl ?_)
          go_roundw
          case rel => exact ⟨j + 1, by go_num, by omega, by rw [HSU.out], HE.out⟩
          case measure => simp [intOf]; omega
      · obtain rfl : j = k := by omega
        have hc0 : wr.cell? ⟨b9, 0, none⟩ = some (.int .u64 y) := by rw [HA.out.2.2.1.cell (by decide), G0.out]
        have HE := Lib.hid (HA.out.2.1.below (Nat.le_refl _) (fun i hi => hi))
        have hle1 : decide ((A : Int) ≤ (j : Int)) = true := decide_eq_true (by omega)
        have hle2 : decide (A ≤ j) = true := decide_eq_true f2
        clear HA
        by_cases hAk : A = j
        · have hfa := FA.out
          rw [decide_eq_true hAk] at hfa
          have han : anyb P j = false := by cases h : anyb P j; rfl; rw [h] at hfa; cases hfa
          rw [han]
          have ha1 : ((A : Int) == (j : Int)) = true := by simp [hAk]
          have ha2 : decide ((A : Int) = (j : Int)) = true := by simp [hAk]
          have ha3 : (A == j) = true := by simp [hAk]
          have ha4 : decide (A = j) = true := by simp [hAk]
          clear hfa han
          go_wp2_with fail
          go_ret
          exact ⟨rfl, HE.out⟩
        · have hfa := FA.out
          rw [decide_eq_false hAk] at hfa
          have han : anyb P j = true := by cases h : anyb P j; rw [h] at hfa; cases hfa; rfl
          rw [han]
          have ha0 : ¬ ((A : Int) = (j : Int)) := by omega
          have ha1 : ((A : Int) == (j : Int)) = false := beq_eq_false_iff_ne.2 ha0
          have ha2 : decide ((A : Int) = (j : Int)) = false := decide_eq_false ha0
          have ha3 : (A == j) = false := by simp [hAk]
          have ha4 : decide (A = j) = false := by simp [hAk]
          clear hfa han
          go_wp2_with fail
          go_ret
          exact ⟨rfl, HE.out⟩
  · have hik0 : ¬ ((i : Int) = (k : Int)) := by omega
    have hik1 : ((i : Int) == (k : Int)) = false := beq_eq_false_iff_ne.2 hik0
    have hik2 : decide ((i : Int) = (k : Int)) = false := decide_eq_false hik0
    have hik3 : (i == k) = false := by simp [hik]
    have hik4 : decide (i = k) = false := by simp [hik]
    have hq2 := neq_cell (cw x) (cw x)
    rw [ceq_self, Bool.not_true] at hq2
    go_wp2_with fail
    refine (get_any _ p (M2.looked 0 16) 0 (i : Int) _ O7.out W5.out (by omega) (by omega) (by rw [looked_size, S5.out, looked_len]; omega)).mono ?_
    rw [looked_size, S5.out, show ((0 : Int).toNat) = 0 from rfl, gt_in i _ 16 hi, show (M2.looked 0 16).c 0 i = cw x from D5.out hik]
    rintro e w8 ⟨rfl, ho, hkk⟩
    have O9 := Lib.hid ho
    have K9 := Lib.hid (K7.out.trans hkk)
    clear ho hkk O7 K7
    go_wp2_with fail
    refine (cell_only x _).mono ?_
    rintro e w12 ⟨rfl, ho⟩
    have O8 := Lib.hid (O9.out.none ho)
    have K8 := Lib.hid (K9.out.trans (Kept.of_none ho))
    clear ho O9 K9
    have l8 : ((M2.looked 0 16).looked 0 16).es.length ≤ 200 := by simp only [looked_len]; omega
    have S4 : Hid (((M2.looked 0 16).looked 0 16).size 0 = 16) := S5.out
    have W4 : Hid ((M2.looked 0 16).looked 0 16).wd := W5.out
    have C4 : Hid (((M2.looked 0 16).looked 0 16).c 0 k = cw y) := C5.out
    have T4 : Hid (0 < ((M2.looked 0 16).looked 0 16).k ∧ ((M2.looked 0 16).looked 0 16).sz 0 = 16) := T5.out
    clear l5 S5 W5 C5 T5 D5
    generalize (M2.looked 0 16).looked 0 16 = M4 at *
    go_wp2_with fail
    refine (find_any _ p M4 0 0 y _ O8.out W4.out (by decide) (by decide) y0 y1 (by rw [S4.out]; omega)).mono ?_
    obtain ⟨C, hC⟩ : ∃ C, M4.c 0 = C := ⟨_, rfl⟩
    obtain ⟨P, hP⟩ : ∃ P, hs 0 y C = P := ⟨_, rfl⟩
    have hPd : ∀ j, P j = decide (C j 0 = y) := fun j => by rw [← hP]; exact hw_nat (κ := 0) (by decide)
    have hPk : P k = true := by rw [hPd, ← hC, C4.out, cw_zero y y0 y1]; exact decide_eq_true rfl
    obtain ⟨f1, f2, f3, f4, f5⟩ := fnd_first P C 16 k hk hPk
    obtain ⟨A, hA⟩ : ∃ A, (fnd P C 16).1 = A := ⟨_, rfl⟩
    obtain ⟨G, hG⟩ : ∃ G, (fnd P C 16).2.1 = G := ⟨_, rfl⟩
    have hfv : fndV 0 y (M4.c 0) 16 = .tuple #[.int .u64 (A : Int), .agg (CA G), .int .u64 18446744073709551615] := by unfold fndV; rw [hC, hP, hA, hG, f1]; rfl
    rw [S4.out, show ((0 : Int).toNat) = 0 from rfl, hfv]
    rw [hA] at f2 f3 f4 f5
    rw [hG] at f3
    have hG0 : G 0 = y := by rw [f3]; rw [hPd] at f4; exact of_decide_eq_true f4
    have FA := Lib.hid f5
    have PD := Lib.hid hPd
    have HC := Lib.hid hC
    have G0 := Lib.hid hG0
    clear hfv f1 f3 f4 f5 hG hA hP hPk hPd hC hG0
    rintro e w9 ⟨rfl, ho, hkk⟩
    have R0 : Hid (AheadAt W (fun i => old W i ∨ i = w9.heap.size) p (M4.looked 0 16) w9.heap.size G 0 (w9.alloc (.cells (CA G) 30))) := by
      refine ⟨?_, ?_, Var.new w9 G _, .inr rfl, fun i hi => .inl hi⟩
      · rw [looked_zero]; exact ho.alloc _
      · exact (K8.out.trans hkk).alloc _
    clear ho hkk O8 K8
    go_wp2_with (with_reducible refine wpList_store_new rfl (.tmp 16) (.tmp 77) rfl rfl G rfl rfl ?_)
    generalize w9.heap.size = b9 at *
    go_loopw [18, 19] (fun v18 v19 wr => ∃ j : Nat, v19 = .int .u64 j ∧ j ≤ k ∧ v18 = .bool (anyb P j) ∧ AheadAt W (fun i => old W i ∨ i = b9) p (M4.looked 0 16) b9 G j wr) (fun _ v _ => k - (intOf v).toNat)
    case atStart => exact ⟨0, rfl, Nat.zero_le _, rfl, R0.out⟩
    case round =>
      obtain ⟨j, rfl, hj, rfl, hA⟩ := hrel
      have HA := Lib.hid hA
      clear hA R0
      by_cases hlt : j < k
      · have HST := Lib.hid (looked_step (M4.looked 0 16) 0 j T4.out.1 (by show j < M4.sz 0; rw [T4.out.2]; omega))
        have HCL := Lib.hid (looked_cell (M4.looked 0 16) 0 j T4.out.1 (by show j < M4.sz 0; rw [T4.out.2]; omega))
        have hel : ((M4.looked 0 16).looked 0 j).es.length < 1000000000 := by rw [looked_len, looked_len]; omega
        have HEL := Lib.hid hel
        obtain ⟨f, hf⟩ : ∃ f, M4.c 0 j = f := ⟨_, rfl⟩
        have hpj : P j = decide (f 0 = y) := by rw [PD.out, ← HC.out, hf]
        have HF := Lib.hid (show (M4.looked 0 16).c 0 j = f from hf)
        clear hel hf
        go_wp2_with fail
        refine (own_read _ p _ _ 0 (j : Int) HA.out.1 HEL.out).mono ?_
        rw [show (0 : Int) = ((0 : Nat) : Int) from rfl, HST.out, HCL.out, HF.out]
        rintro e w10 ⟨rfl, ho, hkk⟩
        have HE : Hid (AheadAt W (fun i => old W i ∨ i = b9) p (M4.looked 0 16) b9 G (j + 1) (w10.alloc (.cells (CA f) 30))) := by
          refine ⟨(ho.alloc _).weak (fun i hi => .inl hi), (HA.out.2.1.trans (hkk.mono (fun i hi => .inl hi))).alloc _, (HA.out.2.2.1.kept hkk (.inr rfl)).alloc _, .inr rfl, fun i hi => .inl hi⟩
        have V0 : (w10.alloc (.cells (CA f) 30)).cell? ⟨w10.heap.size, 0, none⟩ = some (.int .u64 (f 0)) := (Var.new w10 f _).cell (by decide)
        have hsu := anyb_succ P j
        rw [hpj] at hsu
        clear ho hkk HA
        cases hb : anyb P j
        · rw [hb, Bool.false_or] at hsu
          by_cases hd : f 0 = y
          · have hd1 : (f 0 == y) = true := by simp [hd]
            have hd2 : decide (f 0 = y) = true := decide_eq_true hd
            rw [hd2] at hsu
            have HSU := Lib.hid hsu
            clear hsu hb hpj
            go_wp2_with (with_reducible refine wpList_store_new rfl (.tmp 20) (.tmp 87) rfl rfl f rfl rfl ?_)
            go_roundw
            case rel => exact ⟨j + 1, by go_num, by omega, by rw [HSU.out], HE.out⟩
            case measure => simp [intOf]; omega
          · have hd1 : (f 0 == y) = false := by simp [hd]
            have hd2 : decide (f 0 = y) = false := decide_eq_false hd
            rw [hd2] at hsu
            have HSU := Lib.hid hsu
            clear hsu hb hpj
            go_wp2_with (with_reducible refine wpList_store_new rfl (.tmp 20) (.tmp 87) rfl rfl f rfl rfl ?_)
            go_roundw
            case rel => exact ⟨j + 1, by go_num, by omega, by rw [HSU.out], HE.out⟩
            case measure => simp [intOf]; omega
        · rw [hb, Bool.true_or] at hsu
          have HSU := Lib.hid hsu
          clear hsu hb hpj
          go_wp2_with (with_reducible refine wpList_store_new rfl (.tmp 20) (.tmp 87) rfl rfl f rfl rfl ?_)
          go_roundw
          case rel => exact ⟨j + 1, by go_num, by omega, by rw [HSU.out], HE.out⟩
          case measure => simp [intOf]; omega
      · obtain rfl : j = k := by omega
        have hc0 : wr.cell? ⟨b9, 0, none⟩ = some (.int .u64 y) := by rw [HA.out.2.2.1.cell (by decide), G0.out]
        have HE := Lib.hid (HA.out.2.1.below (Nat.le_refl _) (fun i hi => hi))
        have hle1 : decide ((A : Int) ≤ (j : Int)) = true := decide_eq_true (by omega)
        have hle2 : decide (A ≤ j) = true := decide_eq_true f2
        clear HA
        by_cases hAk : A = j
        · have hfa := FA.out
          rw [decide_eq_true hAk] at hfa
          have han : anyb P j = false := by cases h : anyb P j; rfl; rw [h] at hfa; cases hfa
          rw [han]
          have ha1 : ((A : Int) == (j : Int)) = true := by simp [hAk]
          have ha2 : decide ((A : Int) = (j : Int)) = true := by simp [hAk]
          have ha3 : (A == j) = true := by simp [hAk]
          have ha4 : decide (A = j) = true := by simp [hAk]
          clear hfa han
          go_wp2_with fail
          go_ret
          exact ⟨rfl, HE.out⟩
        · have hfa := FA.out
          rw [decide_eq_false hAk] at hfa
          have han : anyb P j = true := by cases h : anyb P j; rw [h] at hfa; cases hfa; rfl
          rw [han]
          have ha0 : ¬ ((A : Int) = (j : Int)) := by omega
          have ha1 : ((A : Int) == (j : Int)) = false := beq_eq_false_iff_ne.2 ha0
          have ha2 : decide ((A : Int) = (j : Int)) = false := decide_eq_false ha0
          have ha3 : (A == j) = false := by simp [hAk]
          have ha4 : decide (A = j) = false := by simp [hAk]
          clear hfa han
          go_wp2_with fail
          go_ret
          exact ⟨rfl, HE.out⟩
theorem twice_law (a : Option Addr) (n cap : Nat) (z : Nat → Int) (i k x y : Int) (W : World) (hn : n ≤ 9223372036854775807) (hz : Nums .u64 W W.heap.size a n z) (hi : (Lit.int .u64 i).wf = true) (hk : (Lit.int .u64 k).wf = true) (hy : (Lit.int .u64 y).wf = true) :
    Calls Try.prog 7 #[.slice a n cap, .int .u64 i, .int .u64 k, .int .u64 x, .int .u64 y] W (Yes W) := by
  by_cases h : 40 < n
  · exact twice_out a n cap i k x y W hn h
  · obtain ⟨i', rfl⟩ := Int.eq_ofNat_of_zero_le (u64_rng hi).1
    obtain ⟨k', rfl⟩ := Int.eq_ofNat_of_zero_le (u64_rng hk).1
    exact twice_in a n cap z i' k' x y W (by omega) hz (u64_rng hy).1 (u64_rng hy).2 (u64_rng hi).2 (u64_rng hk).2
end Go.Proofs.Ytgppediikggogaa
