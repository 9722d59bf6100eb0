/- The walk of the law on what is got, found and counted, and what a Put makes of the cells, with all events: as the chapter says. Conditions: the slice's cells hold numbers, the words are words of 64 bits. -/
import Derived.Test.YtgppediikggogaaScanLaw
import Derived.Test.YtgppediikggogaaAlike
namespace Go.Proofs.Ytgppediikggogaa
open Go.RowKit Go.ChangeShapes Go.WideShapes Go.ChangeAt

theorem looks_out (a : Option Addr) (n cap : Nat) (r at' : Int) (on : Bool) (key x : Int) (W : World) (hn : n ≤ 9223372036854775807) (h : 40 < n) :
    Calls Try.prog 3 #[.slice a n cap, .int .i64 r, .int .u64 at', .bool on, .int .i64 key, .int .u64 x] W (Yes W) := by
  go_enter Try.func3, Try.ntmps3
  go_wp2_with fail
  refine (shown_any W).mono ?_
  rintro e w0 ⟨rfl, hb0⟩
  have HB := Lib.hid hb0
  clear hb0
  go_wp2_with fail
  go_ret
  exact ⟨rfl, HB.out⟩
theorem laid_size (k s : Nat) (z : Nat → Int) (i : Nat) (r : Int) : (laidM k s z i).size r ≤ s := by
  unfold MS.size
  split
  · exact Nat.le_refl _
  · exact Nat.zero_le _
set_option linter.unusedSimpArgs false in
set_option maxRecDepth 100000 in
set_option maxHeartbeats 2000000 in
theorem looks_on (a : Option Addr) (n cap : Nat) (z : Nat → Int) (r at' key x : Int) (W : World) (hn : n ≤ 40) (hz : Nums .u64 W W.heap.size a n z) (a0 : 0 ≤ at') (a1 : at' ≤ 18446744073709551615) (k0 : -9223372036854775808 ≤ key) (k1 : key ≤ 9223372036854775807) (x0 : 0 ≤ x) (x1 : x ≤ 18446744073709551615) :
    Calls Try.prog 3 #[.slice a n cap, .int .i64 r, .int .u64 at', .bool true, .int .i64 key, .int .u64 x] W (Yes W) := by
  have HZ := Lib.hid hz
  clear hz
  go_enter Try.func3, Try.ntmps3
  go_wp2_with fail
  refine (shown_any W).mono ?_
  rintro e w0 ⟨rfl, hb0⟩
  have B0 := Lib.hid hb0
  have K0 : Hid (Kept (old W) W w0) := Only.of_below hb0
  clear hb0
  go_wp2_with fail
  refine (laid_any 2 20 a n cap W.heap.size z _ (by decide) (by decide) (by decide) (by decide) (HZ.out.below B0.out) B0.out.size).mono ?_
  rintro e w1 ⟨p, q, rfl, hm, ho⟩
  have O1 := Lib.hid (hm.weak (Y := old W) (fun i (hi : i < W.heap.size) => Nat.lt_of_lt_of_le hi B0.out.size))
  have K1 := Lib.hid (K0.out.trans (Kept.of_none ho))
  clear hm ho K0 B0
  have l1 := laidM_len 2 20 z (min n 20)
  have hs1 := laid_size 2 20 z (min n 20) r
  have W1 := Lib.hid (laidM_wd 2 20 z (min n 20))
  have hl1 : (laidM 2 20 z (min n 20)).es.length ≤ 20 := by rw [l1]; omega
  clear l1
  generalize laidM 2 20 z (min n 20) = M0 at *
  obtain ⟨s, hs⟩ : ∃ s, M0.size r = s := ⟨_, rfl⟩
  rw [hs] at hs1
  have S0 := Lib.hid hs
  obtain ⟨g, hg⟩ : ∃ g, gt at' (M0.c r.toNat) s = g := ⟨_, rfl⟩
  have HG := Lib.hid hg
  have hq := neq_cell g g
  rw [ceq_self, Bool.not_true] at hq
  clear hs hg
  go_wp2_with fail
  refine (mix_get _ p q M0 M0 _ r at' O1.out W1.out a0 a1 (by rw [S0.out]; omega)).mono ?_
  rw [S0.out, HG.out]
  rintro e w2 ⟨rfl, ho, hk⟩
  have O2 := Lib.hid ho
  have K2 := Lib.hid (K1.out.trans hk)
  clear ho hk O1 K1
  go_wp2_with fail
  refine (rget_any _ p _ q M0 r at' _ O2.out a0 (by rw [S0.out]; omega)).mono ?_
  rw [S0.out, HG.out]
  rintro e w3 ⟨rfl, ho, hk⟩
  have O3 := Lib.hid ho
  have K3 := Lib.hid (K2.out.trans hk)
  have S1 : Hid ((M0.looked r.toNat s).size r = s) := S0.out
  have W2 : Hid (M0.looked r.toNat s).wd := W1.out
  have hl2 : (M0.looked r.toNat s).es.length ≤ 40 := by rw [looked_len]; omega
  clear ho hk O2 K2 HG S0 W1
  generalize M0.looked r.toNat s = M1 at *
  go_wp2_with fail
  refine (cell_only x _).mono ?_
  rintro e w4 ⟨rfl, ho⟩
  have O4 := Lib.hid (O3.out.none ho)
  have K4 := Lib.hid (K3.out.trans (Kept.of_none ho))
  clear ho O3 K3
  go_wp2_with fail
  refine (mix_put _ p q M1 M1 _ r at' (cw x) true O4.out W2.out (wd_cw x) a0 a1 (by rw [S1.out]; omega)).mono ?_
  rw [S1.out]
  rintro e w5 ⟨rfl, ho, hk⟩
  have O5 := Lib.hid ho
  have K5 := Lib.hid (K4.out.trans hk)
  clear ho hk O4 K4
  go_wp2_with fail
  refine (cell_only x _).mono ?_
  rintro e w6 ⟨rfl, ho⟩
  have O6 := Lib.hid (O5.out.none ho)
  have K6 := Lib.hid (K5.out.trans (Kept.of_none ho))
  clear ho O5 K5
  go_wp2_with fail
  refine (rput_any _ p _ q M1 r at' (cw x) true _ O6.out a0 (by rw [S1.out]; omega)).mono ?_
  rw [S1.out]
  rintro e w7 ⟨rfl, ho, hk⟩
  have O7 := Lib.hid ho
  have K7 := Lib.hid (K6.out.trans hk)
  have S2 : Hid ((M1.anew r.toNat at'.toNat (cw x) true s).size r = s) := S1.out
  have W3 : Hid (M1.anew r.toNat at'.toNat (cw x) true s).wd := wd_anew W2.out (wd_cw x) _ _ _ _
  have hl3 : (M1.anew r.toNat at'.toNat (cw x) true s).es.length ≤ 80 := by rw [anew_len]; omega
  clear ho hk O6 K6 S1 W2
  generalize M1.anew r.toNat at'.toNat (cw x) true s = M2 at *
  obtain ⟨A, hA⟩ : ∃ A, (fnd (hs key x (M2.c r.toNat)) (M2.c r.toNat) s).1 = A := ⟨_, rfl⟩
  obtain ⟨f, hf⟩ : ∃ A, (fnd (hs key x (M2.c r.toNat)) (M2.c r.toNat) s).2.1 = A := ⟨_, rfl⟩
  obtain ⟨B, hB⟩ : ∃ A, msk (fnd (hs key x (M2.c r.toNat)) (M2.c r.toNat) s).2.2 = A := ⟨_, rfl⟩
  have hfv : fndV key x (M2.c r.toNat) s = .tuple #[.int .u64 (A : Int), .agg (CA f), .int .u64 B] := by unfold fndV; rw [hA, hf, hB]
  have HFV := Lib.hid hfv
  clear hfv hA hf hB
  go_wp2_with fail
  refine (mix_find _ p q M2 M2 _ r key x O7.out W3.out k0 k1 x0 x1 (by rw [S2.out]; omega)).mono ?_
  rw [S2.out, HFV.out]
  rintro e w8 ⟨rfl, ho, hk⟩
  have O8 := Lib.hid (ho.alloc (.cells (CA f) 30))
  have K8 := Lib.hid ((K7.out.trans hk).alloc (.cells (CA f) 30))
  have V8 := Lib.hid (Var.new w8 f 30)
  clear ho hk O7 K7
  go_wp2_with (with_reducible refine wpList_store_new rfl (.tmp 18) (.tmp 75) rfl rfl f rfl rfl ?_)
  generalize w8.alloc (.cells (CA f) 30) = w9 at *
  generalize w8.heap.size = b8 at *
  refine (rfind_any _ p _ q M2 r key x _ O8.out (by rw [S2.out]; omega)).mono ?_
  rw [S2.out, HFV.out]
  rintro e w10 ⟨rfl, ho, hk⟩
  have O10 := Lib.hid (ho.alloc (.cells (CA f) 30))
  have K10 := Lib.hid ((K8.out.trans (hk.mono (fun i hi => .inl hi))).alloc (.cells (CA f) 30))
  have V10 := Lib.hid (Var.new w10 f 30)
  have V8' := Lib.hid ((V8.out.kept hk (.inr rfl)).alloc (.cells (CA f) 30))
  have S3 : Hid ((M2.looked r.toNat s).size r = s) := S2.out
  have W4 : Hid (M2.looked r.toNat s).wd := W3.out
  have hl4 : (M2.looked r.toNat s).es.length ≤ 100 := by rw [looked_len]; omega
  clear ho hk O8 K8 V8 HFV
  go_wp2_with (with_reducible refine wpList_store_new rfl (.tmp 21) (.tmp 84) rfl rfl f rfl rfl ?_)
  generalize w10.alloc (.cells (CA f) 30) = w11 at *
  generalize w10.heap.size = b10 at *
  generalize M2.looked r.toNat s = M3 at *
  refine (mix_rsize _ p q M3 M3 _ r O10.out).mono ?_
  rintro e w' ⟨rfl, rfl⟩
  rw [S3.out]
  have hq2 := neq_cell f f
  rw [ceq_self, Bool.not_true] at hq2
  obtain ⟨c, hc⟩ : ∃ c, cnt (hs key x (M3.c r.toNat)) s = c := ⟨_, rfl⟩
  have HC := Lib.hid hc
  clear hc
  go_wp2_with (first | with_reducible refine wpList_load_want (by kernel_rfl) (.tmp 18) rfl b8 0 rfl f V8'.out.rng ?_ | with_reducible refine wpList_load_want (by kernel_rfl) (.tmp 21) rfl b10 0 rfl f V10.out.rng ?_)
  refine (mix_count _ p q M3 M3 _ r key x O10.out W4.out k0 k1 x0 x1 (by rw [S3.out]; omega)).mono ?_
  rw [S3.out, HC.out]
  rintro e w12 ⟨rfl, ho, hk⟩
  have O12 := Lib.hid ho
  have K12 := Lib.hid (K10.out.trans (hk.mono (fun i hi => .inl (.inl hi))))
  clear ho hk O10 K10
  go_wp2_with fail
  refine (rcount_any _ p _ q M3 r key x _ O12.out (by rw [S3.out]; omega)).mono ?_
  rw [S3.out, HC.out]
  rintro e w13 ⟨rfl, ho, hk⟩
  have O13 := Lib.hid ho
  have K13 := Lib.hid (K12.out.trans (hk.mono (fun i hi => .inl (.inl hi))))
  have hl5 : (M3.looked r.toNat s).es.length ≤ 120 := by rw [looked_len]; omega
  clear ho hk O12 K12 HC V8' V10
  generalize M3.looked r.toNat s = M4 at *
  go_wp2_with fail
  refine (reads_any r s (by omega) _).mono ?_
  rintro e w14 ⟨A14, c14, rfl, hv, ho⟩
  rw [ireads_len]
  have V14 := Lib.hid hv
  have O14 := Lib.hid (O13.out.none ho)
  have K14 := Lib.hid (K13.out.trans (Kept.of_none ho))
  clear hv ho O13 K13
  go_wp2_with fail
  refine (refReads_any r s (by omega) _).mono ?_
  rintro e w15 ⟨A15, c15, rfl, hv, ho⟩
  rw [ireads_len]
  have V15 := Lib.hid hv
  have V14' := Lib.hid (V14.out.only ho)
  have O15 := Lib.hid (O14.out.none ho)
  have K15 := Lib.hid (K14.out.trans (Kept.of_none ho))
  clear hv ho O14 K14 V14
  go_wp2_with fail
  refine (same_told A14 A15 s c14 c15 (ireads r s) _ _ (ireads_len r s) rfl V14'.out V15.out (by omega)).mono ?_
  rintro e w16 ⟨rfl, ho⟩
  have O16 := Lib.hid (O15.out.none ho)
  have K16 := Lib.hid (K15.out.trans (Kept.of_none ho))
  clear ho O15 K15 V14' V15
  go_wp2_with fail
  refine (writes_any r s (by omega) _).mono ?_
  rintro e w17 ⟨A17, c17, rfl, hv, ho⟩
  rw [iwrites_len]
  have V17 := Lib.hid hv
  have O17 := Lib.hid (O16.out.none ho)
  have K17 := Lib.hid (K16.out.trans (Kept.of_none ho))
  clear hv ho O16 K16
  go_wp2_with fail
  refine (refWrites_any r s (by omega) _).mono ?_
  rintro e w18 ⟨A18, c18, rfl, hv, ho⟩
  rw [iwrites_len]
  have V18 := Lib.hid hv
  have V17' := Lib.hid (V17.out.only ho)
  have O18 := Lib.hid (O17.out.none ho)
  have K18 := Lib.hid (K17.out.trans (Kept.of_none ho))
  clear hv ho O17 K17 V17
  go_wp2_with fail
  refine (same_told A17 A18 (s * 2) c17 c18 (iwrites r s) _ _ (iwrites_len r s) rfl V17'.out V18.out (by omega)).mono ?_
  rintro e w19 ⟨rfl, ho⟩
  have O19 := Lib.hid (O18.out.none ho)
  have K19 := Lib.hid (K18.out.trans (Kept.of_none ho))
  clear ho O18 K18 V17' V18
  go_wp2_with fail
  refine (alike_any _ p q M4 _ O19.out (by omega)).mono ?_
  rintro e w20 ⟨rfl, hk⟩
  have K20 := Lib.hid (K19.out.trans (hk.mono (fun i hi => .inl (.inl hi))))
  clear hk O19 K19
  go_wp2_with fail
  go_ret
  exact ⟨rfl, K20.out.below (Nat.le_refl _) (fun i hi => hi)⟩
set_option linter.unusedSimpArgs false in
set_option maxRecDepth 100000 in
set_option maxHeartbeats 2000000 in
theorem looks_off (a : Option Addr) (n cap : Nat) (z : Nat → Int) (r at' key x : Int) (W : World) (hn : n ≤ 40) (hz : Nums .u64 W W.heap.size a n z) (a0 : 0 ≤ at') (a1 : at' ≤ 18446744073709551615) (k0 : -9223372036854775808 ≤ key) (k1 : key ≤ 9223372036854775807) (x0 : 0 ≤ x) (x1 : x ≤ 18446744073709551615) :
    Calls Try.prog 3 #[.slice a n cap, .int .i64 r, .int .u64 at', .bool false, .int .i64 key, .int .u64 x] W (Yes W) := by
  have HZ := Lib.hid hz
  clear hz
  go_enter Try.func3, Try.ntmps3
  go_wp2_with fail
  refine (shown_any W).mono ?_
  rintro e w0 ⟨rfl, hb0⟩
  have B0 := Lib.hid hb0
  have K0 : Hid (Kept (old W) W w0) := Only.of_below hb0
  clear hb0
  go_wp2_with fail
  refine (laid_any 2 20 a n cap W.heap.size z _ (by decide) (by decide) (by decide) (by decide) (HZ.out.below B0.out) B0.out.size).mono ?_
  rintro e w1 ⟨p, q, rfl, hm, ho⟩
  have O1 := Lib.hid (hm.weak (Y := old W) (fun i (hi : i < W.heap.size) => Nat.lt_of_lt_of_le hi B0.out.size))
  have K1 := Lib.hid (K0.out.trans (Kept.of_none ho))
  clear hm ho K0 B0
  have l1 := laidM_len 2 20 z (min n 20)
  have hs1 := laid_size 2 20 z (min n 20) r
  have W1 := Lib.hid (laidM_wd 2 20 z (min n 20))
  have hl1 : (laidM 2 20 z (min n 20)).es.length ≤ 20 := by rw [l1]; omega
  clear l1
  generalize laidM 2 20 z (min n 20) = M0 at *
  obtain ⟨s, hs⟩ : ∃ s, M0.size r = s := ⟨_, rfl⟩
  rw [hs] at hs1
  have S0 := Lib.hid hs
  obtain ⟨g, hg⟩ : ∃ g, gt at' (M0.c r.toNat) s = g := ⟨_, rfl⟩
  have HG := Lib.hid hg
  have hq := neq_cell g g
  rw [ceq_self, Bool.not_true] at hq
  clear hs hg
  go_wp2_with fail
  refine (mix_get _ p q M0 M0 _ r at' O1.out W1.out a0 a1 (by rw [S0.out]; omega)).mono ?_
  rw [S0.out, HG.out]
  rintro e w2 ⟨rfl, ho, hk⟩
  have O2 := Lib.hid ho
  have K2 := Lib.hid (K1.out.trans hk)
  clear ho hk O1 K1
  go_wp2_with fail
  refine (rget_any _ p _ q M0 r at' _ O2.out a0 (by rw [S0.out]; omega)).mono ?_
  rw [S0.out, HG.out]
  rintro e w3 ⟨rfl, ho, hk⟩
  have O3 := Lib.hid ho
  have K3 := Lib.hid (K2.out.trans hk)
  have S1 : Hid ((M0.looked r.toNat s).size r = s) := S0.out
  have W2 : Hid (M0.looked r.toNat s).wd := W1.out
  have hl2 : (M0.looked r.toNat s).es.length ≤ 40 := by rw [looked_len]; omega
  clear ho hk O2 K2 HG S0 W1
  generalize M0.looked r.toNat s = M1 at *
  go_wp2_with fail
  refine (cell_only x _).mono ?_
  rintro e w4 ⟨rfl, ho⟩
  have O4 := Lib.hid (O3.out.none ho)
  have K4 := Lib.hid (K3.out.trans (Kept.of_none ho))
  clear ho O3 K3
  go_wp2_with fail
  refine (mix_put _ p q M1 M1 _ r at' (cw x) false O4.out W2.out (wd_cw x) a0 a1 (by rw [S1.out]; omega)).mono ?_
  rw [S1.out]
  rintro e w5 ⟨rfl, ho, hk⟩
  have O5 := Lib.hid ho
  have K5 := Lib.hid (K4.out.trans hk)
  clear ho hk O4 K4
  go_wp2_with fail
  refine (cell_only x _).mono ?_
  rintro e w6 ⟨rfl, ho⟩
  have O6 := Lib.hid (O5.out.none ho)
  have K6 := Lib.hid (K5.out.trans (Kept.of_none ho))
  clear ho O5 K5
  go_wp2_with fail
  refine (rput_any _ p _ q M1 r at' (cw x) false _ O6.out a0 (by rw [S1.out]; omega)).mono ?_
  rw [S1.out]
  rintro e w7 ⟨rfl, ho, hk⟩
  have O7 := Lib.hid ho
  have K7 := Lib.hid (K6.out.trans hk)
  have S2 : Hid ((M1.anew r.toNat at'.toNat (cw x) false s).size r = s) := S1.out
  have W3 : Hid (M1.anew r.toNat at'.toNat (cw x) false s).wd := wd_anew W2.out (wd_cw x) _ _ _ _
  have hl3 : (M1.anew r.toNat at'.toNat (cw x) false s).es.length ≤ 80 := by rw [anew_len]; omega
  clear ho hk O6 K6 S1 W2
  generalize M1.anew r.toNat at'.toNat (cw x) false s = M2 at *
  obtain ⟨A, hA⟩ : ∃ A, (fnd (hs key x (M2.c r.toNat)) (M2.c r.toNat) s).1 = A := ⟨_, rfl⟩
  obtain ⟨f, hf⟩ : ∃ A, (fnd (hs key x (M2.c r.toNat)) (M2.c r.toNat) s).2.1 = A := ⟨_, rfl⟩
  obtain ⟨B, hB⟩ : ∃ A, msk (fnd (hs key x (M2.c r.toNat)) (M2.c r.toNat) s).2.2 = A := ⟨_, rfl⟩
  have hfv : fndV key x (M2.c r.toNat) s = .tuple #[.int .u64 (A : Int), .agg (CA f), .int .u64 B] := by unfold fndV; rw [hA, hf, hB]
  have HFV := Lib.hid hfv
  clear hfv hA hf hB
  go_wp2_with fail
  refine (mix_find _ p q M2 M2 _ r key x O7.out W3.out k0 k1 x0 x1 (by rw [S2.out]; omega)).mono ?_
  rw [S2.out, HFV.out]
  rintro e w8 ⟨rfl, ho, hk⟩
  have O8 := Lib.hid (ho.alloc (.cells (CA f) 30))
  have K8 := Lib.hid ((K7.out.trans hk).alloc (.cells (CA f) 30))
  have V8 := Lib.hid (Var.new w8 f 30)
  clear ho hk O7 K7
  go_wp2_with (with_reducible refine wpList_store_new rfl (.tmp 18) (.tmp 75) rfl rfl f rfl rfl ?_)
  generalize w8.alloc (.cells (CA f) 30) = w9 at *
  generalize w8.heap.size = b8 at *
  refine (rfind_any _ p _ q M2 r key x _ O8.out (by rw [S2.out]; omega)).mono ?_
  rw [S2.out, HFV.out]
  rintro e w10 ⟨rfl, ho, hk⟩
  have O10 := Lib.hid (ho.alloc (.cells (CA f) 30))
  have K10 := Lib.hid ((K8.out.trans (hk.mono (fun i hi => .inl hi))).alloc (.cells (CA f) 30))
  have V10 := Lib.hid (Var.new w10 f 30)
  have V8' := Lib.hid ((V8.out.kept hk (.inr rfl)).alloc (.cells (CA f) 30))
  have S3 : Hid ((M2.looked r.toNat s).size r = s) := S2.out
  have W4 : Hid (M2.looked r.toNat s).wd := W3.out
  have hl4 : (M2.looked r.toNat s).es.length ≤ 100 := by rw [looked_len]; omega
  clear ho hk O8 K8 V8 HFV
  go_wp2_with (with_reducible refine wpList_store_new rfl (.tmp 21) (.tmp 84) rfl rfl f rfl rfl ?_)
  generalize w10.alloc (.cells (CA f) 30) = w11 at *
  generalize w10.heap.size = b10 at *
  generalize M2.looked r.toNat s = M3 at *
  refine (mix_rsize _ p q M3 M3 _ r O10.out).mono ?_
  rintro e w' ⟨rfl, rfl⟩
  rw [S3.out]
  have hq2 := neq_cell f f
  rw [ceq_self, Bool.not_true] at hq2
  obtain ⟨c, hc⟩ : ∃ c, cnt (hs key x (M3.c r.toNat)) s = c := ⟨_, rfl⟩
  have HC := Lib.hid hc
  clear hc
  go_wp2_with (first | with_reducible refine wpList_load_want (by kernel_rfl) (.tmp 18) rfl b8 0 rfl f V8'.out.rng ?_ | with_reducible refine wpList_load_want (by kernel_rfl) (.tmp 21) rfl b10 0 rfl f V10.out.rng ?_)
  refine (mix_count _ p q M3 M3 _ r key x O10.out W4.out k0 k1 x0 x1 (by rw [S3.out]; omega)).mono ?_
  rw [S3.out, HC.out]
  rintro e w12 ⟨rfl, ho, hk⟩
  have O12 := Lib.hid ho
  have K12 := Lib.hid (K10.out.trans (hk.mono (fun i hi => .inl (.inl hi))))
  clear ho hk O10 K10
  go_wp2_with fail
  refine (rcount_any _ p _ q M3 r key x _ O12.out (by rw [S3.out]; omega)).mono ?_
  rw [S3.out, HC.out]
  rintro e w13 ⟨rfl, ho, hk⟩
  have O13 := Lib.hid ho
  have K13 := Lib.hid (K12.out.trans (hk.mono (fun i hi => .inl (.inl hi))))
  have hl5 : (M3.looked r.toNat s).es.length ≤ 120 := by rw [looked_len]; omega
  clear ho hk O12 K12 HC V8' V10
  generalize M3.looked r.toNat s = M4 at *
  go_wp2_with fail
  refine (reads_any r s (by omega) _).mono ?_
  rintro e w14 ⟨A14, c14, rfl, hv, ho⟩
  rw [ireads_len]
  have V14 := Lib.hid hv
  have O14 := Lib.hid (O13.out.none ho)
  have K14 := Lib.hid (K13.out.trans (Kept.of_none ho))
  clear hv ho O13 K13
  go_wp2_with fail
  refine (refReads_any r s (by omega) _).mono ?_
  rintro e w15 ⟨A15, c15, rfl, hv, ho⟩
  rw [ireads_len]
  have V15 := Lib.hid hv
  have V14' := Lib.hid (V14.out.only ho)
  have O15 := Lib.hid (O14.out.none ho)
  have K15 := Lib.hid (K14.out.trans (Kept.of_none ho))
  clear hv ho O14 K14 V14
  go_wp2_with fail
  refine (same_told A14 A15 s c14 c15 (ireads r s) _ _ (ireads_len r s) rfl V14'.out V15.out (by omega)).mono ?_
  rintro e w16 ⟨rfl, ho⟩
  have O16 := Lib.hid (O15.out.none ho)
  have K16 := Lib.hid (K15.out.trans (Kept.of_none ho))
  clear ho O15 K15 V14' V15
  go_wp2_with fail
  refine (writes_any r s (by omega) _).mono ?_
  rintro e w17 ⟨A17, c17, rfl, hv, ho⟩
  rw [iwrites_len]
  have V17 := Lib.hid hv
  have O17 := Lib.hid (O16.out.none ho)
  have K17 := Lib.hid (K16.out.trans (Kept.of_none ho))
  clear hv ho O16 K16
  go_wp2_with fail
  refine (refWrites_any r s (by omega) _).mono ?_
  rintro e w18 ⟨A18, c18, rfl, hv, ho⟩
  rw [iwrites_len]
  have V18 := Lib.hid hv
  have V17' := Lib.hid (V17.out.only ho)
  have O18 := Lib.hid (O17.out.none ho)
  have K18 := Lib.hid (K17.out.trans (Kept.of_none ho))
  clear hv ho O17 K17 V17
  go_wp2_with fail
  refine (same_told A17 A18 (s * 2) c17 c18 (iwrites r s) _ _ (iwrites_len r s) rfl V17'.out V18.out (by omega)).mono ?_
  rintro e w19 ⟨rfl, ho⟩
  have O19 := Lib.hid (O18.out.none ho)
  have K19 := Lib.hid (K18.out.trans (Kept.of_none ho))
  clear ho O18 K18 V17' V18
  go_wp2_with fail
  refine (alike_any _ p q M4 _ O19.out (by omega)).mono ?_
  rintro e w20 ⟨rfl, hk⟩
  have K20 := Lib.hid (K19.out.trans (hk.mono (fun i hi => .inl (.inl hi))))
  clear hk O19 K19
  go_wp2_with fail
  go_ret
  exact ⟨rfl, K20.out.below (Nat.le_refl _) (fun i hi => hi)⟩
theorem i64_rng {a : Int} (h : (Lit.int .i64 a).wf = true) : -9223372036854775808 ≤ a ∧ a ≤ 9223372036854775807 := by
  simp only [Lit.wf, IntKind.min, IntKind.max, IntKind.signed, IntKind.bits, Bool.and_eq_true] at h
  exact ⟨by have := h.1; simp at this; omega, by have := h.2; simp at this; omega⟩
theorem looks_law (a : Option Addr) (n cap : Nat) (z : Nat → Int) (r at' : Int) (on : Bool) (key x : Int) (W : World) (hn : n ≤ 9223372036854775807) (hz : Nums .u64 W W.heap.size a n z) (ha : (Lit.int .u64 at').wf = true) (hk : (Lit.int .i64 key).wf = true) (hx : (Lit.int .u64 x).wf = true) :
    Calls Try.prog 3 #[.slice a n cap, .int .i64 r, .int .u64 at', .bool on, .int .i64 key, .int .u64 x] W (Yes W) := by
  by_cases h : 40 < n
  · exact looks_out a n cap r at' on key x W hn h
  · cases on
    · exact looks_off a n cap z r at' key x W (by omega) hz (u64_rng ha).1 (u64_rng ha).2 (i64_rng hk).1 (i64_rng hk).2 (u64_rng hx).1 (u64_rng hx).2
    · exact looks_on a n cap z r at' key x W (by omega) hz (u64_rng ha).1 (u64_rng ha).2 (i64_rng hk).1 (i64_rng hk).2 (u64_rng hx).1 (u64_rng hx).2
end Go.Proofs.Ytgppediikggogaa
