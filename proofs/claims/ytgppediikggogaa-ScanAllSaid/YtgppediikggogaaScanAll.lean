/- The walk of the law on what scans look at: all cells of their region, in order, and no other one. Conditions: the slice's cells hold numbers, the words are words of 64 bits. -/
import Derived.Test.YtgppediikggogaaSeen
namespace Go.Proofs.Ytgppediikggogaa
open Go.RowKit Go.ChangeShapes Go.WideShapes Go.ChangeAt

theorem all_out (a : Option Addr) (n cap : Nat) (r x : Int) (W : World) (hn : n ≤ 9223372036854775807) (h : 40 < n) :
    Calls Try.prog 6 #[.slice a n cap, .int .i64 r, .int .u64 x] W (Yes W) := by
  go_enter Try.func6, Try.ntmps6
  go_wp2_with fail
  refine (shown_any W).mono ?_
  rintro e w0 ⟨rfl, hb0⟩
  have HB := Lib.hid hb0
  clear hb0
  go_wp2_with fail
  go_ret
  exact ⟨rfl, HB.out⟩
theorem laid_sz (k s : Nat) (z : Nat → Int) (i : Nat) (r : Int) : (laidM k s z i).size r ≤ s := by
  unfold MS.size
  split
  · exact Nat.le_refl _
  · exact Nat.zero_le _
theorem ivw_at {w : World} {A : Option Addr} {l : List IEv} (h : IView w A l) {k : Nat} {e : IEv} (he : l[k]? = some e) : ∃ b off, A = some ⟨b, off, none⟩ ∧ w.cell? ⟨b, off + k * 3, none⟩ = some (.int .i64 e.1) ∧ w.cell? ⟨b, off + k * 3 + 1, none⟩ = some (.int .i64 e.2.1) ∧ w.cell? ⟨b, off + k * 3 + 2, none⟩ = some (.bool e.2.2) := by
  obtain ⟨hk, rfl⟩ := List.getElem?_eq_some_iff.1 he
  exact h.at hk
set_option linter.unusedSimpArgs false in
set_option maxRecDepth 100000 in
set_option maxHeartbeats 2000000 in
theorem all_in (a : Option Addr) (n cap : Nat) (z : Nat → Int) (r x : Int) (W : World) (hn : n ≤ 40) (hz : Nums .u64 W W.heap.size a n z) (x0 : 0 ≤ x) (x1 : x ≤ 18446744073709551615) :
    Calls Try.prog 6 #[.slice a n cap, .int .i64 r, .int .u64 x] W (Yes W) := by
  have HZ := Lib.hid hz
  clear hz
  go_enter Try.func6, Try.ntmps6
  go_wp2_with fail
  refine (shown_any W).mono ?_
  rintro e w0 ⟨rfl, hb0⟩
  have B0 := Lib.hid hb0
  have K0 : Hid (Kept (old W) W w0) := Only.of_below hb0
  clear hb0
  go_wp2_with fail
  refine (laid_any 2 12 a n cap W.heap.size z _ (by decide) (by decide) (by decide) (by decide) (HZ.out.below B0.out) B0.out.size).mono ?_
  rintro e w1 ⟨p, q, rfl, hm, ho⟩
  have O1 := Lib.hid (hm.left.weak (Y := old W) (fun i (hi : i < W.heap.size) => Nat.lt_of_lt_of_le hi B0.out.size))
  have K1 := Lib.hid (K0.out.trans (Kept.of_none ho))
  clear hm ho K0 B0
  have l1 := laidM_len 2 12 z (min n 12)
  have hs1 := laid_sz 2 12 z (min n 12) r
  have W1 := Lib.hid (laidM_wd 2 12 z (min n 12))
  have F1 : Hid ((laidM 2 12 z (min n 12)).ft = false) := rfl
  have R1 := Lib.hid (size_right (laidM 2 12 z (min n 12)) r)
  have hm1 : min n 12 ≤ 12 := by omega
  generalize laidM 2 12 z (min n 12) = M0 at *
  generalize min n 12 = m at *
  obtain ⟨s, hs⟩ : ∃ s, M0.size r = s := ⟨_, rfl⟩
  rw [hs] at hs1 R1
  have S0 := Lib.hid hs
  clear hs
  go_wp2_with fail
  refine (own_size _ p M0 _ r O1.out).mono ?_
  rintro e w' ⟨rfl, rfl⟩
  rw [S0.out]
  go_wp2_with fail
  refine (own_many _ p M0 _ O1.out).mono ?_
  rintro e w' ⟨rfl, rfl⟩
  rw [l1]
  go_wp2_with fail
  refine (get_any _ p M0 r x _ O1.out W1.out x0 x1 (by rw [S0.out]; omega)).mono ?_
  rw [S0.out]
  rintro e w2 ⟨rfl, ho, hk⟩
  have O2 := Lib.hid ho
  have K2 := Lib.hid (K1.out.trans hk)
  clear ho hk O1 K1
  go_wp2_with fail
  refine (seen_reads _ p M0 r s m _ O2.out R1.out l1 (by omega)).mono ?_
  rintro e w3 ⟨A3, c3, Y3, rfl, ho, hv, hy, hk⟩
  have O3 := Lib.hid ho
  have K3 := Lib.hid (K2.out.trans hk)
  have V3 := Lib.hid hv
  have Y3' := Lib.hid hy
  have S2 : Hid ((M0.looked r.toNat s).size r = s) := S0.out
  have W2 : Hid (M0.looked r.toNat s).wd := W1.out
  have F2 : Hid ((M0.looked r.toNat s).ft = false) := F1.out
  have l2 := looked_len M0 r.toNat s
  rw [l1] at l2
  clear ho hv hy hk O2 K2 l1 S0 W1 F1
  generalize M0.looked r.toNat s = M1 at *
  go_wp2_with fail
  refine (own_many _ p M1 _ O3.out).mono ?_
  rintro e w' ⟨rfl, rfl⟩
  rw [l2]
  go_wp2_with fail
  refine (find_any _ p M1 r 0 x _ O3.out W2.out (by decide) (by decide) x0 x1 (by rw [S2.out]; omega)).mono ?_
  rw [S2.out]
  obtain ⟨fv, hfv⟩ : ∃ v, fndV 0 x (M1.c r.toNat) s = v := ⟨_, rfl⟩
  rw [hfv]
  clear hfv
  rintro e w4 ⟨rfl, ho, hk⟩
  have O4 := Lib.hid ho
  have K4 := Lib.hid (K3.out.trans (hk.mono Y3'.out))
  have V4 := Lib.hid (V3.out.kept hk)
  clear ho hk O3 K3 V3
  go_wp2_with fail
  refine (seen_reads _ p M1 r s (m + s) _ O4.out R1.out l2 (by omega)).mono ?_
  rintro e w5 ⟨A5, c5, Y5, rfl, ho, hv, hy, hk⟩
  have O5 := Lib.hid ho
  have K5 := Lib.hid (K4.out.trans (hk.mono Y3'.out))
  have VA5 := Lib.hid ((V4.out.kept hk).weak hy)
  have VB5 := Lib.hid hv
  have Y5' : Hid (∀ i, old W i → Y5 i) := fun i hi => hy i (Y3'.out i hi)
  have S3 : Hid ((M1.looked r.toNat s).size r = s) := S2.out
  have W3 : Hid (M1.looked r.toNat s).wd := W2.out
  have F3 : Hid ((M1.looked r.toNat s).ft = false) := F2.out
  have l3 := looked_len M1 r.toNat s
  rw [l2] at l3
  clear ho hv hy hk O4 K4 V4 S2 W2 F2 l2 Y3'
  generalize M1.looked r.toNat s = M2 at *
  go_wp2_with fail
  refine (own_many _ p M2 _ O5.out).mono ?_
  rintro e w' ⟨rfl, rfl⟩
  rw [l3]
  go_wp2_with fail
  refine (count_any _ p M2 r 0 x _ O5.out W3.out (by decide) (by decide) x0 x1 (by rw [S3.out]; omega)).mono ?_
  rw [S3.out]
  obtain ⟨cv, hcv⟩ : ∃ v, cnt (hs 0 x (M2.c r.toNat)) s = v := ⟨_, rfl⟩
  rw [hcv]
  clear hcv
  rintro e w6 ⟨rfl, ho, hk⟩
  have O6 := Lib.hid ho
  have K6 := Lib.hid (K5.out.trans (hk.mono Y5'.out))
  have VA6 := Lib.hid (VA5.out.kept hk)
  have VB6 := Lib.hid (VB5.out.kept hk)
  clear ho hk O5 K5 VA5 VB5
  go_wp2_with fail
  refine (seen_reads _ p M2 r s (m + s + s) _ O6.out R1.out l3 (by omega)).mono ?_
  rintro e w7 ⟨A7, c7, Y7, rfl, ho, hv, hy, hk⟩
  have O7 := Lib.hid ho
  have K7 := Lib.hid (K6.out.trans (hk.mono Y5'.out))
  have VA7 := Lib.hid ((VA6.out.kept hk).weak hy)
  have VB7 := Lib.hid ((VB6.out.kept hk).weak hy)
  have VC7 := Lib.hid hv
  have Y7' : Hid (∀ i, old W i → Y7 i) := fun i hi => hy i (Y5'.out i hi)
  have S4 : Hid ((M2.looked r.toNat s).size r = s) := S3.out
  have W4 : Hid (M2.looked r.toNat s).wd := W3.out
  have F4 : Hid ((M2.looked r.toNat s).ft = false) := F3.out
  have l4 := looked_len M2 r.toNat s
  rw [l3] at l4
  clear ho hv hy hk O6 K6 VA6 VB6 S3 W3 F3 l3 Y5'
  generalize M2.looked r.toNat s = M3 at *
  go_wp2_with fail
  refine (own_many _ p M3 _ O7.out).mono ?_
  rintro e w' ⟨rfl, rfl⟩
  rw [l4]
  go_wp2_with fail
  refine (cell_only 1 _).mono ?_
  rintro e w8 ⟨rfl, ho⟩
  have O8 := Lib.hid (O7.out.none ho)
  have K8 := Lib.hid (K7.out.trans (Kept.of_none ho))
  have VA8 := Lib.hid (VA7.out.none' ho)
  have VB8 := Lib.hid (VB7.out.none' ho)
  have VC8 := Lib.hid (VC7.out.none' ho)
  clear ho O7 K7 VA7 VB7 VC7
  go_wp2_with fail
  refine (put_any _ p M3 r x (cw 1) false _ O8.out W4.out (wd_cw 1) x0 x1 (by rw [S4.out]; omega)).mono ?_
  rw [S4.out]
  rintro e w9 ⟨rfl, ho, hk⟩
  have O9 := Lib.hid ho
  have K9 := Lib.hid (K8.out.trans (hk.mono Y7'.out))
  have VA9 := Lib.hid (VA8.out.kept hk)
  have VB9 := Lib.hid (VB8.out.kept hk)
  have VC9 := Lib.hid (VC8.out.kept hk)
  clear ho hk O8 K8 VA8 VB8 VC8
  go_wp2_with fail
  refine (seen_writes _ p M3 r x.toNat (cw 1) false s (m + s + s + s) _ O9.out R1.out l4 (by omega)).mono ?_
  rintro e w10 ⟨A10, c10, Y10, rfl, ho, hv, hy, hk⟩
  have K10 := Lib.hid (K9.out.trans (hk.mono Y7'.out))
  have O10 := Lib.hid ho
  have VA10 := Lib.hid ((VA9.out.kept hk).view)
  have VB10 := Lib.hid ((VB9.out.kept hk).view)
  have VC10 := Lib.hid ((VC9.out.kept hk).view)
  have VD10 := Lib.hid hv.view
  have F5 : Hid ((M3.anew r.toNat x.toNat (cw 1) false s).ft = false) := F4.out
  clear ho hv hy hk O9 K9 VA9 VB9 VC9 S4 W4 F4 l4 Y7'
  generalize M3.anew r.toNat x.toNat (cw 1) false s = M4 at *
  have hmul : wrap64 (2 * (s : Int)) = ((s * 2 : Nat) : Int) := by unfold wrap64; omega
  have hmul2 : (2 : Int) * (s : Int) = ((s * 2 : Nat) : Int) := by omega
  go_wp2_with fail
  refine (same_told A3 A5 s c3 c5 (ireads r s) _ _ (ireads_len r s) rfl VA10.out VB10.out (by omega)).mono ?_
  rintro e w11 ⟨rfl, ho⟩
  have O11 := Lib.hid (O10.out.none ho)
  have K11 := Lib.hid (K10.out.trans (Kept.of_none ho))
  have VA11 := Lib.hid (VA10.out.only ho)
  have VC11 := Lib.hid (VC10.out.only ho)
  have VD11 := Lib.hid (VD10.out.only ho)
  clear ho O10 K10 VA10 VB10 VC10 VD10
  go_wp2_with fail
  refine (same_told A3 A7 s c3 c7 (ireads r s) _ _ (ireads_len r s) rfl VA11.out VC11.out (by omega)).mono ?_
  rintro e w12 ⟨rfl, ho⟩
  have O12 := Lib.hid (O11.out.none ho)
  have K12 := Lib.hid (K11.out.trans (Kept.of_none ho))
  have VA12 := Lib.hid (VA11.out.only ho)
  have VD12 := Lib.hid (VD11.out.only ho)
  clear ho O11 K11 VA11 VC11 VD11
  go_wp2_with fail
  refine (own_fault _ p M4 _ O12.out).mono ?_
  rintro e w' ⟨rfl, rfl⟩
  rw [F5.out]
  go_wp2_with fail
  refine (reads_any r s (by omega) _).mono ?_
  rintro e w13 ⟨A13, c13, rfl, hv, ho⟩
  rw [ireads_len]
  have K13 := Lib.hid ((K12.out.trans (Kept.of_none ho)).below (B := W.heap.size) (Nat.le_refl _) (fun i hi => hi))
  have VA13 := Lib.hid (VA12.out.only ho)
  have VD13 := Lib.hid (VD12.out.only ho)
  clear hv ho O12 K12 VA12 VD12 F5
  go_wp2_with fail
  go_loopw [16] (fun v wr => ∃ i k : Nat, v = .int .i64 i ∧ i ≤ s ∧ wr = w13.drewN k) (fun v _ => s - (intOf v).toNat)
  case atStart => exact ⟨0, 0, rfl, Nat.zero_le _, rfl⟩
  case round =>
    obtain ⟨i, k, rfl, hi, rfl⟩ := hrel
    by_cases hlt : i < s
    · have ha : (ireads r s)[i]? = some (r, (i : Int), false) := List.getElem?_eq_some_iff.2 ⟨by rw [ireads_len]; exact hlt, ireads_at r s i _⟩
      obtain ⟨hd0, hd1⟩ := iwrites_at r s i hlt
      obtain ⟨b, off, rfl, x0, x1, x2⟩ := ivw_at VA13.out ha
      obtain ⟨b', off', rfl, y0, y1, y2⟩ := ivw_at VD13.out hd0
      obtain ⟨b2, off2, hab, u0, u1, u2⟩ := ivw_at VD13.out hd1
      cases hab
      clear ha hd0 hd1
      dsimp only at x0 x1 x2 y0 y1 y2 u0 u1 u2
      have hq1 := ineq_event r (i : Int) r (i : Int) false false true (decide_eq_true rfl)
      have hq2 := ineq_event r (i : Int) r (i : Int) true true true (decide_eq_true rfl)
      rw [Bool.not_true] at hq1 hq2
      have hi12 : i < 12 := by omega
      have hm1 : wrap64 (2 * (i : Int)) = ((i * 2 : Nat) : Int) := by unfold wrap64; omega
      have hm2 : (2 : Int) * (i : Int) = ((i * 2 : Nat) : Int) := by omega
      go_wp2_with fail
      go_quiet (fail)
      go_wp2_with fail
      go_roundw
      case rel => exact ⟨i + 1, _, by go_num, by omega, rfl⟩
      case measure => simp [intOf]; omega
    · go_wp2_with fail
      go_ret
      exact ⟨rfl, below_drewN K13.out k⟩
theorem all_law (a : Option Addr) (n cap : Nat) (z : Nat → Int) (r x : Int) (W : World) (hn : n ≤ 9223372036854775807) (hz : Nums .u64 W W.heap.size a n z) (hx : (Lit.int .u64 x).wf = true) :
    Calls Try.prog 6 #[.slice a n cap, .int .i64 r, .int .u64 x] W (Yes W) := by
  by_cases h : 40 < n
  · exact all_out a n cap r x W hn h
  · exact all_in a n cap z r x W (by omega) hz (u64_rng hx).1 (u64_rng hx).2
end Go.Proofs.Ytgppediikggogaa
