/- The walk of the law on what is seen: the events of two runs are the same, whatever stands in the cells. Conditions: the slices' cells hold numbers. -/
import Derived.Test.YtojdefaplekieaaSortLaw
namespace Go.Proofs.Ytojdefaplekieaa
open Go.RowKit Go.ChangeShapes Go.WideShapes Go.ChangeAt

theorem blind_out (a : Option Addr) (n cap : Nat) (a2 : Option Addr) (n2 cap2 : Nat) (L key : Int) (W : World) (hn : n ≤ 9223372036854775807) (hn2 : n2 ≤ 9223372036854775807) (h : L < 0 ∨ 7 < L ∨ 130 < n ∨ 130 < n2) :
    Calls Try.prog 5 #[.slice a n cap, .slice a2 n2 cap2, .int .i64 L, .int .i64 key] W (Yes W) := by
  by_cases h1 : L < 0
  · go_enter Try.func5, Try.ntmps5
    go_wp2_with fail
    refine (shown_any W).mono ?_
    rintro e w0 ⟨rfl, hb0⟩
    have HB := Lib.hid hb0
    clear hb0
    go_wp2_with fail
    go_ret
    exact ⟨rfl, HB.out⟩
  · by_cases h2 : 7 < L
    · go_enter Try.func5, Try.ntmps5
      go_wp2_with fail
      refine (shown_any W).mono ?_
      rintro e w0 ⟨rfl, hb0⟩
      have HB := Lib.hid hb0
      clear hb0
      go_wp2_with fail
      go_ret
      exact ⟨rfl, HB.out⟩
    · by_cases h3 : 130 < n
      · go_enter Try.func5, Try.ntmps5
        go_wp2_with fail
        refine (shown_any W).mono ?_
        rintro e w0 ⟨rfl, hb0⟩
        have HB := Lib.hid hb0
        clear hb0
        go_wp2_with fail
        go_ret
        exact ⟨rfl, HB.out⟩
      · have h4 : 130 < n2 := by omega
        go_enter Try.func5, Try.ntmps5
        go_wp2_with fail
        refine (shown_any W).mono ?_
        rintro e w0 ⟨rfl, hb0⟩
        have HB := Lib.hid hb0
        clear hb0
        go_wp2_with fail
        go_ret
        exact ⟨rfl, HB.out⟩
set_option maxRecDepth 100000 in
set_option maxHeartbeats 1000000 in
theorem blind_in (a : Option Addr) (n cap : Nat) (z : Nat → Int) (a2 : Option Addr) (n2 cap2 : Nat) (z2 : Nat → Int) (L N κ : Nat) (W : World) (hn : n ≤ 130) (hn2 : n2 ≤ 130) (hz : Nums .u64 W W.heap.size a n z) (hz2 : Nums .u64 W W.heap.size a2 n2 z2) (hL : L ≤ 7) (hN : 2 ^ L = N) (hκ : κ < 12) :
    Calls Try.prog 5 #[.slice a n cap, .slice a2 n2 cap2, .int .i64 (L : Int), .int .i64 (κ : Int)] W (Yes W) := by
  have HZ := Lib.hid hz
  have HZ2 := Lib.hid hz2
  have hN1 : N ≤ 128 := by rw [← hN]; exact Nat.pow_le_pow_right (by decide) hL
  have hsh := shl_one L N hN (by omega)
  have hps := netL_short L (by omega)
  have HN := Lib.hid hN
  clear hz hz2 hN
  go_enter Try.func5, Try.ntmps5
  go_wp2_with fail
  refine (shown_any W).mono ?_
  rintro e w0 ⟨rfl, hb0⟩
  have B0 := Lib.hid hb0
  have K0 : Hid (Kept (old W) W w0) := Only.of_below hb0
  clear hb0
  go_wp2_with fail
  refine (laid_any 1 128 a n cap W.heap.size z _ (by decide) (by decide) (by decide) (by decide) (HZ.out.below B0.out) B0.out.size).mono ?_
  rintro e w1 ⟨p, q, rfl, hm, ho⟩
  have O1 := Lib.hid (hm.weak (Y := old W) (fun i (hi : i < W.heap.size) => Nat.lt_of_lt_of_le hi B0.out.size))
  have K1 := Lib.hid (K0.out.trans (Kept.of_none ho))
  have B1 := Lib.hid (K1.out.below (Nat.le_refl _) (fun i hi => hi))
  clear hm ho K0 B0
  go_wp2_with fail
  refine (laid_any 1 128 a2 n2 cap2 W.heap.size z2 _ (by decide) (by decide) (by decide) (by decide) (HZ2.out.below B1.out) B1.out.size).mono ?_
  rintro e w2 ⟨p2, q2, rfl, hm, ho⟩
  have O2 := Lib.hid (laid_duo O1.out ho hm)
  have K2 := Lib.hid (K1.out.trans (Kept.of_none ho))
  clear hm ho K1 B1 O1
  have l1 := laidM_len 1 128 z (min n 128)
  have l2 := laidM_len 1 128 z2 (min n2 128)
  have HR1 : Hid (0 < (laidM 1 128 z (min n 128)).k ∧ N ≤ (laidM 1 128 z (min n 128)).sz 0 ∧ (laidM 1 128 z (min n 128)).wd) := ⟨by show 0 < 1; decide, hN1, laidM_wd _ _ _ _⟩
  have HR2 : Hid (0 < (laidM 1 128 z2 (min n2 128)).k ∧ N ≤ (laidM 1 128 z2 (min n2 128)).sz 0 ∧ (laidM 1 128 z2 (min n2 128)).wd) := ⟨by show 0 < 1; decide, hN1, laidM_wd _ _ _ _⟩
  generalize laidM 1 128 z (min n 128) = M1 at *
  generalize laidM 1 128 z2 (min n2 128) = M2 at *
  have hm1 : min n 128 ≤ 128 := by omega
  have hm2 : min n2 128 ≤ 128 := by omega
  generalize min n 128 = m1 at *
  generalize min n2 128 = m2 at *
  go_wp2_with fail
  refine (own_many _ p M1 _ O2.out.left).mono ?_
  rintro e w' ⟨rfl, rfl⟩
  rw [l1]
  go_wp2_with fail
  refine (own_many _ p2 M2 _ O2.out.right).mono ?_
  rintro e w' ⟨rfl, rfl⟩
  rw [l2]
  go_wp2_with fail
  simp only [hsh]
  refine (duo_run _ p p2 M1 M2 _ 0 κ L N O2.out HN.out (by omega) HR1.out.1 HR1.out.2.1 hκ HR1.out.2.2 (by omega)).mono ?_
  rintro e w3 ⟨rfl, hd, hk⟩
  have O3 := Lib.hid hd.swap
  have K3 := Lib.hid (K2.out.trans hk)
  clear hd hk O2 K2
  go_wp2_with fail
  simp only [hsh]
  refine (duo_run _ p2 p M2 _ _ 0 κ L N O3.out HN.out (by omega) HR2.out.1 HR2.out.2.1 hκ HR2.out.2.2 (by omega)).mono ?_
  rintro e w4 ⟨rfl, hd, hk⟩
  have O4 := Lib.hid hd.swap
  have K4 := Lib.hid (K3.out.trans hk)
  clear hd hk O3 K3
  have t1 : decide (0 ≤ (κ : Int)) = true := decide_eq_true (by omega)
  have t2 : decide ((κ : Int) < 12) = true := decide_eq_true (by omega)
  go_wp2_with fail
  refine (since_run _ p M1 0 κ (netL L) m1 _ O4.out.left l1 (by omega)).mono ?_
  rintro e w5 ⟨A5, c5, rfl, hv, ho⟩
  have V5 := Lib.hid hv
  have O5 := Lib.hid (O4.out.none ho)
  have K5 := Lib.hid (K4.out.trans (Kept.of_none ho))
  clear hv ho O4 K4
  go_wp2_with fail
  refine (since_run _ p2 M2 0 κ (netL L) m2 _ O5.out.right l2 (by omega)).mono ?_
  rintro e w6 ⟨A6, c6, rfl, hv, ho⟩
  have V6 := Lib.hid hv
  have V5' := Lib.hid (V5.out.only ho)
  have K6 := Lib.hid (K5.out.trans (Kept.of_none ho))
  clear hv ho O5 K5 V5
  go_wp2_with fail
  refine (same_told A5 A6 _ c5 c6 (ilooks ((0 : Nat) : Int) (netL L)) _ _ (ilooks_len _ _) rfl V5'.out V6.out (by omega)).mono ?_
  rintro e w7 ⟨rfl, ho⟩
  have K7 := Lib.hid (K6.out.trans (Kept.of_none ho))
  clear ho K6
  go_wp2_with fail
  go_ret
  exact ⟨rfl, K7.out.below (Nat.le_refl _) (fun i hi => hi)⟩
set_option maxRecDepth 100000 in
set_option maxHeartbeats 1000000 in
theorem blind_wrong (a : Option Addr) (n cap : Nat) (z : Nat → Int) (a2 : Option Addr) (n2 cap2 : Nat) (z2 : Nat → Int) (L N : Nat) (key : Int) (W : World) (hn : n ≤ 130) (hn2 : n2 ≤ 130) (hz : Nums .u64 W W.heap.size a n z) (hz2 : Nums .u64 W W.heap.size a2 n2 z2) (hL : L ≤ 7) (hN : 2 ^ L = N) (hk : key < 0 ∨ 12 ≤ key) :
    Calls Try.prog 5 #[.slice a n cap, .slice a2 n2 cap2, .int .i64 (L : Int), .int .i64 key] W (Yes W) := by
  have HZ := Lib.hid hz
  have HZ2 := Lib.hid hz2
  have hN1 : N ≤ 128 := by rw [← hN]; exact Nat.pow_le_pow_right (by decide) hL
  have hsh := shl_one L N hN (by omega)
  have hb1 : ∀ M : MS, ¬ runs M 0 (N : Int) key := fun M h => by have h1 := h.2.2.1; have h2 := h.2.2.2; omega
  have HB1 := Lib.hid hb1
  clear hb1
  clear hz hz2 hN
  go_enter Try.func5, Try.ntmps5
  go_wp2_with fail
  refine (shown_any W).mono ?_
  rintro e w0 ⟨rfl, hb0⟩
  have B0 := Lib.hid hb0
  have K0 : Hid (Kept (old W) W w0) := Only.of_below hb0
  clear hb0
  go_wp2_with fail
  refine (laid_any 1 128 a n cap W.heap.size z _ (by decide) (by decide) (by decide) (by decide) (HZ.out.below B0.out) B0.out.size).mono ?_
  rintro e w1 ⟨p, q, rfl, hm, ho⟩
  have O1 := Lib.hid (hm.weak (Y := old W) (fun i (hi : i < W.heap.size) => Nat.lt_of_lt_of_le hi B0.out.size))
  have K1 := Lib.hid (K0.out.trans (Kept.of_none ho))
  have B1 := Lib.hid (K1.out.below (Nat.le_refl _) (fun i hi => hi))
  clear hm ho K0 B0
  go_wp2_with fail
  refine (laid_any 1 128 a2 n2 cap2 W.heap.size z2 _ (by decide) (by decide) (by decide) (by decide) (HZ2.out.below B1.out) B1.out.size).mono ?_
  rintro e w2 ⟨p2, q2, rfl, hm, ho⟩
  have O2 := Lib.hid (laid_duo O1.out ho hm)
  have K2 := Lib.hid (K1.out.trans (Kept.of_none ho))
  clear hm ho K1 B1 O1
  have l1 := laidM_len 1 128 z (min n 128)
  have l2 := laidM_len 1 128 z2 (min n2 128)
  generalize laidM 1 128 z (min n 128) = M1 at *
  generalize laidM 1 128 z2 (min n2 128) = M2 at *
  have hm1 : min n 128 ≤ 128 := by omega
  have hm2 : min n2 128 ≤ 128 := by omega
  generalize min n 128 = m1 at *
  generalize min n2 128 = m2 at *
  go_wp2_with fail
  refine (own_many _ p M1 _ O2.out.left).mono ?_
  rintro e w' ⟨rfl, rfl⟩
  rw [l1]
  go_wp2_with fail
  refine (own_many _ p2 M2 _ O2.out.right).mono ?_
  rintro e w' ⟨rfl, rfl⟩
  rw [l2]
  go_wp2_with fail
  simp only [hsh]
  refine (run_wrong _ p M1 0 (N : Int) key _ O2.out.left (HB1.out _)).mono ?_
  rintro e w' ⟨rfl, rfl⟩
  go_wp2_with fail
  simp only [hsh]
  refine (run_wrong _ p2 M2 0 (N : Int) key _ O2.out.right (HB1.out _)).mono ?_
  rintro e w' ⟨rfl, rfl⟩
  go_wp2_with fail
  refine (since_none _ p M1 m1 _ O2.out.left l1 (by omega)).mono ?_
  rintro e w5 ⟨A5, c5, rfl, ho⟩
  have O5 := Lib.hid (O2.out.none ho)
  have K5 := Lib.hid (K2.out.trans (Kept.of_none ho))
  clear ho O2 K2
  go_wp2_with fail
  refine (since_none _ p2 M2 m2 _ O5.out.right l2 (by omega)).mono ?_
  rintro e w6 ⟨A6, c6, rfl, ho⟩
  have K6 := Lib.hid (K5.out.trans (Kept.of_none ho))
  clear ho O5 K5
  go_wp2_with fail
  refine (same_told A5 A6 0 c5 c6 [] [] _ rfl rfl (fun h => absurd rfl h) (fun h => absurd rfl h) (by omega)).mono ?_
  rintro e w7 ⟨rfl, ho⟩
  have K7 := Lib.hid (K6.out.trans (Kept.of_none ho))
  clear ho K6
  by_cases g1 : 0 ≤ key
  · have g2 : decide (key < 12) = false := decide_eq_false (by omega)
    go_wp2_with fail
    go_ret
    exact ⟨rfl, K7.out.below (Nat.le_refl _) (fun i hi => hi)⟩
  · go_wp2_with fail
    go_ret
    exact ⟨rfl, K7.out.below (Nat.le_refl _) (fun i hi => hi)⟩
theorem blind_law (a : Option Addr) (n cap : Nat) (z : Nat → Int) (a2 : Option Addr) (n2 cap2 : Nat) (z2 : Nat → Int) (L key : Int) (W : World) (hn : n ≤ 9223372036854775807) (hz : Nums .u64 W W.heap.size a n z) (hn2 : n2 ≤ 9223372036854775807) (hz2 : Nums .u64 W W.heap.size a2 n2 z2) :
    Calls Try.prog 5 #[.slice a n cap, .slice a2 n2 cap2, .int .i64 L, .int .i64 key] W (Yes W) := by
  by_cases h : L < 0 ∨ 7 < L ∨ 130 < n ∨ 130 < n2
  · exact blind_out a n cap a2 n2 cap2 L key W hn hn2 h
  · obtain ⟨L', rfl⟩ := Int.eq_ofNat_of_zero_le (a := L) (by omega)
    by_cases hk : key < 0 ∨ 12 ≤ key
    · exact blind_wrong a n cap z a2 n2 cap2 z2 L' _ key W (by omega) (by omega) hz hz2 (by omega) rfl hk
    · obtain ⟨κ, rfl⟩ := Int.eq_ofNat_of_zero_le (a := key) (by omega)
      exact blind_in a n cap z a2 n2 cap2 z2 L' _ κ W (by omega) (by omega) hz hz2 (by omega) rfl (by omega)
end Go.Proofs.Ytojdefaplekieaa
