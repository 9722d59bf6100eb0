/- The walk of the law on runs: what a run makes of a region's cells, its events, and what is wrong, are as the document tells. Conditions: the slice's cells hold words. -/
import Derived.Test.YtojdefaplekieaaAlike
import Derived.Test.YtojdefaplekieaaSortRefEvents
namespace Go.Proofs.Ytojdefaplekieaa
open Go.RowKit Go.ChangeShapes Go.WideShapes Go.ChangeAt

theorem runs_out (a : Option Addr) (nl cap : Nat) (cells n key r : Int) (W : World) (hn : nl ≤ 9223372036854775807) (h : cells < 1 ∨ 130 < cells ∨ 130 < nl) :
    Calls Try.prog 3 #[.slice a nl cap, .int .i64 cells, .int .i64 n, .int .i64 key, .int .i64 r] W (Yes W) := by
  by_cases h1 : cells < 1
  · go_enter Try.func3, Try.ntmps3
    go_wp2_with fail
    refine (shown_any W).mono ?_
    rintro e w0 ⟨rfl, hb0⟩
    have HB := Lib.hid hb0
    clear hb0
    go_wp2_with fail
    go_ret
    exact ⟨rfl, HB.out⟩
  by_cases h2 : 130 < cells
  · go_enter Try.func3, Try.ntmps3
    go_wp2_with fail
    refine (shown_any W).mono ?_
    rintro e w0 ⟨rfl, hb0⟩
    have HB := Lib.hid hb0
    clear hb0
    go_wp2_with fail
    go_ret
    exact ⟨rfl, HB.out⟩
  have h3 : 130 < nl := by omega
  go_enter Try.func3, Try.ntmps3
  go_wp2_with fail
  refine (shown_any W).mono ?_
  rintro e w0 ⟨rfl, hb0⟩
  have HB := Lib.hid hb0
  clear hb0
  go_wp2_with fail
  go_ret
  exact ⟨rfl, HB.out⟩
section
variable (X : Nat → Prop) (p q : Nat) (M N : MS) (w : World)
theorem mix_run (r κ P : Nat) (h : Mix w X p M q N) (hP : P ≤ 10) (hr : r < M.k) (hs : 2 ^ P ≤ M.sz r) (hκ : κ < 12) (hwd : M.wd) (hl : M.es.length < 900000000) :
    Calls Try.prog 11 #[.pointer (some ⟨p, 0, none⟩), .int .i64 (r : Int), .int .i64 ((2 ^ P : Nat) : Int), .int .i64 (κ : Int)] w (MixPost w X p (M.sorted r κ (netL P)) q N (.int .i64 0)) := by
  obtain ⟨G, ho, hn', hG⟩ := h
  exact (run_net _ p M r κ P w ho hP hr hs hκ hwd hl).mono fun e w' h => mix_done hn' hG h
end
set_option maxRecDepth 100000 in
set_option maxHeartbeats 1000000 in
theorem runs_right (a : Option Addr) (nl cap : Nat) (z : Nat → Int) (s : Nat) (rr P κ : Nat) (m : Int) (W : World) (hnl : nl ≤ 130) (hz : Nums .u64 W W.heap.size a nl z) (hs1 : 1 ≤ s) (hs2 : s ≤ 130) (hP : P ≤ 10) (hm : m = ((2 ^ P : Nat) : Int)) (hκ : κ < 12) (hr : rr < 2) (hs : 2 ^ P ≤ s) :
    Calls Try.prog 3 #[.slice a nl cap, .int .i64 (s : Int), .int .i64 m, .int .i64 (κ : Int), .int .i64 (rr : Int)] W (Yes W) := by
  have HZ := Lib.hid hz
  have hps := netL_short P hP
  have HNet : Hid (Net m (2 ^ P) (netL P)) := ⟨.inl ⟨P, hP, hm, rfl, rfl⟩⟩
  obtain ⟨M0, hM0⟩ : ∃ M, laidM 2 s z (min nl s) = M := ⟨_, rfl⟩
  obtain ⟨lm, hlm⟩ : ∃ x, min nl s = x := ⟨_, rfl⟩
  have f0 : rr < M0.k ∧ 2 ^ P ≤ M0.sz rr ∧ M0.wd ∧ M0.es.length = lm := by rw [← hM0]; exact ⟨hr, hs, laidM_wd _ _ _ _, by rw [laidM_len]; exact hlm⟩
  have hlm2 : lm ≤ 130 := by omega
  have E0 := Lib.hid hM0
  have F0 := Lib.hid f0
  have HMM := Lib.hid hm
  clear hz hM0 f0 hlm hm hs
  have t1 : decide ((s : Int) < 1) = false := decide_eq_false (by omega)
  have t2 : decide (130 < (s : Int)) = false := decide_eq_false (by omega)
  have t3 : decide (130 < (nl : Int)) = false := decide_eq_false (by omega)
  go_enter Try.func3, Try.ntmps3
  go_wp2_with fail
  refine (shown_any W).mono ?_
  rintro e w0 ⟨rfl, hb0⟩
  have B0 := Lib.hid hb0
  have K0 : Hid (Kept (old W) W w0) := Only.of_below hb0
  clear hb0
  go_wp2_with fail
  refine (laid_any 2 s a nl cap W.heap.size z _ (by decide) (by decide) hs1 (by omega) (HZ.out.below B0.out) B0.out.size).mono ?_
  rintro e w1 ⟨p, q, rfl, hm, ho⟩
  rw [E0.out] at hm
  have O1 := Lib.hid (hm.weak (Y := old W) (fun i (hi : i < W.heap.size) => Nat.lt_of_lt_of_le hi B0.out.size))
  have K1 := Lib.hid (K0.out.trans (Kept.of_none ho))
  clear hm ho K0 B0
  go_wp2_with fail
  refine (own_many _ p M0 _ O1.out.left).mono ?_
  rintro e w' ⟨rfl, rfl⟩
  rw [F0.out.2.2.2]
  go_wp2_with fail
  rw [HMM.out]
  refine (mix_run _ p q M0 M0 _ rr κ P O1.out hP F0.out.1 F0.out.2.1 hκ F0.out.2.2.1 (by rw [F0.out.2.2.2]; omega)).mono ?_
  rw [← HMM.out]
  rintro e w2 ⟨rfl, hd, hk⟩
  have O2 := Lib.hid hd
  have K2 := Lib.hid (K1.out.trans hk)
  clear hd hk O1 K1
  go_wp2_with fail
  rw [HMM.out]
  refine (rrun_net _ p (M0.sorted rr κ (netL P)) q M0 rr κ P _ O2.out hP F0.out.1 F0.out.2.1 hκ (by rw [F0.out.2.2.2]; omega)).mono ?_
  rw [← HMM.out]
  rintro e w3 ⟨rfl, hd, hk⟩
  have O3 := Lib.hid hd
  have K3 := Lib.hid (K2.out.trans hk)
  clear hd hk O2 K2
  go_wp2_with fail
  refine (since_run _ p M0 rr κ (netL P) lm _ O3.out.left F0.out.2.2.2 (by omega)).mono ?_
  rintro e w5 ⟨A5, c5, rfl, hv, ho⟩
  have V5 := Lib.hid hv
  have O5 := Lib.hid (O3.out.none ho)
  have K5 := Lib.hid (K3.out.trans (Kept.of_none ho))
  clear hv ho O3 K3
  go_wp2_with fail
  refine (events_any (rr : Int) m (2 ^ P) (netL P) HNet.out _).mono ?_
  rintro e w6 ⟨A6, c6, rfl, hv, ho⟩
  rw [ilooks_len]
  have V6 := Lib.hid hv
  have V5 := Lib.hid (V5.out.only ho)
  have O6 := Lib.hid (O5.out.none ho)
  have K6 := Lib.hid (K5.out.trans (Kept.of_none ho))
  clear hv ho O5 K5
  go_wp2_with fail
  refine (refEvents_any (rr : Int) m (2 ^ P) (netL P) HNet.out _).mono ?_
  rintro e w6b ⟨A6b, c6b, rfl, hv, ho⟩
  rw [ilooks_len]
  have V6b := Lib.hid hv
  have V6' := Lib.hid (V6.out.only ho)
  have V5 := Lib.hid (V5.out.only ho)
  have O6b := Lib.hid (O6.out.none ho)
  have K6b := Lib.hid (K6.out.trans (Kept.of_none ho))
  clear hv ho O6 K6 V6
  go_wp2_with fail
  refine (same_told A6 A6b _ c6 c6b (ilooks (rr : Int) (netL P)) _ _ (ilooks_len _ _) rfl V6'.out V6b.out (by omega)).mono ?_
  rintro e w7 ⟨rfl, ho⟩
  have V5 := Lib.hid (V5.out.only ho)
  have O7 := Lib.hid (O6b.out.none ho)
  have K7 := Lib.hid (K6b.out.trans (Kept.of_none ho))
  clear ho O6b K6b V6' V6b
  go_wp2_with fail
  refine (events_any (rr : Int) m (2 ^ P) (netL P) HNet.out _).mono ?_
  rintro e w8 ⟨A8, c8, rfl, hv, ho⟩
  rw [ilooks_len]
  have V8 := Lib.hid hv
  have V5' := Lib.hid (V5.out.only ho)
  have O8 := Lib.hid (O7.out.none ho)
  have K8 := Lib.hid (K7.out.trans (Kept.of_none ho))
  clear hv ho O7 K7 V5
  go_wp2_with fail
  refine (same_told A5 A8 _ c5 c8 (ilooks (rr : Int) (netL P)) _ _ (ilooks_len _ _) rfl V5'.out V8.out (by omega)).mono ?_
  rintro e w9 ⟨rfl, ho⟩
  have O9 := Lib.hid (O8.out.none ho)
  have K9 := Lib.hid (K8.out.trans (Kept.of_none ho))
  clear ho O8 K8 V5' V8
  go_wp2_with fail
  refine (alike_any _ p q (M0.sorted rr κ (netL P)) _ O9.out (by rw [sorted_len, F0.out.2.2.2]; omega)).mono ?_
  rintro e w10 ⟨rfl, hk⟩
  have K10 := Lib.hid (K9.out.trans hk)
  clear hk O9 K9
  go_wp2_with fail
  go_ret
  exact ⟨rfl, K10.out.below (Nat.le_refl _) (fun i hi => hi)⟩
set_option maxRecDepth 100000 in
set_option maxHeartbeats 1000000 in
theorem runs_wrong (a : Option Addr) (nl cap : Nat) (z : Nat → Int) (s : Nat) (m key r : Int) (k : Nat) (ps : List Pr) (W : World) (hnl : nl ≤ 130) (hz : Nums .u64 W W.heap.size a nl z) (hs1 : 1 ≤ s) (hs2 : s ≤ 130) (hNet : Net m k ps) (hb : ¬ runs (laidM 2 s z (min nl s)) r m key) :
    Calls Try.prog 3 #[.slice a nl cap, .int .i64 (s : Int), .int .i64 m, .int .i64 key, .int .i64 r] W (Yes W) := by
  have HZ := Lib.hid hz
  have hps := hNet.len
  have HNet := Lib.hid hNet
  obtain ⟨M0, hM0⟩ : ∃ M, laidM 2 s z (min nl s) = M := ⟨_, rfl⟩
  obtain ⟨lm, hlm⟩ : ∃ x, min nl s = x := ⟨_, rfl⟩
  have f0 : M0.es.length = lm := by rw [← hM0, laidM_len]; exact hlm
  have hlm2 : lm ≤ 130 := by omega
  rw [hM0] at hb
  have HB := Lib.hid hb
  have E0 := Lib.hid hM0
  have F0 := Lib.hid f0
  clear hz hM0 f0 hlm hNet hb
  have t1 : decide ((s : Int) < 1) = false := decide_eq_false (by omega)
  have t2 : decide (130 < (s : Int)) = false := decide_eq_false (by omega)
  have t3 : decide (130 < (nl : Int)) = false := decide_eq_false (by omega)
  go_enter Try.func3, Try.ntmps3
  go_wp2_with fail
  refine (shown_any W).mono ?_
  rintro e w0 ⟨rfl, hb0⟩
  have B0 := Lib.hid hb0
  have K0 : Hid (Kept (old W) W w0) := Only.of_below hb0
  clear hb0
  go_wp2_with fail
  refine (laid_any 2 s a nl cap W.heap.size z _ (by decide) (by decide) hs1 (by omega) (HZ.out.below B0.out) B0.out.size).mono ?_
  rintro e w1 ⟨p, q, rfl, hm, ho⟩
  rw [E0.out] at hm
  have O1 := Lib.hid (hm.weak (Y := old W) (fun i (hi : i < W.heap.size) => Nat.lt_of_lt_of_le hi B0.out.size))
  have K1 := Lib.hid (K0.out.trans (Kept.of_none ho))
  clear hm ho K0 B0
  go_wp2_with fail
  refine (own_many _ p M0 _ O1.out.left).mono ?_
  rintro e w' ⟨rfl, rfl⟩
  rw [F0.out]
  go_wp2_with fail
  refine (run_wrong _ p M0 r m key _ O1.out.left HB.out).mono ?_
  rintro e w' ⟨rfl, rfl⟩
  go_wp2_with fail
  refine (rrun_wrong _ p M0 q M0 r m key _ O1.out HB.out).mono ?_
  rintro e w' ⟨rfl, rfl⟩
  go_wp2_with fail
  refine (since_none _ p M0 lm _ O1.out.left F0.out (by omega)).mono ?_
  rintro e w5 ⟨A5, c5, rfl, ho⟩
  have O5 := Lib.hid (O1.out.none ho)
  have K5 := Lib.hid (K1.out.trans (Kept.of_none ho))
  clear ho O1 K1
  go_wp2_with fail
  refine (events_any r m k ps HNet.out _).mono ?_
  rintro e w6 ⟨A6, c6, rfl, hv, ho⟩
  rw [ilooks_len]
  have V6 := Lib.hid hv
  have O6 := Lib.hid (O5.out.none ho)
  have K6 := Lib.hid (K5.out.trans (Kept.of_none ho))
  clear hv ho O5 K5
  go_wp2_with fail
  refine (refEvents_any r m k ps HNet.out _).mono ?_
  rintro e w6b ⟨A6b, c6b, rfl, hv, ho⟩
  rw [ilooks_len]
  have V6b := Lib.hid hv
  have V6' := Lib.hid (V6.out.only ho)
  have O6b := Lib.hid (O6.out.none ho)
  have K6b := Lib.hid (K6.out.trans (Kept.of_none ho))
  clear hv ho O6 K6 V6
  go_wp2_with fail
  refine (same_told A6 A6b _ c6 c6b (ilooks r ps) _ _ (ilooks_len _ _) rfl V6'.out V6b.out (by omega)).mono ?_
  rintro e w7 ⟨rfl, ho⟩
  have O7 := Lib.hid (O6b.out.none ho)
  have K7 := Lib.hid (K6b.out.trans (Kept.of_none ho))
  clear ho O6b K6b V6' V6b
  go_wp2_with fail
  refine (alike_any _ p q M0 _ O7.out (by rw [F0.out]; omega)).mono ?_
  rintro e w10 ⟨rfl, hk⟩
  have K10 := Lib.hid (K7.out.trans hk)
  clear hk O7 K7
  go_wp2_with fail
  go_ret
  exact ⟨rfl, K10.out.below (Nat.le_refl _) (fun i hi => hi)⟩
theorem runs_law (a : Option Addr) (nl cap : Nat) (z : Nat → Int) (cells n key r : Int) (W : World) (hn : nl ≤ 9223372036854775807) (hz : Nums .u64 W W.heap.size a nl z) :
    Calls Try.prog 3 #[.slice a nl cap, .int .i64 cells, .int .i64 n, .int .i64 key, .int .i64 r] W (Yes W) := by
  by_cases h : cells < 1 ∨ 130 < cells ∨ 130 < nl
  · exact runs_out a nl cap cells n key r W hn h
  · obtain ⟨s, rfl⟩ := Int.eq_ofNat_of_zero_le (a := cells) (by omega)
    by_cases hb : runs (laidM 2 s z (min nl s)) r n key
    · obtain ⟨rr, P, κ, rfl, hP, hm, rfl, hκ, hr, hs⟩ := runs_nat hb
      exact runs_right a nl cap z s rr P κ n W (by omega) hz (by omega) (by omega) hP hm hκ hr hs
    · obtain ⟨k, ps, hN⟩ := Net.of n
      exact runs_wrong a nl cap z s n key r k ps W (by omega) hz (by omega) (by omega) hN hb
end Go.Proofs.Ytojdefaplekieaa
