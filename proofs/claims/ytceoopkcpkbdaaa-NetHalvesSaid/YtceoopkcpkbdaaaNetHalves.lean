/- NetHalves: for every number the law returns true, and of what was in memory nothing changes. -/
import Derived.Test.YtceoopkcpkbdaaaNetShape
namespace Go.Proofs.Ytceoopkcpkbdaaa
open Go.RowKit Go.Shelf Go.ChangeShapes Go.WideShapes Go.ChangeAt

/-- The pairs of the first half among the first i. -/
def low (h : Nat) (ps : List Pr) (i : Nat) : List Pr := (ps.take i).filter (fun p => decide (p.1 < h))
theorem low_yes {h : Nat} {ps : List Pr} {i : Nat} (hi : i < ps.length) (hl : ps[i].1 < h) : low h ps (i + 1) = low h ps i ++ [ps[i]] := by
  unfold low
  rw [List.take_succ_eq_append_getElem hi, List.filter_append]
  simp [hl]
theorem low_no {h : Nat} {ps : List Pr} {i : Nat} (hi : i < ps.length) (hl : ¬ ps[i].1 < h) : low h ps (i + 1) = low h ps i := by
  unfold low
  rw [List.take_succ_eq_append_getElem hi, List.filter_append]
  simp [hl]
theorem low_mono {h : Nat} {ps : List Pr} {i j : Nat} (hij : i ≤ j) : low h ps i <+: low h ps j := by
  unfold low
  obtain ⟨t, ht⟩ : ps.take i <+: ps.take j := List.take_prefix_take_left hij
  rw [← ht, List.filter_append]
  exact List.prefix_append _ _
/-- A pair of the first half is the next one of the half's network. -/
theorem low_next {h : Nat} {ps qs : List Pr} {i m : Nat} (hi : i < ps.length) (him : i < m) (hl : ps[i].1 < h) (hq : low h ps m = qs) : ∃ hk : (low h ps i).length < qs.length, qs[(low h ps i).length] = ps[i] := by
  have hp : low h ps i ++ [ps[i]] <+: qs := by
    rw [← hq, ← low_yes hi hl]; exact low_mono him
  obtain ⟨t, ht⟩ := hp
  subst ht
  exact ⟨by simp, by simp⟩
theorem halves_math (M : Nat) : low (2 ^ M) (netL (M + 1)) (2 * (netL M).length) = netL M ∧ (netL (M + 1)).length = 2 * (netL M).length + 2 ^ M * (M + 1) ∧
    ∀ i, 2 * (netL M).length ≤ i → (hi : i < (netL (M + 1)).length) → (netL (M + 1))[i].2.2 = true := by
  have h1 := first_len M
  have h2 := mergeL_len (2 * 2 ^ M) (2 ^ (M + 1)) (M + 1) (by rw [Nat.pow_succ, Nat.mul_comm]; exact Nat.dvd_refl _)
  have e := netL_succ M
  refine ⟨?_, ?_, fun i h3 hi => ?_⟩
  · unfold low
    rw [e, ← h1, List.take_left, phasesL_half]
    rfl
  · rw [e, List.length_append, h1]
    have : (M + 1) * (2 * 2 ^ M) = 2 * (2 ^ M * (M + 1)) := by rw [Nat.mul_left_comm, Nat.mul_comm (M + 1)]
    omega
  · have hmem : (netL (M + 1))[i] ∈ mergeL (2 * 2 ^ M) (2 ^ (M + 1)) (M + 1) := by
      have : (netL (M + 1))[i]? = (mergeL (2 * 2 ^ M) (2 ^ (M + 1)) (M + 1))[i - 2 * (netL M).length]? := by
        rw [e, List.getElem?_append_right (by omega), h1]
      rw [List.getElem?_eq_getElem hi] at this
      exact List.mem_of_getElem? this.symm
    exact last_up _ _ (by rw [Nat.pow_succ, Nat.mul_comm]; exact Nat.le_refl _) _ _ hmem
theorem sum_test (a b T : Nat) (h : a = 2 * b + T) : (((a : Nat) : Int) != 2 * (b : Int) + (T : Int)) = false := by
  have : (a : Int) = 2 * (b : Int) + (T : Int) := by omega
  rw [this]; simp
theorem wrap_prod (h L T : Nat) (hT : T = h * L) (h1 : h ≤ 512) (h2 : L ≤ 9) : wrap64 ((h : Int) * (L : Int)) = (T : Int) := by
  have h3 : h * L ≤ 512 * 9 := Nat.mul_le_mul h1 h2
  have e : (h : Int) * (L : Int) = (T : Int) := by rw [hT]; simp
  rw [e]
  have : T ≤ 4608 := by rw [hT]; exact h3
  clear e h3 hT
  unfold wrap64; omega
/-- Both networks lie in memory. -/
structure HvAt (w : World) (b1 b2 : Nat) (A B : Option Addr) (ps qs : List Pr) (g1 g2 : Nat) (wr : World) : Prop where
  p : Prs wr b1 A ps g1
  q : Prs wr b2 B qs g2
  below : Below w.heap.size w wr
theorem HvAt.drewN {w : World} {b1 b2 : Nat} {A B : Option Addr} {ps qs : List Pr} {g1 g2 : Nat} {wr : World} (h : HvAt w b1 b2 A B ps qs g1 g2 wr) (k : Nat) : HvAt w b1 b2 A B ps qs g1 g2 (wr.drewN k) :=
  ⟨h.p.drewN k, h.q.drewN k, below_drewN h.below k⟩
set_option maxRecDepth 100000 in
set_option maxHeartbeats 400000 in
theorem halves_in (L M h n : Nat) (hM : M ≤ 8) (hL : M + 1 = L) (hh : 2 ^ M = h) (hn : 2 ^ L = n) (w : World) : Calls Try.prog 8 #[.int .i64 (L : Int)] w fun e w' => e = .returned (.bool true) ∧ Below w.heap.size w w' := by
  have h0 : decide ((L : Int) < 1) = false := by simp; omega
  have h1 : decide (9 < (L : Int)) = false := by simp; omega
  have hn1 : n ≤ 1024 := by rw [← hn]; exact two_le _ (by omega)
  have hn0 : 0 < h := by rw [← hh]; exact two_pos M
  have hnh : n = 2 * h := by rw [← hn, ← hL, ← hh, Nat.pow_succ, Nat.mul_comm]
  have hsh := shl_one L n hn hn1
  have hN : Net (n : Int) n (netL L) := ⟨.inl ⟨L, by omega, by rw [hn], hn.symm, rfl⟩⟩
  have hQ : Net (h : Int) h (netL M) := ⟨.inl ⟨M, by omega, by rw [hh], hh.symm, rfl⟩⟩
  have hlp := hN.len
  have hlq := hQ.len
  have hin : Within h (netL M) := by rw [← hh]; exact netL_within M
  obtain ⟨hm1, hm2, hm3⟩ := halves_math M
  rw [hh, hL] at hm1 hm2
  rw [hL] at hm3
  have HN := Lib.hid hN
  have HQ := Lib.hid hQ
  clear hN hQ
  have hL9 : L ≤ 9 := by omega
  have HH := Lib.hid (And.intro hnh hL)
  have hh5 : h ≤ 512 := by omega
  have hwh : wrap64 (h : Int) = (h : Int) := by unfold wrap64; omega
  have H1 := Lib.hid hm1
  have H2 := Lib.hid hm2
  have H3 := Lib.hid hm3
  have H4 := Lib.hid hin
  clear hnh hL hh hm1 hm2 hm3 hin hM hn
  generalize netL L = ps at *
  generalize netL M = qs at *
  go_enter Try.func8, Try.ntmps8
  go_wp2_with fail
  refine (shown_any _).mono ?_
  rintro e w1 ⟨rfl, hb1⟩
  go_wp2_with fail
  with_reducible refine (pairs_any (n : Int) n ps HN.out _).mono ?_
  rintro e w2 ⟨v, rfl, hown, hb2⟩
  obtain ⟨A, cap, g, rfl, hP⟩ := Prs.of hown
  clear hown
  have hq2 : (n : Int) / 2 = (h : Int) := by have := HH.out.1; omega
  have hq3 : wrap64 ((n : Int).tdiv 2) = (h : Int) := by
    rw [Int.tdiv_eq_ediv_of_nonneg (by omega), hq2]; unfold wrap64; have := HH.out.1; omega
  go_wp2_with fail
  with_reducible refine (pairs_any (h : Int) h qs HQ.out _).mono ?_
  rintro e w3 ⟨v, rfl, hown, hb3⟩
  obtain ⟨B, cap2, g2, rfl, hQs⟩ := Prs.of hown
  have HV : HvAt w w1.heap.size w2.heap.size A B ps qs g g2 w3 := ⟨hP.below hb3 (Nat.le_refl _), hQs, (hb1.trans (hb2.mono hb1.size)).trans (hb3.mono (Nat.le_trans hb1.size hb2.size))⟩
  have HV := Lib.hid HV
  clear hown hP hQs hb1 hb2 hb3
  obtain ⟨T, hT⟩ : ∃ T, T = h * L := ⟨_, rfl⟩
  have hps : ps.length = 2 * qs.length + T := by rw [hT]; exact H2.out
  have hTL := wrap_prod h L T hT hh5 hL9
  have HP := Lib.hid hps
  have hT2 : T ≤ 28160 := Nat.le_trans (Nat.le_add_left T (2 * qs.length)) (by rw [← hps]; exact hlp)
  have htest := sum_test ps.length qs.length T hps
  clear hT hps
  go_wp2_with fail
  have hl0 : (low h ps 0).length = 0 := rfl
  go_loopw [8, 9] (fun v8 v9 wr => ∃ i : Nat, v9 = .int .i64 i ∧ v8 = .int .i64 ((low h ps i).length : Nat) ∧ i ≤ 2 * qs.length ∧ HvAt w w1.heap.size w2.heap.size A B ps qs g g2 wr) (fun _ v9 _ => 2 * qs.length - (intOf v9).toNat)
  case atStart => exact ⟨0, rfl, by rw [hl0]; rfl, by omega, HV.out⟩
  case round =>
    obtain ⟨i, rfl, rfl, hle, hS⟩ := hrel
    clear HV htest hTL hT2 hsh h0 h1
    by_cases hlt : i < 2 * qs.length
    · have hip : i < ps.length := by have := HP.out; omega
      obtain rfl := hS.p.adr (by omega)
      obtain rfl := hS.q.adr (by omega)
      have c0 := hS.p.fst i hip
      have c1 := hS.p.snd i hip
      have d0 : (i : Int) < (ps.length : Int) := by omega
      have d1 : (i : Int) < 2 * (qs.length : Int) := by omega
      by_cases hI : ps[i].1 < h
      · obtain ⟨hk, hqk⟩ := low_next hip hlt hI H1.out
        have hw := H4.out qs[(low h ps i).length] (List.getElem_mem hk)
        have q0 := hS.q.fst _ hk
        have q1 := hS.q.snd _ hk
        rw [hqk] at hw q0 q1
        have HN1 := Lib.hid (show (low h ps (i + 1)).length = (low h ps i).length + 1 by rw [low_yes hip hI]; simp)
        have HS := Lib.hid hS
        clear hS hqk
        generalize ps[i].1 = I at *
        generalize ps[i].2.1 = J at *
        generalize (low h ps i).length = k at *
        have e1 : decide (h ≤ I) = false := by simp; omega
        have e2 : decide (h ≤ J) = false := by simp; omega
        have e3 : decide (qs.length ≤ k) = false := by simp; omega
        have e4 : (k : Int) < (qs.length : Int) := by omega
        go_wp2_with fail
        go_quiet (fail)
        go_wp2_with fail
        go_roundw
        case rel => exact ⟨i + 1, by go_num, by rw [HN1.out]; go_num, by omega, HS.out.drewN nq⟩
        case measure => simp [intOf]; omega
      · have HN1 := Lib.hid (congrArg List.length (low_no hip hI))
        have HS := Lib.hid hS
        clear hS
        generalize ps[i].1 = I at *
        generalize (low h ps i).length = k at *
        have e1 : decide (h ≤ I) = true := by simp; omega
        go_wp2_with fail
        go_roundw
        case rel => exact ⟨i + 1, by go_num, by rw [HN1.out], by omega, HS.out⟩
        case measure => simp [intOf]; omega
    · obtain rfl : i = 2 * qs.length := by omega
      have HS := Lib.hid hS
      rw [H1.out]
      have hpl := HP.out
      have hqp : 2 * qs.length ≤ ps.length := by omega
      clear hS hpl
      go_wp2_with fail
      go_loopw [10] (fun v wr => ∃ i : Nat, v = .int .i64 i ∧ 2 * qs.length ≤ i ∧ i ≤ ps.length ∧ HvAt w w1.heap.size w2.heap.size A B ps qs g g2 wr) (fun v _ => ps.length - (intOf v).toNat)
      case atStart => exact ⟨2 * qs.length, by go_num, Nat.le_refl _, hqp, HS.out⟩
      case round =>
        obtain ⟨i, rfl, hge, hle2, hS⟩ := hrel
        clear HS
        by_cases hlt2 : i < ps.length
        · obtain rfl := hS.p.adr (by omega)
          have c2 := hS.p.up i hlt2
          rw [H3.out i hge hlt2] at c2
          have HS := Lib.hid hS
          clear hS
          go_wp2_with fail
          go_roundw
          case rel => exact ⟨i + 1, by go_num, by omega, by omega, HS.out⟩
          case measure => simp [intOf]; omega
        · have HS := Lib.hid hS
          clear hS
          go_wp2_with fail
          go_ret
          exact ⟨rfl, HS.out.below⟩
set_option maxHeartbeats 1000000 in
theorem halves_out (L : Int) (h : L < 1 ∨ 9 < L) (w : World) : Calls Try.prog 8 #[.int .i64 L] w fun e w' => e = .returned (.bool true) ∧ Below w.heap.size w w' := by
  go_enter Try.func8, Try.ntmps8
  go_wp2_with fail
  refine (shown_any _).mono ?_
  rintro e w1 ⟨rfl, hb1⟩
  have HB := Lib.hid hb1
  clear hb1
  have hor : (decide (L < 1) || decide (9 < L)) = true := by simp; exact h
  go_wp2_with fail
  all_goals (go_ret; exact ⟨rfl, HB.out⟩)
theorem halves_law (L : Int) (w : World) : Calls Try.prog 8 #[.int .i64 L] w fun e w' => e = .returned (.bool true) ∧ Below w.heap.size w w' := by
  by_cases h : L < 1 ∨ 9 < L
  · exact halves_out L h w
  · obtain ⟨k, rfl⟩ := Int.eq_ofNat_of_zero_le (a := L) (by omega)
    exact halves_in k (k - 1) _ _ (by omega) (by omega) rfl rfl w
end Go.Proofs.Ytceoopkcpkbdaaa
