/- PathCommon: for every input the law returns true, and of what was in memory nothing changes. -/
import Derived.Test.YtelcgkjaiicaeaaPathMeet
namespace Go.Proofs.Ytelcgkjaiicaeaa
open Go.RowKit Go.Shelf Go.ChangeShapes Go.WideShapes Go.ChangeAt

theorem part_test (L a b i : Nat) (ha : a < 2 ^ L) (hb : b < 2 ^ L) (hi : i < L) : ((a : Int) / 2 ^ (L - 1 - i) == (b : Int) / 2 ^ (L - 1 - i)) = decide (i + 1 ≤ deep L a b L) := by
  have h := deep_iff L a b ha hb (i + 1) hi
  rw [nd_eq, show L - (i + 1) = L - 1 - i by omega] at h
  rw [← pow_cast, ← Int.natCast_ediv, ← Int.natCast_ediv]
  show decide (_ = _) = _
  rw [decide_eq_decide, ← h]
  omega
set_option maxHeartbeats 1000000 in
theorem common_out (L a b c : Int) (h : L < 0 ∨ 10 < L) (w : World) : Calls Try.prog 6 #[.int .i64 L, .int .i64 a, .int .i64 b, .int .i64 c] w fun e w' => e = .returned (.bool true) ∧ Below w.heap.size w w' := by
  go_enter Try.func6, Try.ntmps6
  go_wp2_with fail
  refine (shown_any _).mono ?_
  rintro e w1 ⟨rfl, hb1⟩
  have HB := Lib.hid hb1
  clear hb1
  have hor : (decide (L < 0) || decide (10 < L)) = true := by simp; exact h
  go_wp2_with fail
  all_goals (go_ret; exact ⟨rfl, HB.out⟩)
set_option maxRecDepth 100000 in
set_option maxHeartbeats 2000000 in
theorem common_in (L n : Nat) (a b c : Int) (hL : L ≤ 10) (hn : 2 ^ L = n) (w : World) : Calls Try.prog 6 #[.int .i64 (L : Int), .int .i64 a, .int .i64 b, .int .i64 c] w fun e w' => e = .returned (.bool true) ∧ Below w.heap.size w w' := by
  have h0 : decide ((L : Int) < 0) = false := by simp
  have h1 : decide (10 < (L : Int)) = false := by simp; omega
  have hn1 : n ≤ 1024 := by rw [← hn]; exact tree_le L hL
  have hn0 : 0 < n := by rw [← hn]; exact two_pow_pos L
  have hsh := shl_tree L n hn (by omega)
  obtain ⟨x, hx, hmx⟩ := mask_leaf a L n hn (by omega)
  obtain ⟨y, hy, hmy⟩ := mask_leaf b L n hn (by omega)
  obtain ⟨z, hz, hmz⟩ := mask_leaf c L n hn (by omega)
  have W1 := Lib.hid (fun W => deep_in L n x y W hL hn hx hy)
  have W2 := Lib.hid (fun W => deep_in L n y z W hL hn hy hz)
  have W3 := Lib.hid (fun W => deep_in L n x z W hL hn hx hz)
  have W4 := Lib.hid (fun W => deep_in L n y x W hL hn hy hx)
  have W5 := Lib.hid (fun W => deep_in L n x x W hL hn hx hx)
  have e4 := deep_turn L x y (by omega) (by omega)
  have e5 := deep_self L x (by omega)
  rw [e4] at W4
  rw [e5] at W5
  have h3 := deep_three L x y z (by omega) (by omega) (by omega)
  have hq := deep_le L x y L
  have hq2 := deep_le L y z L
  have hq3 := deep_le L x z L
  have PT := Lib.hid (fun i hi => part_test L x y i (by omega) (by omega) hi)
  have W6 := Lib.hid (fun W => node_in L n x (deep L x y L) W hL hn hx hq)
  have W7 := Lib.hid (fun W => node_in L n y (deep L x y L) W hL hn hy hq)
  have e7 := (deep_iff L x y (by omega) (by omega) _ hq).2 (Nat.le_refl _)
  rw [← e7] at W7
  have W8 := Lib.hid (fun W (h : deep L x y L < L) => node_in L n x (deep L x y L + 1) W hL hn hx h)
  have W9 := Lib.hid (fun W (h : deep L x y L < L) => node_in L n y (deep L x y L + 1) W hL hn hy h)
  have e9 : deep L x y L < L → nd L x (deep L x y L + 1) ≠ nd L y (deep L x y L + 1) := fun h e => by
    have := (deep_iff L x y (by omega) (by omega) _ h).1 e
    omega
  have ec : ((deep L x y L + 1 : Nat) : Int) = (deep L x y L : Nat) + 1 := by omega
  rw [ec] at W8 W9
  have E9 := Lib.hid e9
  clear e4 e5 e7 e9 ec hn
  generalize deep L x y L = q at *
  generalize deep L y z L = q2 at *
  generalize deep L x z L = q3 at *
  go_enter Try.func6, Try.ntmps6
  go_wp2_with fail
  refine (shown_any _).mono ?_
  rintro e w1 ⟨rfl, hb1⟩
  have HB1 := Lib.hid hb1
  clear hb1
  go_wp2_with fail
  with_reducible refine (W1.out _).mono ?_
  rintro e w2 ⟨rfl, rfl⟩
  go_wp2_with fail
  with_reducible refine (W2.out _).mono ?_
  rintro e w3 ⟨rfl, rfl⟩
  go_wp2_with fail
  with_reducible refine (W3.out _).mono ?_
  rintro e w4 ⟨rfl, rfl⟩
  go_wp2_with fail
  go_loopw [14] (fun v wr => ∃ i : Nat, v = .int .i64 i ∧ i ≤ q ∧ ∃ k, wr = w4.drewN k) (fun v _ => L - (intOf v).toNat)
  case atStart => exact ⟨0, rfl, by omega, 0, rfl⟩
  case round =>
    obtain ⟨i, rfl, hi, hwk⟩ := hrel
    have HW := Lib.hid hwk
    clear hwk
    by_cases hlt : i < q
    · have hp := PT.out i (by omega)
      have hp2 : decide (i + 1 ≤ q) = true := by simp; omega
      rw [hp2] at hp
      have d1 : (i : Int) < (L : Int) := by omega
      have d2 : decide ((i : Int) < (L : Int)) = true := by simp; omega
      have d3 : decide (i < L) = true := by simp; omega
      clear hp2
      go_wp2_with fail
      go_quiet (fail)
      go_wp2_with fail
      go_roundw
      case rel =>
        obtain ⟨k, hk⟩ := HW.out
        exact ⟨i + 1, by go_num, by omega, k + nq, by rw [hk]; simp [World.drewN, Nat.add_assoc]⟩
      case measure => simp [intOf]; omega
    · have hiq : i = q := by omega
      subst hiq
      have hmin : (if (q2 : Int) < (i : Int) then (q2 : Int) else (i : Int)) = ((min i q2 : Nat) : Int) := by split <;> omega
      have hmin2 : (if q2 < i then (q2 : Int) else (i : Int)) = ((min i q2 : Nat) : Int) := by split <;> omega
      generalize min i q2 = M at *
      have h3' : (M : Int) ≤ (q3 : Int) := by omega
      clear hlt hi
      rcases Nat.lt_or_ge i L with hiL | hiL
      · have hp := PT.out i hiL
        have hp2 : decide (i + 1 ≤ i) = false := by simp
        rw [hp2] at hp
        have d1 : (i : Int) < (L : Int) := by omega
        have d2 : decide ((i : Int) < (L : Int)) = true := by simp; omega
        have d3 : decide (i < L) = true := by simp; omega
        have d4 : ((i : Int) == (L : Int)) = false := by rw [beq_eq_false_iff_ne]; omega
        have d5 : (i == L) = false := by rw [beq_eq_false_iff_ne]; omega
        have ne := E9.out hiL
        have X8 := Lib.hid (fun W => W8.out W hiL)
        have X9 := Lib.hid (fun W => W9.out W hiL)
        generalize nd L x (i + 1) = m1 at *
        generalize nd L y (i + 1) = m2 at *
        have ne1 : ((m1 : Int) != (m2 : Int)) = true := by rw [bne_iff_ne]; omega
        have ne2 : (m1 != m2) = true := by rw [bne_iff_ne]; exact ne
        clear hp2 W8 W9 E9 PT
        go_wp2_with fail
        go_quiet (fail)
        go_wp2_with fail
        with_reducible refine (W4.out _).mono ?_
        rintro e w5 ⟨rfl, rfl⟩
        go_wp2_with fail
        with_reducible refine (W5.out _).mono ?_
        rintro e w6 ⟨rfl, rfl⟩
        go_wp2_with fail
        with_reducible refine (W6.out _).mono ?_
        rintro e w7 ⟨rfl, rfl⟩
        go_wp2_with fail
        with_reducible refine (W7.out _).mono ?_
        rintro e w8 ⟨rfl, rfl⟩
        go_wp2_with fail
        with_reducible refine (X8.out _).mono ?_
        rintro e w9 ⟨rfl, rfl⟩
        go_wp2_with fail
        with_reducible refine (X9.out _).mono ?_
        rintro e w10 ⟨rfl, rfl⟩
        go_wp2_with fail
        go_ret
        obtain ⟨k, hk⟩ := HW.out
        exact ⟨rfl, by rw [hk]; exact below_drewN (below_drewN HB1.out k) _⟩
      · have d1 : ¬ (i : Int) < (L : Int) := by omega
        have d2 : decide ((i : Int) < (L : Int)) = false := by simp; omega
        have d3 : decide (i < L) = false := by simp; omega
        have d4 : ((i : Int) == (L : Int)) = true := by rw [beq_iff_eq]; omega
        have d5 : (i == L) = true := by rw [beq_iff_eq]; omega
        clear W8 W9 E9 PT
        go_wp2_with fail
        go_quiet (fail)
        go_wp2_with fail
        with_reducible refine (W4.out _).mono ?_
        rintro e w5 ⟨rfl, rfl⟩
        go_wp2_with fail
        with_reducible refine (W5.out _).mono ?_
        rintro e w6 ⟨rfl, rfl⟩
        go_wp2_with fail
        with_reducible refine (W6.out _).mono ?_
        rintro e w7 ⟨rfl, rfl⟩
        go_wp2_with fail
        with_reducible refine (W7.out _).mono ?_
        rintro e w8 ⟨rfl, rfl⟩
        go_wp2_with fail
        go_ret
        obtain ⟨k, hk⟩ := HW.out
        exact ⟨rfl, by rw [hk]; exact below_drewN (below_drewN HB1.out k) _⟩
theorem common_law (L a b c : Int) (w : World) : Calls Try.prog 6 #[.int .i64 L, .int .i64 a, .int .i64 b, .int .i64 c] w fun e w' => e = .returned (.bool true) ∧ Below w.heap.size w w' := by
  by_cases h : L < 0 ∨ 10 < L
  · exact common_out L a b c h w
  · obtain ⟨k, rfl⟩ := Int.eq_ofNat_of_zero_le (a := L) (by omega)
    exact common_in k _ a b c (by omega) rfl w
end Go.Proofs.Ytelcgkjaiicaeaa
