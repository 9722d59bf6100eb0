/- PathTwice: for every input the law returns true, and of what was in memory nothing changes. -/
import Derived.Test.YtelcgkjaiicaeaaPathMeet
namespace Go.Proofs.Ytelcgkjaiicaeaa
open Go.RowKit Go.Shelf Go.ChangeShapes Go.WideShapes Go.ChangeAt

set_option maxHeartbeats 1000000 in
theorem twice_out (L l : Int) (h : L < 0 ∨ 9 < L) (w : World) : Calls Try.prog 8 #[.int .i64 L, .int .i64 l] w fun e w' => e = .returned (.bool true) ∧ Below w.heap.size w w' := by
  go_enter Try.func8, Try.ntmps8
  go_wp2_with fail
  refine (shown_any _).mono ?_
  rintro e w1 ⟨rfl, hb1⟩
  have HB := Lib.hid hb1
  clear hb1
  have hor : (decide (L < 0) || decide (9 < L)) = true := by simp; exact h
  go_wp2_with fail
  all_goals (go_ret; exact ⟨rfl, HB.out⟩)
set_option maxRecDepth 100000 in
set_option maxHeartbeats 2000000 in
theorem twice_in (L n : Nat) (l : Int) (hL : L ≤ 9) (hn : 2 ^ L = n) (w : World) : Calls Try.prog 8 #[.int .i64 (L : Int), .int .i64 l] w fun e w' => e = .returned (.bool true) ∧ Below w.heap.size w w' := by
  have h0 : decide ((L : Int) < 0) = false := by simp
  have h1 : decide (9 < (L : Int)) = false := by simp; omega
  have hn1 : n ≤ 512 := by rw [← hn]; exact Nat.pow_le_pow_right (by decide) hL
  have hn0 : 0 < n := by rw [← hn]; exact two_pow_pos L
  have hsh := shl_tree L n hn (by omega)
  have hn2 : 2 ^ (L + 1) = 2 * n := by rw [Nat.pow_succ, hn, Nat.mul_comm]
  obtain ⟨k, hk, hmask⟩ := mask_leaf l (L + 1) (2 * n) hn2 (by omega)
  have hmask : bits .and .i64 l (2 * (n : Int) - 1) = (k : Int) := by rw [← hmask]; simp
  have e2n : ((2 * n : Nat) : Int) = 2 * (n : Int) := by omega
  have ek2 : ((k / 2 : Nat) : Int) = (k : Int) / 2 := by omega
  have T1 := Lib.hid (ndsI_yes (isTree_two (by omega) hn))
  have T2 := Lib.hid (ndsI_yes (isTree_two (by omega) hn2))
  have D1 := Lib.hid (dpt_two (by omega) hn)
  have D2 := Lib.hid (dpt_two (by omega) hn2)
  have W1 := Lib.hid (fun W => way_in (L + 1) (2 * n) k W (by omega) hn2 hk)
  have W2 := Lib.hid (fun W => way_in L n (k / 2) W (by omega) hn (by omega))
  rw [e2n] at T2 D2 W1
  rw [ek2] at W2
  have HH := Lib.hid (fun j (hj : j ≤ L) => nd_half L k j hj)
  clear hn hn2 e2n ek2
  go_enter Try.func8, Try.ntmps8
  go_wp2_with fail
  refine (shown_any _).mono ?_
  rintro e w1 ⟨rfl, hb1⟩
  have HB1 := Lib.hid hb1
  clear hb1
  go_wp2_with fail
  with_reducible refine (W1.out _).mono ?_
  rintro e w2 ⟨g1, c1, rfl, hc1, hi1, hb2⟩
  have HI1 := Lib.hid hi1
  have HB2 := Lib.hid (HB1.out.trans (hb2.mono HB1.out.size))
  clear hi1 hb2 HB1
  go_wp2_with fail
  with_reducible refine (W2.out _).mono ?_
  rintro e w3 ⟨g2, c2, rfl, hc2, hi2, hb3⟩
  have HI2 := Lib.hid (And.intro (HI1.out.below hb3 (Nat.le_refl _)) hi2)
  have HB3 := Lib.hid (HB2.out.trans (hb3.mono HB2.out.size))
  clear hi2 hb3 HB2 HI1
  go_wp2_with fail
  have HZ : Hid (Ir w3 w1.heap.size g1 (L + 1) (fun j => (nd L (k / 2) j : Int))) :=
    ⟨HI2.out.1.old, HI2.out.1.lt, fun j hj => by rw [HI2.out.1.cell j (by omega), HH.out j (by omega)]⟩
  refine (same_nums _ _ (L + 1) c1 c2 _ _ (fun j => (nd L (k / 2) j : Int)) _ (by omega) (HZ.out.nums (Nat.le_refl _)) (HI2.out.2.nums (Nat.le_refl _))).mono ?_
  rintro e w4 ⟨rfl, hw4⟩
  have HB4 := Lib.hid (HB3.out.trans (below_same hw4))
  clear hw4 HB3 HI2 HZ
  go_wp2_with fail
  refine (path_nodes (2 * (n : Int)) _ (by omega) (by omega)).mono ?_
  rintro e w5 ⟨rfl, rfl⟩
  rw [T2.out]
  go_wp2_with fail
  refine (path_nodes (n : Int) _ (by omega) (by omega)).mono ?_
  rintro e w6 ⟨rfl, rfl⟩
  rw [T1.out]
  have ht : (2 * (2 * (n : Int)) - 1 == 2 * (2 * (n : Int) - 1) + 1) = true := by rw [beq_iff_eq]; omega
  go_wp2_with fail
  refine (path_depth (2 * (n : Int)) _ (by omega) (by omega)).mono ?_
  rintro e w7 ⟨rfl, rfl⟩
  rw [D2.out]
  go_wp2_with fail
  refine (path_depth (n : Int) _ (by omega) (by omega)).mono ?_
  rintro e w8 ⟨rfl, rfl⟩
  rw [D1.out]
  go_wp2_with fail
  go_ret
  exact ⟨rfl, HB4.out⟩
theorem twice_law (L l : Int) (w : World) : Calls Try.prog 8 #[.int .i64 L, .int .i64 l] w fun e w' => e = .returned (.bool true) ∧ Below w.heap.size w w' := by
  by_cases h : L < 0 ∨ 9 < L
  · exact twice_out L l h w
  · obtain ⟨k, rfl⟩ := Int.eq_ofNat_of_zero_le (a := L) (by omega)
    exact twice_in k _ l (by omega) rfl w
end Go.Proofs.Ytelcgkjaiicaeaa
