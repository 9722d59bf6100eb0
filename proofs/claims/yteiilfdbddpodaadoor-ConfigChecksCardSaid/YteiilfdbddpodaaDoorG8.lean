/- Texts of ours put together: Rnd, Logs, Tree. -/
import Derived.WalkKit
import Derived.Lib.Hide
import Derived.Test.YteiilfdbddpodaaDoorG7
import Derived.Test.YteiilfdbddpodaaDoorG0
import Derived.Test.YteiilfdbddpodaaDoorG5
/- The contract of Round of package word: it returns the plain number that is named here, and nothing in memory changes. Condition: the argument is an int. -/
namespace Go.Proofs.YteiilfdbddpodaaDoor
set_option maxRecDepth 100000
open Go.RowKit Go.Shelf

theorem round_any (n : Int) (w : World) (h0 : -9223372036854775808 ≤ n) (h1 : n ≤ 9223372036854775807) :
    Calls Tryd.prog 39 #[.int .i64 n] w fun e w' => e = .returned (.int .i64 (rd n)) ∧ w' = w := by
  have r := re_le n
  go_enter Tryd.func39, Tryd.ntmps39
  go_wp2_with (go_at_call 58; refine (len64_any _ _ (by omega) (by omega)).mono ?_; rintro e w' ⟨rfl, rfl⟩)
  go_ret
  refine ⟨ret_int ?_, rfl⟩
  exact round_eq n
end Go.Proofs.YteiilfdbddpodaaDoor

/- The contract of Log of package word: it returns the plain number that is named here, and nothing in memory changes. Conditions: the argument is a word of 64 bits. -/
namespace Go.Proofs.YteiilfdbddpodaaDoor
set_option maxRecDepth 100000
open Go.RowKit Go.Shelf

theorem log_any (n : Int) (w : World) (h0 : 0 ≤ n) (h1 : n ≤ 18446744073709551615) :
    Calls Tryd.prog 80 #[.int .u64 n] w fun e w' => e = .returned (.int .i64 (lg n)) ∧ w' = w := by
  have HE := Lib.hid (log_eq n h0 h1)
  have x0 : 0 ≤ bits .or .u64 n 1 := by rw [or_V]; exact V_lo _
  have x1 : bits .or .u64 n 1 ≤ 18446744073709551615 := or_hi _ _
  have l0 := lg_lo n
  have l1 := lg_hi n h1
  go_enter Tryd.func80, Tryd.ntmps80
  go_wp2_with (go_at_call 58; refine (len64_any _ _ x0 x1).mono ?_; rintro e w' ⟨rfl, rfl⟩)
  go_ret
  refine ⟨ret_int ?_, rfl⟩
  rw [HE.out]; exact w64 _ (by omega) (by omega)
end Go.Proofs.YteiilfdbddpodaaDoor

/- The contracts of Right, Depth, Nodes, there and Node of package path: each returns the plain number that is named here, and nothing in memory changes. Conditions: each argument is an int. -/
namespace Go.Proofs.YteiilfdbddpodaaDoor
set_option maxRecDepth 100000
open Go.RowKit Go.Shelf

theorem path_right (n : Int) (w : World) (h0 : -9223372036854775808 ≤ n) (h1 : n ≤ 9223372036854775807) :
    Calls Tryd.prog 41 #[.int .i64 n] w fun e w' => e = .returned (.bool (isTree n)) ∧ w' = w := by
  by_cases h : n ≤ 1024
  · have he := rd_tree n h
    go_enter Tryd.func41, Tryd.ntmps41
    go_wp2_with fail
    refine (round_any n _ h0 h1).mono ?_
    rintro e w1 ⟨rfl, rfl⟩
    go_wp2_with fail
    go_ret
    exact ⟨rfl, rfl⟩
  · rw [tree_big (by omega)]
    go_enter Tryd.func41, Tryd.ntmps41
    go_wp2_with fail
    go_ret
    exact ⟨rfl, rfl⟩
theorem path_depth (n : Int) (w : World) (h0 : -9223372036854775808 ≤ n) (h1 : n ≤ 9223372036854775807) :
    Calls Tryd.prog 76 #[.int .i64 n] w fun e w' => e = .returned (.int .i64 (dpt n : Nat)) ∧ w' = w := by
  cases ht : isTree n
  · rw [dpt_no ht]
    go_enter Tryd.func76, Tryd.ntmps76
    go_wp2_with fail
    refine (path_right n _ h0 h1).mono ?_
    rintro e w1 ⟨rfl, rfl⟩
    rw [ht]
    go_wp2_with fail
    go_ret
    exact ⟨rfl, rfl⟩
  · have hr := isTree_rng ht
    go_enter Tryd.func76, Tryd.ntmps76
    go_wp2_with fail
    refine (path_right n _ h0 h1).mono ?_
    rintro e w1 ⟨rfl, rfl⟩
    rw [ht]
    go_wp2_with fail
    refine (log_any n _ (by omega) (by omega)).mono ?_
    rintro e w2 ⟨rfl, rfl⟩
    go_wp2_with fail
    go_ret
    refine ⟨ret_int ?_, rfl⟩
    unfold dpt lg
    rw [if_pos ht]
theorem path_nodes (n : Int) (w : World) (h0 : -9223372036854775808 ≤ n) (h1 : n ≤ 9223372036854775807) :
    Calls Tryd.prog 65 #[.int .i64 n] w fun e w' => e = .returned (.int .i64 (ndsI n)) ∧ w' = w := by
  cases ht : isTree n
  · rw [ndsI_no ht]
    go_enter Tryd.func65, Tryd.ntmps65
    go_wp2_with fail
    refine (path_right n _ h0 h1).mono ?_
    rintro e w1 ⟨rfl, rfl⟩
    rw [ht]
    go_wp2_with fail
    go_ret
    exact ⟨rfl, rfl⟩
  · have hr := isTree_rng ht
    rw [ndsI_yes ht]
    go_enter Tryd.func65, Tryd.ntmps65
    go_wp2_with fail
    refine (path_right n _ h0 h1).mono ?_
    rintro e w1 ⟨rfl, rfl⟩
    rw [ht]
    go_wp2_with fail
    go_ret
    exact ⟨rfl, rfl⟩
/-- The next node by the walk's own reckoning. -/
theorem node_turn (D l i : Nat) (h1 : D ≤ 10) (h2 : l < 2 ^ D) (h3 : i < D) : ∃ t : Nat, bits .and .i64 ((l : Int) / 2 ^ (D - 1 - i)) 1 = (t : Int) ∧ t ≤ 1 ∧ nd D l (i + 1) = 2 * nd D l i + 1 + t := by
  refine ⟨l / 2 ^ (D - (i + 1)) % 2, ?_, by omega, nd_down D l i h3⟩
  rw [show D - 1 - i = D - (i + 1) by omega, ← pow_cast, ← Int.natCast_ediv]
  have h5 := tree_le D h1
  have h4 : l / 2 ^ (D - (i + 1)) ≤ l := Nat.div_le_self _ _
  exact and_one_i64 _ (by omega)
end Go.Proofs.YteiilfdbddpodaaDoor
