/- The contracts of Log and Round of package word: each returns the plain number that is named here, and nothing in memory changes. Conditions: the argument is a word of 64 bits (for Round: an int). -/
import Derived.Test.YtelcgkjaiicaeaaShelf
import Derived.Test.YtelcgkjaiicaeaaMath
import Derived.Test.YtelcgkjaiicaeaaRng
import Derived.WalkKit
import Derived.Lib.Hide
namespace Go.Proofs.Ytelcgkjaiicaeaa
open Go.RowKit Go.Shelf

theorem log_any (n : Int) (w : World) (h0 : 0 ≤ n) (h1 : n ≤ 18446744073709551615) :
    Calls Try.prog 24 #[.int .u64 n] w fun e w' => e = .returned (.int .i64 (lg n)) ∧ w' = w := by
  have HE := Lib.hid (log_eq n h0 h1)
  have x0 : 0 ≤ bits .or .u64 n 1 := by rw [or_V]; exact V_lo _
  have x1 : bits .or .u64 n 1 ≤ 18446744073709551615 := or_hi _ _
  have l0 := lg_lo n
  have l1 := lg_hi n h1
  go_enter Try.func24, Try.ntmps24
  go_wp2_with (go_at_call 26; refine (len64_any _ _ x0 x1).mono ?_; rintro e w' ⟨rfl, rfl⟩)
  go_ret
  refine ⟨ret_int ?_, rfl⟩
  rw [HE.out]; exact w64 _ (by omega) (by omega)
theorem round_any (n : Int) (w : World) (h0 : -9223372036854775808 ≤ n) (h1 : n ≤ 9223372036854775807) :
    Calls Try.prog 23 #[.int .i64 n] w fun e w' => e = .returned (.int .i64 (rd n)) ∧ w' = w := by
  have r := re_le n
  go_enter Try.func23, Try.ntmps23
  go_wp2_with (go_at_call 26; refine (len64_any _ _ (by omega) (by omega)).mono ?_; rintro e w' ⟨rfl, rfl⟩)
  go_ret
  refine ⟨ret_int ?_, rfl⟩
  exact round_eq n
end Go.Proofs.Ytelcgkjaiicaeaa
