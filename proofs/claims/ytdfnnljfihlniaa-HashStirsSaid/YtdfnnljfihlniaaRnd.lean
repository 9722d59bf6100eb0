/- The contract of Round of package word: it returns the plain number that is named here, and nothing in memory changes. Condition: the argument is an int. -/
import Derived.Test.YtdfnnljfihlniaaShelf
import Derived.Test.YtdfnnljfihlniaaMath
import Derived.Test.YtdfnnljfihlniaaRng
import Derived.WalkKit
import Derived.Lib.Hide
namespace Go.Proofs.Ytdfnnljfihlniaa
open Go.RowKit Go.Shelf

theorem round_any (n : Int) (w : World) (h0 : -9223372036854775808 ≤ n) (h1 : n ≤ 9223372036854775807) :
    Calls Try.prog 20 #[.int .i64 n] w fun e w' => e = .returned (.int .i64 (rd n)) ∧ w' = w := by
  have r := re_le n
  go_enter Try.func20, Try.ntmps20
  go_wp2_with (go_at_call 21; refine (len64_any _ _ (by omega) (by omega)).mono ?_; rintro e w' ⟨rfl, rfl⟩)
  go_ret
  refine ⟨ret_int ?_, rfl⟩
  exact round_eq n
end Go.Proofs.Ytdfnnljfihlniaa
