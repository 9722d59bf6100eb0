/- Texts of ours put together: RefRound. -/
import Derived.Laws.BitsAllLaws
import Derived.Lib.BitFns
import Derived.Lib.Hide
import Derived.WalkKit
import Derived.Test.YtmageeohnfomnaaGreatProg
import Derived.Test.YtmageeohnfomnaaGreatG9
import Derived.Test.YtmageeohnfomnaaGreatG6
namespace Go.Proofs.YtmageeohnfomnaaGreat
set_option maxRecDepth 100000
open Go.RowKit

theorem rround_any (n : Int) (w : World) :
    Calls Tryz.prog 26 #[.int .i64 n] w fun e w' => e = .returned (.int .i64 (rd n)) ∧ w' = w := by
  go_enter Tryz.func26, Tryz.ntmps26
  go_wp2
  go_loop [3] (fun x => ∃ (y : Int) (k : Nat), Hid (y = 2 ^ k) ∧ 1 ≤ y ∧ y ≤ 4611686018427387904 ∧ y ≤ rd n ∧ x = .int .i64 y) (fun x => (4611686018427387904 - intOf x).toNat)
  case atStart => exact ⟨1, 0, Lib.hid rfl, by decide, by decide, rd_pos n, rfl⟩
  case round =>
    obtain ⟨y, k, HY, hy0, hy1, hr, rfl⟩ := hrel
    by_cases h2 : y < n
    · by_cases h3 : y < 4611686018427387904
      · have h4 := pow_below n k y HY.out h2 h3
        go_wp2
        go_round
        case rel => exact ⟨2 * y, k + 1, Lib.hid (by rw [HY.out, Int.pow_succ]; omega), by omega, by have := rd_hi n; omega, by omega, by go_num⟩
        case measure => simp [intOf]; omega
      · go_wp2
        go_ret
        exact ⟨ret_int (by have := rd_hi n; omega), rfl⟩
    · have h4 := pow_above n k y HY.out hy1 (by omega)
      go_wp2
      go_ret
      exact ⟨ret_int (by omega), rfl⟩
end Go.Proofs.YtmageeohnfomnaaGreat

