/- The contracts of Zero and Equal: masks; nothing in memory changes. Conditions: the words are words of 64 bits. -/
import Derived.Test.YtgppediikggogaaPick
namespace Go.Proofs.Ytgppediikggogaa
open Go.RowKit

theorem zero_any (n : Int) (w : World) (h0 : 0 ≤ n) (h1 : n ≤ 18446744073709551615) :
    Calls Try.prog 44 #[.int .u64 n] w fun e w' => e = .returned (.int .u64 (mz n)) ∧ w = w' := by
  go_enter Try.func44, Try.ntmps44
  go_wp2
  go_ret
  exact ⟨ret_int (zero_eq n h0 h1), rfl⟩
theorem equal_any (a b : Int) (w : World) (h0 : 0 ≤ a) (h1 : a ≤ 18446744073709551615) (k0 : 0 ≤ b) (k1 : b ≤ 18446744073709551615) :
    Calls Try.prog 36 #[.int .u64 a, .int .u64 b] w fun e w' => e = .returned (.int .u64 (me a b)) ∧ w = w' := by
  obtain ⟨x0, x1⟩ := xor_rng a b
  go_enter Try.func36, Try.ntmps36
  go_wp2_with (go_at_call 44; refine (zero_any _ _ x0 x1).mono ?_; rintro e w' ⟨rfl, rfl⟩)
  go_ret
  exact ⟨ret_int (xor_zero_iff a b h0 h1 k0 k1), rfl⟩
end Go.Proofs.Ytgppediikggogaa
