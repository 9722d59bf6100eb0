/- The walks of the first chapter's laws over single words: each returns true at every input, and nothing in memory changes. Conditions: the arguments fit their types. -/
import Derived.Test.YtciialffbbhapaaRefOne
namespace Go.Proofs.Ytciialffbbhapaa
open Go.RowKit Go.Shelf

theorem u64_rng {a : Int} (h : (Lit.int .u64 a).wf = true) : 0 ≤ a ∧ a ≤ 18446744073709551615 := by
  simp only [Lit.wf, IntKind.min, IntKind.max, IntKind.signed, IntKind.bits, Bool.and_eq_true] at h
  exact ⟨by have := h.1; simp at this; omega, by have := h.2; simp at this; omega⟩
theorem i64_rng {a : Int} (h : (Lit.int .i64 a).wf = true) : -9223372036854775808 ≤ a ∧ a ≤ 9223372036854775807 := by
  simp only [Lit.wf, IntKind.min, IntKind.max, IntKind.signed, IntKind.bits, Bool.and_eq_true, decide_eq_true_eq] at h
  exact ⟨by have := h.1; simp at this; omega, by have := h.2; simp at this; omega⟩

theorem wordMasks_walk (a b : Int) (w0 : (Lit.int .u64 a).wf = true) (w1 : (Lit.int .u64 b).wf = true) (w : World) :
    Calls Try.prog 3 #[.int .u64 a, .int .u64 b] w fun e w' => e = .returned (.bool true) ∧ w = w' := by
  obtain ⟨a0, a1⟩ := u64_rng w0
  obtain ⟨b0, b1⟩ := u64_rng w1
  clear w0 w1
  go_enter Try.func3, Try.ntmps3
  go_wp2_with (first
    | (go_at_call 11; refine (shown_any _).mono ?_; rintro e w' ⟨rfl, rfl⟩)
    | (go_at_call 12; refine (zero_any _ _ a0 a1).mono ?_; rintro e w' ⟨rfl, rfl⟩)
    | (go_at_call 14; refine (equal_any _ _ _ a0 a1 b0 b1).mono ?_; rintro e w' ⟨rfl, rfl⟩)
    | (go_at_call 16; refine (less_any _ _ _ a0 b0).mono ?_; rintro e w' ⟨rfl, rfl⟩)
    | (go_at_call 13; refine (refZero_any _ _).mono ?_; rintro e w' ⟨rfl, rfl⟩)
    | (go_at_call 15; refine (refEqual_any _ _ _).mono ?_; rintro e w' ⟨rfl, rfl⟩)
    | (go_at_call 17; refine (refLess_any _ _ _).mono ?_; rintro e w' ⟨rfl, rfl⟩))
  go_ret
  exact ⟨rfl, rfl⟩

theorem wordSizes_walk (n k : Int) (w0 : (Lit.int .u64 n).wf = true) (w1 : (Lit.int .i64 k).wf = true) (w : World) :
    Calls Try.prog 5 #[.int .u64 n, .int .i64 k] w fun e w' => e = .returned (.bool true) ∧ w = w' := by
  obtain ⟨a0, a1⟩ := u64_rng w0
  obtain ⟨b0, b1⟩ := i64_rng w1
  clear w0 w1
  go_enter Try.func5, Try.ntmps5
  go_wp2_with (first
    | (go_at_call 11; refine (shown_any _).mono ?_; rintro e w' ⟨rfl, rfl⟩)
    | (go_at_call 25; refine (log_any _ _ a0 a1).mono ?_; rintro e w' ⟨rfl, rfl⟩)
    | (go_at_call 27; refine (round_any _ _ b0 b1).mono ?_; rintro e w' ⟨rfl, rfl⟩)
    | (go_at_call 26; refine (refLog_any _ _ a0 a1).mono ?_; rintro e w' ⟨rfl, rfl⟩)
    | (go_at_call 28; refine (refRound_any _ _).mono ?_; rintro e w' ⟨rfl, rfl⟩))
  go_ret
  exact ⟨rfl, rfl⟩

theorem min_lt (a b : Int) : (if a < b then a else b) = min a b := by omega
set_option maxHeartbeats 2000000 in
theorem wordOrder_walk (a b m : Int) (w0 : (Lit.int .u64 a).wf = true) (w1 : (Lit.int .u64 b).wf = true) (_w2 : (Lit.int .u64 m).wf = true) (w : World) :
    Calls Try.prog 6 #[.int .u64 a, .int .u64 b, .int .u64 m] w fun e w' => e = .returned (.bool true) ∧ w = w' := by
  obtain ⟨a0, a1⟩ := u64_rng w0
  obtain ⟨b0, b1⟩ := u64_rng w1
  clear w0 w1
  have e1 := three_or a b
  have e2 := less_more a b
  have e3 := less_equal a b
  have e4 := more_equal a b
  have e5 : pk (ml a b) a b = min a b := by rw [pk_less a b a b a0 a1 b0 b1]; omega
  have e6 : pk (ml b a) b a = min a b := by rw [pk_less b a b a b0 b1 a0 a1]; omega
  have e7 : pk (ml b a) a b = max a b := by rw [pk_less b a a b a0 a1 b0 b1]; omega
  have e8 := pk_back m a b a0 a1
  have e9 := pk_back m b a b0 b1
  have e10 := pk_xor m a b
  go_enter Try.func6, Try.ntmps6
  go_wp2_with (first
    | (go_at_call 11; refine (shown_any _).mono ?_; rintro e w' ⟨rfl, rfl⟩)
    | (go_at_call 14; refine (equal_any _ _ _ a0 a1 b0 b1).mono ?_; rintro e w' ⟨rfl, rfl⟩)
    | (go_at_call 16; refine (less_any _ _ _ (by assumption) (by assumption)).mono ?_; rintro e w' ⟨rfl, rfl⟩)
    | (go_at_call 18; refine (swap_any _ _ _ _).mono ?_; rintro e w' ⟨rfl, rfl⟩)
    | (go_at_call 21; refine (pick_any _ _ _ _).mono ?_; rintro e w' ⟨rfl, rfl⟩))
  go_ret
  exact ⟨rfl, rfl⟩
end Go.Proofs.Ytciialffbbhapaa
