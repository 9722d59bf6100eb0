/- The walks of the first chapter's laws on halvings and powers of two: each returns true at every input, and nothing in memory changes. Conditions: the arguments fit their types. -/
import Derived.Test.YtciialffbbhapaaWalksOne
namespace Go.Proofs.Ytciialffbbhapaa
open Go.RowKit Go.Shelf

theorem rd_beq (n : Int) (h : 1 < n) (h1 : n ≤ 4611686018427387904) : (rd n == 1) = false := by
  have := (rd_mid n (by omega) h1).1
  simp; omega
theorem ret_bool {a b : Bool} (h : a = b) : Ending.returned (.bool a) = .returned (.bool b) := by rw [h]
set_option maxHeartbeats 2000000 in
theorem wordRound_walk (n : Int) (w0 : (Lit.int .i64 n).wf = true) (w : World) :
    Calls Try.prog 7 #[.int .i64 n] w fun e w' => e = .returned (.bool true) ∧ w = w' := by
  obtain ⟨n0, n1⟩ := i64_rng w0
  clear w0
  have p0 := rd_pos n
  have p1 := rd_hi n
  have e1 := rd_and n
  have e2 := rd_rd n
  by_cases h1 : n < 1
  · have e3 := rd_low n h1
    rw [e3] at e1 e2
    clear p0 p1
    go_enter Try.func7, Try.ntmps7
    go_wp2_with (first
      | (go_at_call 11; refine (shown_any _).mono ?_; rintro e w' ⟨rfl, rfl⟩)
      | (go_at_call 27; refine (round_any _ _ (by omega) (by omega)).mono ?_; rintro e w' ⟨rfl, rfl⟩))
    go_ret
    exact ⟨rfl, rfl⟩
  by_cases h2 : 4611686018427387904 < n
  · have e3 := rd_high n h2
    rw [e3] at e1 e2
    clear p0 p1
    go_enter Try.func7, Try.ntmps7
    go_wp2_with (first
      | (go_at_call 11; refine (shown_any _).mono ?_; rintro e w' ⟨rfl, rfl⟩)
      | (go_at_call 27; refine (round_any _ _ (by omega) (by omega)).mono ?_; rintro e w' ⟨rfl, rfl⟩))
    go_ret
    exact ⟨rfl, rfl⟩
  by_cases h3 : n = 1
  · subst h3
    have e3 : rd 1 = 1 := by decide
    have e4 : lg 1 = 0 := by decide
    clear p0 p1 e1 e2 h1 h2 n0 n1
    go_enter Try.func7, Try.ntmps7
    go_wp2_with (first
      | (go_at_call 11; refine (shown_any _).mono ?_; rintro e w' ⟨rfl, rfl⟩)
      | (go_at_call 27; refine (round_any _ _ (by omega) (by omega)).mono ?_; rintro e w' ⟨rfl, rfl⟩)
      | (go_at_call 25; refine (log_any _ _ (by omega) (by omega)).mono ?_; rintro e w' ⟨rfl, rfl⟩))
    go_ret
    exact ⟨rfl, rfl⟩
  · obtain ⟨m1, m2⟩ := rd_mid n (by omega) (by omega)
    have m3 := m2 (by omega)
    have m4 : rd n / 2 < n := by omega
    have e3 := rd_beq n (by omega) (by omega)
    have e4 := lg_rd n
    have e5 := re_le n
    clear m2 m3
    go_enter Try.func7, Try.ntmps7
    go_wp2_with (first
      | (go_at_call 11; refine (shown_any _).mono ?_; rintro e w' ⟨rfl, rfl⟩)
      | (go_at_call 27; refine (round_any _ _ (by omega) (by omega)).mono ?_; rintro e w' ⟨rfl, rfl⟩)
      | (go_at_call 25; refine (log_any _ _ (by omega) (by omega)).mono ?_; rintro e w' ⟨rfl, rfl⟩))
    go_ret
    exact ⟨ret_bool (by rw [shl_rd]; simp), rfl⟩

set_option maxHeartbeats 2000000 in
theorem wordHalves_walk (a b : Int) (w0 : (Lit.int .u64 a).wf = true) (w1 : (Lit.int .u64 b).wf = true) (w : World) :
    Calls Try.prog 9 #[.int .u64 a, .int .u64 b] w fun e w' => e = .returned (.bool true) ∧ w = w' := by
  obtain ⟨a0, a1⟩ := u64_rng w0
  obtain ⟨b0, b1⟩ := u64_rng w1
  clear w0 w1
  have l0 := lg_lo a
  have l1 := lg_hi a a1
  have k0 := lg_lo b
  by_cases hz : a = 0
  · subst hz
    have e0 : lg 0 = 0 := by decide
    clear l0 l1
    have hb : ¬ lg b < 0 := by omega
    go_enter Try.func9, Try.ntmps9
    go_wp2_with (first
      | (go_at_call 11; refine (shown_any _).mono ?_; rintro e w' ⟨rfl, rfl⟩)
      | (go_at_call 25; refine (log_any _ _ (by omega) (by omega)).mono ?_; rintro e w' ⟨rfl, rfl⟩))
    go_ret
    exact ⟨rfl, rfl⟩
  have hs : (a / 2 ^ (lg a).toNat == 1) = true := lg_shift a (by omega)
  have hz' : (a == 0) = false := by simp [hz]
  have hm0 := lg_mono a b
  by_cases hab : a ≤ b
  · have hm := hm0 hab
    clear hm0
    by_cases h63 : 9223372036854775808 ≤ a
    · go_enter Try.func9, Try.ntmps9
      go_wp2_with (first
        | (go_at_call 11; refine (shown_any _).mono ?_; rintro e w' ⟨rfl, rfl⟩)
        | (go_at_call 25; refine (log_any _ _ (by omega) (by omega)).mono ?_; rintro e w' ⟨rfl, rfl⟩))
      go_ret
      exact ⟨rfl, rfl⟩
    · have d1 := lg_double a (by omega)
      have d2 := lg_double1 a (by omega)
      go_enter Try.func9, Try.ntmps9
      go_wp2_with (first
        | (go_at_call 11; refine (shown_any _).mono ?_; rintro e w' ⟨rfl, rfl⟩)
        | (go_at_call 25; refine (log_any _ _ (by omega) (by omega)).mono ?_; rintro e w' ⟨rfl, rfl⟩))
      go_ret
      exact ⟨rfl, rfl⟩
  · clear hm0
    by_cases h63 : 9223372036854775808 ≤ a
    · go_enter Try.func9, Try.ntmps9
      go_wp2_with (first
        | (go_at_call 11; refine (shown_any _).mono ?_; rintro e w' ⟨rfl, rfl⟩)
        | (go_at_call 25; refine (log_any _ _ (by omega) (by omega)).mono ?_; rintro e w' ⟨rfl, rfl⟩))
      go_ret
      exact ⟨rfl, rfl⟩
    · have d1 := lg_double a (by omega)
      have d2 := lg_double1 a (by omega)
      go_enter Try.func9, Try.ntmps9
      go_wp2_with (first
        | (go_at_call 11; refine (shown_any _).mono ?_; rintro e w' ⟨rfl, rfl⟩)
        | (go_at_call 25; refine (log_any _ _ (by omega) (by omega)).mono ?_; rintro e w' ⟨rfl, rfl⟩))
      go_ret
      exact ⟨rfl, rfl⟩
end Go.Proofs.Ytciialffbbhapaa
