/- The contracts of the reference answers to the first chapter, and of the chapter's examples: each returns the plain number that is named here, and nothing in memory changes. Conditions: each argument is a word of 64 bits (for Round: an int). -/
import Derived.Test.YtciialffbbhapaaWord
namespace Go.Proofs.Ytciialffbbhapaa
open Go.RowKit Go.Shelf

theorem mask_any (b : Bool) (w : World) :
    Calls Try.prog 29 #[.bool b] w fun e w' => e = .returned (.int .u64 (mk b)) ∧ w = w' := by
  cases b
  all_goals
    go_enter Try.func29, Try.ntmps29
    go_wp2
    go_ret
    exact ⟨rfl, rfl⟩
theorem refZero_any (n : Int) (w : World) :
    Calls Try.prog 13 #[.int .u64 n] w fun e w' => e = .returned (.int .u64 (mz n)) ∧ w = w' := by
  go_enter Try.func13, Try.ntmps13
  go_wp2_with (go_at_call 29; refine (mask_any _ _).mono ?_; rintro e w' ⟨rfl, rfl⟩)
  go_ret
  exact ⟨ret_int (mk_z n), rfl⟩
theorem refEqual_any (a b : Int) (w : World) :
    Calls Try.prog 15 #[.int .u64 a, .int .u64 b] w fun e w' => e = .returned (.int .u64 (me a b)) ∧ w = w' := by
  go_enter Try.func15, Try.ntmps15
  go_wp2_with (go_at_call 29; refine (mask_any _ _).mono ?_; rintro e w' ⟨rfl, rfl⟩)
  go_ret
  exact ⟨ret_int (mk_e a b), rfl⟩
theorem refLess_any (a b : Int) (w : World) :
    Calls Try.prog 17 #[.int .u64 a, .int .u64 b] w fun e w' => e = .returned (.int .u64 (ml a b)) ∧ w = w' := by
  go_enter Try.func17, Try.ntmps17
  go_wp2_with (go_at_call 29; refine (mask_any _ _).mono ?_; rintro e w' ⟨rfl, rfl⟩)
  go_ret
  exact ⟨ret_int (mk_l a b), rfl⟩
theorem refLog_any (n : Int) (w : World) (h0 : 0 ≤ n) (h1 : n ≤ 18446744073709551615) :
    Calls Try.prog 26 #[.int .u64 n] w fun e w' => e = .returned (.int .i64 (lg n)) ∧ w = w' := by
  go_enter Try.func26, Try.ntmps26
  go_wp2
  go_loop [0, 3] (fun x t => ∃ y k : Int, 0 ≤ y ∧ y ≤ 18446744073709551615 ∧ 0 ≤ k ∧ Hid (k + lg y = lg n) ∧ x = .int .u64 y ∧ t = .int .i64 k) (fun x _ => (intOf x).toNat)
  case atStart => exact ⟨n, 0, h0, h1, by decide, Lib.hid (by omega), rfl, rfl⟩
  case round =>
    obtain ⟨y, k, hy0, hy1, hk, HL, rfl, rfl⟩ := hrel
    have hk2 : k ≤ 63 := by have := HL.out; have := lg_lo y; have := lg_hi n h1; omega
    by_cases hlt : 1 < y
    · go_wp2
      go_round
      case rel => exact ⟨y / 2, k + 1, by omega, by omega, by omega, Lib.hid (by have := HL.out; rw [lg_half y (by omega)] at this; omega), by go_num, by go_num⟩
      case measure => simp [intOf]; omega
    · go_wp2
      go_ret
      exact ⟨ret_int (by have := HL.out; rw [lg_small y (by omega)] at this; omega), rfl⟩
theorem refRound_any (n : Int) (w : World) :
    Calls Try.prog 28 #[.int .i64 n] w fun e w' => e = .returned (.int .i64 (rd n)) ∧ w = w' := by
  go_enter Try.func28, Try.ntmps28
  go_wp2
  go_loop [3] (fun x => ∃ (y : Int) (k : Nat), Hid (y = 2 ^ k) ∧ 1 ≤ y ∧ y ≤ 4611686018427387904 ∧ y ≤ rd n ∧ x = .int .i64 y) (fun x => (4611686018427387904 - intOf x).toNat)
  case atStart => exact ⟨1, 0, Lib.hid rfl, by decide, by decide, rd_pos n, rfl⟩
  case round =>
    obtain ⟨y, k, HY, hy0, hy1, hr, rfl⟩ := hrel
    by_cases h2 : y < n
    · by_cases h3 : y < 4611686018427387904
      · have h4 := pow_below n k y HY.out h2 h3
        go_wp2
        go_round
        case rel => exact ⟨2 * y, k + 1, Lib.hid (by rw [HY.out, Int.pow_succ]; omega), by omega, by have := rd_hi n; omega, by omega, by go_num⟩
        case measure => simp [intOf]; omega
      · go_wp2
        go_ret
        exact ⟨ret_int (by have := rd_hi n; omega), rfl⟩
    · have h4 := pow_above n k y HY.out hy1 (by omega)
      go_wp2
      go_ret
      exact ⟨ret_int (by omega), rfl⟩
set_option maxHeartbeats 1000000 in
theorem refPick_nat (m a b : Nat) (w : World) (hm : m < 18446744073709551616) (ha : a < 18446744073709551616) (hb : b < 18446744073709551616) :
    Calls Try.prog 22 #[.int .u64 m, .int .u64 a, .int .u64 b] w fun e w' => e = .returned (.int .u64 (pk m a b)) ∧ w = w' := by
  go_enter Try.func22, Try.ntmps22
  go_wp2
  go_loop [7, 8] (fun x i => ∃ k : Nat, k ≤ 64 ∧ i = .int .i64 k ∧ x = .int .u64 (part (pk m a b) k)) (fun _ i => 64 - (intOf i).toNat)
  case atStart => exact ⟨0, by decide, rfl, congrArg (Value.int IntKind.u64) (part_zero _).symm⟩
  case round =>
    obtain ⟨k, hk, rfl, rfl⟩ := hrel
    by_cases hlt : k < 64
    · have HS := Lib.hid (part_step m a b k hm ha hb hlt)
      by_cases hbit : m / 2 ^ k % 2 = 1
      · have hM : (bits BinOp.and IntKind.u64 ((m : Int) / 2 ^ k) 1 == 1) = true := bit_yes m k hm hbit
        have HB := Lib.hid hbit
        clear hbit
        go_wp2
        go_round
        case rel => exact ⟨k + 1, by omega, by go_num, congrArg (Value.int IntKind.u64) (by rw [HS.out, if_pos HB.out])⟩
        case measure => simp [intOf]; omega
      · have hM : (bits BinOp.and IntKind.u64 ((m : Int) / 2 ^ k) 1 == 1) = false := bit_no m k hm hbit
        have HB := Lib.hid hbit
        clear hbit
        go_wp2
        go_round
        case rel => exact ⟨k + 1, by omega, by go_num, congrArg (Value.int IntKind.u64) (by rw [HS.out, if_neg HB.out])⟩
        case measure => simp [intOf]; omega
    · have e : k = 64 := by omega
      subst e
      go_wp2
      go_ret
      exact ⟨ret_int (part_all _ _ _), rfl⟩
theorem refPick_any (m a b : Int) (w : World) (hm0 : 0 ≤ m) (hm : m ≤ 18446744073709551615) (ha0 : 0 ≤ a) (ha : a ≤ 18446744073709551615) (hb0 : 0 ≤ b) (hb : b ≤ 18446744073709551615) :
    Calls Try.prog 22 #[.int .u64 m, .int .u64 a, .int .u64 b] w fun e w' => e = .returned (.int .u64 (pk m a b)) ∧ w = w' := by
  obtain ⟨m, rfl⟩ := Int.eq_ofNat_of_zero_le hm0
  obtain ⟨a, rfl⟩ := Int.eq_ofNat_of_zero_le ha0
  obtain ⟨b, rfl⟩ := Int.eq_ofNat_of_zero_le hb0
  exact refPick_nat m a b w (by omega) (by omega) (by omega)

theorem shown_any (w : World) : Calls Try.prog 11 #[] w fun e w' => e = .returned (.bool true) ∧ w = w' := by
  have h1 : ml 3 5 = 18446744073709551615 := by decide
  have h2 : pk 18446744073709551615 7 9 = 7 := by decide
  have h3 : lg 9 = 3 := by decide
  have h4 : rd 9 = 16 := by decide
  go_enter Try.func11, Try.ntmps11
  go_wp2_with (first
    | (go_at_call 16; refine (less_any _ _ _ (by decide) (by decide)).mono ?_; rintro e w' ⟨rfl, rfl⟩)
    | (go_at_call 21; refine (pick_any _ _ _ _).mono ?_; rintro e w' ⟨rfl, rfl⟩)
    | (go_at_call 25; refine (log_any _ _ (by decide) (by decide)).mono ?_; rintro e w' ⟨rfl, rfl⟩)
    | (go_at_call 27; refine (round_any _ _ (by decide) (by decide)).mono ?_; rintro e w' ⟨rfl, rfl⟩))
  go_ret
  exact ⟨rfl, rfl⟩
end Go.Proofs.Ytciialffbbhapaa
