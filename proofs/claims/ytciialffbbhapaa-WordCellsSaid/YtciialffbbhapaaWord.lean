/- The contracts of the functions of package word that take and give single words, and of their reference answers: each returns the plain number that is named here, and nothing in memory changes. Conditions: each argument is a word of 64 bits (for Round: an int). -/
import Derived.Test.YtciialffbbhapaaRows
import Derived.Test.YtciialffbbhapaaShelf
import Derived.Test.YtciialffbbhapaaMath
import Derived.WalkKit
import Derived.Shelf.Spec.BitsCarry
import Derived.Lib.Hide
namespace Go.Proofs.Ytciialffbbhapaa
open Go.RowKit Go.Shelf

theorem ret_int {k : IntKind} {a b : Int} (h : a = b) : Ending.returned (.int k a) = .returned (.int k b) := by rw [h]
theorem sub64 (x y : Int) (hx : 0 ≤ x) (hy : 0 ≤ y) (w : World) : (callFunc 30 #[.int .u64 x, .int .u64 y, .int .u64 0]).run Try.prog w =
    .ok (.value (.tuple #[.int .u64 (((x.toNat + 18446744073709551616 - y.toNat) % 18446744073709551616 : Nat) : Int), .int .u64 ((if x.toNat < y.toNat then 1 else 0 : Nat) : Int)])) w := by
  obtain ⟨x, rfl⟩ := Int.eq_ofNat_of_zero_le hx
  obtain ⟨y, rfl⟩ := Int.eq_ofNat_of_zero_le hy
  rw [run_callFunc_extern Try.func30 (by kernel_rfl) (by kernel_rfl) (by kernel_rfl) (e := sub64Entry) (by kernel_rfl)]
  have := run_sub64 (P := Try.prog) x y 0 (by omega) w
  simp only [Nat.add_zero, Nat.sub_zero] at this
  simp only [Int.toNat_natCast] at *
  rw [show ((0 : Nat) : Int) = 0 from rfl] at this
  rw [this]
  rfl
/-- Behind a name: what Sub64 hands back at a borrow of nothing. -/
def dif (x y : Int) : Int := (((x.toNat + 18446744073709551616 - y.toNat) % 18446744073709551616 : Nat) : Int)
def bor (x y : Int) : Int := ((if x.toNat < y.toNat then 1 else 0 : Nat) : Int)
theorem sub64' (x y : Int) (hx : 0 ≤ x) (hy : 0 ≤ y) (w : World) : (callFunc 30 #[.int .u64 x, .int .u64 y, .int .u64 0]).run Try.prog w =
    .ok (.value (.tuple #[.int .u64 (dif x y), .int .u64 (bor x y)])) w := sub64 x y hx hy w

theorem zero_any (n : Int) (w : World) (h0 : 0 ≤ n) (h1 : n ≤ 18446744073709551615) :
    Calls Try.prog 12 #[.int .u64 n] w fun e w' => e = .returned (.int .u64 (mz n)) ∧ w = w' := by
  go_enter Try.func12, Try.ntmps12
  go_wp2
  go_ret
  exact ⟨ret_int (zero_eq n h0 h1), rfl⟩
theorem equal_any (a b : Int) (w : World) (h0 : 0 ≤ a) (h1 : a ≤ 18446744073709551615) (k0 : 0 ≤ b) (k1 : b ≤ 18446744073709551615) :
    Calls Try.prog 14 #[.int .u64 a, .int .u64 b] w fun e w' => e = .returned (.int .u64 (me a b)) ∧ w = w' := by
  obtain ⟨x0, x1⟩ := xor_rng a b
  go_enter Try.func14, Try.ntmps14
  go_wp2_with (go_at_call 12; refine (zero_any _ _ x0 x1).mono ?_; rintro e w' ⟨rfl, rfl⟩)
  go_ret
  exact ⟨ret_int (xor_zero_iff a b h0 h1 k0 k1), rfl⟩
theorem less_any (a b : Int) (w : World) (h0 : 0 ≤ a) (k0 : 0 ≤ b) :
    Calls Try.prog 16 #[.int .u64 a, .int .u64 b] w fun e w' => e = .returned (.int .u64 (ml a b)) ∧ w = w' := by
  go_enter Try.func16, Try.ntmps16
  go_wp2_with (simp only [sub64' a b h0 k0])
  go_ret
  exact ⟨ret_int (less_eq a b h0 k0), rfl⟩
theorem pick_any (m a b : Int) (w : World) :
    Calls Try.prog 21 #[.int .u64 m, .int .u64 a, .int .u64 b] w fun e w' => e = .returned (.int .u64 (pk m a b)) ∧ w = w' := by
  go_enter Try.func21, Try.ntmps21
  go_wp2
  go_ret
  exact ⟨ret_int (pk_eq m a b), rfl⟩
theorem swap_any (m a b : Int) (w : World) :
    Calls Try.prog 18 #[.int .u64 m, .int .u64 a, .int .u64 b] w fun e w' => e = .returned (.tuple #[.int .u64 (pk m b a), .int .u64 (pk m a b)]) ∧ w = w' := by
  go_enter Try.func18, Try.ntmps18
  go_wp2_with (go_at_call 21; refine (pick_any _ _ _ _).mono ?_; rintro e w' ⟨rfl, rfl⟩)
  go_ret2
  exact ⟨rfl, rfl⟩
theorem log_any (n : Int) (w : World) (h0 : 0 ≤ n) (h1 : n ≤ 18446744073709551615) :
    Calls Try.prog 25 #[.int .u64 n] w fun e w' => e = .returned (.int .i64 (lg n)) ∧ w = w' := by
  have HE := Lib.hid (log_eq n h0 h1)
  have x0 : 0 ≤ bits .or .u64 n 1 := by rw [or_V]; exact V_lo _
  have x1 : bits .or .u64 n 1 ≤ 18446744073709551615 := or_hi _ _
  have l0 := lg_lo n
  have l1 := lg_hi n h1
  go_enter Try.func25, Try.ntmps25
  go_wp2_with (go_at_call 31; refine (len64_any _ _ x0 x1).mono ?_; rintro e w' ⟨rfl, rfl⟩)
  go_ret
  refine ⟨ret_int ?_, rfl⟩
  rw [HE.out]; exact w64 _ (by omega) (by omega)
theorem round_any (n : Int) (w : World) (h0 : -9223372036854775808 ≤ n) (h1 : n ≤ 9223372036854775807) :
    Calls Try.prog 27 #[.int .i64 n] w fun e w' => e = .returned (.int .i64 (rd n)) ∧ w = w' := by
  have r := re_le n
  go_enter Try.func27, Try.ntmps27
  go_wp2_with (go_at_call 31; refine (len64_any _ _ (by omega) (by omega)).mono ?_; rintro e w' ⟨rfl, rfl⟩)
  go_ret
  refine ⟨ret_int ?_, rfl⟩
  exact round_eq n
end Go.Proofs.Ytciialffbbhapaa
