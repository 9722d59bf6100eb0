/- The contracts of Less and Pick; nothing in memory changes. Conditions: the words are none below nothing. -/
import Derived.Test.YtojdefaplekieaaProg
import Derived.Test.YtojdefaplekieaaMath
import Derived.WalkKit
import Derived.Shelf.Spec.BitsCarry
import Derived.Lib.Hide
namespace Go.Proofs.Ytojdefaplekieaa
open Go.RowKit Go.Shelf

theorem u64_rng {a : Int} (h : (Lit.int .u64 a).wf = true) : 0 ≤ a ∧ a ≤ 18446744073709551615 := by
  simp only [Lit.wf, IntKind.min, IntKind.max, IntKind.signed, IntKind.bits, Bool.and_eq_true] at h
  exact ⟨by have := h.1; simp at this; omega, by have := h.2; simp at this; omega⟩
theorem ret_int {k : IntKind} {a b : Int} (h : a = b) : Ending.returned (.int k a) = .returned (.int k b) := by rw [h]
/-- What Sub64 hands back at a borrow of nothing. -/
def dif (x y : Int) : Int := (((x.toNat + 18446744073709551616 - y.toNat) % 18446744073709551616 : Nat) : Int)
def bor (x y : Int) : Int := ((if x.toNat < y.toNat then 1 else 0 : Nat) : Int)
theorem sub64' (x y : Int) (hx : 0 ≤ x) (hy : 0 ≤ y) (w : World) : (callFunc 45 #[.int .u64 x, .int .u64 y, .int .u64 0]).run Try.prog w =
    .ok (.value (.tuple #[.int .u64 (dif x y), .int .u64 (bor x y)])) w := by
  obtain ⟨x, rfl⟩ := Int.eq_ofNat_of_zero_le hx
  obtain ⟨y, rfl⟩ := Int.eq_ofNat_of_zero_le hy
  rw [run_callFunc_extern Try.func45 (by kernel_rfl) (by kernel_rfl) (by kernel_rfl) (e := sub64Entry) (by kernel_rfl)]
  have := run_sub64 (P := Try.prog) x y 0 (by omega) w
  simp only [Nat.add_zero, Nat.sub_zero] at this
  rw [show ((0 : Nat) : Int) = 0 from rfl] at this
  rw [this]
  rfl
theorem less_any (a b : Int) (w : World) (h0 : 0 ≤ a) (k0 : 0 ≤ b) :
    Calls Try.prog 41 #[.int .u64 a, .int .u64 b] w fun e w' => e = .returned (.int .u64 (ml a b)) ∧ w = w' := by
  go_enter Try.func41, Try.ntmps41
  go_wp2_with (simp only [sub64' a b h0 k0])
  go_ret
  exact ⟨ret_int (less_eq a b h0 k0), rfl⟩
theorem pick_any (m a b : Int) (w : World) :
    Calls Try.prog 46 #[.int .u64 m, .int .u64 a, .int .u64 b] w fun e w' => e = .returned (.int .u64 (pk m a b)) ∧ w = w' := by
  go_enter Try.func46, Try.ntmps46
  go_wp2
  go_ret
  exact ⟨ret_int (pk_eq m a b), rfl⟩
theorem pk_mask (c a b : Int) (x y : Int) (h0 : 0 ≤ a) (h1 : a ≤ 18446744073709551615) (k0 : 0 ≤ b) (k1 : b ≤ 18446744073709551615) (hc : c = ml x y) : pk c a b = if x < y then a else b := by
  subst hc
  unfold ml
  split
  · exact pk_all a b h0 h1
  · exact pk_none a b k0 k1
end Go.Proofs.Ytojdefaplekieaa
