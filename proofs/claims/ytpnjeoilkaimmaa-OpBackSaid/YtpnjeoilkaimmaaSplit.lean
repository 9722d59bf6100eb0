/- Contracts of package pack: join, split: what each returns; of what was in memory nothing turns. Conditions: the eight are bytes; the word is one of 64 bits. -/
import Derived.Test.YtpnjeoilkaimmaaProg
import Derived.Test.YtpnjeoilkaimmaaByte
import Derived.Test.YtpnjeoilkaimmaaPackMath
import Derived.Laws.BitsAllLaws
namespace Go.Proofs.Ytpnjeoilkaimmaa
open Go.RowKit

/-- Bytes as the model's numbers. -/
def up (f : Nat → Nat) (k : Nat) : Int := (f k : Int)
theorem up_dg (n k : Nat) : up (dg n) k = (n : Int) / 2 ^ (8 * k) % 256 := by
  unfold up dg
  rw [Int.natCast_emod, Int.natCast_ediv, Int.natCast_pow, Int.pow_mul]; rfl
/-- Bits above those that a number has are added to it. -/
theorem or_up (a b k : Nat) (ha : a < 256 ^ k) (hb : a + b * 256 ^ k < 18446744073709551616) : bits .or .u64 (a : Int) ((b * 256 ^ k : Nat) : Int) = ((a + b * 256 ^ k : Nat) : Int) := by
  rw [u64_or _ _ (by omega) (by omega) (by omega) (by omega)]
  have e : 256 ^ k = 2 ^ (8 * k) := by rw [Nat.pow_mul]
  rw [e] at ha
  have := Nat.two_pow_add_eq_or_of_lt ha b
  simp only [Int.toNat_natCast, e]
  rw [Nat.or_comm, Nat.mul_comm, ← this, Nat.add_comm]
theorem p_up (k : Nat) : (2 : Int) ^ (8 * k) = ((256 ^ k : Nat) : Int) := by
  rw [Int.natCast_pow, Int.pow_mul]; rfl
theorem or_step (f : Nat → Nat) (k : Nat) (hk : k < 8) (hf : ∀ i, f i < 256) : bits .or .u64 (pv f k : Int) (IntKind.u64.wrap (IntKind.u64.wrap (up f k) * 2 ^ (8 * k))) = (pv f (k + 1) : Nat) := by
  have h1 := hf k
  have h2 := pv_lt f k (fun i _ => hf i)
  have h3 := pv_lt f (k + 1) (fun i _ => hf i)
  have h4 : 256 ^ (k + 1) ≤ 256 ^ 8 := Nat.pow_le_pow_right (by decide) hk
  have h5 : 256 ^ 8 = 18446744073709551616 := rfl
  rw [h5] at h4
  have h6 : f k * 256 ^ k ≤ pv f (k + 1) := by rw [pv]; omega
  have e : IntKind.u64.wrap (up f k) = (f k : Int) := by rw [IntKind.wrap_u64]; unfold up; omega
  rw [e, p_up, ← Int.natCast_mul]
  have e2 : IntKind.u64.wrap ((f k * 256 ^ k : Nat) : Int) = ((f k * 256 ^ k : Nat) : Int) := by rw [IntKind.wrap_u64]; omega
  rw [e2, or_up (pv f k) (f k) k h2 (by rw [pv] at h3; omega)]
  rfl
attribute [local go_sem] CB_at
set_option maxHeartbeats 1000000 in
theorem split_any (n : Nat) (w : World) :
    Calls Try.prog 29 #[.int .u64 n] w fun e w' => e = .returned (.agg (CB (up (dg n)))) ∧ w' = (w.alloc (.cells (CB (up (dg n))) 61)).alloc (.cells (CB (up (dg n))) 61) := by
  go_enter Try.func29, Try.ntmps29
  go_wp2
  go_loopw [5] (fun i wr => ∃ k : Nat, k ≤ 8 ∧ i = .int .i64 k ∧ wr = (w.alloc (.cells (CB fun _ => 0) 61)).alloc (.cells (CB (upto8 k (up (dg n)) fun _ => 0)) 61)) (fun i _ => 8 - (intOf i).toNat)
  case atStart => exact ⟨0, by decide, rfl, rfl⟩
  case round =>
    obtain ⟨k, hk, rfl, rfl⟩ := hrel
    by_cases hlt : k < 8
    · go_wp2
      go_roundw
      case rel => exact ⟨k + 1, by omega, by go_num, by rw [← CB_step k hlt, up_dg]⟩
      case measure => simp [intOf]; omega
    · obtain rfl : k = 8 := by omega
      rw [CB_done]
      go_wp2
      rw [CB_over]
      exact bodyPost_ret (v := .agg (CB (up (dg n)))) (by simp [results, Try.results29, go_sem]; rfl) rfl ⟨rfl, rfl⟩

theorem index8 (f : Nat → Int) (k : Nat) (h : k < 8) (w : World) : (Instr.index 61 (.agg #[.int .u8 (f 0), .int .u8 (f 1), .int .u8 (f 2), .int .u8 (f 3), .int .u8 (f 4), .int .u8 (f 5), .int .u8 (f 6), .int .u8 (f 7)]) (.int .i64 k)).run Try.prog w = .ok (.int .u8 (f k)) w := by
  revert k; apply lt8 <;> kernel_rfl

set_option maxHeartbeats 1000000 in
theorem join_any (f : Nat → Nat) (w : World) (hf : ∀ k, f k < 256) :
    Calls Try.prog 35 #[.agg (CB (up f))] w fun e w' => e = .returned (.int .u64 (pv f 8)) ∧ w' = w.alloc (.cells (CB (up f)) 61) := by
  go_enter Try.func35, Try.ntmps35
  go_wp2
  go_loop [7, 3] (fun i n => ∃ k : Nat, k ≤ 8 ∧ i = .int .i64 k ∧ n = .int .u64 (pv f k)) (fun i _ => 8 - (intOf i).toNat)
  case atStart => exact ⟨0, by decide, rfl, rfl⟩
  case round =>
    obtain ⟨k, hk, rfl, rfl⟩ := hrel
    by_cases hlt : k < 8
    · have hix := fun wx => index8 (up f) k hlt wx
      go_wp2
      go_round
      case rel => exact ⟨k + 1, by omega, by go_num, by rw [or_step f k hlt hf]⟩
      case measure => simp [intOf]; omega
    · obtain rfl : k = 8 := by omega
      go_wp2
      go_ret
      exact ⟨rfl, rfl⟩
end Go.Proofs.Ytpnjeoilkaimmaa
