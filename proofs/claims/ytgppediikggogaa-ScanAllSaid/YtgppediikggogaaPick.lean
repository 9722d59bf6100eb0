/- The contracts of Pick and PickCell: a word, a cell, picked by bits; of what was in memory nothing changes. No conditions. -/
import Derived.Test.YtgppediikggogaaWd
import Derived.Test.YtgppediikggogaaMath
import Derived.WalkKit
import Derived.RowKit3
import Derived.Deep.RegionHeld3
import Derived.Deep.Draws
import Derived.Lib.Hide
namespace Go.Proofs.Ytgppediikggogaa
open Go.RowKit

theorem u64_rng {a : Int} (h : (Lit.int .u64 a).wf = true) : 0 ≤ a ∧ a ≤ 18446744073709551615 := by
  simp only [Lit.wf, IntKind.min, IntKind.max, IntKind.signed, IntKind.bits, Bool.and_eq_true] at h
  exact ⟨by have := h.1; simp at this; omega, by have := h.2; simp at this; omega⟩
theorem ret_int {k : IntKind} {a b : Int} (h : a = b) : Ending.returned (.int k a) = .returned (.int k b) := by rw [h]
theorem pick_any (m a b : Int) (w : World) :
    Calls Try.prog 39 #[.int .u64 m, .int .u64 a, .int .u64 b] w fun e w' => e = .returned (.int .u64 (pk m a b)) ∧ w = w' := by
  go_enter Try.func39, Try.ntmps39
  go_wp2
  go_ret
  exact ⟨ret_int (pk_eq m a b), rfl⟩
theorem setCell_drewN (w : World) (n : Nat) (a : Addr) (v : Value) : (w.drewN n).setCell a v = (w.setCell a v).drewN n := by
  unfold World.setCell World.drewN
  first | rfl | (split <;> rfl) | (split <;> first | rfl | (split <;> rfl))
theorem alloc_drewN (w : World) (n : Nat) (o : Obj) : (w.drewN n).alloc o = (w.alloc o).drewN n := rfl
section
attribute [local go_sem] CA_at setCell_drewN alloc_drewN
set_option maxHeartbeats 1000000 in
theorem pickCell_any (m : Int) (f g : Nat → Int) (w : World) :
    Calls Try.prog 35 #[.int .u64 m, .agg (CA f), .agg (CA g)] w fun e w' => e = .returned (.agg (CA fun j => pk m (f j) (g j))) ∧ ∃ n, w' = ((((w.alloc (.cells (CA f) 30)).alloc (.cells (CA g) 30)).alloc (.cells (CA fun j => pk m (f j) (g j)) 30)).alloc (.cells (CA fun j => pk m (f j) (g j)) 30)).drewN n := by
  go_enter Try.func35, Try.ntmps35
  go_wp2
  go_loopw [9] (fun i wr => ∃ k n : Nat, k ≤ 12 ∧ i = .int .i64 k ∧ wr = ((((w.alloc (.cells (CA f) 30)).alloc (.cells (CA g) 30)).alloc (.cells (CA fun _ => 0) 30)).alloc (.cells (CA (upto k (fun j => pk m (f j) (g j)) (fun _ => 0))) 30)).drewN n) (fun i _ => 12 - (intOf i).toNat)
  case atStart => exact ⟨0, 0, by decide, rfl, rfl⟩
  case round =>
    obtain ⟨k, n, hk, rfl, rfl⟩ := hrel
    by_cases hlt : k < 12
    · go_wp2
      go_region_held3 (fun w' => w'.cell? ⟨w.heap.size, k, none⟩ = some (.int .u64 (f k)) ∧ w'.cell? ⟨w.heap.size + 1, k, none⟩ = some (.int .u64 (g k))) (simp [go_sem, World.cell?_alloc_past, CA_at, hlt])
        (first | (go_at_call 39; refine (pick_any _ _ _ _).mono ?_; rintro e w' ⟨rfl, rfl⟩))
      go_wp2
      go_roundw
      case rel => exact ⟨k + 1, n + 1, by omega, by go_num, by rw [← CA_step k hlt]⟩
      case measure => simp [intOf]; omega
    · obtain rfl : k = 12 := by omega
      rw [CA_done]
      go_wp2
      rw [CA_over _ (fun j => pk m (f j) (g j))]
      exact bodyPost_ret (v := .agg (CA fun j => pk m (f j) (g j))) (by simp [results, Try.results35, go_sem]; rfl) rfl ⟨rfl, n, rfl⟩
end
end Go.Proofs.Ytgppediikggogaa
