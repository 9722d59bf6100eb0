/- The contracts of the functions over cells: what each returns; of what was in memory nothing changes. Conditions: each word is a word of 64 bits where the reference answer is asked. -/
import Derived.Test.YtciialffbbhapaaWalksOne
import Derived.Test.YtciialffbbhapaaCell
import Derived.RowKit3
import Derived.Deep.RegionHeld3
import Derived.Deep.Draws
namespace Go.Proofs.Ytciialffbbhapaa
open Go.RowKit Go.Shelf

/-- The words of a law's cell. -/
def cw (n : Int) (j : Nat) : Int := IntKind.u64.wrap (IntKind.u64.wrap (n * (2 * (j : Int) + 1)) + j)
theorem setCell_drewN (w : World) (n : Nat) (a : Addr) (v : Value) : (w.drewN n).setCell a v = (w.setCell a v).drewN n := by
  unfold World.setCell World.drewN
  first | rfl | (split <;> rfl) | (split <;> first | rfl | (split <;> rfl))
theorem alloc_drewN (w : World) (n : Nat) (o : Obj) : (w.drewN n).alloc o = (w.alloc o).drewN n := rfl
attribute [local go_sem] CA_at setCell_drewN alloc_drewN
set_option maxHeartbeats 1000000 in
theorem cell_any (n : Int) (w : World) :
    Calls Try.prog 20 #[.int .u64 n] w fun e w' => e = .returned (.agg (CA (cw n))) ∧ w' = (w.alloc (.cells (CA (cw n)) 30)).alloc (.cells (CA (cw n)) 30) := by
  go_enter Try.func20, Try.ntmps20
  go_wp2
  go_loopw [4] (fun i wr => ∃ k : Nat, k ≤ 12 ∧ i = .int .i64 k ∧ wr = (w.alloc (.cells (CA fun _ => 0) 30)).alloc (.cells (CA (upto k (cw n) fun _ => 0)) 30)) (fun i _ => 12 - (intOf i).toNat)
  case atStart => exact ⟨0, by decide, rfl, rfl⟩
  case round =>
    obtain ⟨k, hk, rfl, rfl⟩ := hrel
    by_cases hlt : k < 12
    · go_wp2
      go_roundw
      case rel => exact ⟨k + 1, by omega, by go_num, by rw [← CA_step k hlt]; rfl⟩
      case measure => simp [intOf]; omega
    · obtain rfl : k = 12 := by omega
      rw [CA_done]
      go_wp2
      rw [CA_over]
      exact bodyPost_ret (v := .agg (CA (cw n))) (by simp [results, Try.results20, go_sem]; rfl) rfl ⟨rfl, rfl⟩

set_option maxHeartbeats 1000000 in
theorem pickCell_any (m : Int) (f g : Nat → Int) (w : World) :
    Calls Try.prog 23 #[.int .u64 m, .agg (CA f), .agg (CA g)] w fun e w' => e = .returned (.agg (CA fun j => pk m (f j) (g j))) ∧ ∃ n, w' = ((((w.alloc (.cells (CA f) 30)).alloc (.cells (CA g) 30)).alloc (.cells (CA fun j => pk m (f j) (g j)) 30)).alloc (.cells (CA fun j => pk m (f j) (g j)) 30)).drewN n := by
  go_enter Try.func23, Try.ntmps23
  go_wp2
  go_loopw [9] (fun i wr => ∃ k n : Nat, k ≤ 12 ∧ i = .int .i64 k ∧ wr = ((((w.alloc (.cells (CA f) 30)).alloc (.cells (CA g) 30)).alloc (.cells (CA fun _ => 0) 30)).alloc (.cells (CA (upto k (fun j => pk m (f j) (g j)) (fun _ => 0))) 30)).drewN n) (fun i _ => 12 - (intOf i).toNat)
  case atStart => exact ⟨0, 0, by decide, rfl, rfl⟩
  case round =>
    obtain ⟨k, n, hk, rfl, rfl⟩ := hrel
    by_cases hlt : k < 12
    · go_wp2
      go_region_held3 (fun w' => w'.cell? ⟨w.heap.size, k, none⟩ = some (.int .u64 (f k)) ∧ w'.cell? ⟨w.heap.size + 1, k, none⟩ = some (.int .u64 (g k))) (simp [go_sem, World.cell?_alloc_past, CA_at, hlt])
        (first | (go_at_call 21; refine (pick_any _ _ _ _).mono ?_; rintro e w' ⟨rfl, rfl⟩))
      go_wp2
      go_roundw
      case rel => exact ⟨k + 1, n + 1, by omega, by go_num, by rw [← CA_step k hlt]⟩
      case measure => simp [intOf]; omega
    · obtain rfl : k = 12 := by omega
      rw [CA_done]
      go_wp2
      rw [CA_over _ (fun j => pk m (f j) (g j))]
      exact bodyPost_ret (v := .agg (CA fun j => pk m (f j) (g j))) (by simp [results, Try.results23, go_sem]; rfl) rfl ⟨rfl, n, rfl⟩

set_option maxHeartbeats 1000000 in
theorem refPickCell_any (m : Int) (f g : Nat → Int) (w : World) (m0 : 0 ≤ m) (m1 : m ≤ 18446744073709551615) (hf : ∀ j, 0 ≤ f j ∧ f j ≤ 18446744073709551615) (hg : ∀ j, 0 ≤ g j ∧ g j ≤ 18446744073709551615) :
    Calls Try.prog 24 #[.int .u64 m, .agg (CA f), .agg (CA g)] w fun e w' => e = .returned (.agg (CA fun j => pk m (f j) (g j))) ∧ ∃ n, w' = ((((w.alloc (.cells (CA f) 30)).alloc (.cells (CA g) 30)).alloc (.cells (CA fun j => pk m (f j) (g j)) 30)).alloc (.cells (CA fun j => pk m (f j) (g j)) 30)).drewN n := by
  go_enter Try.func24, Try.ntmps24
  go_wp2
  go_loopw [8] (fun i wr => ∃ k n : Nat, k ≤ 12 ∧ i = .int .i64 k ∧ wr = ((((w.alloc (.cells (CA f) 30)).alloc (.cells (CA g) 30)).alloc (.cells (CA fun _ => 0) 30)).alloc (.cells (CA (upto k (fun j => pk m (f j) (g j)) g)) 30)).drewN n) (fun i _ => 12 - (intOf i).toNat)
  case atStart => exact ⟨0, 0, by decide, rfl, rfl⟩
  case round =>
    obtain ⟨k, n, hk, rfl, rfl⟩ := hrel
    by_cases hlt : k < 12
    · obtain ⟨f0, f1⟩ := hf k
      obtain ⟨g0, g1⟩ := hg k
      go_wp2
      go_region_held3 (fun w' => w'.cell? ⟨w.heap.size, k, none⟩ = some (.int .u64 (f k)) ∧ w'.cell? ⟨w.heap.size + 1, k, none⟩ = some (.int .u64 (g k))) (simp [go_sem, World.cell?_alloc_past, CA_at, hlt])
        (first | (go_at_call 22; refine (refPick_any _ _ _ _ m0 m1 f0 f1 g0 g1).mono ?_; rintro e w' ⟨rfl, rfl⟩))
      go_wp2
      go_roundw
      case rel => exact ⟨k + 1, n + 1, by omega, by go_num, by rw [← CA_step k hlt]⟩
      case measure => simp [intOf]; omega
    · obtain rfl : k = 12 := by omega
      rw [CA_done]
      go_wp2
      rw [CA_over _ (fun j => pk m (f j) (g j))]
      exact bodyPost_ret (v := .agg (CA fun j => pk m (f j) (g j))) (by simp [results, Try.results24, go_sem]; rfl) rfl ⟨rfl, n, rfl⟩
end Go.Proofs.Ytciialffbbhapaa
