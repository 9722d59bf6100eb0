/- Texts of ours put together: Pick, Eq. -/
import Derived.Below
import Derived.ChangeSlices
import Derived.Deep.Draws
import Derived.Deep.MidRow
import Derived.Deep.OwnRows
import Derived.Deep.RegionHeld
import Derived.Deep.RegionHeld3
import Derived.Laws.BitsAllLaws
import Derived.Lib.BitFns
import Derived.Lib.Hide
import Derived.OpenShut
import Derived.ProofKit
import Derived.RowKit3
import Derived.SizedLaws
import Derived.WalkKit
import Derived.Test.YtmageeohnfomnaaGreatProg
import Derived.Test.YtmageeohnfomnaaGreatG0
import Derived.Test.YtmageeohnfomnaaGreatG2
import Derived.Test.YtmageeohnfomnaaGreatG9
import Derived.Test.YtmageeohnfomnaaGreatG6
import Derived.Test.YtmageeohnfomnaaGreatG14
namespace Go.Proofs.YtmageeohnfomnaaGreat
set_option maxRecDepth 100000
open Go.RowKit

theorem pick_any (m a b : Int) (w : World) :
    Calls Tryz.prog 70 #[.int .u64 m, .int .u64 a, .int .u64 b] w fun e w' => e = .returned (.int .u64 (pk m a b)) ∧ w = w' := by
  go_enter Tryz.func70, Tryz.ntmps70
  go_wp2
  go_ret
  exact ⟨ret_int (pk_eq m a b), rfl⟩
theorem setCell_drewN (w : World) (n : Nat) (a : Addr) (v : Value) : (w.drewN n).setCell a v = (w.setCell a v).drewN n := by
  unfold World.setCell World.drewN
  first | rfl | (split <;> rfl) | (split <;> first | rfl | (split <;> rfl))
theorem alloc_drewN (w : World) (n : Nat) (o : Obj) : (w.drewN n).alloc o = (w.alloc o).drewN n := rfl
section
attribute [local go_sem] CA_at setCell_drewN alloc_drewN
set_option maxHeartbeats 1000000 in
theorem pickCell_any (m : Int) (f g : Nat → Int) (w : World) :
    Calls Tryz.prog 52 #[.int .u64 m, .agg (CA f), .agg (CA g)] w fun e w' => e = .returned (.agg (CA fun j => pk m (f j) (g j))) ∧ ∃ n, w' = ((((w.alloc (.cells (CA f) 103)).alloc (.cells (CA g) 103)).alloc (.cells (CA fun j => pk m (f j) (g j)) 103)).alloc (.cells (CA fun j => pk m (f j) (g j)) 103)).drewN n := by
  go_enter Tryz.func52, Tryz.ntmps52
  go_wp2
  go_loopw [9] (fun i wr => ∃ k n : Nat, k ≤ 12 ∧ i = .int .i64 k ∧ wr = ((((w.alloc (.cells (CA f) 103)).alloc (.cells (CA g) 103)).alloc (.cells (CA fun _ => 0) 103)).alloc (.cells (CA (upto k (fun j => pk m (f j) (g j)) (fun _ => 0))) 103)).drewN n) (fun i _ => 12 - (intOf i).toNat)
  case atStart => exact ⟨0, 0, by decide, rfl, rfl⟩
  case round =>
    obtain ⟨k, n, hk, rfl, rfl⟩ := hrel
    by_cases hlt : k < 12
    · go_wp2
      go_region_held3 (fun w' => w'.cell? ⟨w.heap.size, k, none⟩ = some (.int .u64 (f k)) ∧ w'.cell? ⟨w.heap.size + 1, k, none⟩ = some (.int .u64 (g k))) (simp [go_sem, World.cell?_alloc_past, CA_at, hlt])
        (first | (go_at_call 70; refine (pick_any _ _ _ _).mono ?_; rintro e w' ⟨rfl, rfl⟩))
      go_wp2
      go_roundw
      case rel => exact ⟨k + 1, n + 1, by omega, by go_num, by rw [← CA_step k hlt]⟩
      case measure => simp [intOf]; omega
    · obtain rfl : k = 12 := by omega
      rw [CA_done]
      go_wp2
      rw [CA_over _ (fun j => pk m (f j) (g j))]
      exact bodyPost_ret (v := .agg (CA fun j => pk m (f j) (g j))) (by simp [results, Tryz.results52, go_sem]; rfl) rfl ⟨rfl, n, rfl⟩
end
end Go.Proofs.YtmageeohnfomnaaGreat


namespace Go.Proofs.YtmageeohnfomnaaGreat
set_option maxRecDepth 100000
open Go.RowKit

theorem zero_any (n : Int) (w : World) (h0 : 0 ≤ n) (h1 : n ≤ 18446744073709551615) :
    Calls Tryz.prog 82 #[.int .u64 n] w fun e w' => e = .returned (.int .u64 (mz n)) ∧ w = w' := by
  go_enter Tryz.func82, Tryz.ntmps82
  go_wp2
  go_ret
  exact ⟨ret_int (zero_eq n h0 h1), rfl⟩
theorem equal_any (a b : Int) (w : World) (h0 : 0 ≤ a) (h1 : a ≤ 18446744073709551615) (k0 : 0 ≤ b) (k1 : b ≤ 18446744073709551615) :
    Calls Tryz.prog 68 #[.int .u64 a, .int .u64 b] w fun e w' => e = .returned (.int .u64 (me a b)) ∧ w = w' := by
  obtain ⟨x0, x1⟩ := xor_rng a b
  go_enter Tryz.func68, Tryz.ntmps68
  go_wp2_with (go_at_call 82; refine (zero_any _ _ x0 x1).mono ?_; rintro e w' ⟨rfl, rfl⟩)
  go_ret
  exact ⟨ret_int (xor_zero_iff a b h0 h1 k0 k1), rfl⟩
end Go.Proofs.YtmageeohnfomnaaGreat

