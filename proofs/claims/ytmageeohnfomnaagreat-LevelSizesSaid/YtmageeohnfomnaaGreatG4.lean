/- Texts of ours put together: DealShape. -/
import Derived.Below
import Derived.BigQuiet
import Derived.ChangeArms
import Derived.ChangeSlices
import Derived.Deep.Draws
import Derived.Deep.OwnRows
import Derived.Deep.QuietTactic
import Derived.Deep.Slices
import Derived.Laws.AppendOwn
import Derived.Lib.Hide
import Derived.OpenShut
import Derived.ProofKit
import Derived.RowKit3
import Derived.SizedLaws
import Derived.WalkKit
import Derived.WideShapes
import Derived.Test.YtmageeohnfomnaaGreatProg
import Derived.Test.YtmageeohnfomnaaGreatG1
import Derived.Test.YtmageeohnfomnaaGreatG2
namespace Go.Proofs.YtmageeohnfomnaaGreat
set_option maxRecDepth 100000
open Go.RowKit Go.ChangeShapes Go.WideShapes Go.ChangeAt

def isSh (D S T : Int) : Bool := decide (0 ≤ D) && decide (D ≤ 10) && decide (1 ≤ S) && decide (S ≤ 8) && decide (1 ≤ T) && decide (T ≤ 64)
set_option maxHeartbeats 1000000 in
theorem deal_right (D S T : Int) (w : World) : Calls Tryz.prog 30 #[.agg #[.int .i64 D, .int .i64 S, .int .i64 T]] w fun e w' => e = .returned (.bool (isSh D S T)) ∧ Below w.heap.size w w' := by
  unfold isSh
  go_enter Tryz.func30, Tryz.ntmps30
  cases h1 : decide (0 ≤ D)
  · go_wp2_with fail
    go_ret
    exact ⟨rfl, (Below.refl _ w).alloc (Nat.le_refl _) _⟩
  cases h2 : decide (D ≤ 10)
  · go_wp2_with fail
    go_ret
    exact ⟨rfl, (Below.refl _ w).alloc (Nat.le_refl _) _⟩
  cases h3 : decide (1 ≤ S)
  · go_wp2_with fail
    go_ret
    exact ⟨rfl, (Below.refl _ w).alloc (Nat.le_refl _) _⟩
  cases h4 : decide (S ≤ 8)
  · go_wp2_with fail
    go_ret
    exact ⟨rfl, (Below.refl _ w).alloc (Nat.le_refl _) _⟩
  cases h5 : decide (1 ≤ T)
  · go_wp2_with fail
    go_ret
    exact ⟨rfl, (Below.refl _ w).alloc (Nat.le_refl _) _⟩
  go_wp2_with fail
  go_ret
  exact ⟨rfl, (Below.refl _ w).alloc (Nat.le_refl _) _⟩
theorem mul_places {D S L : Nat} (hD : D ≤ 10) (hS : S ≤ 8) (hL : (D + 1) * S = L) : (S : Int) * ((D : Int) + 1) = (L : Int) ∧ L ≤ 88 := by
  constructor
  · rw [← hL, Int.mul_comm]; simp
  · have : (D + 1) * S ≤ 11 * 8 := Nat.mul_le_mul (by omega) hS
    omega
set_option maxHeartbeats 1000000 in
theorem stash_from (D S T L : Nat) (hD : D ≤ 10) (hS : S ≤ 8) (hL : (D + 1) * S = L) (w : World) : Calls Tryz.prog 75 #[.agg #[.int .i64 (D : Int), .int .i64 (S : Int), .int .i64 (T : Int)]] w fun e w' => e = .returned (.int .i64 (L : Int)) ∧ Below w.heap.size w w' := by
  obtain ⟨hm, hl⟩ := mul_places hD hS hL
  have hw : IntKind.i64.wrap ((S : Int) * ((D : Int) + 1)) = (L : Int) := by rw [hm, IntKind.wrap_i64]; omega
  clear hL
  go_enter Tryz.func75, Tryz.ntmps75
  go_wp2_with fail
  go_ret
  exact ⟨rfl, (Below.refl _ w).alloc (Nat.le_refl _) _⟩
set_option maxHeartbeats 1000000 in
theorem deal_empty (x y : Int) (w : World) : Calls Tryz.prog 94 #[.agg #[.int .u64 x, .int .i64 y]] w fun e w' => e = .returned (.bool (decide (y < 0))) ∧ Below w.heap.size w w' := by
  go_enter Tryz.func94, Tryz.ntmps94
  go_wp2_with fail
  go_ret
  exact ⟨rfl, (Below.refl _ w).alloc (Nat.le_refl _) _⟩
set_option maxHeartbeats 1000000 in
theorem ref_right (D S T : Int) (w : World) : Calls Tryz.prog 33 #[.agg #[.int .i64 D, .int .i64 S, .int .i64 T]] w fun e w' => e = .returned (.bool (isSh D S T)) ∧ Below w.heap.size w w' := by
  unfold isSh
  go_enter Tryz.func33, Tryz.ntmps33
  cases h1 : decide (0 ≤ D)
  · go_wp2_with fail
    go_ret
    exact ⟨rfl, (Below.refl _ w).alloc (Nat.le_refl _) _⟩
  cases h2 : decide (D ≤ 10)
  · go_wp2_with fail
    go_ret
    exact ⟨rfl, (Below.refl _ w).alloc (Nat.le_refl _) _⟩
  cases h3 : decide (1 ≤ S)
  · go_wp2_with fail
    go_ret
    exact ⟨rfl, (Below.refl _ w).alloc (Nat.le_refl _) _⟩
  cases h4 : decide (S ≤ 8)
  · go_wp2_with fail
    go_ret
    exact ⟨rfl, (Below.refl _ w).alloc (Nat.le_refl _) _⟩
  cases h5 : decide (1 ≤ T)
  · go_wp2_with fail
    go_ret
    exact ⟨rfl, (Below.refl _ w).alloc (Nat.le_refl _) _⟩
  go_wp2_with fail
  go_ret
  exact ⟨rfl, (Below.refl _ w).alloc (Nat.le_refl _) _⟩
theorem isSh_iff (D S T : Int) : isSh D S T = true ↔ ∃ d s t : Nat, D = d ∧ S = s ∧ T = t ∧ d ≤ 10 ∧ 1 ≤ s ∧ s ≤ 8 ∧ 1 ≤ t ∧ t ≤ 64 := by
  unfold isSh
  simp only [Bool.and_eq_true, decide_eq_true_eq]
  constructor
  · intro h
    exact ⟨D.toNat, S.toNat, T.toNat, by omega, by omega, by omega, by omega, by omega, by omega, by omega, by omega⟩
  · rintro ⟨d, s, t, rfl, rfl, rfl, h1, h2, h3, h4, h5⟩
    omega
theorem isSh_yes {D S T : Nat} (h1 : D ≤ 10) (h2 : 1 ≤ S) (h3 : S ≤ 8) (h4 : 1 ≤ T) (h5 : T ≤ 64) : isSh (D : Int) (S : Int) (T : Int) = true := (isSh_iff _ _ _).2 ⟨D, S, T, rfl, rfl, rfl, h1, h2, h3, h4, h5⟩
end Go.Proofs.YtmageeohnfomnaaGreat

