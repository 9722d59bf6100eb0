import Derived.BigQuiet
import Derived.Deep.QuietTactic
import Derived.Deep.Quiet
import Derived.Test.YtknnebhjldfkhaaGreatG7
import Derived.Test.YtknnebhjldfkhaaGreatG4
import Derived.Test.YtknnebhjldfkhaaGreatG2
namespace Go.Proofs.YtknnebhjldfkhaaGreat
set_option maxRecDepth 100000
open Go.RowKit Go.ChangeShapes Go.WideShapes Go.ChangeAt

def isSh (D S T : Int) : Bool := decide (0 ≤ D) && decide (D ≤ 10) && decide (1 ≤ S) && decide (S ≤ 8) && decide (1 ≤ T) && decide (T ≤ 64)
set_option maxHeartbeats 1000000 in
theorem deal_right (D S T : Int) (w : World) : Calls Tryz.prog 99 #[.agg #[.int .i64 D, .int .i64 S, .int .i64 T]] w fun e w' => e = .returned (.bool (isSh D S T)) ∧ Below w.heap.size w w' := by
 unfold isSh
 go_enter Tryz.func99, Tryz.ntmps99
 cases h1 : decide (0 ≤ D)
 ·go_wp2_with fail
  go_ret
  exact ⟨rfl, (Below.refl _ w).alloc (Nat.le_refl _) _⟩
 cases h2 : decide (D ≤ 10)
 ·go_wp2_with fail
  go_ret
  exact ⟨rfl, (Below.refl _ w).alloc (Nat.le_refl _) _⟩
 cases h3 : decide (1 ≤ S)
 ·go_wp2_with fail
  go_ret
  exact ⟨rfl, (Below.refl _ w).alloc (Nat.le_refl _) _⟩
 cases h4 : decide (S ≤ 8)
 ·go_wp2_with fail
  go_ret
  exact ⟨rfl, (Below.refl _ w).alloc (Nat.le_refl _) _⟩
 cases h5 : decide (1 ≤ T)
 ·go_wp2_with fail
  go_ret
  exact ⟨rfl, (Below.refl _ w).alloc (Nat.le_refl _) _⟩
 go_wp2_with fail
 go_ret
 exact ⟨rfl, (Below.refl _ w).alloc (Nat.le_refl _) _⟩
theorem mul_places {D S L : Nat} (hD : D ≤ 10) (hS : S ≤ 8) (hL : (D + 1) * S = L) : (S : Int) * ((D : Int) + 1) = (L : Int) ∧ L ≤ 88 := by
 constructor
 ·rw [← hL, Int.mul_comm]; simp
 ·have : (D + 1) * S ≤ 11 * 8 := Nat.mul_le_mul (by omega) hS
  omega
set_option maxHeartbeats 1000000 in
theorem stash_from (D S T L : Nat) (hD : D ≤ 10) (hS : S ≤ 8) (hL : (D + 1) * S = L) (w : World) : Calls Tryz.prog 170 #[.agg #[.int .i64 (D : Int), .int .i64 (S : Int), .int .i64 (T : Int)]] w fun e w' => e = .returned (.int .i64 (L : Int)) ∧ Below w.heap.size w w' := by
 obtain ⟨hm, hl⟩ := mul_places hD hS hL
 have hw : IntKind.i64.wrap ((S : Int) * ((D : Int) + 1)) = (L : Int) := by rw [hm, IntKind.wrap_i64]; omega
 clear hL
 go_enter Tryz.func170, Tryz.ntmps170
 go_wp2_with fail
 go_ret
 exact ⟨rfl, (Below.refl _ w).alloc (Nat.le_refl _) _⟩
set_option maxHeartbeats 1000000 in
theorem deal_empty (x y : Int) (w : World) : Calls Tryz.prog 174 #[.agg #[.int .u64 x, .int .i64 y]] w fun e w' => e = .returned (.bool (decide (y < 0))) ∧ Below w.heap.size w w' := by
 go_enter Tryz.func174, Tryz.ntmps174
 go_wp2_with fail
 go_ret
 exact ⟨rfl, (Below.refl _ w).alloc (Nat.le_refl _) _⟩
theorem isSh_iff (D S T : Int) : isSh D S T = true ↔ ∃ d s t : Nat, D = d ∧ S = s ∧ T = t ∧ d ≤ 10 ∧ 1 ≤ s ∧ s ≤ 8 ∧ 1 ≤ t ∧ t ≤ 64 := by
 unfold isSh
 simp only [Bool.and_eq_true, decide_eq_true_eq]
 constructor
 ·intro h
  exact ⟨D.toNat, S.toNat, T.toNat, by omega, by omega, by omega, by omega, by omega, by omega, by omega, by omega⟩
 ·rintro ⟨d, s, t, rfl, rfl, rfl, h1, h2, h3, h4, h5⟩
  omega
theorem isSh_yes {D S T : Nat} (h1 : D ≤ 10) (h2 : 1 ≤ S) (h3 : S ≤ 8) (h4 : 1 ≤ T) (h5 : T ≤ 64) : isSh (D : Int) (S : Int) (T : Int) = true := (isSh_iff _ _ _).2 ⟨D, S, T, rfl, rfl, rfl, h1, h2, h3, h4, h5⟩
end Go.Proofs.YtknnebhjldfkhaaGreat


namespace Go.Proofs.YtknnebhjldfkhaaGreat
set_option maxRecDepth 100000
open Go.RowKit

structure Gr (w : World) where
 w' : World
 ok : Only nobody w w'
instance (w : World) : Nonempty (Gr w) := ⟨⟨w, Only.refl nobody w⟩⟩
theorem wp_region_grow {P : Program} {id : Nat} {Q : Exit → Act → World → Prop} {a : Act} {w : World} {l : List Oper} (hm : P.follows .mixedOrders = true) (hB : Region.lexB .any l.toArray = true)
  (h : wpQuiet P l.toArray (fun w1 => ∃ g : Gr w, w1 = g.w') (fun a' => ∀ w1, (∃ g : Gr w, w1 = g.w') → Q .normal a' w1) l a) : (Code.region id l.toArray true).wp P Q a w :=
 wp_region_quiet (C := fun w1 => ∃ g : Gr w, w1 = g.w') hm hB ⟨⟨_, (Only.refl nobody w).drew⟩, rfl⟩ (by simpa using h)
theorem Gr.calls {P : Program} {f : FuncId} {args : Array Value} {w : World} {g : Gr w} {v : Value} (h : Calls P f args g.w' fun e w1 => e = .returned v ∧ Only nobody g.w' w1) :
  Calls P f args g.w' fun e w2 => e = .returned v ∧ ∃ g' : Gr w, w2 = g'.w' := h.mono fun _ w1 ⟨he, ho⟩ => ⟨he, ⟨w1, g.ok.trans ho⟩, rfl⟩
theorem Gr.cell {w : World} {b o : Nat} {v : Value} (h : w.cell? ⟨b, o, none⟩ = some v) (g : Gr w) : g.w'.cell? ⟨b, o, none⟩ = some v :=
 (World.cell?_of_block (w := w) (g.ok.block b (World.block_lt_of_cell? w ⟨b, o, none⟩ h) (not_nobody _))).trans h
theorem Gr.blw {P : Program} {f : FuncId} {args : Array Value} {w : World} {g : Gr w} {v : Value} (h : Calls P f args g.w' fun e w1 => e = .returned v ∧ Below g.w'.heap.size g.w' w1) :
  Calls P f args g.w' fun e w2 => e = .returned v ∧ ∃ g' : Gr w, w2 = g'.w' := Gr.calls (h.mono fun _ _ ⟨he, hb⟩ => ⟨he, Only.of_below hb⟩)
end Go.Proofs.YtknnebhjldfkhaaGreat

