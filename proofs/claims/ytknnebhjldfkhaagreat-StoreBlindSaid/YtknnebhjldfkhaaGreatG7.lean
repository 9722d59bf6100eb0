import Derived.Test.YtknnebhjldfkhaaGreatProg
import Derived.WideShapes
import Derived.ChangeArms
import Derived.Deep.Slices
import Derived.Test.YtknnebhjldfkhaaGreatG2
import Derived.Test.YtknnebhjldfkhaaGreatG1
namespace Go.Proofs.YtknnebhjldfkhaaGreat
set_option maxRecDepth 100000
open Go.RowKit Go.ChangeShapes Go.WideShapes Go.ChangeAt Go.Deep

def Its (w : World) (B : Nat) (a : Option Addr) (n : Nat) (y : Nat → It) : Prop :=
 0 < n → ∃ b off, a = some ⟨b, off, none⟩ ∧ b < B ∧ ∀ j, j < n → w.cell? ⟨b, off + j * 2, none⟩ = some (.int .u64 (y j).1) ∧ w.cell? ⟨b, off + j * 2 + 1, none⟩ = some (.int .i64 (y j).2)
section
variable {w w' : World} {B B' : Nat} {a : Option Addr} {n : Nat} {y : Nat → It}
theorem Its.below (h : Its w B a n y) (hb : Below B w w') : Its w' B a n y := fun hn => by
 obtain ⟨b, off, e, hB, hc⟩ := h hn
 exact ⟨b, off, e, hB, fun j hj => ⟨(hb.cell (p := ⟨b, off + j * 2, none⟩) hB).trans (hc j hj).1, (hb.cell (p := ⟨b, off + j * 2 + 1, none⟩) hB).trans (hc j hj).2⟩⟩
theorem Its.more (h : Its w B a n y) (hB : B ≤ B') : Its w B' a n y := fun hn => by
 obtain ⟨b, off, e, hb, hc⟩ := h hn
 exact ⟨b, off, e, by omega, hc⟩
theorem Its.at (h : Its w B a n y) {j : Nat} (hj : j < n) : ∃ b off, a = some ⟨b, off, none⟩ ∧ b < B ∧ w.cell? ⟨b, off + j * 2, none⟩ = some (.int .u64 (y j).1) ∧ w.cell? ⟨b, off + j * 2 + 1, none⟩ = some (.int .i64 (y j).2) := by
 obtain ⟨b, off, e, hb, hc⟩ := h (by omega)
 exact ⟨b, off, e, hb, hc j hj⟩
theorem Its.congr (h : Its w B a n y) {z : Nat → It} (e : ∀ j, j < n → y j = z j) : Its w B a n z := fun hn => by
 obtain ⟨b, off, ea, hb, hc⟩ := h hn
 exact ⟨b, off, ea, hb, fun j hj => by rw [← e j hj]; exact hc j hj⟩
end
section
variable {H : Type} {enc : TypeId × Value → H} {w : World} {base : Nat} {spare : Nat → Bool} {held : Bool}
end
end Go.Proofs.YtknnebhjldfkhaaGreat

