import Derived.RangeFuncNested
import Derived.RangeFuncBound
import Derived.Test.YtknnebhjldfkhaaGreatG2
namespace Go.Proofs.YtknnebhjldfkhaaGreat
set_option maxRecDepth 100000
open Go.RowKit Go.ChangeShapes Go.WideShapes Go.ChangeAt

def cellsAt (w : World) (i : Nat) : Prop := ∃ cs t z, w.heap[i]? = some (.cells cs t z)
theorem Box.cells {w : World} {p : Nat} {t : TypeId} {cs : Array Value} (h : Box w p t cs) : cellsAt w p := ⟨_, _, _, h⟩
theorem rowIs_cells {w : World} {p n : Nat} {t : TypeId} {f : Nat → Value} (h : w.rowIs p t n f) : cellsAt w p := by obtain ⟨c, hc, _⟩ := h; exact ⟨_, _, _, hc⟩
theorem cellsAt.of {w w' : World} {i : Nat} (h : cellsAt w i) (e : w'.heap[i]? = w.heap[i]?) : cellsAt w' i := by obtain ⟨a, b, c, h⟩ := h; exact ⟨a, b, c, e.trans h⟩
theorem cellsAt.not {w : World} {i : Nat} (h : cellsAt w i) {o : Obj} (ho : w.heap[i]? = some o) (hc : o.isCells = false) : False := by
 obtain ⟨a, b, c, h⟩ := h
 rw [h] at ho
 injection ho with ho
 subst ho
 cases hc
def nonc (B : Nat) (W : World) (i : Nat) : Prop := B ≤ i ∧ ∃ o : Obj, W.heap[i]? = some o ∧ o.isCells = false
theorem only_nonc {B : Nat} {W W' : World} {row : Option Nat} (hg : W.grownBy W' row) (hr : ∀ r, row = some r → B ≤ r ∧ ∃ o : Obj, W.heap[r]? = some o ∧ o.isCells = false) : Only (nonc B W) W W' := (Only.refl _ W).grown hg (fun k e => .inl (hr k e))
theorem cells_not {B : Nat} {W : World} {i : Nat} (h : cellsAt W i) : ¬ nonc B W i := fun k => by obtain ⟨_, _, ho, hc⟩ := k; exact h.not ho hc
theorem keepsFrom_only {B : Nat} {S : Nat → Prop} {W W' : World} (h : Only S W W') (hs : ∀ i, B ≤ i → S i → cellsAt W i) : KeepsFrom B W W' :=
 ⟨h.size, fun k _ hB hk ho => (h.block k (Array.getElem?_eq_some_iff.1 hk).1 (fun e => (hs k hB e).not hk ho)).trans hk⟩
end Go.Proofs.YtknnebhjldfkhaaGreat

