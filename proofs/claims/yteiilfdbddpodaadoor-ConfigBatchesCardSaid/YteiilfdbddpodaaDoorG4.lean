/- Texts of ours put together: DealItem. -/
import Derived.Test.YteiilfdbddpodaaDoorProg
import Derived.WideShapes
import Derived.ChangeArms
import Derived.Deep.Slices
import Derived.Test.YteiilfdbddpodaaDoorG3
import Derived.Test.YteiilfdbddpodaaDoorG1
/- Slices of items in memory; arguments that are items' slices, or shapes, opened. -/
namespace Go.Proofs.YteiilfdbddpodaaDoor
set_option maxRecDepth 100000
open Go.RowKit Go.ChangeShapes Go.WideShapes Go.ChangeAt Go.Deep

/-- An item's cells. -/
def itc (y : It) : Array Value := #[.int .u64 y.1, .int .i64 y.2]
/-- A slice of items: where it has elements it lies below block B. -/
def Its (w : World) (B : Nat) (a : Option Addr) (n : Nat) (y : Nat → It) : Prop :=
  0 < n → ∃ b off, a = some ⟨b, off, none⟩ ∧ b < B ∧ ∀ j, j < n → w.cell? ⟨b, off + j * 2, none⟩ = some (.int .u64 (y j).1) ∧ w.cell? ⟨b, off + j * 2 + 1, none⟩ = some (.int .i64 (y j).2)
section
variable {w w' : World} {B B' : Nat} {a : Option Addr} {n : Nat} {y : Nat → It}
theorem Its.below (h : Its w B a n y) (hb : Below B w w') : Its w' B a n y := fun hn => by
  obtain ⟨b, off, e, hB, hc⟩ := h hn
  exact ⟨b, off, e, hB, fun j hj => ⟨(hb.cell (p := ⟨b, off + j * 2, none⟩) hB).trans (hc j hj).1, (hb.cell (p := ⟨b, off + j * 2 + 1, none⟩) hB).trans (hc j hj).2⟩⟩
theorem Its.more (h : Its w B a n y) (hB : B ≤ B') : Its w B' a n y := fun hn => by
  obtain ⟨b, off, e, hb, hc⟩ := h hn
  exact ⟨b, off, e, by omega, hc⟩
theorem Its.at (h : Its w B a n y) {j : Nat} (hj : j < n) : ∃ b off, a = some ⟨b, off, none⟩ ∧ b < B ∧ w.cell? ⟨b, off + j * 2, none⟩ = some (.int .u64 (y j).1) ∧ w.cell? ⟨b, off + j * 2 + 1, none⟩ = some (.int .i64 (y j).2) := by
  obtain ⟨b, off, e, hb, hc⟩ := h (by omega)
  exact ⟨b, off, e, hb, hc j hj⟩
theorem Its.congr (h : Its w B a n y) {z : Nat → It} (e : ∀ j, j < n → y j = z j) : Its w B a n z := fun hn => by
  obtain ⟨b, off, ea, hb, hc⟩ := h hn
  exact ⟨b, off, ea, hb, fun j hj => by rw [← e j hj]; exact hc j hj⟩
theorem Its.drewN (h : Its w B a n y) (k : Nat) : Its (w.drewN k) B a n y := h
end
/-- The numbers of an item are numbers of their kinds. -/
def ItOk (y : It) : Prop := (Lit.int .u64 y.1).wf = true ∧ (Lit.int .i64 y.2).wf = true

theorem cellsInt9 : Tryd.prog.cellsOf 3 = 1 := by kernel_rfl
theorem cellsWord9 : Tryd.prog.cellsOf 105 = 1 := by kernel_rfl
theorem cellsShape : Tryd.prog.cellsOf 108 = 3 := by kernel_rfl
section
variable {H : Type} {enc : TypeId × Value → H} {w : World} {base : Nat} {spare : Nat → Bool} {held : Bool}
theorem shape_cells {fuel : Nat} {cs : List Value} {x : DataW H × List MemPlace} (h : DataW.trod enc Tryd.prog w base spare held fuel 108 cs = some x) :
    ∃ D S T : Int, cs = [.int .i64 D, .int .i64 S, .int .i64 T] ∧ (Lit.int .i64 D).wf = true ∧ (Lit.int .i64 S).wf = true ∧ (Lit.int .i64 T).wf = true := by
  obtain ⟨xs, n, _, _, hlen, hxl, hg⟩ := DataW.trod_struct Tryd.underlying108 h
  rw [cellsShape] at hlen
  match cs, hlen with
  | [c0, c1, c2], _ =>
    have hs : xs.length = 3 := hxl
    have g0 : DataW.trod enc Tryd.prog w base spare held n 3 [c0] = some (xs[0]'(by omega)) := by
      rw [← List.getElem?_eq_getElem]
      have e : ([c0, c1, c2].drop 0).take (Tryd.prog.cellsOf 3) = [c0] := by rw [cellsInt9]; rfl
      rw [← e]
      exact hg 0 _ rfl
    have g1 : DataW.trod enc Tryd.prog w base spare held n 3 [c1] = some (xs[1]'(by omega)) := by
      rw [← List.getElem?_eq_getElem]
      have e : ([c0, c1, c2].drop 1).take (Tryd.prog.cellsOf 3) = [c1] := by rw [cellsInt9]; rfl
      rw [← e]
      exact hg 1 _ rfl
    have g2 : DataW.trod enc Tryd.prog w base spare held n 3 [c2] = some (xs[2]'(by omega)) := by
      rw [← List.getElem?_eq_getElem]
      have e : ([c0, c1, c2].drop 2).take (Tryd.prog.cellsOf 3) = [c2] := by rw [cellsInt9]; rfl
      rw [← e]
      exact hg 2 _ rfl
    obtain ⟨r, e0, _, h0⟩ := DataW.trod_int Tryd.underlying3 g0
    obtain ⟨a, e1, _, h1⟩ := DataW.trod_int Tryd.underlying3 g1
    obtain ⟨m, e2, _, h2⟩ := DataW.trod_int Tryd.underlying3 g2
    simp only [List.cons.injEq, and_true] at e0 e1 e2
    subst e0 e1 e2
    exact ⟨r, a, m, rfl, h0, h1, h2⟩
end
/-- A shape by value, opened. -/
theorem open_shape {H : Type} {enc : TypeId × Value → H} {W : World} {base : Nat} {v : Value} {d : DataW H} {p : List MemPlace}
    (hv : Value.okWide Tryd.prog W .any base 108 v) (h : DataW.Trod enc Tryd.prog W 0 (fun _ => true) true 108 v d p) : ∃ D S T : Int, v = .agg #[.int .i64 D, .int .i64 S, .int .i64 T] ∧ (Lit.int .i64 D).wf = true ∧ (Lit.int .i64 S).wf = true ∧ (Lit.int .i64 T).wf = true := by
  obtain ⟨cs, rfl, _⟩ := okWide_struct Tryd.underlying108 hv
  obtain ⟨fuel, hf⟩ := h
  obtain ⟨D, S, T, e, h1, h2, h3⟩ := shape_cells hf
  refine ⟨D, S, T, ?_, h1, h2, h3⟩
  congr 1
  have e' : cs.toList = [.int .i64 D, .int .i64 S, .int .i64 T] := e
  exact Array.toList_inj.1 e'
end Go.Proofs.YteiilfdbddpodaaDoor
