/- Texts of ours put together: DealItem, LevelOpen. -/
import Derived.Below
import Derived.ChangeArms
import Derived.ChangeSlices
import Derived.Deep.Draws
import Derived.Deep.OwnRows
import Derived.Deep.Slices
import Derived.Lib.Hide
import Derived.OpenShut
import Derived.ProofKit
import Derived.RowKit3
import Derived.SizedLaws
import Derived.WalkKit
import Derived.WideShapes
import Derived.Test.YtmageeohnfomnaaGreatProg
import Derived.Test.YtmageeohnfomnaaGreatG1
import Derived.Test.YtmageeohnfomnaaGreatG2
namespace Go.Proofs.YtmageeohnfomnaaGreat
set_option maxRecDepth 100000
open Go.RowKit Go.ChangeShapes Go.WideShapes Go.ChangeAt Go.Deep

def Its (w : World) (B : Nat) (a : Option Addr) (n : Nat) (y : Nat → It) : Prop :=
  0 < n → ∃ b off, a = some ⟨b, off, none⟩ ∧ b < B ∧ ∀ j, j < n → w.cell? ⟨b, off + j * 2, none⟩ = some (.int .u64 (y j).1) ∧ w.cell? ⟨b, off + j * 2 + 1, none⟩ = some (.int .i64 (y j).2)
section
variable {w w' : World} {B B' : Nat} {a : Option Addr} {n : Nat} {y : Nat → It}
theorem Its.below (h : Its w B a n y) (hb : Below B w w') : Its w' B a n y := fun hn => by
  obtain ⟨b, off, e, hB, hc⟩ := h hn
  exact ⟨b, off, e, hB, fun j hj => ⟨(hb.cell (p := ⟨b, off + j * 2, none⟩) hB).trans (hc j hj).1, (hb.cell (p := ⟨b, off + j * 2 + 1, none⟩) hB).trans (hc j hj).2⟩⟩
theorem Its.more (h : Its w B a n y) (hB : B ≤ B') : Its w B' a n y := fun hn => by
  obtain ⟨b, off, e, hb, hc⟩ := h hn
  exact ⟨b, off, e, by omega, hc⟩
theorem Its.at (h : Its w B a n y) {j : Nat} (hj : j < n) : ∃ b off, a = some ⟨b, off, none⟩ ∧ b < B ∧ w.cell? ⟨b, off + j * 2, none⟩ = some (.int .u64 (y j).1) ∧ w.cell? ⟨b, off + j * 2 + 1, none⟩ = some (.int .i64 (y j).2) := by
  obtain ⟨b, off, e, hb, hc⟩ := h (by omega)
  exact ⟨b, off, e, hb, hc j hj⟩
theorem Its.congr (h : Its w B a n y) {z : Nat → It} (e : ∀ j, j < n → y j = z j) : Its w B a n z := fun hn => by
  obtain ⟨b, off, ea, hb, hc⟩ := h hn
  exact ⟨b, off, ea, hb, fun j hj => by rw [← e j hj]; exact hc j hj⟩
end
section
variable {H : Type} {enc : TypeId × Value → H} {w : World} {base : Nat} {spare : Nat → Bool} {held : Bool}
end
end Go.Proofs.YtmageeohnfomnaaGreat


namespace Go.Proofs.YtmageeohnfomnaaGreat
set_option maxRecDepth 100000
open Go.RowKit Go.ChangeShapes Go.WideShapes Go.ChangeAt Go.Deep

theorem cellsof_lcfg : Tryz.prog.cellsOf 23 = 3 := by kernel_rfl
theorem cellsof_lcfg_int : Tryz.prog.cellsOf 3 = 1 := by kernel_rfl
theorem lcfg_cells {H : Type} {enc : TypeId × Value → H} {w : World} {base : Nat} {spare : Nat → Bool} {held : Bool} {fuel : Nat} {cs : List Value} {x : DataW H × List MemPlace} (h : DataW.trod enc Tryz.prog w base spare held fuel 23 cs = some x) :
    ∃ x0 x1 x2 : Int, cs = [.int .i64 x0, .int .i64 x1, .int .i64 x2] ∧ (Lit.int .i64 x0).wf = true ∧ (Lit.int .i64 x1).wf = true ∧ (Lit.int .i64 x2).wf = true := by
  obtain ⟨xs, n, _, _, hlen, hxl, hg⟩ := DataW.trod_struct Tryz.underlying23 h
  rw [cellsof_lcfg] at hlen
  match cs, hlen with
  | [c0, c1, c2], _ =>
    have hs : xs.length = 3 := hxl
    have g0 : DataW.trod enc Tryz.prog w base spare held n 3 [c0] = some (xs[0]'(by omega)) := by
      rw [← List.getElem?_eq_getElem]
      have e : ([c0, c1, c2].drop 0).take (Tryz.prog.cellsOf 3) = [c0] := by rw [cellsof_lcfg_int]; rfl
      rw [← e]
      exact hg 0 _ rfl
    have g1 : DataW.trod enc Tryz.prog w base spare held n 3 [c1] = some (xs[1]'(by omega)) := by
      rw [← List.getElem?_eq_getElem]
      have e : ([c0, c1, c2].drop 1).take (Tryz.prog.cellsOf 3) = [c1] := by rw [cellsof_lcfg_int]; rfl
      rw [← e]
      exact hg 1 _ rfl
    have g2 : DataW.trod enc Tryz.prog w base spare held n 3 [c2] = some (xs[2]'(by omega)) := by
      rw [← List.getElem?_eq_getElem]
      have e : ([c0, c1, c2].drop 2).take (Tryz.prog.cellsOf 3) = [c2] := by rw [cellsof_lcfg_int]; rfl
      rw [← e]
      exact hg 2 _ rfl
    obtain ⟨y0, e0, _, h0⟩ := DataW.trod_int Tryz.underlying3 g0
    obtain ⟨y1, e1, _, h1⟩ := DataW.trod_int Tryz.underlying3 g1
    obtain ⟨y2, e2, _, h2⟩ := DataW.trod_int Tryz.underlying3 g2
    injection e0 with e0
    injection e1 with e1
    injection e2 with e2
    subst e0 e1 e2
    exact ⟨y0, y1, y2, rfl, h0, h1, h2⟩
theorem open_lcfg {H : Type} {enc : TypeId × Value → H} {W : World} {base : Nat} {v : Value} {d : DataW H} {p : List MemPlace}
    (hv : Value.okWide Tryz.prog W .any base 23 v) (h : DataW.Trod enc Tryz.prog W 0 (fun _ => true) true 23 v d p) : ∃ x0 x1 x2 : Int, v = .agg #[.int .i64 x0, .int .i64 x1, .int .i64 x2] ∧ (Lit.int .i64 x0).wf = true ∧ (Lit.int .i64 x1).wf = true ∧ (Lit.int .i64 x2).wf = true := by
  obtain ⟨cs, rfl, _⟩ := okWide_struct Tryz.underlying23 hv
  obtain ⟨fuel, hf⟩ := h
  obtain ⟨x0, x1, x2, e, hh⟩ := lcfg_cells hf
  refine ⟨x0, x1, x2, ?_, hh⟩
  congr 1
  have e' : cs.toList = [.int .i64 x0, .int .i64 x1, .int .i64 x2] := e
  exact Array.toList_inj.1 e'
end Go.Proofs.YtmageeohnfomnaaGreat

