/- An argument that is a op.Op by value, opened. -/
import Derived.Test.YtpnjeoilkaimmaaHeap
import Derived.Test.YtpnjeoilkaimmaaProg
import Derived.WideShapes
import Derived.ChangeArms
import Derived.Deep.Slices
namespace Go.Proofs.Ytpnjeoilkaimmaa
open Go.RowKit Go.ChangeShapes Go.WideShapes Go.ChangeAt Go.Deep

theorem cellsof_op : Try.prog.cellsOf 24 = 4 := by kernel_rfl
theorem cellsof_op_int : Try.prog.cellsOf 3 = 1 := by kernel_rfl
theorem cellsof_op_uint64 : Try.prog.cellsOf 22 = 1 := by kernel_rfl
theorem op_cells {H : Type} {enc : TypeId × Value → H} {w : World} {base : Nat} {spare : Nat → Bool} {held : Bool} {fuel : Nat} {cs : List Value} {x : DataW H × List MemPlace} (h : DataW.trod enc Try.prog w base spare held fuel 24 cs = some x) :
    ∃ x0 x1 x2 x3 : Int, cs = [.int .i64 x0, .int .u64 x1, .int .u64 x2, .int .i64 x3] ∧ (Lit.int .i64 x0).wf = true ∧ (Lit.int .u64 x1).wf = true ∧ (Lit.int .u64 x2).wf = true ∧ (Lit.int .i64 x3).wf = true := by
  obtain ⟨xs, n, _, _, hlen, hxl, hg⟩ := DataW.trod_struct Try.underlying24 h
  rw [cellsof_op] at hlen
  match cs, hlen with
  | [c0, c1, c2, c3], _ =>
    have hs : xs.length = 4 := hxl
    have g0 : DataW.trod enc Try.prog w base spare held n 3 [c0] = some (xs[0]'(by omega)) := by
      rw [← List.getElem?_eq_getElem]
      have e : ([c0, c1, c2, c3].drop 0).take (Try.prog.cellsOf 3) = [c0] := by rw [cellsof_op_int]; rfl
      rw [← e]
      exact hg 0 _ rfl
    have g1 : DataW.trod enc Try.prog w base spare held n 22 [c1] = some (xs[1]'(by omega)) := by
      rw [← List.getElem?_eq_getElem]
      have e : ([c0, c1, c2, c3].drop 1).take (Try.prog.cellsOf 22) = [c1] := by rw [cellsof_op_uint64]; rfl
      rw [← e]
      exact hg 1 _ rfl
    have g2 : DataW.trod enc Try.prog w base spare held n 22 [c2] = some (xs[2]'(by omega)) := by
      rw [← List.getElem?_eq_getElem]
      have e : ([c0, c1, c2, c3].drop 2).take (Try.prog.cellsOf 22) = [c2] := by rw [cellsof_op_uint64]; rfl
      rw [← e]
      exact hg 2 _ rfl
    have g3 : DataW.trod enc Try.prog w base spare held n 3 [c3] = some (xs[3]'(by omega)) := by
      rw [← List.getElem?_eq_getElem]
      have e : ([c0, c1, c2, c3].drop 3).take (Try.prog.cellsOf 3) = [c3] := by rw [cellsof_op_int]; rfl
      rw [← e]
      exact hg 3 _ rfl
    obtain ⟨y0, e0, _, h0⟩ := DataW.trod_int Try.underlying3 g0
    obtain ⟨y1, e1, _, h1⟩ := DataW.trod_int Try.underlying22 g1
    obtain ⟨y2, e2, _, h2⟩ := DataW.trod_int Try.underlying22 g2
    obtain ⟨y3, e3, _, h3⟩ := DataW.trod_int Try.underlying3 g3
    injection e0 with e0
    injection e1 with e1
    injection e2 with e2
    injection e3 with e3
    subst e0 e1 e2 e3
    exact ⟨y0, y1, y2, y3, rfl, h0, h1, h2, h3⟩
theorem open_op {H : Type} {enc : TypeId × Value → H} {W : World} {base : Nat} {v : Value} {d : DataW H} {p : List MemPlace}
    (hv : Value.okWide Try.prog W .any base 24 v) (h : DataW.Trod enc Try.prog W 0 (fun _ => true) true 24 v d p) : ∃ x0 x1 x2 x3 : Int, v = .agg #[.int .i64 x0, .int .u64 x1, .int .u64 x2, .int .i64 x3] ∧ (Lit.int .i64 x0).wf = true ∧ (Lit.int .u64 x1).wf = true ∧ (Lit.int .u64 x2).wf = true ∧ (Lit.int .i64 x3).wf = true := by
  obtain ⟨cs, rfl, _⟩ := okWide_struct Try.underlying24 hv
  obtain ⟨fuel, hf⟩ := h
  obtain ⟨x0, x1, x2, x3, e, hh⟩ := op_cells hf
  refine ⟨x0, x1, x2, x3, ?_, hh⟩
  congr 1
  have e' : cs.toList = [.int .i64 x0, .int .u64 x1, .int .u64 x2, .int .i64 x3] := e
  exact Array.toList_inj.1 e'
end Go.Proofs.Ytpnjeoilkaimmaa
