/- Arguments that are entries, and data of a block, opened. -/
import Derived.Below
import Derived.ChangeArms
import Derived.ChangeKeysEq
import Derived.ChangeSlices
import Derived.Deep.Draws
import Derived.Deep.MidRow
import Derived.Deep.OwnRows
import Derived.Deep.Slices
import Derived.Deep.WholeRow
import Derived.Laws.StructEq
import Derived.Lib.Hide
import Derived.OpenShut
import Derived.ProofKit
import Derived.RowKit3
import Derived.SizedLaws
import Derived.WalkKit
import Derived.WideShapes
import Derived.Test.YtjamfcjglodfeaaProg
import Derived.Test.YtjamfcjglodfeaaDataV
import Derived.Test.YtjamfcjglodfeaaHeap
import Derived.Test.YtjamfcjglodfeaaRng
import Derived.Test.YtjamfcjglodfeaaSlotMath
namespace Go.Proofs.Ytjamfcjglodfeaa
open Go.RowKit Go.ChangeShapes Go.WideShapes Go.ChangeAt

theorem cells_bool : Try.prog.cellsOf 4 = 1 := by kernel_rfl
theorem cells_uint64 : Try.prog.cellsOf 22 = 1 := by kernel_rfl
theorem cells_int : Try.prog.cellsOf 3 = 1 := by kernel_rfl
theorem cells_slot : Try.prog.cellsOf 24 = 7 := by kernel_rfl
theorem cells_data : Try.prog.cellsOf 26 = 8 := by kernel_rfl
theorem okWide_arr {P : Program} {w : World} {r : Reach} {base : Nat} {t : TypeId} {v : Value} {n : Nat} {e : TypeId} (ht : P.underlying t = some (.array n e)) (h : Value.okWide P w r base t v) : ∃ cs, v = .agg cs ∧ cs.size = P.cellsOf t := by
  simp only [Value.okWide, ht] at h
  obtain ⟨cs, h1, h2, _⟩ := h
  exact ⟨cs, h1, h2⟩
section
variable {H : Type} {enc : TypeId × Value → H} {w : World} {base : Nat} {spare : Nat → Bool} {held : Bool}
theorem slot_cells {fuel : Nat} {cs : List Value} {x : DataW H × List MemPlace} (h : DataW.trod enc Try.prog w base spare held fuel 24 cs = some x) : ∃ s : Sl, cs = s.a.toList ∧ s.Ok := by
  obtain ⟨xs, n, _, _, hlen, hxl, hg⟩ := DataW.trod_struct Try.underlying24 h
  rw [cells_slot] at hlen
  match cs, hlen with
  | [c0, c1, c2, c3, c4, c5, c6], _ =>
    have hs : xs.length = 7 := hxl
    have g0 : DataW.trod enc Try.prog w base spare held n 4 [c0] = some (xs[0]'(by omega)) := by
      rw [← List.getElem?_eq_getElem]
      have e : ([c0, c1, c2, c3, c4, c5, c6].drop 0).take (Try.prog.cellsOf 4) = [c0] := by rw [cells_bool]; rfl
      rw [← e]
      exact hg 0 _ rfl
    have g1 : DataW.trod enc Try.prog w base spare held n 22 [c1] = some (xs[1]'(by omega)) := by
      rw [← List.getElem?_eq_getElem]
      have e : ([c0, c1, c2, c3, c4, c5, c6].drop 1).take (Try.prog.cellsOf 22) = [c1] := by rw [cells_uint64]; rfl
      rw [← e]
      exact hg 1 _ rfl
    have g2 : DataW.trod enc Try.prog w base spare held n 22 [c2] = some (xs[2]'(by omega)) := by
      rw [← List.getElem?_eq_getElem]
      have e : ([c0, c1, c2, c3, c4, c5, c6].drop 2).take (Try.prog.cellsOf 22) = [c2] := by rw [cells_uint64]; rfl
      rw [← e]
      exact hg 2 _ rfl
    have g3 : DataW.trod enc Try.prog w base spare held n 22 [c3] = some (xs[3]'(by omega)) := by
      rw [← List.getElem?_eq_getElem]
      have e : ([c0, c1, c2, c3, c4, c5, c6].drop 3).take (Try.prog.cellsOf 22) = [c3] := by rw [cells_uint64]; rfl
      rw [← e]
      exact hg 3 _ rfl
    have g4 : DataW.trod enc Try.prog w base spare held n 22 [c4] = some (xs[4]'(by omega)) := by
      rw [← List.getElem?_eq_getElem]
      have e : ([c0, c1, c2, c3, c4, c5, c6].drop 4).take (Try.prog.cellsOf 22) = [c4] := by rw [cells_uint64]; rfl
      rw [← e]
      exact hg 4 _ rfl
    have g5 : DataW.trod enc Try.prog w base spare held n 22 [c5] = some (xs[5]'(by omega)) := by
      rw [← List.getElem?_eq_getElem]
      have e : ([c0, c1, c2, c3, c4, c5, c6].drop 5).take (Try.prog.cellsOf 22) = [c5] := by rw [cells_uint64]; rfl
      rw [← e]
      exact hg 5 _ rfl
    have g6 : DataW.trod enc Try.prog w base spare held n 3 [c6] = some (xs[6]'(by omega)) := by
      rw [← List.getElem?_eq_getElem]
      have e : ([c0, c1, c2, c3, c4, c5, c6].drop 6).take (Try.prog.cellsOf 3) = [c6] := by rw [cells_int]; rfl
      rw [← e]
      exact hg 6 _ rfl
    obtain ⟨u, e0, _⟩ := DataW.trod_bool Try.underlying4 g0
    obtain ⟨m1, e1, _, h1⟩ := DataW.trod_int Try.underlying22 g1
    obtain ⟨m2, e2, _, h2⟩ := DataW.trod_int Try.underlying22 g2
    obtain ⟨m3, e3, _, h3⟩ := DataW.trod_int Try.underlying22 g3
    obtain ⟨m4, e4, _, h4⟩ := DataW.trod_int Try.underlying22 g4
    obtain ⟨m5, e5, _, h5⟩ := DataW.trod_int Try.underlying22 g5
    obtain ⟨m6, e6, _, h6⟩ := DataW.trod_int Try.underlying3 g6
    simp only [List.cons.injEq, and_true] at e0 e1 e2 e3 e4 e5 e6
    subst e0 e1 e2 e3 e4 e5 e6
    exact ⟨⟨u, m1, m2, m3, m4, m5, m6⟩, rfl, ⟨u64_rng h1, u64_rng h2, u64_rng h3, u64_rng h4, u64_rng h5, i64_rng h6⟩⟩
theorem data_cells {fuel : Nat} {cs : List Value} {x : DataW H × List MemPlace} (h : DataW.trod enc Try.prog w base spare held fuel 26 cs = some x) : ∃ d : Nat → Int, cs = (DA d).toList ∧ ∀ i, i < 8 → U64 (d i) := by
  obtain ⟨xs, n, _, _, hlen, hxl, hg⟩ := DataW.trod_array Try.underlying26 h
  rw [cells_data] at hlen
  match cs, hlen with
  | [c0, c1, c2, c3, c4, c5, c6, c7], _ =>
    have hs : xs.length = 8 := hxl
    have g0 : DataW.trod enc Try.prog w base spare held n 22 [c0] = some (xs[0]'(by omega)) := by
      rw [← List.getElem?_eq_getElem]
      have e : ([c0, c1, c2, c3, c4, c5, c6, c7].drop 0).take (Try.prog.cellsOf 22) = [c0] := by rw [cells_uint64]; rfl
      rw [← e]
      exact hg 0 (by decide)
    have g1 : DataW.trod enc Try.prog w base spare held n 22 [c1] = some (xs[1]'(by omega)) := by
      rw [← List.getElem?_eq_getElem]
      have e : ([c0, c1, c2, c3, c4, c5, c6, c7].drop 1).take (Try.prog.cellsOf 22) = [c1] := by rw [cells_uint64]; rfl
      rw [← e]
      exact hg 1 (by decide)
    have g2 : DataW.trod enc Try.prog w base spare held n 22 [c2] = some (xs[2]'(by omega)) := by
      rw [← List.getElem?_eq_getElem]
      have e : ([c0, c1, c2, c3, c4, c5, c6, c7].drop 2).take (Try.prog.cellsOf 22) = [c2] := by rw [cells_uint64]; rfl
      rw [← e]
      exact hg 2 (by decide)
    have g3 : DataW.trod enc Try.prog w base spare held n 22 [c3] = some (xs[3]'(by omega)) := by
      rw [← List.getElem?_eq_getElem]
      have e : ([c0, c1, c2, c3, c4, c5, c6, c7].drop 3).take (Try.prog.cellsOf 22) = [c3] := by rw [cells_uint64]; rfl
      rw [← e]
      exact hg 3 (by decide)
    have g4 : DataW.trod enc Try.prog w base spare held n 22 [c4] = some (xs[4]'(by omega)) := by
      rw [← List.getElem?_eq_getElem]
      have e : ([c0, c1, c2, c3, c4, c5, c6, c7].drop 4).take (Try.prog.cellsOf 22) = [c4] := by rw [cells_uint64]; rfl
      rw [← e]
      exact hg 4 (by decide)
    have g5 : DataW.trod enc Try.prog w base spare held n 22 [c5] = some (xs[5]'(by omega)) := by
      rw [← List.getElem?_eq_getElem]
      have e : ([c0, c1, c2, c3, c4, c5, c6, c7].drop 5).take (Try.prog.cellsOf 22) = [c5] := by rw [cells_uint64]; rfl
      rw [← e]
      exact hg 5 (by decide)
    have g6 : DataW.trod enc Try.prog w base spare held n 22 [c6] = some (xs[6]'(by omega)) := by
      rw [← List.getElem?_eq_getElem]
      have e : ([c0, c1, c2, c3, c4, c5, c6, c7].drop 6).take (Try.prog.cellsOf 22) = [c6] := by rw [cells_uint64]; rfl
      rw [← e]
      exact hg 6 (by decide)
    have g7 : DataW.trod enc Try.prog w base spare held n 22 [c7] = some (xs[7]'(by omega)) := by
      rw [← List.getElem?_eq_getElem]
      have e : ([c0, c1, c2, c3, c4, c5, c6, c7].drop 7).take (Try.prog.cellsOf 22) = [c7] := by rw [cells_uint64]; rfl
      rw [← e]
      exact hg 7 (by decide)
    obtain ⟨m0, e0, _, h0⟩ := DataW.trod_int Try.underlying22 g0
    obtain ⟨m1, e1, _, h1⟩ := DataW.trod_int Try.underlying22 g1
    obtain ⟨m2, e2, _, h2⟩ := DataW.trod_int Try.underlying22 g2
    obtain ⟨m3, e3, _, h3⟩ := DataW.trod_int Try.underlying22 g3
    obtain ⟨m4, e4, _, h4⟩ := DataW.trod_int Try.underlying22 g4
    obtain ⟨m5, e5, _, h5⟩ := DataW.trod_int Try.underlying22 g5
    obtain ⟨m6, e6, _, h6⟩ := DataW.trod_int Try.underlying22 g6
    obtain ⟨m7, e7, _, h7⟩ := DataW.trod_int Try.underlying22 g7
    simp only [List.cons.injEq, and_true] at e0 e1 e2 e3 e4 e5 e6 e7
    subst e0 e1 e2 e3 e4 e5 e6 e7
    refine ⟨fun i => match i with | 0 => m0 | 1 => m1 | 2 => m2 | 3 => m3 | 4 => m4 | 5 => m5 | 6 => m6 | _ => m7, rfl, fun i hi => ?_⟩
    match i, hi with
    | 0, _ => exact u64_rng h0
    | 1, _ => exact u64_rng h1
    | 2, _ => exact u64_rng h2
    | 3, _ => exact u64_rng h3
    | 4, _ => exact u64_rng h4
    | 5, _ => exact u64_rng h5
    | 6, _ => exact u64_rng h6
    | 7, _ => exact u64_rng h7
end
/-- An entry by value, opened. -/
theorem open_slot {H : Type} {enc : TypeId × Value → H} {W : World} {base : Nat} {v : Value} {d : DataW H} {p : List MemPlace}
    (hv : Value.okWide Try.prog W .any base 24 v) (h : DataW.Trod enc Try.prog W 0 (fun _ => true) true 24 v d p) : ∃ s : Sl, v = .agg s.a ∧ s.Ok := by
  obtain ⟨cs, rfl, _⟩ := okWide_struct Try.underlying24 hv
  obtain ⟨fuel, hf⟩ := h
  obtain ⟨s, e, hs⟩ := slot_cells hf
  refine ⟨s, ?_, hs⟩
  congr 1
  have e' : cs.toList = s.a.toList := e
  exact Array.toList_inj.1 e'
/-- Data by value, opened. -/
theorem open_data {H : Type} {enc : TypeId × Value → H} {W : World} {base : Nat} {v : Value} {d : DataW H} {p : List MemPlace}
    (hv : Value.okWide Try.prog W .any base 26 v) (h : DataW.Trod enc Try.prog W 0 (fun _ => true) true 26 v d p) : ∃ f : Nat → Int, v = .agg (DA f) ∧ ∀ i, i < 8 → U64 (f i) := by
  obtain ⟨cs, rfl, _⟩ := okWide_arr Try.underlying26 hv
  obtain ⟨fuel, hf⟩ := h
  obtain ⟨s, e, hs⟩ := data_cells hf
  refine ⟨s, ?_, hs⟩
  congr 1
  have e' : cs.toList = (DA s).toList := e
  exact Array.toList_inj.1 e'
end Go.Proofs.Ytjamfcjglodfeaa
