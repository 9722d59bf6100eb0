/- Texts of ours put together: CfOpen. -/
import Derived.Test.YteiilfdbddpodaaDoorG16
import Derived.Test.YteiilfdbddpodaaDoorG4
/- A config by value, opened: nine ints. -/
namespace Go.Proofs.YteiilfdbddpodaaDoor
set_option maxRecDepth 100000
open Go.RowKit Go.ChangeShapes Go.WideShapes Go.ChangeAt

theorem cellsCfg : Tryd.prog.cellsOf 23 = 9 := by kernel_rfl
theorem cfg_cells {H : Type} {enc : TypeId × Value → H} {w : World} {base : Nat} {spare : Nat → Bool} {held : Bool} {fuel : Nat} {cs : List Value} {x : DataW H × List MemPlace} (h : DataW.trod enc Tryd.prog w base spare held fuel 23 cs = some x) :
    ∃ c : Cfg, cs = c.a.toList ∧ c.Wf := by
  obtain ⟨xs, n, _, _, hlen, hxl, hg⟩ := DataW.trod_struct Tryd.underlying23 h
  rw [cellsCfg] at hlen
  match cs, hlen with
  | [c0, c1, c2, c3, c4, c5, c6, c7, c8], _ =>
    have hs : xs.length = 9 := hxl
    have g0 : DataW.trod enc Tryd.prog w base spare held n 3 [c0] = some (xs[0]'(by omega)) := by
      rw [← List.getElem?_eq_getElem]
      have e : ([c0, c1, c2, c3, c4, c5, c6, c7, c8].drop 0).take (Tryd.prog.cellsOf 3) = [c0] := by rw [cellsInt9]; rfl
      rw [← e]
      exact hg 0 _ rfl
    obtain ⟨m0, e0, _, h0⟩ := DataW.trod_int Tryd.underlying3 g0
    have g1 : DataW.trod enc Tryd.prog w base spare held n 3 [c1] = some (xs[1]'(by omega)) := by
      rw [← List.getElem?_eq_getElem]
      have e : ([c0, c1, c2, c3, c4, c5, c6, c7, c8].drop 1).take (Tryd.prog.cellsOf 3) = [c1] := by rw [cellsInt9]; rfl
      rw [← e]
      exact hg 1 _ rfl
    obtain ⟨m1, e1, _, h1⟩ := DataW.trod_int Tryd.underlying3 g1
    have g2 : DataW.trod enc Tryd.prog w base spare held n 3 [c2] = some (xs[2]'(by omega)) := by
      rw [← List.getElem?_eq_getElem]
      have e : ([c0, c1, c2, c3, c4, c5, c6, c7, c8].drop 2).take (Tryd.prog.cellsOf 3) = [c2] := by rw [cellsInt9]; rfl
      rw [← e]
      exact hg 2 _ rfl
    obtain ⟨m2, e2, _, h2⟩ := DataW.trod_int Tryd.underlying3 g2
    have g3 : DataW.trod enc Tryd.prog w base spare held n 3 [c3] = some (xs[3]'(by omega)) := by
      rw [← List.getElem?_eq_getElem]
      have e : ([c0, c1, c2, c3, c4, c5, c6, c7, c8].drop 3).take (Tryd.prog.cellsOf 3) = [c3] := by rw [cellsInt9]; rfl
      rw [← e]
      exact hg 3 _ rfl
    obtain ⟨m3, e3, _, h3⟩ := DataW.trod_int Tryd.underlying3 g3
    have g4 : DataW.trod enc Tryd.prog w base spare held n 3 [c4] = some (xs[4]'(by omega)) := by
      rw [← List.getElem?_eq_getElem]
      have e : ([c0, c1, c2, c3, c4, c5, c6, c7, c8].drop 4).take (Tryd.prog.cellsOf 3) = [c4] := by rw [cellsInt9]; rfl
      rw [← e]
      exact hg 4 _ rfl
    obtain ⟨m4, e4, _, h4⟩ := DataW.trod_int Tryd.underlying3 g4
    have g5 : DataW.trod enc Tryd.prog w base spare held n 3 [c5] = some (xs[5]'(by omega)) := by
      rw [← List.getElem?_eq_getElem]
      have e : ([c0, c1, c2, c3, c4, c5, c6, c7, c8].drop 5).take (Tryd.prog.cellsOf 3) = [c5] := by rw [cellsInt9]; rfl
      rw [← e]
      exact hg 5 _ rfl
    obtain ⟨m5, e5, _, h5⟩ := DataW.trod_int Tryd.underlying3 g5
    have g6 : DataW.trod enc Tryd.prog w base spare held n 3 [c6] = some (xs[6]'(by omega)) := by
      rw [← List.getElem?_eq_getElem]
      have e : ([c0, c1, c2, c3, c4, c5, c6, c7, c8].drop 6).take (Tryd.prog.cellsOf 3) = [c6] := by rw [cellsInt9]; rfl
      rw [← e]
      exact hg 6 _ rfl
    obtain ⟨m6, e6, _, h6⟩ := DataW.trod_int Tryd.underlying3 g6
    have g7 : DataW.trod enc Tryd.prog w base spare held n 3 [c7] = some (xs[7]'(by omega)) := by
      rw [← List.getElem?_eq_getElem]
      have e : ([c0, c1, c2, c3, c4, c5, c6, c7, c8].drop 7).take (Tryd.prog.cellsOf 3) = [c7] := by rw [cellsInt9]; rfl
      rw [← e]
      exact hg 7 _ rfl
    obtain ⟨m7, e7, _, h7⟩ := DataW.trod_int Tryd.underlying3 g7
    have g8 : DataW.trod enc Tryd.prog w base spare held n 3 [c8] = some (xs[8]'(by omega)) := by
      rw [← List.getElem?_eq_getElem]
      have e : ([c0, c1, c2, c3, c4, c5, c6, c7, c8].drop 8).take (Tryd.prog.cellsOf 3) = [c8] := by rw [cellsInt9]; rfl
      rw [← e]
      exact hg 8 _ rfl
    obtain ⟨m8, e8, _, h8⟩ := DataW.trod_int Tryd.underlying3 g8
    simp only [List.cons.injEq, and_true] at e0 e1 e2 e3 e4 e5 e6 e7 e8
    subst e0 e1 e2 e3 e4 e5 e6 e7 e8
    exact ⟨⟨m0, m1, m2, m3, m4, m5, m6, m7, m8⟩, rfl, ⟨i64_rng h0, i64_rng h1, i64_rng h2, i64_rng h3, i64_rng h4, i64_rng h5, i64_rng h6, i64_rng h7, i64_rng h8⟩⟩
/-- A config by value, opened. -/
theorem open_cfg {H : Type} {enc : TypeId × Value → H} {W : World} {base : Nat} {v : Value} {d : DataW H} {p : List MemPlace}
    (hv : Value.okWide Tryd.prog W .any base 23 v) (h : DataW.Trod enc Tryd.prog W 0 (fun _ => true) true 23 v d p) : ∃ c : Cfg, v = .agg c.a ∧ c.Wf := by
  obtain ⟨cs, rfl, _⟩ := okWide_struct Tryd.underlying23 hv
  obtain ⟨fuel, hf⟩ := h
  obtain ⟨c, e, hc⟩ := cfg_cells hf
  refine ⟨c, ?_, hc⟩
  congr 1
  have e' : cs.toList = c.a.toList := e
  exact Array.toList_inj.1 e'
end Go.Proofs.YteiilfdbddpodaaDoor
