/- Texts of ours put together: Steps. -/
import Derived.WideShapes
import Derived.ChangeArms
import Derived.Deep.Slices
import Derived.Test.YtdbjaaalngbpgaaGreatG20
import Derived.Test.YtdbjaaalngbpgaaGreatG46
/- Arguments that are steps of a level's law, or slices of them, opened. -/
namespace Go.Proofs.YtdbjaaalngbpgaaGreat
set_option maxRecDepth 100000
open Go.RowKit Go.ChangeShapes Go.WideShapes Go.ChangeAt Go.Deep

/-- A step: op, id, at, a number, from, to. -/
abbrev Stp := Int × Int × Int × Int × Int × Int
def stc (y : Stp) : Array Value := #[.int .i64 y.1, .int .u64 y.2.1, .int .i64 y.2.2.1, .int .u64 y.2.2.2.1, .int .i64 y.2.2.2.2.1, .int .i64 y.2.2.2.2.2]
/-- Steps in a slice, in a block below B. -/
def Stps (w : World) (B : Nat) (a : Option Addr) (n : Nat) (y : Nat → Stp) : Prop := 0 < n → ∃ b off, a = some ⟨b, off, none⟩ ∧ b < B ∧ ∀ j, j < n → w.rangeAt b (off + j * 6) (stc (y j)).toList
section
variable {w w' : World} {B B' : Nat} {a : Option Addr} {n : Nat} {y : Nat → Stp}
theorem Stps.below (h : Stps w B a n y) (hb : Below B w w') : Stps w' B a n y := fun hn => by
  obtain ⟨b, off, e, h1, h2⟩ := h hn
  exact ⟨b, off, e, h1, fun j hj i v hv => (hb.cell (p := ⟨b, off + j * 6 + i, none⟩) h1).trans (h2 j hj i v hv)⟩
theorem Stps.at (h : Stps w B a n y) {j : Nat} (hj : j < n) : ∃ b off, a = some ⟨b, off, none⟩ ∧ b < B ∧ w.rangeAt b (off + j * 6) (stc (y j)).toList := by
  obtain ⟨b, off, e, h1, h2⟩ := h (by omega)
  exact ⟨b, off, e, h1, h2 j hj⟩
end
theorem cellsStep : Tryz.prog.cellsOf 45 = 6 := by kernel_rfl
theorem cellsInt10 : Tryz.prog.cellsOf 3 = 1 := by kernel_rfl
theorem cellsWord10 : Tryz.prog.cellsOf 43 = 1 := by kernel_rfl
section
variable {H : Type} {enc : TypeId × Value → H} {w : World} {base : Nat} {spare : Nat → Bool} {held : Bool}
/-- The numbers of a step are numbers of their kinds. -/
def StOk (y : Stp) : Prop := (Lit.int .i64 y.1).wf = true ∧ (Lit.int .u64 y.2.1).wf = true ∧ (Lit.int .i64 y.2.2.1).wf = true ∧ (Lit.int .u64 y.2.2.2.1).wf = true ∧ (Lit.int .i64 y.2.2.2.2.1).wf = true ∧ (Lit.int .i64 y.2.2.2.2.2).wf = true
theorem step_cells {fuel : Nat} {cs : List Value} {x : DataW H × List MemPlace} (h : DataW.trod enc Tryz.prog w base spare held fuel 45 cs = some x) : ∃ y : Stp, cs = (stc y).toList ∧ StOk y := by
  obtain ⟨xs, n, _, _, hlen, hxl, hg⟩ := DataW.trod_struct Tryz.underlying45 h
  rw [cellsStep] at hlen
  match cs, hlen with
  | [c0, c1, c2, c3, c4, c5], _ =>
    have hs : xs.length = 6 := hxl
    have g0 : DataW.trod enc Tryz.prog w base spare held n 3 [c0] = some (xs[0]'(by omega)) := by
      rw [← List.getElem?_eq_getElem]
      have e : ([c0, c1, c2, c3, c4, c5].drop 0).take (Tryz.prog.cellsOf 3) = [c0] := by rw [cellsInt10]; rfl
      rw [← e]
      exact hg 0 _ rfl
    have g1 : DataW.trod enc Tryz.prog w base spare held n 43 [c1] = some (xs[1]'(by omega)) := by
      rw [← List.getElem?_eq_getElem]
      have e : ([c0, c1, c2, c3, c4, c5].drop 1).take (Tryz.prog.cellsOf 43) = [c1] := by rw [cellsWord10]; rfl
      rw [← e]
      exact hg 1 _ rfl
    have g2 : DataW.trod enc Tryz.prog w base spare held n 3 [c2] = some (xs[2]'(by omega)) := by
      rw [← List.getElem?_eq_getElem]
      have e : ([c0, c1, c2, c3, c4, c5].drop 2).take (Tryz.prog.cellsOf 3) = [c2] := by rw [cellsInt10]; rfl
      rw [← e]
      exact hg 2 _ rfl
    have g3 : DataW.trod enc Tryz.prog w base spare held n 43 [c3] = some (xs[3]'(by omega)) := by
      rw [← List.getElem?_eq_getElem]
      have e : ([c0, c1, c2, c3, c4, c5].drop 3).take (Tryz.prog.cellsOf 43) = [c3] := by rw [cellsWord10]; rfl
      rw [← e]
      exact hg 3 _ rfl
    have g4 : DataW.trod enc Tryz.prog w base spare held n 3 [c4] = some (xs[4]'(by omega)) := by
      rw [← List.getElem?_eq_getElem]
      have e : ([c0, c1, c2, c3, c4, c5].drop 4).take (Tryz.prog.cellsOf 3) = [c4] := by rw [cellsInt10]; rfl
      rw [← e]
      exact hg 4 _ rfl
    have g5 : DataW.trod enc Tryz.prog w base spare held n 3 [c5] = some (xs[5]'(by omega)) := by
      rw [← List.getElem?_eq_getElem]
      have e : ([c0, c1, c2, c3, c4, c5].drop 5).take (Tryz.prog.cellsOf 3) = [c5] := by rw [cellsInt10]; rfl
      rw [← e]
      exact hg 5 _ rfl
    obtain ⟨r0, e0, _, h0⟩ := DataW.trod_int Tryz.underlying3 g0
    obtain ⟨r1, e1, _, h1⟩ := DataW.trod_int Tryz.underlying43 g1
    obtain ⟨r2, e2, _, h2⟩ := DataW.trod_int Tryz.underlying3 g2
    obtain ⟨r3, e3, _, h3⟩ := DataW.trod_int Tryz.underlying43 g3
    obtain ⟨r4, e4, _, h4⟩ := DataW.trod_int Tryz.underlying3 g4
    obtain ⟨r5, e5, _, h5⟩ := DataW.trod_int Tryz.underlying3 g5
    simp only [List.cons.injEq, and_true] at e0 e1 e2 e3 e4 e5
    subst e0 e1 e2 e3 e4 e5
    exact ⟨(r0, r1, r2, r3, r4, r5), rfl, h0, h1, h2, h3, h4, h5⟩
end
/-- A slice of steps that came in, opened: nil let in. -/
theorem open_steps {H : Type} {enc : TypeId × Value → H} {W : World} {base : Nat} {v : Value} {d : DataW H} {p : List MemPlace}
    (hv : Value.okWide Tryz.prog W .any base 22 v) (h : DataW.Trod enc Tryz.prog W 0 (fun _ => true) true 22 v d p) (hlt : ∀ x ∈ p, x.block < W.heap.size) :
    ∃ (a : Option Addr) (n cap : Nat) (y : Nat → Stp), v = .slice a n cap ∧ n ≤ 9223372036854775807 ∧ Stps W W.heap.size a n y ∧ ∀ j, j < n → StOk (y j) := by
  obtain ⟨a, n, cap, rfl⟩ := okWide_slice Tryz.underlying22 hv
  obtain ⟨fuel, hf⟩ := h
  rcases open_slice Tryz.underlying22 hf with ⟨hcs, _⟩ | ⟨ad, len, cap', m, n', D, Pl, hcs, _, hl, hm, hmm, hx, hi⟩
  · simp [Value.cells] at hcs
    obtain ⟨rfl, rfl, rfl⟩ := hcs
    exact ⟨none, 0, 0, fun _ => (0, 0, 0, 0, 0, 0), rfl, by omega, fun h => absurd h (by omega), fun j hj => absurd hj (by omega)⟩
  · simp [Value.cells] at hcs
    obtain ⟨rfl, rfl, rfl⟩ := hcs
    simp only [if_true] at hmm
    subst hmm
    rw [cellsStep] at hi hx
    have hall : ∀ j, j < n → ∃ y : Stp, W.cells? 0 (ad.add (j * 6)) 6 = some (stc y).toList ∧ StOk y := fun j hj => by
      obtain ⟨cs', hc, ht⟩ := hi j (by omega)
      obtain ⟨y, rfl, hy⟩ := step_cells ht
      exact ⟨y, hc, hy⟩
    refine ⟨some ad, n, _, fun j => if hj : j < n then (hall j hj).choose else (0, 0, 0, 0, 0, 0), rfl, by unfold maxLen at hm; omega, fun hn => ?_, fun j hj => ?_⟩
    · obtain ⟨b, off, spot⟩ := ad
      have h0 := (hall 0 hn).choose_spec.1
      have hspot : spot = none := by
        have := (World.cells?_some h0).2.2 0 (by omega)
        have h2 : W.cell? ((⟨b, off, spot⟩ : Addr).add (0 * 6) |>.add 0) = some (.int .i64 ((hall 0 hn).choose).1) := this
        simpa [Addr.add] using World.cell?_spot h2
      subst hspot
      refine ⟨b, off, rfl, hlt (.cell b off) ?_, fun j hj => ?_⟩
      · simp only [Prod.mk.injEq] at hx
        rw [hx.2]
        exact List.mem_append_left _ (MemPlace.mem_row.2 ⟨0, by omega, by simp⟩)
      · show W.rangeAt b (off + j * 6) (stc (if hj : j < n then (hall j hj).choose else (0, 0, 0, 0, 0, 0))).toList
        rw [dif_pos hj]
        have hc := (World.cells?_some (hall j hj).choose_spec.1).2.2
        intro i v hv
        have hi6 : i < 6 := by have := (List.getElem?_eq_some_iff.1 hv).1; simpa [stc] using this
        have e : ((⟨b, off, none⟩ : Addr).add (j * 6)).add i = ⟨b, off + j * 6 + i, none⟩ := by rw [add_plain, add_plain]
        rw [← e]
        exact (hc i hi6).trans hv
    · show StOk (if hj : j < n then (hall j hj).choose else (0, 0, 0, 0, 0, 0))
      rw [dif_pos hj]
      exact (hall j hj).choose_spec.2
/-- A step by value, opened. -/
theorem open_step {H : Type} {enc : TypeId × Value → H} {W : World} {base : Nat} {v : Value} {d : DataW H} {p : List MemPlace}
    (hv : Value.okWide Tryz.prog W .any base 45 v) (h : DataW.Trod enc Tryz.prog W 0 (fun _ => true) true 45 v d p) : ∃ y : Stp, v = .agg (stc y) ∧ StOk y := by
  obtain ⟨cs, rfl, _⟩ := okWide_struct Tryz.underlying45 hv
  obtain ⟨fuel, hf⟩ := h
  obtain ⟨y, e, hy⟩ := step_cells hf
  refine ⟨y, ?_, hy⟩
  congr 1
  have e' : cs.toList = (stc y).toList := e
  exact Array.toList_inj.1 e'
end Go.Proofs.YtdbjaaalngbpgaaGreat
