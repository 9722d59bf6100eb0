/- Arguments that are looks, or slices of them, opened. -/
import Derived.Test.YtmkikelbllejjaaMemDuo
import Derived.WideShapes
import Derived.ChangeArms
namespace Go.Proofs.Ytmkikelbllejjaa
open Go.RowKit Go.ChangeShapes Go.WideShapes Go.ChangeAt Go.Deep

theorem cellsLook : Try.prog.cellsOf 34 = 4 := by kernel_rfl
theorem cellsInt3 : Try.prog.cellsOf 3 = 1 := by kernel_rfl
theorem cellsBool3 : Try.prog.cellsOf 4 = 1 := by kernel_rfl
section
variable {H : Type} {enc : TypeId × Value → H} {w : World} {base : Nat} {spare : Nat → Bool} {held : Bool}
/-- The numbers of a look are numbers of their kinds. -/
def LkOk (y : Lk) : Prop := (Lit.int .i64 y.1).wf = true ∧ (Lit.int .i64 y.2.1).wf = true ∧ (Lit.int .u64 y.2.2.1).wf = true
theorem look_cells {fuel : Nat} {cs : List Value} {x : DataW H × List MemPlace} (h : DataW.trod enc Try.prog w base spare held fuel 34 cs = some x) : ∃ y : Lk, cs = (lkc y).toList ∧ LkOk y := by
  obtain ⟨xs, n, _, _, hlen, hxl, hg⟩ := DataW.trod_struct Try.underlying34 h
  rw [cellsLook] at hlen
  match cs, hlen with
  | [c0, c1, c2, c3], _ =>
    have hs : xs.length = 4 := hxl
    have g0 : DataW.trod enc Try.prog w base spare held n 3 [c0] = some (xs[0]'(by omega)) := by
      rw [← List.getElem?_eq_getElem]
      have e : ([c0, c1, c2, c3].drop 0).take (Try.prog.cellsOf 3) = [c0] := by rw [cellsInt3]; rfl
      rw [← e]
      exact hg 0 _ rfl
    have g1 : DataW.trod enc Try.prog w base spare held n 3 [c1] = some (xs[1]'(by omega)) := by
      rw [← List.getElem?_eq_getElem]
      have e : ([c0, c1, c2, c3].drop 1).take (Try.prog.cellsOf 3) = [c1] := by rw [cellsInt3]; rfl
      rw [← e]
      exact hg 1 _ rfl
    have g2 : DataW.trod enc Try.prog w base spare held n 32 [c2] = some (xs[2]'(by omega)) := by
      rw [← List.getElem?_eq_getElem]
      have e : ([c0, c1, c2, c3].drop 2).take (Try.prog.cellsOf 32) = [c2] := by rw [cellsWord]; rfl
      rw [← e]
      exact hg 2 _ rfl
    have g3 : DataW.trod enc Try.prog w base spare held n 4 [c3] = some (xs[3]'(by omega)) := by
      rw [← List.getElem?_eq_getElem]
      have e : ([c0, c1, c2, c3].drop 3).take (Try.prog.cellsOf 4) = [c3] := by rw [cellsBool3]; rfl
      rw [← e]
      exact hg 3 _ rfl
    obtain ⟨r, e0, _, h0⟩ := DataW.trod_int Try.underlying3 g0
    obtain ⟨a, e1, _, h1⟩ := DataW.trod_int Try.underlying3 g1
    obtain ⟨m, e2, _, h2⟩ := DataW.trod_int Try.underlying32 g2
    obtain ⟨b, e3, _⟩ := DataW.trod_bool Try.underlying4 g3
    simp only [List.cons.injEq, and_true] at e0 e1 e2 e3
    subst e0 e1 e2 e3
    exact ⟨(r, a, m, b), rfl, h0, h1, h2⟩
end
/-- A slice of looks that came in, opened: nil let in. -/
theorem open_looks {H : Type} {enc : TypeId × Value → H} {W : World} {base : Nat} {v : Value} {d : DataW H} {p : List MemPlace}
    (hv : Value.okWide Try.prog W .any base 23 v) (h : DataW.Trod enc Try.prog W 0 (fun _ => true) true 23 v d p) (hlt : ∀ x ∈ p, x.block < W.heap.size) :
    ∃ (a : Option Addr) (n cap : Nat) (y : Nat → Lk), v = .slice a n cap ∧ n ≤ 9223372036854775807 ∧ Looks W W.heap.size a n y ∧ ∀ j, j < n → LkOk (y j) := by
  obtain ⟨a, n, cap, rfl⟩ := okWide_slice Try.underlying23 hv
  obtain ⟨fuel, hf⟩ := h
  rcases open_slice Try.underlying23 hf with ⟨hcs, _⟩ | ⟨ad, len, cap', m, n', D, Pl, hcs, _, hl, hm, hmm, hx, hi⟩
  · simp [Value.cells] at hcs
    obtain ⟨rfl, rfl, rfl⟩ := hcs
    exact ⟨none, 0, 0, fun _ => (0, 0, 0, false), rfl, by omega, fun h => absurd h (by omega), fun j hj => absurd hj (by omega)⟩
  · simp [Value.cells] at hcs
    obtain ⟨rfl, rfl, rfl⟩ := hcs
    simp only [if_true] at hmm
    subst hmm
    rw [cellsLook] at hi hx
    have hall : ∀ j, j < n → ∃ y : Lk, W.cells? 0 (ad.add (j * 4)) 4 = some (lkc y).toList ∧ LkOk y := fun j hj => by
      obtain ⟨cs', hc, ht⟩ := hi j (by omega)
      obtain ⟨y, rfl, hy⟩ := look_cells ht
      exact ⟨y, hc, hy⟩
    refine ⟨some ad, n, _, fun j => if hj : j < n then (hall j hj).choose else (0, 0, 0, false), rfl, by unfold maxLen at hm; omega, fun hn => ?_, fun j hj => ?_⟩
    · obtain ⟨b, off, spot⟩ := ad
      have h0 := (hall 0 hn).choose_spec.1
      have hspot : spot = none := by
        have := (World.cells?_some h0).2.2 0 (by omega)
        have h2 : W.cell? ((⟨b, off, spot⟩ : Addr).add (0 * 4) |>.add 0) = some (.int .i64 ((hall 0 hn).choose).1) := this
        simpa [Addr.add] using World.cell?_spot h2
      subst hspot
      refine ⟨b, off, rfl, hlt (.cell b off) ?_, fun j hj => ?_⟩
      · simp only [Prod.mk.injEq] at hx
        rw [hx.2]
        exact List.mem_append_left _ (MemPlace.mem_row.2 ⟨0, by omega, by simp⟩)
      · show W.rangeAt b (off + j * 4) (lkc (if hj : j < n then (hall j hj).choose else (0, 0, 0, false))).toList
        rw [dif_pos hj]
        have hc := (World.cells?_some (hall j hj).choose_spec.1).2.2
        intro i v hv
        have hi4 : i < 4 := by have := (List.getElem?_eq_some_iff.1 hv).1; simpa [lkc] using this
        have e : ((⟨b, off, none⟩ : Addr).add (j * 4)).add i = ⟨b, off + j * 4 + i, none⟩ := by rw [add_plain, add_plain]
        rw [← e]
        exact (hc i hi4).trans hv
    · show LkOk (if hj : j < n then (hall j hj).choose else (0, 0, 0, false))
      rw [dif_pos hj]
      exact (hall j hj).choose_spec.2
/-- A look by value, opened. -/
theorem open_look {H : Type} {enc : TypeId × Value → H} {W : World} {base : Nat} {v : Value} {d : DataW H} {p : List MemPlace}
    (hv : Value.okWide Try.prog W .any base 34 v) (h : DataW.Trod enc Try.prog W 0 (fun _ => true) true 34 v d p) : ∃ y : Lk, v = .agg (lkc y) ∧ LkOk y := by
  obtain ⟨cs, rfl, _⟩ := okWide_struct Try.underlying34 hv
  obtain ⟨fuel, hf⟩ := h
  obtain ⟨y, e, hy⟩ := look_cells hf
  refine ⟨y, ?_, hy⟩
  congr 1
  have e' : cs.toList = (lkc y).toList := e
  exact Array.toList_inj.1 e'
end Go.Proofs.Ytmkikelbllejjaa
