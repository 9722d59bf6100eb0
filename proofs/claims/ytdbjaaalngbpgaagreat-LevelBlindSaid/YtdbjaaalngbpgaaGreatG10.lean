/- Texts of ours put together: DealItem. -/
import Derived.Test.YtdbjaaalngbpgaaGreatProg
import Derived.WideShapes
import Derived.ChangeArms
import Derived.Deep.Slices
import Derived.Test.YtdbjaaalngbpgaaGreatG8
import Derived.Test.YtdbjaaalngbpgaaGreatG6
/- Slices of items in memory; arguments that are items' slices, or shapes, opened. -/
namespace Go.Proofs.YtdbjaaalngbpgaaGreat
set_option maxRecDepth 100000
open Go.RowKit Go.ChangeShapes Go.WideShapes Go.ChangeAt Go.Deep

/-- An item's cells. -/
def itc (y : It) : Array Value := #[.int .u64 y.1, .int .i64 y.2]
/-- A slice of items: where it has elements it lies below block B. -/
def Its (w : World) (B : Nat) (a : Option Addr) (n : Nat) (y : Nat → It) : Prop :=
  0 < n → ∃ b off, a = some ⟨b, off, none⟩ ∧ b < B ∧ ∀ j, j < n → w.cell? ⟨b, off + j * 2, none⟩ = some (.int .u64 (y j).1) ∧ w.cell? ⟨b, off + j * 2 + 1, none⟩ = some (.int .i64 (y j).2)
section
variable {w w' : World} {B B' : Nat} {a : Option Addr} {n : Nat} {y : Nat → It}
theorem Its.below (h : Its w B a n y) (hb : Below B w w') : Its w' B a n y := fun hn => by
  obtain ⟨b, off, e, hB, hc⟩ := h hn
  exact ⟨b, off, e, hB, fun j hj => ⟨(hb.cell (p := ⟨b, off + j * 2, none⟩) hB).trans (hc j hj).1, (hb.cell (p := ⟨b, off + j * 2 + 1, none⟩) hB).trans (hc j hj).2⟩⟩
theorem Its.more (h : Its w B a n y) (hB : B ≤ B') : Its w B' a n y := fun hn => by
  obtain ⟨b, off, e, hb, hc⟩ := h hn
  exact ⟨b, off, e, by omega, hc⟩
theorem Its.at (h : Its w B a n y) {j : Nat} (hj : j < n) : ∃ b off, a = some ⟨b, off, none⟩ ∧ b < B ∧ w.cell? ⟨b, off + j * 2, none⟩ = some (.int .u64 (y j).1) ∧ w.cell? ⟨b, off + j * 2 + 1, none⟩ = some (.int .i64 (y j).2) := by
  obtain ⟨b, off, e, hb, hc⟩ := h (by omega)
  exact ⟨b, off, e, hb, hc j hj⟩
theorem Its.congr (h : Its w B a n y) {z : Nat → It} (e : ∀ j, j < n → y j = z j) : Its w B a n z := fun hn => by
  obtain ⟨b, off, ea, hb, hc⟩ := h hn
  exact ⟨b, off, ea, hb, fun j hj => by rw [← e j hj]; exact hc j hj⟩
theorem Its.drewN (h : Its w B a n y) (k : Nat) : Its (w.drewN k) B a n y := h
end
/-- The numbers of an item are numbers of their kinds. -/
def ItOk (y : It) : Prop := (Lit.int .u64 y.1).wf = true ∧ (Lit.int .i64 y.2).wf = true

theorem cellsItem : Tryz.prog.cellsOf 157 = 2 := by kernel_rfl
theorem cellsInt9 : Tryz.prog.cellsOf 3 = 1 := by kernel_rfl
theorem cellsWord9 : Tryz.prog.cellsOf 43 = 1 := by kernel_rfl
theorem cellsShape : Tryz.prog.cellsOf 130 = 3 := by kernel_rfl
section
variable {H : Type} {enc : TypeId × Value → H} {w : World} {base : Nat} {spare : Nat → Bool} {held : Bool}
theorem item_cells {fuel : Nat} {cs : List Value} {x : DataW H × List MemPlace} (h : DataW.trod enc Tryz.prog w base spare held fuel 157 cs = some x) : ∃ y : It, cs = (itc y).toList ∧ ItOk y := by
  obtain ⟨xs, n, _, _, hlen, hxl, hg⟩ := DataW.trod_struct Tryz.underlying157 h
  rw [cellsItem] at hlen
  match cs, hlen with
  | [c0, c1], _ =>
    have hs : xs.length = 2 := hxl
    have g0 : DataW.trod enc Tryz.prog w base spare held n 43 [c0] = some (xs[0]'(by omega)) := by
      rw [← List.getElem?_eq_getElem]
      have e : ([c0, c1].drop 0).take (Tryz.prog.cellsOf 43) = [c0] := by rw [cellsWord9]; rfl
      rw [← e]
      exact hg 0 _ rfl
    have g1 : DataW.trod enc Tryz.prog w base spare held n 3 [c1] = some (xs[1]'(by omega)) := by
      rw [← List.getElem?_eq_getElem]
      have e : ([c0, c1].drop 1).take (Tryz.prog.cellsOf 3) = [c1] := by rw [cellsInt9]; rfl
      rw [← e]
      exact hg 1 _ rfl
    obtain ⟨r, e0, _, h0⟩ := DataW.trod_int Tryz.underlying43 g0
    obtain ⟨a, e1, _, h1⟩ := DataW.trod_int Tryz.underlying3 g1
    simp only [List.cons.injEq, and_true] at e0 e1
    subst e0 e1
    exact ⟨(r, a), rfl, h0, h1⟩
theorem shape_cells {fuel : Nat} {cs : List Value} {x : DataW H × List MemPlace} (h : DataW.trod enc Tryz.prog w base spare held fuel 130 cs = some x) :
    ∃ D S T : Int, cs = [.int .i64 D, .int .i64 S, .int .i64 T] ∧ (Lit.int .i64 D).wf = true ∧ (Lit.int .i64 S).wf = true ∧ (Lit.int .i64 T).wf = true := by
  obtain ⟨xs, n, _, _, hlen, hxl, hg⟩ := DataW.trod_struct Tryz.underlying130 h
  rw [cellsShape] at hlen
  match cs, hlen with
  | [c0, c1, c2], _ =>
    have hs : xs.length = 3 := hxl
    have g0 : DataW.trod enc Tryz.prog w base spare held n 3 [c0] = some (xs[0]'(by omega)) := by
      rw [← List.getElem?_eq_getElem]
      have e : ([c0, c1, c2].drop 0).take (Tryz.prog.cellsOf 3) = [c0] := by rw [cellsInt9]; rfl
      rw [← e]
      exact hg 0 _ rfl
    have g1 : DataW.trod enc Tryz.prog w base spare held n 3 [c1] = some (xs[1]'(by omega)) := by
      rw [← List.getElem?_eq_getElem]
      have e : ([c0, c1, c2].drop 1).take (Tryz.prog.cellsOf 3) = [c1] := by rw [cellsInt9]; rfl
      rw [← e]
      exact hg 1 _ rfl
    have g2 : DataW.trod enc Tryz.prog w base spare held n 3 [c2] = some (xs[2]'(by omega)) := by
      rw [← List.getElem?_eq_getElem]
      have e : ([c0, c1, c2].drop 2).take (Tryz.prog.cellsOf 3) = [c2] := by rw [cellsInt9]; rfl
      rw [← e]
      exact hg 2 _ rfl
    obtain ⟨r, e0, _, h0⟩ := DataW.trod_int Tryz.underlying3 g0
    obtain ⟨a, e1, _, h1⟩ := DataW.trod_int Tryz.underlying3 g1
    obtain ⟨m, e2, _, h2⟩ := DataW.trod_int Tryz.underlying3 g2
    simp only [List.cons.injEq, and_true] at e0 e1 e2
    subst e0 e1 e2
    exact ⟨r, a, m, rfl, h0, h1, h2⟩
end
/-- A slice of items that came in, opened: nil let in. -/
theorem open_items {H : Type} {enc : TypeId × Value → H} {W : World} {base : Nat} {v : Value} {d : DataW H} {p : List MemPlace}
    (hv : Value.okWide Tryz.prog W .any base 137 v) (h : DataW.Trod enc Tryz.prog W 0 (fun _ => true) true 137 v d p) (hlt : ∀ x ∈ p, x.block < W.heap.size) :
    ∃ (a : Option Addr) (n cap : Nat) (y : Nat → It), v = .slice a n cap ∧ n ≤ 9223372036854775807 ∧ Its W W.heap.size a n y ∧ ∀ j, j < n → ItOk (y j) := by
  obtain ⟨a, n, cap, rfl⟩ := okWide_slice Tryz.underlying137 hv
  obtain ⟨fuel, hf⟩ := h
  rcases open_slice Tryz.underlying137 hf with ⟨hcs, _⟩ | ⟨ad, len, cap', m, n', D, Pl, hcs, _, hl, hm, hmm, hx, hi⟩
  · simp [Value.cells] at hcs
    obtain ⟨rfl, rfl, rfl⟩ := hcs
    exact ⟨none, 0, 0, fun _ => (0, 0), rfl, by omega, fun h => absurd h (by omega), fun j hj => absurd hj (by omega)⟩
  · simp [Value.cells] at hcs
    obtain ⟨rfl, rfl, rfl⟩ := hcs
    simp only [if_true] at hmm
    subst hmm
    rw [cellsItem] at hi hx
    have hall : ∀ j, j < n → ∃ y : It, W.cells? 0 (ad.add (j * 2)) 2 = some (itc y).toList ∧ ItOk y := fun j hj => by
      obtain ⟨cs', hc, ht⟩ := hi j (by omega)
      obtain ⟨y, rfl, hy⟩ := item_cells ht
      exact ⟨y, hc, hy⟩
    refine ⟨some ad, n, _, fun j => if hj : j < n then (hall j hj).choose else (0, 0), rfl, by unfold maxLen at hm; omega, fun hn => ?_, fun j hj => ?_⟩
    · obtain ⟨b, off, spot⟩ := ad
      have h0 := (hall 0 hn).choose_spec.1
      have hspot : spot = none := by
        have := (World.cells?_some h0).2.2 0 (by omega)
        have h2 : W.cell? ((⟨b, off, spot⟩ : Addr).add (0 * 2) |>.add 0) = some (.int .u64 ((hall 0 hn).choose).1) := this
        simpa [Addr.add] using World.cell?_spot h2
      subst hspot
      refine ⟨b, off, rfl, hlt (.cell b off) ?_, fun j hj => ?_⟩
      · simp only [Prod.mk.injEq] at hx
        rw [hx.2]
        exact List.mem_append_left _ (MemPlace.mem_row.2 ⟨0, by omega, by simp⟩)
      · show W.cell? ⟨b, off + j * 2, none⟩ = some (.int .u64 (if hj : j < n then (hall j hj).choose else (0, 0)).1) ∧ W.cell? ⟨b, off + j * 2 + 1, none⟩ = some (.int .i64 (if hj : j < n then (hall j hj).choose else (0, 0)).2)
        rw [dif_pos hj]
        have hc := (World.cells?_some (hall j hj).choose_spec.1).2.2
        refine ⟨?_, ?_⟩
        · have e : ((⟨b, off, none⟩ : Addr).add (j * 2)).add 0 = ⟨b, off + j * 2, none⟩ := by rw [add_plain, add_plain]; rfl
          rw [← e]
          exact hc 0 (by omega)
        · have e : ((⟨b, off, none⟩ : Addr).add (j * 2)).add 1 = ⟨b, off + j * 2 + 1, none⟩ := by rw [add_plain, add_plain]
          rw [← e]
          exact hc 1 (by omega)
    · show ItOk (if hj : j < n then (hall j hj).choose else (0, 0))
      rw [dif_pos hj]
      exact (hall j hj).choose_spec.2
/-- A shape by value, opened. -/
theorem open_shape {H : Type} {enc : TypeId × Value → H} {W : World} {base : Nat} {v : Value} {d : DataW H} {p : List MemPlace}
    (hv : Value.okWide Tryz.prog W .any base 130 v) (h : DataW.Trod enc Tryz.prog W 0 (fun _ => true) true 130 v d p) : ∃ D S T : Int, v = .agg #[.int .i64 D, .int .i64 S, .int .i64 T] ∧ (Lit.int .i64 D).wf = true ∧ (Lit.int .i64 S).wf = true ∧ (Lit.int .i64 T).wf = true := by
  obtain ⟨cs, rfl, _⟩ := okWide_struct Tryz.underlying130 hv
  obtain ⟨fuel, hf⟩ := h
  obtain ⟨D, S, T, e, h1, h2, h3⟩ := shape_cells hf
  refine ⟨D, S, T, ?_, h1, h2, h3⟩
  congr 1
  have e' : cs.toList = [.int .i64 D, .int .i64 S, .int .i64 T] := e
  exact Array.toList_inj.1 e'
end Go.Proofs.YtdbjaaalngbpgaaGreat
