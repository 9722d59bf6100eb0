import Derived.Deep.Slices
import Derived.Deep.Fields
import Derived.ChangeSame
import Derived.WideShapes
import Derived.ChangeArms
import Derived.Test.YtknnebhjldfkhaaGreatG17
import Derived.Test.YtknnebhjldfkhaaGreatG49
namespace Go.Proofs.YtknnebhjldfkhaaGreat
set_option maxRecDepth 100000
open Go.RowKit Go.ChangeShapes Go.WideShapes Go.ChangeAt Go.Deep

def Duo (w : World) (X : Nat → Prop) (p : Nat) (M : MS) (q : Nat) (N : MS) : Prop := ∃ G, Own w (fun i => X i ∨ G i) p M ∧ Mm w q G N ∧ ∀ i, G i → ¬ X i
section
variable {w w' : World} {X Y : Nat → Prop} {p q : Nat} {M N : MS}
end
section
variable (X : Nat → Prop) (p q : Nat) (M N : MS) (w : World)
end
abbrev Lk := Int × Int × Int × Bool
section
variable {W w1 w2 : World} {X : Nat → Prop} {xb : Nat} {x : Lk}
end
end Go.Proofs.YtknnebhjldfkhaaGreat


namespace Go.Proofs.YtknnebhjldfkhaaGreat
set_option maxRecDepth 100000
open Go.RowKit Go.ChangeShapes Go.WideShapes Go.ChangeAt Go.Deep

abbrev Sp3 := Int × Int × Int
def s3c (y : Sp3) : Array Value := #[.int .i64 y.1, .int .u64 y.2.1, .int .u64 y.2.2]
def Sps3 (w : World) (B : Nat) (a : Option Addr) (n : Nat) (y : Nat → Sp3) : Prop := 0 < n → ∃ b off, a = some ⟨b, off, none⟩ ∧ b < B ∧ ∀ j, j < n → w.rangeAt b (off + j * 3) (s3c (y j)).toList
section
variable {w w' : World} {B B' : Nat} {a : Option Addr} {n : Nat} {y : Nat → Sp3}
theorem Sps3.below (h : Sps3 w B a n y) (hb : Below B w w') : Sps3 w' B a n y := fun hn => by
 obtain ⟨b, off, e, h1, h2⟩ := h hn
 exact ⟨b, off, e, h1, fun j hj i v hv => (hb.cell (p := ⟨b, off + j * 3 + i, none⟩) h1).trans (h2 j hj i v hv)⟩
theorem Sps3.at (h : Sps3 w B a n y) {j : Nat} (hj : j < n) : ∃ b off, a = some ⟨b, off, none⟩ ∧ b < B ∧ w.rangeAt b (off + j * 3) (s3c (y j)).toList := by
 obtain ⟨b, off, e, h1, h2⟩ := h (by omega)
 exact ⟨b, off, e, h1, h2 j hj⟩
end
theorem cellsStep3 : Tryz.prog.cellsOf 96 = 3 := by kernel_rfl
theorem cellsInt11 : Tryz.prog.cellsOf 3 = 1 := by kernel_rfl
theorem cellsWord11 : Tryz.prog.cellsOf 43 = 1 := by kernel_rfl
section
variable {H : Type} {enc : TypeId × Value → H} {w : World} {base : Nat} {spare : Nat → Bool} {held : Bool}
def Sp3Ok (y : Sp3) : Prop := (Lit.int .i64 y.1).wf = true ∧ (Lit.int .u64 y.2.1).wf = true ∧ (Lit.int .u64 y.2.2).wf = true
theorem step3_cells {fuel : Nat} {cs : List Value} {x : DataW H × List MemPlace} (h : DataW.trod enc Tryz.prog w base spare held fuel 96 cs = some x) : ∃ y : Sp3, cs = (s3c y).toList ∧ Sp3Ok y := by
 obtain ⟨xs, n, _, _, hlen, hxl, hg⟩ := DataW.trod_struct Tryz.underlying96 h
 rw [cellsStep3] at hlen
 match cs, hlen with
 | [c0, c1, c2], _ =>
  have hs : xs.length = 3 := hxl
  have g0 : DataW.trod enc Tryz.prog w base spare held n 3 [c0] = some (xs[0]'(by omega)) := by
   rw [← List.getElem?_eq_getElem]
   have e : ([c0, c1, c2].drop 0).take (Tryz.prog.cellsOf 3) = [c0] := by rw [cellsInt11]; rfl
   rw [← e]
   exact hg 0 _ rfl
  have g1 : DataW.trod enc Tryz.prog w base spare held n 43 [c1] = some (xs[1]'(by omega)) := by
   rw [← List.getElem?_eq_getElem]
   have e : ([c0, c1, c2].drop 1).take (Tryz.prog.cellsOf 43) = [c1] := by rw [cellsWord11]; rfl
   rw [← e]
   exact hg 1 _ rfl
  have g2 : DataW.trod enc Tryz.prog w base spare held n 43 [c2] = some (xs[2]'(by omega)) := by
   rw [← List.getElem?_eq_getElem]
   have e : ([c0, c1, c2].drop 2).take (Tryz.prog.cellsOf 43) = [c2] := by rw [cellsWord11]; rfl
   rw [← e]
   exact hg 2 _ rfl
  obtain ⟨r0, e0, _, h0⟩ := DataW.trod_int Tryz.underlying3 g0
  obtain ⟨r1, e1, _, h1⟩ := DataW.trod_int Tryz.underlying43 g1
  obtain ⟨r2, e2, _, h2⟩ := DataW.trod_int Tryz.underlying43 g2
  simp only [List.cons.injEq, and_true] at e0 e1 e2
  subst e0 e1 e2
  exact ⟨(r0, r1, r2), rfl, h0, h1, h2⟩
end
theorem open_steps3 {H : Type} {enc : TypeId × Value → H} {W : World} {base : Nat} {v : Value} {d : DataW H} {p : List MemPlace}
  (hv : Value.okWide Tryz.prog W .any base 77 v) (h : DataW.Trod enc Tryz.prog W 0 (fun _ => true) true 77 v d p) (hlt : ∀ x ∈ p, x.block < W.heap.size) :
  ∃ (a : Option Addr) (n cap : Nat) (y : Nat → Sp3), v = .slice a n cap ∧ n ≤ 9223372036854775807 ∧ Sps3 W W.heap.size a n y ∧ ∀ j, j < n → Sp3Ok (y j) := by
 obtain ⟨a, n, cap, rfl⟩ := okWide_slice Tryz.underlying77 hv
 obtain ⟨fuel, hf⟩ := h
 rcases open_slice Tryz.underlying77 hf with ⟨hcs, _⟩ | ⟨ad, len, cap', m, n', D, Pl, hcs, _, hl, hm, hmm, hx, hi⟩
 ·simp [Value.cells] at hcs
  obtain ⟨rfl, rfl, rfl⟩ := hcs
  exact ⟨none, 0, 0, fun _ => (0, 0, 0), rfl, by omega, fun h => absurd h (by omega), fun j hj => absurd hj (by omega)⟩
 ·simp [Value.cells] at hcs
  obtain ⟨rfl, rfl, rfl⟩ := hcs
  simp only [if_true] at hmm
  subst hmm
  rw [cellsStep3] at hi hx
  have hall : ∀ j, j < n → ∃ y : Sp3, W.cells? 0 (ad.add (j * 3)) 3 = some (s3c y).toList ∧ Sp3Ok y := fun j hj => by
   obtain ⟨cs', hc, ht⟩ := hi j (by omega)
   obtain ⟨y, rfl, hy⟩ := step3_cells ht
   exact ⟨y, hc, hy⟩
  refine ⟨some ad, n, _, fun j => if hj : j < n then (hall j hj).choose else (0, 0, 0), rfl, by unfold maxLen at hm; omega, fun hn => ?_, fun j hj => ?_⟩
  ·obtain ⟨b, off, spot⟩ := ad
   have h0 := (hall 0 hn).choose_spec.1
   have hspot : spot = none := by
    have := (World.cells?_some h0).2.2 0 (by omega)
    have h2 : W.cell? ((⟨b, off, spot⟩ : Addr).add (0 * 3) |>.add 0) = some (.int .i64 ((hall 0 hn).choose).1) := this
    simpa [Addr.add] using World.cell?_spot h2
   subst hspot
   refine ⟨b, off, rfl, hlt (.cell b off) ?_, fun j hj => ?_⟩
   ·simp only [Prod.mk.injEq] at hx
    rw [hx.2]
    exact List.mem_append_left _ (MemPlace.mem_row.2 ⟨0, by omega, by simp⟩)
   ·show W.rangeAt b (off + j * 3) (s3c (if hj : j < n then (hall j hj).choose else (0, 0, 0))).toList
    rw [dif_pos hj]
    have hc := (World.cells?_some (hall j hj).choose_spec.1).2.2
    intro i v hv
    have hi6 : i < 3 := by have := (List.getElem?_eq_some_iff.1 hv).1; simpa [s3c] using this
    have e : ((⟨b, off, none⟩ : Addr).add (j * 3)).add i = ⟨b, off + j * 3 + i, none⟩ := by rw [add_plain, add_plain]
    rw [← e]
    exact (hc i hi6).trans hv
  ·show Sp3Ok (if hj : j < n then (hall j hj).choose else (0, 0, 0))
   rw [dif_pos hj]
   exact (hall j hj).choose_spec.2
end Go.Proofs.YtknnebhjldfkhaaGreat

