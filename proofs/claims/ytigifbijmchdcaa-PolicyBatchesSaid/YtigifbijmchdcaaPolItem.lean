/- Items of policy in memory: slices of them, opened; rows of them that grow. -/
import Derived.Test.YtigifbijmchdcaaHeap
import Derived.Test.YtigifbijmchdcaaAppend
import Derived.Test.YtigifbijmchdcaaProg
import Derived.Test.YtigifbijmchdcaaPolMath
import Derived.Test.YtigifbijmchdcaaRng
import Derived.WideShapes
import Derived.OpenShut
import Derived.ChangeArms
import Derived.Deep.Slices
namespace Go.Proofs.Ytigifbijmchdcaa
open Go.RowKit Go.ChangeShapes Go.WideShapes Go.ChangeAt Go.Deep

/-- An item's cells. -/
def pc (x : Pi) : List Value := [.int .i64 x.1, .int .u64 (x.2.1 : Int), .bool x.2.2]
theorem pc_len (x : Pi) : (pc x).length = 3 := rfl
theorem pc_one (x : Pi) : ∀ v ∈ pc x, v.oneCell' = true := by
  intro v hv
  simp only [pc, List.mem_cons, List.not_mem_nil, or_false] at hv
  rcases hv with rfl | rfl | rfl <;> rfl
/-- A slice of items: where it has elements it lies below block B. -/
def Pits (w : World) (B : Nat) (a : Option Addr) (n : Nat) (y : Nat → Pi) : Prop :=
  0 < n → ∃ b off, a = some ⟨b, off, none⟩ ∧ b < B ∧ ∀ j, j < n → w.cell? ⟨b, off + j * 3, none⟩ = some (.int .i64 (y j).1) ∧ w.cell? ⟨b, off + j * 3 + 1, none⟩ = some (.int .u64 ((y j).2.1 : Int)) ∧ w.cell? ⟨b, off + j * 3 + 2, none⟩ = some (.bool (y j).2.2)
section
variable {w w' : World} {B B' : Nat} {a : Option Addr} {n : Nat} {y : Nat → Pi}
theorem Pits.below (h : Pits w B a n y) (hb : Below B w w') : Pits w' B a n y := fun hn => by
  obtain ⟨b, off, e, hB, hc⟩ := h hn
  exact ⟨b, off, e, hB, fun j hj => ⟨(hb.cell (p := ⟨b, off + j * 3, none⟩) hB).trans (hc j hj).1, (hb.cell (p := ⟨b, off + j * 3 + 1, none⟩) hB).trans (hc j hj).2.1, (hb.cell (p := ⟨b, off + j * 3 + 2, none⟩) hB).trans (hc j hj).2.2⟩⟩
theorem Pits.more (h : Pits w B a n y) (hB : B ≤ B') : Pits w B' a n y := fun hn => by
  obtain ⟨b, off, e, hb, hc⟩ := h hn
  exact ⟨b, off, e, by omega, hc⟩
theorem Pits.at (h : Pits w B a n y) {j : Nat} (hj : j < n) : ∃ b off, a = some ⟨b, off, none⟩ ∧ b < B ∧ w.cell? ⟨b, off + j * 3, none⟩ = some (.int .i64 (y j).1) ∧ w.cell? ⟨b, off + j * 3 + 1, none⟩ = some (.int .u64 ((y j).2.1 : Int)) ∧ w.cell? ⟨b, off + j * 3 + 2, none⟩ = some (.bool (y j).2.2) := by
  obtain ⟨b, off, e, hb, hc⟩ := h (by omega)
  exact ⟨b, off, e, hb, hc j hj⟩
theorem Pits.congr (h : Pits w B a n y) {z : Nat → Pi} (e : ∀ j, j < n → y j = z j) : Pits w B a n z := fun hn => by
  obtain ⟨b, off, ea, hb, hc⟩ := h hn
  exact ⟨b, off, ea, hb, fun j hj => by rw [← e j hj]; exact hc j hj⟩
theorem Pits.drewN (h : Pits w B a n y) (k : Nat) : Pits (w.drewN k) B a n y := h
end
theorem cellsPit : Try.prog.cellsOf 29 = 3 := by kernel_rfl
theorem cellsInt16 : Try.prog.cellsOf 3 = 1 := by kernel_rfl
theorem cellsWord16 : Try.prog.cellsOf 26 = 1 := by kernel_rfl
theorem cellsBool16 : Try.prog.cellsOf 4 = 1 := by kernel_rfl
section
variable {H : Type} {enc : TypeId × Value → H} {w : World} {base : Nat} {spare : Nat → Bool} {held : Bool}
theorem pit_cells {fuel : Nat} {cs : List Value} {x : DataW H × List MemPlace} (h : DataW.trod enc Try.prog w base spare held fuel 29 cs = some x) : ∃ y : Pi, cs = pc y ∧ -9223372036854775808 ≤ y.1 ∧ y.1 ≤ 9223372036854775807 ∧ y.2.1 ≤ 18446744073709551615 := by
  obtain ⟨xs, n, _, _, hlen, hxl, hg⟩ := DataW.trod_struct Try.underlying29 h
  rw [cellsPit] at hlen
  match cs, hlen with
  | [c0, c1, c2], _ =>
    have hs : xs.length = 3 := hxl
    have g0 : DataW.trod enc Try.prog w base spare held n 3 [c0] = some (xs[0]'(by omega)) := by
      rw [← List.getElem?_eq_getElem]
      have e : ([c0, c1, c2].drop 0).take (Try.prog.cellsOf 3) = [c0] := by rw [cellsInt16]; rfl
      rw [← e]
      exact hg 0 _ rfl
    have g1 : DataW.trod enc Try.prog w base spare held n 26 [c1] = some (xs[1]'(by omega)) := by
      rw [← List.getElem?_eq_getElem]
      have e : ([c0, c1, c2].drop 1).take (Try.prog.cellsOf 26) = [c1] := by rw [cellsWord16]; rfl
      rw [← e]
      exact hg 1 _ rfl
    have g2 : DataW.trod enc Try.prog w base spare held n 4 [c2] = some (xs[2]'(by omega)) := by
      rw [← List.getElem?_eq_getElem]
      have e : ([c0, c1, c2].drop 2).take (Try.prog.cellsOf 4) = [c2] := by rw [cellsBool16]; rfl
      rw [← e]
      exact hg 2 _ rfl
    obtain ⟨r, e0, _, h0⟩ := DataW.trod_int Try.underlying3 g0
    obtain ⟨a, e1, _, h1⟩ := DataW.trod_int Try.underlying26 g1
    obtain ⟨b, e2, _⟩ := DataW.trod_bool Try.underlying4 g2
    simp only [List.cons.injEq, and_true] at e0 e1 e2
    have h1' := u64_rng h1
    have h0' := i64_rng h0
    refine ⟨(r, a.toNat, b), ?_, h0'.1, h0'.2, ?_⟩
    · rw [e0, e1, e2]
      simp only [pc]
      rw [show ((a.toNat : Nat) : Int) = a by omega]
    · show a.toNat ≤ _
      omega
end
/-- A slice of items that came in, opened: nil let in. -/
theorem open_pits {H : Type} {enc : TypeId × Value → H} {W : World} {base : Nat} {v : Value} {d : DataW H} {p : List MemPlace}
    (hv : Value.okWide Try.prog W .any base 22 v) (h : DataW.Trod enc Try.prog W 0 (fun _ => true) true 22 v d p) (hlt : ∀ x ∈ p, x.block < W.heap.size) :
    ∃ (a : Option Addr) (n cap : Nat) (y : Nat → Pi), v = .slice a n cap ∧ n ≤ 9223372036854775807 ∧ (a = none → n = 0 ∧ cap = 0) ∧ Pits W W.heap.size a n y ∧ ∀ j, j < n → -9223372036854775808 ≤ (y j).1 ∧ (y j).1 ≤ 9223372036854775807 ∧ (y j).2.1 ≤ 18446744073709551615 := by
  obtain ⟨a, n, cap, rfl⟩ := okWide_slice Try.underlying22 hv
  obtain ⟨fuel, hf⟩ := h
  rcases open_slice Try.underlying22 hf with ⟨hcs, _⟩ | ⟨ad, len, cap', m, n', D, Pl, hcs, _, hl, hm, hmm, hx, hi⟩
  · simp [Value.cells] at hcs
    obtain ⟨rfl, rfl, rfl⟩ := hcs
    exact ⟨none, 0, 0, fun _ => (0, 0, false), rfl, by omega, fun _ => ⟨rfl, rfl⟩, fun h => absurd h (by omega), fun j hj => absurd hj (by omega)⟩
  · simp [Value.cells] at hcs
    obtain ⟨rfl, rfl, rfl⟩ := hcs
    simp only [if_true] at hmm
    subst hmm
    rw [cellsPit] at hi hx
    have hall : ∀ j, j < n → ∃ y : Pi, W.cells? 0 (ad.add (j * 3)) 3 = some (pc y) ∧ -9223372036854775808 ≤ y.1 ∧ y.1 ≤ 9223372036854775807 ∧ y.2.1 ≤ 18446744073709551615 := fun j hj => by
      obtain ⟨cs', hc, ht⟩ := hi j (by omega)
      obtain ⟨y, rfl, hy⟩ := pit_cells ht
      exact ⟨y, hc, hy⟩
    refine ⟨some ad, n, _, fun j => if hj : j < n then (hall j hj).choose else (0, 0, false), rfl, by unfold maxLen at hm; omega, (fun e => by cases e), fun hn => ?_, fun j hj => ?_⟩
    · obtain ⟨b, off, spot⟩ := ad
      have h0 := (hall 0 hn).choose_spec.1
      have hspot : spot = none := by
        have := (World.cells?_some h0).2.2 0 (by omega)
        have h2 : W.cell? ((⟨b, off, spot⟩ : Addr).add (0 * 3) |>.add 0) = some (.int .i64 ((hall 0 hn).choose).1) := this
        simpa [Addr.add] using World.cell?_spot h2
      subst hspot
      refine ⟨b, off, rfl, hlt (.cell b off) ?_, fun j hj => ?_⟩
      · simp only [Prod.mk.injEq] at hx
        rw [hx.2]
        exact List.mem_append_left _ (MemPlace.mem_row.2 ⟨0, by omega, by simp⟩)
      · simp only [dif_pos hj]
        have hc := (World.cells?_some (hall j hj).choose_spec.1).2.2
        refine ⟨?_, ?_, ?_⟩
        · have e : ((⟨b, off, none⟩ : Addr).add (j * 3)).add 0 = ⟨b, off + j * 3, none⟩ := by rw [add_plain, add_plain]; rfl
          rw [← e]
          exact hc 0 (by omega)
        · have e : ((⟨b, off, none⟩ : Addr).add (j * 3)).add 1 = ⟨b, off + j * 3 + 1, none⟩ := by rw [add_plain, add_plain]
          rw [← e]
          exact hc 1 (by omega)
        · have e : ((⟨b, off, none⟩ : Addr).add (j * 3)).add 2 = ⟨b, off + j * 3 + 2, none⟩ := by rw [add_plain, add_plain]
          rw [← e]
          exact hc 2 (by omega)
    · simp only [dif_pos hj]
      exact (hall j hj).choose_spec.2
/-- An item by value, opened. -/
theorem open_pit {H : Type} {enc : TypeId × Value → H} {W : World} {base : Nat} {v : Value} {d : DataW H} {p : List MemPlace}
    (hv : Value.okWide Try.prog W .any base 29 v) (h : DataW.Trod enc Try.prog W 0 (fun _ => true) true 29 v d p) : ∃ y : Pi, v = .agg (pc y).toArray ∧ -9223372036854775808 ≤ y.1 ∧ y.1 ≤ 9223372036854775807 ∧ y.2.1 ≤ 18446744073709551615 := by
  obtain ⟨cs, rfl, _⟩ := okWide_struct Try.underlying29 hv
  obtain ⟨fuel, hf⟩ := h
  obtain ⟨y, e, hy⟩ := pit_cells hf
  exact ⟨y, by rw [← e]; simp [Value.cells], hy⟩
/-- Items as cells. -/
def pil (l : List Pi) : List Value := l.flatMap pc
theorem pil_len (l : List Pi) : (pil l).length = l.length * 3 := by
  induction l with
  | nil => rfl
  | cons x l ih => unfold pil at *; rw [List.flatMap_cons, List.length_append, ih, List.length_cons, pc_len]; omega
theorem pil_snoc (l : List Pi) (x : Pi) : pil (l ++ [x]) = pil l ++ pc x := by unfold pil; rw [List.flatMap_append]; simp
theorem pil_append (l m : List Pi) : pil (l ++ m) = pil l ++ pil m := by unfold pil; rw [List.flatMap_append]
theorem pil_one (l : List Pi) : ∀ u ∈ pil l, u.oneCell' = true := by
  intro u hu
  unfold pil at hu
  obtain ⟨x, _, hx⟩ := List.mem_flatMap.1 hu
  exact pc_one x u hx
theorem pil_at : ∀ (l : List Pi) (j : Nat) (h : j < l.length), (pil l)[j * 3]? = some (.int .i64 l[j].1) ∧ (pil l)[j * 3 + 1]? = some (.int .u64 (l[j].2.1 : Int)) ∧ (pil l)[j * 3 + 2]? = some (.bool l[j].2.2)
  | x :: l, 0, _ => ⟨rfl, rfl, rfl⟩
  | x :: l, j + 1, h => by
    have := pil_at l j (by simpa using h)
    have e : pil (x :: l) = .int .i64 x.1 :: .int .u64 (x.2.1 : Int) :: .bool x.2.2 :: pil l := rfl
    rw [e, show (j + 1) * 3 = j * 3 + 1 + 1 + 1 by omega]
    simpa using this
/-- A row of the call's own, as a slice of items. -/
theorem own_pits {w : World} {base : Nat} {e : TypeId} {A : Option Addr} {n cap : Nat} {l : List Pi} {y : Nat → Pi} (h : w.ownsRow base e 3 (.slice A n cap) n (pil l)) (hl : l.length = n) (hy : ∀ j, (hj : j < l.length) → l[j] = y j) : Pits w w.heap.size A n y := fun hn => by
  have h' := h
  rcases h.2 with ⟨h1, h0⟩ | ⟨g, cap', cur, e, hb, hg, _⟩
  · omega
  · injection e with e1
    subst e1
    refine ⟨g, 0, rfl, (Array.getElem?_eq_some_iff.1 hg).1, fun j hj => ?_⟩
    have hl := pil_at l j (by omega)
    rw [hy j (by omega)] at hl
    have q0 := h'.cells (g := g) rfl (j * 3) _ hl.1
    have q1 := h'.cells (g := g) rfl (j * 3 + 1) _ hl.2.1
    have q2 := h'.cells (g := g) rfl (j * 3 + 2) _ hl.2.2
    rw [add_plain] at q0 q1 q2
    rw [Nat.zero_add] at q0 q1 q2 ⊢
    exact ⟨q0, q1, q2⟩
/-- A row of items of the call's own that grows. -/
structure PtAt (t : TypeId) (w1 : World) (v : Value) (l : List Pi) (wr : World) : Prop where
  own : wr.ownsRow w1.heap.size t 3 v l.length (pil l)
  below : Below w1.heap.size w1 wr
theorem row_keep {w w' : World} {base : Nat} {e : TypeId} {size : Nat} {v : Value} {n : Nat} {xs : List Value} (h : w.ownsRow base e size v n xs) (hb : ∀ g, v.ownBlock = some g → w'.heap[g]? = w.heap[g]?) : w'.ownsRow base e size v n xs := by
  refine ⟨h.1, ?_⟩
  rcases h.2 with h0 | ⟨g, cap, cur, rfl, h1, h2, h3⟩
  · exact .inl h0
  · exact .inr ⟨g, cap, cur, rfl, h1, (hb g rfl).trans h2, h3⟩
theorem PtAt.nil (t : TypeId) (w : World) : PtAt t w (.slice none 0 0) [] w := ⟨World.ownsRow_nil _ _ _ _, Below.refl _ _⟩
theorem PtAt.grow {t : TypeId} {w1 wr wx : World} {v : Value} {l : List Pi} (h : PtAt t w1 v l wr) (hb : Below wr.heap.size wr wx) : PtAt t w1 v l wx :=
  ⟨row_keep h.own (fun g hg => hb.block g (own_lt h.own hg).2), h.below.trans (hb.mono h.below.size)⟩
theorem PtAt.only {t : TypeId} {w1 wr wx : World} {v : Value} {l : List Pi} {S : Nat → Prop} (h : PtAt t w1 v l wr) (hb : Only S wr wx) (hv : ∀ g, v.ownBlock = some g → ¬ S g) (hs : ∀ g, g < w1.heap.size → ¬ S g) : PtAt t w1 v l wx :=
  ⟨row_keep h.own (fun g hg => hb.block g (own_lt h.own hg).2 (hv g hg)), below_only h.below hb h.below.size hs⟩
theorem PtAt.next {t u : TypeId} {w1 : World} {v : Value} {l : List Pi} {x : Pi} {A : Option Addr} {cap : Nat} {wx w7 : World} (h : PtAt t w1 v l wx)
    (ho : w7.ownsRow w1.heap.size t 3 (.slice A (l.length + 1) cap) (l.length + 1) (pil l ++ pc x)) (hg : (wx.alloc (.cells (pc x).toArray u)).grownBy w7 v.ownBlock) :
    PtAt t w1 (.slice A (l.length + 1) cap) (l ++ [x]) w7 := by
  constructor
  · rw [List.length_append, pil_snoc]
    exact ho
  · exact (h.below.alloc h.below.size _).grown hg (by have := h.below.size; simp; omega) (fun b e => (own_lt h.own e).1)
end Go.Proofs.Ytigifbijmchdcaa
