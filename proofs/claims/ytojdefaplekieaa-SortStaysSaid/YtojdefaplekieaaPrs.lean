/- Pairs that lie in a slice. -/
import Derived.Test.YtojdefaplekieaaNetList
import Derived.Lib.Hide
namespace Go.Proofs.Ytojdefaplekieaa
open Go.RowKit Go.Shelf Go.ChangeShapes Go.WideShapes Go.ChangeAt

theorem cellsL_at : ∀ (ps : List Pr) (i : Nat) (hi : i < ps.length), (cellsL ps)[i * 3]? = some (.int .i64 (ps[i].1 : Nat)) ∧ (cellsL ps)[i * 3 + 1]? = some (.int .i64 (ps[i].2.1 : Nat)) ∧ (cellsL ps)[i * 3 + 2]? = some (.bool ps[i].2.2)
  | [], _, hi => absurd hi (by simp)
  | p :: ps, 0, _ => by simp [cellsL, cells3]
  | p :: ps, i + 1, hi => by
    have ih := cellsL_at ps i (by simpa using hi)
    have e : ∀ k, (cellsL (p :: ps))[(i + 1) * 3 + k]? = (cellsL ps)[i * 3 + k]? := fun k => by
      rw [show cellsL (p :: ps) = cells3 p ++ cellsL ps by simp [cellsL], List.getElem?_append_right (by simp [cells3]; omega)]
      congr 1
      simp [cells3]; omega
    refine ⟨(e 0).trans ih.1, (e 1).trans ih.2.1, (e 2).trans ih.2.2⟩
/-- Pairs in a slice: block g, where there is one at all. -/
structure Prs (w : World) (base : Nat) (A : Option Addr) (ps : List Pr) (g : Nat) : Prop where
  adr : 0 < ps.length → A = some ⟨g, 0, none⟩
  base : 0 < ps.length → base ≤ g ∧ g < w.heap.size
  fst : ∀ i, (hi : i < ps.length) → w.cell? ⟨g, i * 3, none⟩ = some (.int .i64 (ps[i].1 : Nat))
  snd : ∀ i, (hi : i < ps.length) → w.cell? ⟨g, i * 3 + 1, none⟩ = some (.int .i64 (ps[i].2.1 : Nat))
  up : ∀ i, (hi : i < ps.length) → w.cell? ⟨g, i * 3 + 2, none⟩ = some (.bool ps[i].2.2)
theorem Prs.of {t : TypeId} {w : World} {base : Nat} {v : Value} {ps : List Pr} (h : w.ownsRow base t 3 v ps.length (cellsL ps)) : ∃ A cap g, v = .slice A ps.length cap ∧ Prs w base A ps g := by
  have h' := h
  rcases h.2 with ⟨rfl, h1⟩ | ⟨g, cap, cur, rfl, hb, hg, _⟩
  · exact ⟨none, 0, 0, by rw [h1], fun h => by omega, fun h => by omega, fun i hi => by omega, fun i hi => by omega, fun i hi => by omega⟩
  · have hc := h'.cells (g := g) rfl
    have hc' : ∀ j u, (cellsL ps)[j]? = some u → w.cell? ⟨g, j, none⟩ = some u := fun j u hu => by
      have := hc j u hu
      rwa [add_plain, Nat.zero_add] at this
    exact ⟨_, cap, g, rfl, fun _ => rfl, fun _ => ⟨hb, (Array.getElem?_eq_some_iff.1 hg).1⟩, fun i hi => hc' _ _ (cellsL_at ps i hi).1, fun i hi => hc' _ _ (cellsL_at ps i hi).2.1, fun i hi => hc' _ _ (cellsL_at ps i hi).2.2⟩
theorem Prs.block {w w' : World} {base : Nat} {A : Option Addr} {ps : List Pr} {g : Nat} (h : Prs w base A ps g) (hs : w.heap.size ≤ w'.heap.size) (hb : 0 < ps.length → w'.heap[g]? = w.heap[g]?) : Prs w' base A ps g :=
  ⟨h.adr, fun h0 => ⟨(h.base h0).1, Nat.lt_of_lt_of_le (h.base h0).2 hs⟩, fun i hi => (World.cell?_of_block (w := w) (hb (by omega))).trans (h.fst i hi), fun i hi => (World.cell?_of_block (w := w) (hb (by omega))).trans (h.snd i hi), fun i hi => (World.cell?_of_block (w := w) (hb (by omega))).trans (h.up i hi)⟩
theorem Prs.below {w w' : World} {base B : Nat} {A : Option Addr} {ps : List Pr} {g : Nat} (h : Prs w base A ps g) (hb : Below B w w') (hB : w.heap.size ≤ B) : Prs w' base A ps g :=
  h.block hb.size (fun h0 => hb.block g (Nat.lt_of_lt_of_le (h.base h0).2 hB))
theorem Prs.alloc {w : World} {base : Nat} {A : Option Addr} {ps : List Pr} {g : Nat} (h : Prs w base A ps g) (o : Obj) : Prs (w.alloc o) base A ps g :=
  h.block (by simp) (fun h0 => Below.heap_alloc w o g (h.base h0).2)
theorem Prs.far {w : World} {base : Nat} {A : Option Addr} {ps : List Pr} {g : Nat} (h : Prs w base A ps g) {a : Addr} (ha : 0 < ps.length → g ≠ a.block) (v : Value) : Prs (w.setCell a v) base A ps g :=
  h.block (by simp [World.setCell]) (fun h0 => Below.heap_setCell w a v g (ha h0))
theorem Prs.drewN {w : World} {base : Nat} {A : Option Addr} {ps : List Pr} {g : Nat} (h : Prs w base A ps g) (k : Nat) : Prs (w.drewN k) base A ps g := h.block (Nat.le_refl _) (fun _ => rfl)
end Go.Proofs.Ytojdefaplekieaa
