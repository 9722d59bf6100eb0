/- More on a memory and the document's own side by side: stores to blocks that are kept, what can be read of the document's rows. -/
import Derived.Test.YtgppediikggogaaMix
import Derived.Test.YtgppediikggogaaMemMore
namespace Go.Proofs.Ytgppediikggogaa
open Go.RowKit Go.ChangeShapes Go.WideShapes Go.ChangeAt

section
variable {w w' : World} {X : Nat → Prop} {p q : Nat} {M N : MS}
theorem Mix.lt (h : Mix w X p M q N) : ∀ i, X i → i < w.heap.size := by
  obtain ⟨G, ⟨F, _, _, hX⟩, _⟩ := h
  exact fun i hi => hX i (.inl hi)
/-- A store to a block of X. -/
theorem Mix.only {S : Nat → Prop} (h : Mix w X p M q N) (ho : Only S w w') (hs : ∀ i, S i → X i) : Mix w' X p M q N := by
  obtain ⟨G, hO, hn, hG⟩ := h
  exact ⟨G, hO.only ho (fun i hi => .inl (hs i hi)), hn.only ho (fun i hi k => hG i hi (hs i k)), hG⟩
theorem Mix.setCells (h : Mix w X p M q N) (b : Nat) (vs : List Value) (hb : X b) : Mix (w.setCells b 0 vs) X p M q N :=
  h.only (only_setCells (S := just b) vs 0 w (Only.refl _ _) (.inl (just_self b))) (fun i hi => by rw [hi]; exact hb)
end
theorem only_cell {S : Nat → Prop} {w w' : World} {b o : Nat} {v : Value} (h : Only S w w') (hn : ¬ S b) (hv : w.cell? ⟨b, o, none⟩ = some v) : w'.cell? ⟨b, o, none⟩ = some v :=
  (World.cell?_of_block (w := w) (h.block b (World.block_lt_of_cell? w ⟨b, o, none⟩ hv) hn)).trans hv
/-- What can be read of the document's rows. -/
theorem mix_rows {w : World} {X : Nat → Prop} {p q : Nat} {M N : MS} (h : Mix w X p M q N) : ∃ (g gc : Nat) (bl : Nat → Nat), w.cell? ⟨q, 0, none⟩ = some (.slice (some ⟨g, 0, none⟩) N.k gc) ∧ (∀ r, r < N.k → w.cell? ⟨g, r, none⟩ = some (.slice (some ⟨bl r, 0, none⟩) (N.sz r) (N.sz r))) ∧ N.k ≤ 16 ∧ ∀ r, r < N.k → N.sz r ≤ 4096 := by
  obtain ⟨G, _, ⟨g, gc, bl, A, cap, hn⟩, _⟩ := h
  exact ⟨g, gc, bl, hn.box.cell 0, fun r hr => hn.row.cell hr, hn.few, hn.small⟩
theorem read_same (M : MS) (r a : Int) : (M.read r a).k = M.k ∧ (M.read r a).sz = M.sz := by
  unfold MS.read
  split <;> exact ⟨rfl, rfl⟩
theorem only_cells {w w' : World} {b o : Nat} {v : Value} (h : Only nobody w w') (hv : w.cell? ⟨b, o, none⟩ = some v) : w'.cell? ⟨b, o, none⟩ = some v := only_cell h (not_nobody _) hv
end Go.Proofs.Ytgppediikggogaa
