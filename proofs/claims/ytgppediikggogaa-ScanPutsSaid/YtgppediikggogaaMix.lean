/- A memory and the document's own side by side. -/
import Derived.Test.YtgppediikggogaaRefNo
import Derived.Test.YtgppediikggogaaMemDuo
namespace Go.Proofs.Ytgppediikggogaa
open Go.RowKit Go.ChangeShapes Go.WideShapes Go.ChangeAt

/-- The program's memory at p, the document's at q; they share no block, and none of X. -/
def Mix (w : World) (X : Nat → Prop) (p : Nat) (M : MS) (q : Nat) (N : MS) : Prop := ∃ G, Own w (fun i => X i ∨ G i) p M ∧ Rm w q G N ∧ ∀ i, G i → ¬ X i
section
variable {w w' : World} {X Y : Nat → Prop} {p q : Nat} {M N : MS}
theorem Mix.left (h : Mix w X p M q N) : Own w X p M := by
  obtain ⟨G, ho, _⟩ := h
  exact ho.weak fun _ h => .inl h
theorem Mix.weak (h : Mix w X p M q N) (hs : ∀ i, Y i → X i) : Mix w Y p M q N := by
  obtain ⟨G, ho, hn, hG⟩ := h
  exact ⟨G, ho.weak (fun i h => h.imp (hs i) id), hn, fun i hi k => hG i hi (hs i k)⟩
theorem Mix.grow (h : Mix w X p M q N) (ho : Only nobody w w') : Mix w' (fun i => X i ∨ (w.heap.size ≤ i ∧ i < w'.heap.size)) p M q N := by
  obtain ⟨G, hO, hn, hG⟩ := h
  refine ⟨G, (hO.grow ho).weak (fun i h => ?_), hn.only ho (fun _ _ => not_nobody _), fun i hi k => ?_⟩
  · rcases h with (h | h) | h
    · exact .inl (.inl h)
    · exact .inr h
    · exact .inl (.inr h)
  · rcases k with k | k
    · exact hG i hi k
    · have := hn.lt i hi; omega
theorem Mix.none (h : Mix w X p M q N) (ho : Only nobody w w') : Mix w' X p M q N := (h.grow ho).weak (fun _ h => .inl h)
theorem Mix.drewN (h : Mix w X p M q N) (n : Nat) : Mix (w.drewN n) X p M q N := h.none ((Only.refl _ w).drewN n)
theorem Mix.alloc (h : Mix w X p M q N) (o : Obj) : Mix (w.alloc o) (fun i => X i ∨ i = w.heap.size) p M q N := (h.grow ((Only.refl _ w).alloc o)).weak (fun i h => h.imp id (fun h => by subst h; simp))
theorem mix_done {v : Value} {e : Ending} {M' : MS} {G : Nat → Prop} (hn : Rm w q G N) (hG : ∀ i, G i → ¬ X i) (h : OwnPost w (fun i => X i ∨ G i) p M' v e w') : e = .returned v ∧ Mix w' X p M' q N ∧ Kept X w w' := by
  obtain ⟨he, ho, hk⟩ := h
  exact ⟨he, ⟨G, ho, hn.only hk (fun i hi k => k (.inr hi)), hG⟩, hk.mono (fun i h => .inl h)⟩
theorem mix_rdone {e e' : Ending} {N' : MS} {F G : Nat → Prop} (hm : Mm w p F M) (hF : ∀ i, F i → ¬ (X i ∨ G i)) (hX : ∀ i, X i ∨ G i → i < w.heap.size) (hG : ∀ i, G i → ¬ X i) (h : RDonePost w q G N' e e' w') : e' = e ∧ Mix w' X p M q N' ∧ Kept X w w' := by
  obtain ⟨he, G', hn', ho, hG'⟩ := h
  refine ⟨he, ⟨G', ⟨F, hm.only ho (fun i hi k => hF i hi (.inr k)), fun i hi k => ?_, fun i hi => ?_⟩, hn', fun i hi k => ?_⟩, ho.mono (fun i _ hi => hG i hi)⟩
  · rcases k with k | k
    · exact hF i hi (.inl k)
    · rcases hG' i k with h | h
      · exact hF i hi (.inr h)
      · have := hm.lt i hi; omega
  · rcases hi with hi | hi
    · exact Nat.lt_of_lt_of_le (hX i (.inl hi)) ho.size
    · exact hn'.lt i hi
  · rcases hG' i hi with h | h
    · exact hG i h k
    · have := hX i (.inl k); omega
end
/-- Behind a look at one of the two. -/
def MixPost (w : World) (X : Nat → Prop) (p : Nat) (M : MS) (q : Nat) (N : MS) (v : Value) (e : Ending) (w' : World) : Prop := e = .returned v ∧ Mix w' X p M q N ∧ Kept X w w'
section
variable (X : Nat → Prop) (p q : Nat) (M N : MS) (w : World)
theorem mix_read (r a : Int) (h : Mix w X p M q N) (hl : M.es.length < 1000000000) :
    Calls Try.prog 26 #[.pointer (some ⟨p, 0, none⟩), .int .i64 r, .int .i64 a] w (MixPost w X p (M.read r a) q N (.agg (CA (M.cell r a)))) := by
  obtain ⟨G, ho, hn, hG⟩ := h
  exact (own_read _ p M w r a ho hl).mono fun e w' h => mix_done hn hG h
theorem mix_write (r a : Int) (f : Nat → Int) (h : Mix w X p M q N) (hl : M.es.length < 1000000000) :
    Calls Try.prog 33 #[.pointer (some ⟨p, 0, none⟩), .int .i64 r, .int .i64 a, .agg (CA f)] w (MixPost w X p (M.write r a f) q N (.tuple #[])) := by
  obtain ⟨G, ho, hn, hG⟩ := h
  exact (own_write _ p M w r a f ho hl).mono fun e w' h => mix_done hn hG h
theorem mix_rread (r a : Int) (h : Mix w X p M q N) (hl : N.es.length < 1000000000) :
    Calls Try.prog 37 #[.pointer (some ⟨q, 0, none⟩), .int .i64 r, .int .i64 a] w (MixPost w X p M q (N.read r a) (.agg (CA (N.cell r a)))) := by
  obtain ⟨G, ⟨F, hm, hF, hX⟩, hn, hG⟩ := h
  exact (rread_any q G N r a w hn hl).mono fun e w' h => mix_rdone hm hF hX hG h
theorem mix_rwrite (r a : Int) (f : Nat → Int) (h : Mix w X p M q N) (hl : N.es.length < 1000000000) :
    Calls Try.prog 34 #[.pointer (some ⟨q, 0, none⟩), .int .i64 r, .int .i64 a, .agg (CA f)] w (MixPost w X p M q (N.write r a f) (.tuple #[])) := by
  obtain ⟨G, ⟨F, hm, hF, hX⟩, hn, hG⟩ := h
  exact (rwrite_any q G N r a f w hn hl).mono fun e w' h => mix_rdone hm hF hX hG h
theorem mix_rsize (r : Int) (h : Mix w X p M q N) : Calls Try.prog 17 #[.pointer (some ⟨q, 0, none⟩), .int .i64 r] w fun e w' => e = .returned (.int .i64 (N.size r : Nat)) ∧ w = w' := by
  obtain ⟨G, _, hn, _⟩ := h
  exact rsize_any q G N r w hn
end
/-- What can be read of the document's memory. -/
theorem mix_cells {w : World} {X : Nat → Prop} {p q : Nat} {M N : MS} (h : Mix w X p M q N) : w.cell? ⟨q, 2, none⟩ = some (.bool N.ft) ∧ ∃ A cap, w.cell? ⟨q, 1, none⟩ = some (.slice A N.es.length cap) ∧ View w A N.es ∧ Shape A N.es.length cap := by
  obtain ⟨G, _, ⟨g, gc, bl, A, cap, hn⟩, _⟩ := h
  refine ⟨hn.box.cell 2, A, cap, hn.box.cell 1, fun hl => ?_, own_shape hn.ev⟩
  rcases hn.ev.2 with ⟨_, h0⟩ | ⟨g', cap', cur, e, _⟩
  · exact absurd (List.eq_nil_of_length_eq_zero h0) hl
  · injection e with e
    subst e
    refine ⟨g', 0, rfl, fun j v hv => ?_⟩
    have := hn.ev.cells (g := g') rfl j v hv
    rwa [add_plain] at this
/-- The document's memory beside the program's. -/
theorem mix_new {w w' : World} {X : Nat → Prop} {p q : Nat} {M N : MS} {G : Nat → Prop} (h : Own w X p M) (ho : Only nobody w w') (hn : Rm w' q G N) (hG : ∀ i, G i → w.heap.size ≤ i) : Mix w' X p M q N := by
  obtain ⟨F, hm, hF, hX⟩ := h
  refine ⟨G, ⟨F, hm.only ho (fun _ _ => not_nobody _), fun i hi k => ?_, fun i hi => ?_⟩, hn, fun i hi k => ?_⟩
  · rcases k with k | k
    · exact hF i hi k
    · have := hm.lt i hi; have := hG i k; omega
  · rcases hi with hi | hi
    · exact Nat.lt_of_lt_of_le (hX i hi) ho.size
    · exact hn.lt i hi
  · have := hX i k; have := hG i hi; omega
end Go.Proofs.Ytgppediikggogaa
