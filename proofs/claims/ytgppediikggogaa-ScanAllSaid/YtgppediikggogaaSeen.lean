/- Slices of events that are kept while a memory is looked at further. -/
import Derived.Test.YtgppediikggogaaScanLaw
namespace Go.Proofs.Ytgppediikggogaa
open Go.RowKit Go.ChangeShapes Go.WideShapes Go.ChangeAt

/-- A slice of events in blocks that are kept. -/
def Seen (X : Nat → Prop) (w : World) (A : Option Addr) (l : List IEv) : Prop := l ≠ [] → ∃ b off, A = some ⟨b, off, none⟩ ∧ X b ∧ w.rangeAt b off (ievs l)
section
variable {X Y : Nat → Prop} {w w' : World} {A : Option Addr} {l : List IEv}
theorem Seen.view (h : Seen X w A l) : IView w A l := fun hl => by
  obtain ⟨b, off, e, _, hr⟩ := h hl
  exact ⟨b, off, e, hr⟩
theorem Seen.kept (h : Seen X w A l) (hk : Kept X w w') : Seen X w' A l := fun hl => by
  obtain ⟨b, off, e, hx, hr⟩ := h hl
  exact ⟨b, off, e, hx, hk.range hr hx⟩
theorem Seen.weak (h : Seen X w A l) (hs : ∀ i, X i → Y i) : Seen Y w A l := fun hl => by
  obtain ⟨b, off, e, hx, hr⟩ := h hl
  exact ⟨b, off, e, hs _ hx, hr⟩
theorem Seen.none' (h : Seen X w A l) (ho : Only nobody w w') : Seen X w' A l := h.kept (Kept.of_none ho)
end
/-- Behind Since, where what is told is kept. -/
def SeenPost (w : World) (X : Nat → Prop) (p : Nat) (M : MS) (l : List IEv) (n : Nat) (e : Ending) (w' : World) : Prop :=
  ∃ A cap Y, e = .returned (.slice A n cap) ∧ Own w' Y p M ∧ Seen Y w' A l ∧ (∀ i, X i → Y i) ∧ Kept X w w'
theorem seen_post {w w' : World} {X : Nat → Prop} {p n : Nat} {M : MS} {l : List Ev} {l' : List IEv} {e : Ending} (h : Own w X p M) (hn : l.length = n) (hl : l.map evI = l' ∨ (l = [] ∧ l' = [])) (hs : SincePost w l e w') : SeenPost w X p M l' n e w' := by
  obtain ⟨A, cap, rfl, ht, ho, _⟩ := hs
  refine ⟨A, cap, _, by rw [hn], h.grow ho, fun hne => ?_, fun i hi => .inl hi, Kept.of_none ho⟩
  have hl' : l.map evI = l' := hl.elim id (fun k => absurd k.2 hne)
  subst hl'
  have hle : l ≠ [] := by rintro rfl; exact hne rfl
  have hw := ht hle
  rcases hw.2 with ⟨_, h0⟩ | ⟨g, cap', cur, e, hb, hg, _⟩
  · exact absurd (List.eq_nil_of_length_eq_zero h0) hle
  · injection e with e
    subst e
    refine ⟨g, 0, rfl, .inr ⟨hb, (Array.getElem?_eq_some_iff.1 hg).1⟩, fun j v hv => ?_⟩
    rw [← evs_map] at hv
    have := hw.cells (g := g) rfl j v hv
    rwa [add_plain] at this
theorem seen_reads (X : Nat → Prop) (p : Nat) (M : MS) (r : Int) (s lm : Nat) (w : World) (h : Own w X p (M.looked r.toNat s)) (hr : 0 < s → r = (r.toNat : Int)) (hm : M.es.length = lm) (hl : lm + s < 1000000000) :
    Calls Try.prog 28 #[.pointer (some ⟨p, 0, none⟩), .int .i64 (lm : Int)] w (SeenPost w X p (M.looked r.toNat s) (ireads r s) s) := by
  subst hm
  refine (own_since X p _ w (M.es.length : Int) h (by rw [looked_len]; omega)).mono ?_
  rw [cut_nat _ _ (by rw [looked_len]; omega), looked_since]
  intro e w' hs
  refine seen_post h (by simp) ?_ hs
  rw [← ireads_nat]
  by_cases hs : 0 < s
  · rw [← hr hs]; exact .inl rfl
  · obtain rfl : s = 0 := by omega
    exact .inr ⟨rfl, rfl⟩
theorem seen_writes (X : Nat → Prop) (p : Nat) (M : MS) (r : Int) (b : Nat) (f : Nat → Int) (on : Bool) (s lm : Nat) (w : World) (h : Own w X p (M.anew r.toNat b f on s)) (hr : 0 < s → r = (r.toNat : Int)) (hm : M.es.length = lm) (hl : lm + s * 2 < 1000000000) :
    Calls Try.prog 28 #[.pointer (some ⟨p, 0, none⟩), .int .i64 (lm : Int)] w (SeenPost w X p (M.anew r.toNat b f on s) (iwrites r s) (s * 2)) := by
  subst hm
  refine (own_since X p _ w (M.es.length : Int) h (by rw [anew_len]; omega)).mono ?_
  rw [cut_nat _ _ (by rw [anew_len]; omega), anew_since]
  intro e w' hs
  refine seen_post h (by rw [scanW_len]) ?_ hs
  rw [← iwrites_nat]
  by_cases hs : 0 < s
  · rw [← hr hs]; exact .inl rfl
  · obtain rfl : s = 0 := by omega
    exact .inr ⟨rfl, rfl⟩
theorem ireads_at (r : Int) (s i : Nat) (h : i < (ireads r s).length) : (ireads r s)[i] = (r, (i : Int), false) := by simp [ireads]
theorem iwrites_at (r : Int) : ∀ (s i : Nat), i < s → (iwrites r s)[i * 2]? = some (r, (i : Int), false) ∧ (iwrites r s)[i * 2 + 1]? = some (r, (i : Int), true)
  | 0, i, h => by omega
  | s + 1, i, h => by
    rw [iwrites_succ]
    by_cases e : i = s
    · subst e
      constructor
      · rw [List.getElem?_append_right (by rw [iwrites_len]; omega), iwrites_len, show i * 2 - i * 2 = 0 by omega]; rfl
      · rw [List.getElem?_append_right (by rw [iwrites_len]; omega), iwrites_len, show i * 2 + 1 - i * 2 = 1 by omega]; rfl
    · obtain ⟨h1, h2⟩ := iwrites_at r s i (by omega)
      exact ⟨by rw [List.getElem?_append_left (by rw [iwrites_len]; omega)]; exact h1, by rw [List.getElem?_append_left (by rw [iwrites_len]; omega)]; exact h2⟩
end Go.Proofs.Ytgppediikggogaa
