/- Plain facts on dealing: the order of items, found by picking the first of those that are left again and again; the places that are left, found one behind the other. No function is called here. -/
import Derived.Test.YtnpddimepcblkaaDealLast
namespace Go.Proofs.Ytnpddimepcblkaa

/-- Of the first i items, but those of out, the one that is not empty and is dealt first; -1, if there is none. -/
def BestAt (f : Nat → It) (out : List Nat) (i : Nat) (at' : Int) : Prop :=
  (at' = -1 ∧ ∀ j, j < i → j ∉ out → (f j).2 < 0) ∨ ∃ a : Nat, at' = a ∧ a < i ∧ a ∉ out ∧ 0 ≤ (f a).2 ∧ ∀ j, j < i → j ∉ out → 0 ≤ (f j).2 → j = a ∨ bef f a j
theorem BestAt.zero (f : Nat → It) (out : List Nat) : BestAt f out 0 (-1) := .inl ⟨rfl, fun _ h => absurd h (Nat.not_lt_zero _)⟩
theorem BestAt.skip {f : Nat → It} {out : List Nat} {i : Nat} {at' : Int} (h : BestAt f out i at') (hs : i ∈ out ∨ (f i).2 < 0) : BestAt f out (i + 1) at' := by
  rcases h with ⟨rfl, h⟩ | ⟨a, rfl, h1, h2, h3, h4⟩
  · refine .inl ⟨rfl, fun j hj ho => ?_⟩
    by_cases e : j = i
    · subst e; exact hs.resolve_left ho
    · exact h j (by omega) ho
  · refine .inr ⟨a, rfl, by omega, h2, h3, fun j hj ho hr => ?_⟩
    by_cases e : j = i
    · subst e; rcases hs with hs | hs
      · exact absurd hs ho
      · omega
    · exact h4 j (by omega) ho hr
theorem BestAt.first {f : Nat → It} {out : List Nat} {i : Nat} (h : BestAt f out i (-1)) (ho : i ∉ out) (hr : 0 ≤ (f i).2) : BestAt f out (i + 1) (i : Int) := by
  rcases h with ⟨_, h⟩ | ⟨a, e, _⟩
  · refine .inr ⟨i, rfl, by omega, ho, hr, fun j hj hjo hjr => ?_⟩
    by_cases e : j = i
    · exact .inl e
    · have := h j (by omega) hjo; omega
  · omega
theorem BestAt.better {f : Nat → It} {out : List Nat} {i a : Nat} (h : BestAt f out i (a : Int)) (ho : i ∉ out) (hr : 0 ≤ (f i).2)
    (hb : (f a).2 < (f i).2 ∨ (f i).2 = (f a).2 ∧ (f i).1 < (f a).1) : BestAt f out (i + 1) (i : Int) := by
  rcases h with ⟨e, _⟩ | ⟨a', e, h1, h2, h3, h4⟩
  · omega
  · obtain rfl : a' = a := by omega
    have hia : bef f i a' := (bef_real hr h3).2 (by omega)
    refine .inr ⟨i, rfl, by omega, ho, hr, fun j hj hjo hjr => ?_⟩
    by_cases e : j = i
    · exact .inl e
    · rcases h4 j (by omega) hjo hjr with h | h
      · subst h; exact .inr hia
      · exact .inr (bef_trans hia h)
theorem BestAt.worse {f : Nat → It} {out : List Nat} {i a : Nat} (h : BestAt f out i (a : Int)) (hr : 0 ≤ (f i).2)
    (hb : ¬ ((f a).2 < (f i).2 ∨ (f i).2 = (f a).2 ∧ (f i).1 < (f a).1)) : BestAt f out (i + 1) (a : Int) := by
  rcases h with ⟨e, _⟩ | ⟨a', e, h1, h2, h3, h4⟩
  · omega
  · obtain rfl : a' = a := by omega
    have hai : bef f a' i := (bef_real h3 hr).2 (by omega)
    refine .inr ⟨a', rfl, by omega, h2, h3, fun j hj hjo hjr => ?_⟩
    by_cases e : j = i
    · subst e; exact .inr hai
    · exact h4 j (by omega) hjo hjr
/-- The first ones that are dealt, in their order. -/
structure SelAt (f : Nat → It) (n : Nat) (out : List Nat) : Prop where
  srt : out.Pairwise (bef f)
  real : ∀ x ∈ out, x < n ∧ 0 ≤ (f x).2
  rest : ∀ x ∈ out, ∀ j, j < n → j ∉ out → 0 ≤ (f j).2 → bef f x j
theorem SelAt.nil (f : Nat → It) (n : Nat) : SelAt f n [] := ⟨List.Pairwise.nil, fun _ h => (by cases h), fun _ h => (by cases h)⟩
theorem SelAt.next {f : Nat → It} {n : Nat} {out : List Nat} {a : Nat} (h : SelAt f n out) (hb : BestAt f out n (a : Int)) : SelAt f n (out ++ [a]) := by
  rcases hb with ⟨e, _⟩ | ⟨a', e, h1, h2, h3, h4⟩
  · omega
  · obtain rfl : a' = a := by omega
    refine ⟨List.pairwise_append.2 ⟨h.srt, List.pairwise_singleton _ _, fun x hx y hy => ?_⟩, fun x hx => ?_, fun x hx j hj hjo hjr => ?_⟩
    · obtain rfl := List.mem_singleton.1 hy
      exact h.rest x hx _ h1 h2 h3
    · rcases List.mem_append.1 hx with hx | hx
      · exact h.real x hx
      · obtain rfl := List.mem_singleton.1 hx; exact ⟨h1, h3⟩
    · have ho : j ∉ out := fun e => hjo (List.mem_append_left _ e)
      rcases List.mem_append.1 hx with hx | hx
      · exact h.rest x hx j hj ho hjr
      · obtain rfl := List.mem_singleton.1 hx
        rcases h4 j hj ho hjr with e | e
        · exact absurd (List.mem_append_right _ (List.mem_singleton.2 e)) hjo
        · exact e
theorem SelAt.nodup {f : Nat → It} {n : Nat} {out : List Nat} (h : SelAt f n out) : out.Nodup := h.srt.imp fun h e => by subst e; exact bef_irrefl _ _ h
theorem SelAt.le {f : Nat → It} {n : Nat} {out : List Nat} (h : SelAt f n out) : out.length ≤ n := by
  have := h.nodup.length_le_of_subset (l₂ := List.range n) fun x hx => List.mem_range.2 (h.real x hx).1
  simpa using this
/-- With those that are left behind them, in the order of their places, it is the order. -/
theorem SelAt.done {f : Nat → It} {n : Nat} {out : List Nat} (h : SelAt f n out) (hb : BestAt f out n (-1)) : IsOrd f n (out ++ (List.range n).filter fun j => !out.contains j) := by
  have hno : ∀ j, j < n → j ∉ out → (f j).2 < 0 := by
    rcases hb with ⟨_, h⟩ | ⟨a, e, _⟩
    · exact h
    · omega
  have hm : ∀ j, j ∈ (List.range n).filter (fun j => !out.contains j) ↔ j < n ∧ j ∉ out := fun j => by
    rw [List.mem_filter, List.mem_range]; simp
  refine IsOrd.of (List.pairwise_append.2 ⟨h.srt, ?_, fun x hx y hy => ?_⟩) fun i => ?_
  · refine List.Pairwise.imp_of_mem ?_ (filter_up _ n)
    intro a b ha hb hab
    obtain ⟨ha1, ha2⟩ := (hm a).1 ha
    obtain ⟨hb1, hb2⟩ := (hm b).1 hb
    exact (bef_none (hno a ha1 ha2) (hno b hb1 hb2)).2 hab
  · obtain ⟨hy1, hy2⟩ := (hm y).1 hy
    exact bef_mix (h.real x hx).2 (hno y hy1 hy2)
  · rw [List.mem_append, hm]
    constructor
    · rintro (hi | hi)
      · exact (h.real i hi).1
      · exact hi.1
    · intro hi
      by_cases ho : i ∈ out
      · exact .inl ho
      · exact .inr ⟨hi, ho⟩
/-- If all items that are not empty are dealt already, there are none: where there are n of them. -/
theorem SelAt.full {f : Nat → It} {n : Nat} {out : List Nat} (h : SelAt f n out) (hl : out.length = n) : BestAt f out n (-1) := by
  refine .inl ⟨rfl, fun j hj ho => absurd ?_ ho⟩
  have hp : out.Perm (List.range n) := by
    have hs : out ⊆ List.range n := fun x hx => List.mem_range.2 (h.real x hx).1
    have h2 := List.filter_append_perm (fun x => out.contains x) (List.range n)
    have h3 : out.Perm ((List.range n).filter fun x => out.contains x) :=
      (List.perm_ext_iff_of_nodup h.nodup (nodup_up (filter_up _ n))).2 fun x => by
        rw [List.mem_filter, List.mem_range]
        constructor
        · intro hx; exact ⟨(h.real x hx).1, by simpa using hx⟩
        · intro hx; simpa using hx.2
    have h4 := h3.length_eq
    have h5 := h2.length_eq
    rw [List.length_append, List.length_range] at h5
    have h6 : (List.filter (fun x => !out.contains x) (List.range n)) = [] := List.eq_nil_of_length_eq_zero (by omega)
    rw [h6, List.append_nil] at h2
    exact h3.trans h2
  exact hp.mem_iff.2 (List.mem_range.2 hj)
/-- The order's places of items that are not empty come first. -/
theorem ord_at {f : Nat → It} {n : Nat} {o : List Nat} (h : IsOrd f n o) (k : Nat) (hk : k < o.length) : (0 ≤ (f o[k]).2 ↔ k < (reals f o).length) ∧ ∀ hr : k < (reals f o).length, o[k] = (reals f o)[k] := by
  have e := ord_split h.srt
  have h1 : ∀ hr : k < (reals f o).length, o[k] = (reals f o)[k] := fun hr => by
    have : o[k]? = (reals f o ++ blanks f o)[k]? := by rw [← e]
    rw [List.getElem?_append_left hr, List.getElem?_eq_getElem hk, List.getElem?_eq_getElem hr] at this
    injection this
  refine ⟨⟨fun h0 => ?_, fun hr => ?_⟩, h1⟩
  · apply Nat.lt_of_not_le
    intro hle
    have hl : o.length = (reals f o).length + (blanks f o).length := by rw [← List.length_append, ← e]
    have h2 : o[k]? = (reals f o ++ blanks f o)[k]? := by rw [← e]
    rw [List.getElem?_append_right hle, List.getElem?_eq_getElem hk, List.getElem?_eq_getElem (by omega)] at h2
    injection h2 with h2
    have hm : o[k] ∈ blanks f o := by rw [h2]; exact List.getElem_mem _
    have := (List.mem_filter.1 hm).2
    simp at this
    omega
  · have hm : o[k] ∈ reals f o := by rw [h1 hr]; exact List.getElem_mem hr
    exact ((reals_mem h _).1 hm).2
end Go.Proofs.Ytnpddimepcblkaa
