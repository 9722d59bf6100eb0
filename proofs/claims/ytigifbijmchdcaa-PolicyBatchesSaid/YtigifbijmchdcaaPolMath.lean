/- Who goes first: items in order by their key, and then by their cell. Plain mathematics; no program is named. -/
import Derived.WalkKit
namespace Go.Proofs.Ytigifbijmchdcaa
open Go
/-- An item: its cell, its rank, is its time over? -/
abbrev Pi := Int × Nat × Bool
def pkey (x : Pi) : Nat := x.2.1 % 4611686018427387904 + if x.2.2 then 0 else 4611686018427387904
def kc (x : Pi) : Nat × Int := (pkey x, x.1)
def kle (a b : Nat × Int) : Bool := decide (a.1 < b.1 ∨ (a.1 = b.1 ∧ a.2 ≤ b.2))
theorem kle_iff (a b : Nat × Int) : kle a b = true ↔ a.1 < b.1 ∨ (a.1 = b.1 ∧ a.2 ≤ b.2) := by unfold kle; exact decide_eq_true_iff
theorem kle_trans (a b c : Nat × Int) (h : kle a b = true) (h' : kle b c = true) : kle a c = true := by rw [kle_iff] at *; omega
theorem kle_total (a b : Nat × Int) : (kle a b || kle b a) = true := by
  rw [Bool.or_eq_true, kle_iff, kle_iff]; omega
theorem kle_anti (a b : Nat × Int) (h : kle a b = true) (h' : kle b a = true) : a = b := by
  rw [kle_iff] at *; exact Prod.ext (by omega) (by omega)
theorem kle_refl (a : Nat × Int) : kle a a = true := by rw [kle_iff]; omega
/-- The keys and cells of items, in order. -/
def ranked (l : List Pi) : List (Nat × Int) := (l.map kc).mergeSort kle
theorem ranked_perm (l : List Pi) : (ranked l).Perm (l.map kc) := List.mergeSort_perm _ _
theorem ranked_pw (l : List Pi) : (ranked l).Pairwise fun a b => kle a b = true := List.pairwise_mergeSort (fun a b c h h' => kle_trans a b c h h') kle_total _
theorem ranked_len (l : List Pi) : (ranked l).length = l.length := by rw [(ranked_perm l).length_eq, List.length_map]
theorem ranked_only {l : List Pi} {r : List (Nat × Int)} (h : r.Perm (l.map kc)) (hs : r.Pairwise fun a b => kle a b = true) : r = ranked l :=
  List.Perm.eq_of_pairwise (fun a b _ _ h h' => kle_anti a b h h') hs (ranked_pw l) (h.trans (ranked_perm l).symm)
theorem ranked_congr {l l' : List Pi} (h : l.Perm l') : ranked l = ranked l' := ranked_only ((ranked_perm l).trans (h.map kc)) (ranked_pw l)
/-- How many of them have their time over. -/
def expd (l : List Pi) : Nat := l.countP fun x => x.2.2
theorem expd_le (l : List Pi) : expd l ≤ l.length := List.countP_le_length
theorem expd_perm {l l' : List Pi} (h : l.Perm l') : expd l = expd l' := h.countP_eq _
/-- A difference, as a word says it. -/
def dif (r c : Int) : Int := IntKind.i64.wrap (r - c)
def manyI (r e c b : Int) : Int := max 0 (min b (max e (dif r c)))
def kMany (l : List Pi) (c b : Int) : Nat := (min (l.length : Int) (manyI l.length (expd l) c b)).toNat
theorem kMany_le (l : List Pi) (c b : Int) : kMany l c b ≤ l.length := by unfold kMany; omega
def victims (l : List Pi) (c b : Int) : List Int := ((ranked l).take (kMany l c b)).map (·.2)
theorem victims_len (l : List Pi) (c b : Int) : (victims l c b).length = kMany l c b := by
  unfold victims
  rw [List.length_map, List.length_take, ranked_len]
  have := kMany_le l c b
  omega
theorem victims_perm {l l' : List Pi} (h : l.Perm l') (c b : Int) : victims l c b = victims l' c b := by
  unfold victims kMany; rw [ranked_congr h, h.length_eq, expd_perm h]
/-- The first n items. -/
def lsP (n : Nat) (y : Nat → Pi) : List Pi := (List.range n).map y
theorem lsP_len (n : Nat) (y : Nat → Pi) : (lsP n y).length = n := by simp [lsP]
theorem lsP_succ (n : Nat) (y : Nat → Pi) : lsP (n + 1) y = lsP n y ++ [y n] := by simp [lsP, List.range_succ]
theorem lsP_at (n : Nat) (y : Nat → Pi) (j : Nat) (h : j < n) : (lsP n y)[j]? = some (y j) := by simp [lsP, h]
theorem lsP_congr {n : Nat} {y z : Nat → Pi} (h : ∀ j, j < n → y j = z j) : lsP n y = lsP n z := by
  unfold lsP
  exact List.map_congr_left fun j hj => h j (List.mem_range.1 hj)
theorem expd_succ (n : Nat) (y : Nat → Pi) : expd (lsP (n + 1) y) = expd (lsP n y) + if (y n).2.2 then 1 else 0 := by
  rw [lsP_succ]
  unfold expd
  rw [List.countP_append, List.countP_singleton]
/-- Of two that are one behind the other in what is in order. -/
theorem ranked_le {l : List Pi} {i j : Nat} (hij : i < j) {a b : Nat × Int} (ha : (ranked l)[i]? = some a) (hb : (ranked l)[j]? = some b) : kle a b = true := by
  obtain ⟨hi, rfl⟩ := List.getElem?_eq_some_iff.1 ha
  obtain ⟨hj, rfl⟩ := List.getElem?_eq_some_iff.1 hb
  exact (List.pairwise_iff_getElem.1 (ranked_pw l)) i j hi hj hij
/-! ### The order by picking -/
/-- Of what is not taken, up to i, the one at `at` goes first. -/
def Best (y : Nat → Pi) (sel : List Nat) (i : Nat) (a : Option Nat) : Prop :=
  match a with
  | none => ∀ j, j < i → j ∈ sel
  | some a => a < i ∧ a ∉ sel ∧ ∀ j, j < i → j ∉ sel → kle (kc (y a)) (kc (y j)) = true
/-- Those that were picked. -/
structure Sel (y : Nat → Pi) (n : Nat) (sel : List Nat) : Prop where
  nd : sel.Nodup
  lt : ∀ i ∈ sel, i < n
  pw : (sel.map fun i => kc (y i)).Pairwise fun a b => kle a b = true
  rest : ∀ i ∈ sel, ∀ j, j < n → j ∉ sel → kle (kc (y i)) (kc (y j)) = true
theorem Sel.nil (y : Nat → Pi) (n : Nat) : Sel y n [] := ⟨List.nodup_nil, by simp, by simp, by simp⟩
theorem Sel.len {y : Nat → Pi} {n : Nat} {sel : List Nat} (h : Sel y n sel) : sel.length ≤ n := by
  have := List.Nodup.length_le_of_subset h.nd (fun i hi => List.mem_range.2 (h.lt i hi))
  simpa using this
theorem Sel.next {y : Nat → Pi} {n a : Nat} {sel : List Nat} (h : Sel y n sel) (hb : Best y sel n (some a)) : Sel y n (sel ++ [a]) := by
  obtain ⟨h1, h2, h3⟩ := hb
  refine ⟨?_, fun i hi => ?_, ?_, fun i hi j hj hn => ?_⟩
  · rw [List.nodup_append]
    exact ⟨h.nd, by simp, fun x hx z hz => by rw [List.mem_singleton.1 hz]; intro e; subst e; exact h2 hx⟩
  · rcases List.mem_append.1 hi with h4 | h4
    · exact h.lt i h4
    · rw [List.mem_singleton.1 h4]; exact h1
  · rw [List.map_append, List.pairwise_append]
    refine ⟨h.pw, by simp, fun p hp q hq => ?_⟩
    obtain ⟨i, hi, rfl⟩ := List.mem_map.1 hp
    simp only [List.map_cons, List.map_nil, List.mem_singleton] at hq
    subst hq
    exact h.rest i hi a h1 h2
  · have hn' : j ∉ sel := fun e => hn (List.mem_append_left _ e)
    rcases List.mem_append.1 hi with h4 | h4
    · exact h.rest i h4 j hj hn'
    · rw [List.mem_singleton.1 h4]; exact h3 j hj hn'
theorem best_more {y : Nat → Pi} {n : Nat} {sel : List Nat} (hl : sel.length < n) : ¬ Best y sel n none := fun hb => by
  have := List.Nodup.length_le_of_subset (List.nodup_range (n := n)) (fun i hi => hb i (List.mem_range.1 hi))
  simp at this
  omega
/-- What was picked is the beginning of what is in order. -/
theorem Sel.take {y : Nat → Pi} {n : Nat} {sel : List Nat} (h : Sel y n sel) : (sel.map fun i => kc (y i)) = (ranked (lsP n y)).take sel.length := by
  have hp : (sel ++ (List.range n).filter fun i => !sel.contains i).Perm (List.range n) := by
    rw [List.perm_ext_iff_of_nodup]
    · intro i
      simp only [List.mem_append, List.mem_filter, List.mem_range, Bool.not_eq_true', List.contains_eq_mem, decide_eq_false_iff_not]
      refine ⟨fun h' => h'.elim (h.lt i) (·.1), fun h' => ?_⟩
      by_cases hm : i ∈ sel
      · exact .inl hm
      · exact .inr ⟨h', hm⟩
    · rw [List.nodup_append]
      refine ⟨h.nd, List.nodup_range.sublist List.filter_sublist, fun x hx z hz e => ?_⟩
      subst e
      simp at hz
      exact hz.2 hx
    · exact List.nodup_range
  have hr : ((sel.map fun i => kc (y i)) ++ (((List.range n).filter fun i => !sel.contains i).map fun i => kc (y i)).mergeSort kle) = ranked (lsP n y) := by
    refine ranked_only ?_ ?_
    · have e : (lsP n y).map kc = (List.range n).map fun i => kc (y i) := by simp [lsP]
      rw [e]
      refine List.Perm.trans (List.Perm.append_left _ (List.mergeSort_perm _ _)) ?_
      rw [← List.map_append]
      exact hp.map _
    · rw [List.pairwise_append]
      refine ⟨h.pw, List.pairwise_mergeSort (fun a b c h h' => kle_trans a b c h h') kle_total _, fun p hp q hq => ?_⟩
      obtain ⟨i, hi, rfl⟩ := List.mem_map.1 hp
      obtain ⟨j, hj, rfl⟩ := List.mem_map.1 ((List.mergeSort_perm _ _).mem_iff.1 hq)
      simp at hj
      exact h.rest i hi j hj.1 hj.2
  rw [← hr, List.take_append_of_le_length (by rw [List.length_map]; exact Nat.le_refl _), List.take_of_length_le (by rw [List.length_map]; exact Nat.le_refl _)]
end Go.Proofs.Ytigifbijmchdcaa
