/- Plain facts on cells that a network puts in order by one of their words: the words go as a network of words makes them go, the cells stay the same ones, none beyond is touched. No program is named here. -/
import Derived.Test.YtojdefaplekieaaNetPairs
namespace Go.Proofs.Ytojdefaplekieaa

/-- A cell: its words by their places. -/
abbrev Cl := Nat → Int
/-- Are two cells to be turned? -/
def turned (κ : Nat) (u : Bool) (a b : Cl) : Bool := if u then decide (b κ < a κ) else decide (a κ < b κ)
/-- What one pair makes of cells. -/
def exC (κ : Nat) (C : Nat → Cl) (p : Pr) : Nat → Cl := fun i =>
  if i = p.1 then (if turned κ p.2.2 (C p.1) (C p.2.1) then C p.2.1 else C p.1)
  else if i = p.2.1 then (if turned κ p.2.2 (C p.1) (C p.2.1) then C p.1 else C p.2.1) else C i
def runC (κ : Nat) (ps : List Pr) (C : Nat → Cl) : Nat → Cl := ps.foldl (exC κ) C
theorem runC_append (κ : Nat) (a b : List Pr) (C : Nat → Cl) : runC κ (a ++ b) C = runC κ b (runC κ a C) := List.foldl_append
theorem runC_snoc (κ : Nat) (ps : List Pr) (p : Pr) (C : Nat → Cl) : runC κ (ps ++ [p]) C = exC κ (runC κ ps C) p := by rw [runC_append]; rfl
/-- The words go as a network of words makes them go. -/
theorem exC_key (κ : Nat) (C : Nat → Cl) (p : Pr) : (fun i => exC κ C p i κ) = exch (fun i => C i κ) p := by
  funext i
  unfold exC exch turned
  obtain ⟨a, b, u⟩ := p
  dsimp only
  by_cases h1 : i = a
  · rw [if_pos h1, if_pos h1]
    cases u
    · simp only [Bool.false_eq_true, if_false, decide_eq_true_eq]
      split <;> omega
    · simp only [if_true, decide_eq_true_eq]
      split <;> omega
  · rw [if_neg h1, if_neg h1]
    by_cases h2 : i = b
    · rw [if_pos h2, if_pos h2]
      cases u
      · simp only [Bool.false_eq_true, if_false, decide_eq_true_eq]
        split <;> omega
      · simp only [if_true, decide_eq_true_eq]
        split <;> omega
    · rw [if_neg h2, if_neg h2]
theorem runC_key (κ : Nat) : ∀ (ps : List Pr) (C : Nat → Cl), (fun i => runC κ ps C i κ) = run ps (fun i => C i κ)
  | [], _ => rfl
  | p :: ps, C => by
    show (fun i => runC κ ps (exC κ C p) i κ) = run ps (exch (fun i => C i κ) p)
    rw [runC_key κ ps (exC κ C p), exC_key]
theorem runC_word (κ : Nat) (ps : List Pr) (C : Nat → Cl) (i : Nat) : runC κ ps C i κ = run ps (fun i => C i κ) i := congrFun (runC_key κ ps C) i

/-- n cells as a list. -/
def lstC (n : Nat) (C : Nat → Cl) : List Cl := (List.range n).map C
theorem lstC_len (n : Nat) (C : Nat → Cl) : (lstC n C).length = n := by simp [lstC]
theorem lstC_at (n : Nat) (C : Nat → Cl) (i : Nat) (h : i < (lstC n C).length) : (lstC n C)[i] = C i := by simp [lstC]
theorem mem_lstC {n : Nat} {C : Nat → Cl} {c : Cl} : c ∈ lstC n C ↔ ∃ i, i < n ∧ C i = c := by unfold lstC; simp [List.mem_map]
def swapC (C : Nat → Cl) (a b : Nat) : Nat → Cl := fun i => if i = a then C b else if i = b then C a else C i
theorem lstC_swap (n : Nat) (C : Nat → Cl) (a b : Nat) (ha : a < n) (hb : b < n) : (lstC n (swapC C a b)).Perm (lstC n C) := by
  have la : a < (lstC n C).length := by rw [lstC_len]; exact ha
  have lb : b < (lstC n C).length := by rw [lstC_len]; exact hb
  have e : lstC n (swapC C a b) = ((lstC n C).set a (lstC n C)[b]).set b (lstC n C)[a] := by
    apply List.ext_getElem
    · simp [lstC_len]
    · intro i h1 h2
      rw [List.getElem_set, List.getElem_set]
      simp only [lstC_at]
      unfold swapC
      by_cases hia : i = a
      · subst hia
        rw [if_pos rfl]
        by_cases hib : b = i
        · subst hib; rw [if_pos rfl]
        · rw [if_neg hib, if_pos rfl]
      · rw [if_neg hia]
        by_cases hib : i = b
        · subst hib; rw [if_pos rfl, if_pos rfl]
        · rw [if_neg hib, if_neg (fun h => hib h.symm), if_neg (fun h => hia h.symm)]
  rw [e]
  exact List.set_set_perm la lb
theorem exC_cases (κ : Nat) (C : Nat → Cl) (p : Pr) : exC κ C p = C ∨ exC κ C p = swapC C p.1 p.2.1 := by
  cases h : turned κ p.2.2 (C p.1) (C p.2.1)
  · left
    funext i
    unfold exC
    rw [h]
    by_cases h1 : i = p.1
    · rw [if_pos h1, h1]; rfl
    · rw [if_neg h1]
      by_cases h2 : i = p.2.1
      · rw [if_pos h2, h2]; rfl
      · rw [if_neg h2]
  · right
    funext i
    unfold exC swapC
    rw [h]
    by_cases h1 : i = p.1
    · rw [if_pos h1, if_pos h1]; rfl
    · rw [if_neg h1, if_neg h1]
      by_cases h2 : i = p.2.1
      · rw [if_pos h2, if_pos h2]; rfl
      · rw [if_neg h2, if_neg h2]
/-- The cells stay the same ones, each as often. -/
theorem runC_perm (κ n : Nat) : ∀ (ps : List Pr) (C : Nat → Cl), Within n ps → (lstC n (runC κ ps C)).Perm (lstC n C)
  | [], _, _ => List.Perm.refl _
  | p :: ps, C, h => by
    have hp := h p (by simp)
    refine List.Perm.trans (runC_perm κ n ps (exC κ C p) (fun q hq => h q (by simp [hq]))) ?_
    rcases exC_cases κ C p with e | e
    · rw [e]
    · rw [e]; exact lstC_swap n C _ _ (by omega) hp.2
theorem runC_from (κ n : Nat) (ps : List Pr) (C : Nat → Cl) (h : Within n ps) (i : Nat) (hi : i < n) : ∃ j, j < n ∧ runC κ ps C i = C j := by
  have h1 : runC κ ps C i ∈ lstC n C := (runC_perm κ n ps C h).mem_iff.1 (mem_lstC.2 ⟨i, hi, rfl⟩)
  obtain ⟨j, hj, e⟩ := mem_lstC.1 h1
  exact ⟨j, hj, e.symm⟩
/-- What holds of each cell holds of each one behind it. -/
theorem runC_all (κ n : Nat) (ps : List Pr) (C : Nat → Cl) (h : Within n ps) (Pc : Cl → Prop) (hp : ∀ j, j < n → Pc (C j)) (i : Nat) (hi : i < n) : Pc (runC κ ps C i) := by
  obtain ⟨j, hj, e⟩ := runC_from κ n ps C h i hi
  rw [e]; exact hp j hj
/-- None beyond is touched. -/
theorem exC_far (κ : Nat) (C : Nat → Cl) (p : Pr) (i : Nat) (h1 : i ≠ p.1) (h2 : i ≠ p.2.1) : exC κ C p i = C i := by
  unfold exC; rw [if_neg h1, if_neg h2]
theorem runC_far (κ n : Nat) : ∀ (ps : List Pr) (C : Nat → Cl), Within n ps → ∀ i, n ≤ i → runC κ ps C i = C i
  | [], _, _, _, _ => rfl
  | p :: ps, C, h, i, hi => by
    have hp := h p (by simp)
    have e : runC κ (p :: ps) C i = runC κ ps (exC κ C p) i := rfl
    rw [e, runC_far κ n ps (exC κ C p) (fun q hq => h q (by simp [hq])) i hi]
    exact exC_far κ C p i (by omega) (by omega)
/-- Cells that are alike below n are made alike there. -/
theorem runC_near (κ n : Nat) : ∀ (ps : List Pr) (C D : Nat → Cl), Within n ps → (∀ i, i < n → C i = D i) → ∀ i, i < n → runC κ ps C i = runC κ ps D i
  | [], _, _, _, h, i, hi => h i hi
  | p :: ps, C, D, hw, h, i, hi => by
    have hp := hw p (by simp)
    have e : ∀ E : Nat → Cl, runC κ (p :: ps) E i = runC κ ps (exC κ E p) i := fun _ => rfl
    rw [e C, e D]
    refine runC_near κ n ps _ _ (fun q hq => hw q (by simp [hq])) (fun j hj => ?_) i hi
    unfold exC
    rw [h p.1 (by omega), h p.2.1 hp.2, h j hj]
/-- Behind a network the words are in order. -/
theorem netC_sorted (κ P : Nat) (C : Nat → Cl) (i j : Nat) (hij : i ≤ j) (hj : j < 2 ^ P) : runC κ (netL P) C i κ ≤ runC κ (netL P) C j κ := by
  rw [runC_word, runC_word]
  exact run_sorted P _ i j hij hj
/-- Where a cell's word tells the cell, what stands where is told by the words alone. -/
theorem runC_by (κ n : Nat) (ps : List Pr) (C : Nat → Cl) (h : Within n ps) (φ : Int → Cl) (hφ : ∀ j, j < n → C j = φ (C j κ)) (i : Nat) (hi : i < n) : runC κ ps C i = φ (run ps (fun j => C j κ) i) := by
  obtain ⟨j, hj, e⟩ := runC_from κ n ps C h i hi
  rw [← runC_word, e]
  exact hφ j hj
/-- So it does not matter where they stood. -/
theorem netC_same (κ P : Nat) (C D : Nat → Cl) (φ : Int → Cl) (hC : ∀ j, j < 2 ^ P → C j = φ (C j κ)) (hD : ∀ j, j < 2 ^ P → D j = φ (D j κ))
    (hp : (lst (2 ^ P) (fun j => D j κ)).Perm (lst (2 ^ P) (fun j => C j κ))) (i : Nat) (hi : i < 2 ^ P) : runC κ (netL P) D i = runC κ (netL P) C i := by
  rw [runC_by κ (2 ^ P) _ C (netL_within P) φ hC i hi, runC_by κ (2 ^ P) _ D (netL_within P) φ hD i hi]
  have e := net_only P (fun j => C j κ) _ (net_sorted P (fun j => D j κ)) ((net_perm P _).trans hp)
  have h1 := lst_at (2 ^ P) (run (netL P) (fun j => C j κ)) i (by rw [lst_len]; exact hi)
  have h2 := lst_at (2 ^ P) (run (netL P) (fun j => D j κ)) i (by rw [lst_len]; exact hi)
  rw [← h1, ← h2]
  simp only [e]
/-- The words alone: put in order, whatever the cells. -/
theorem netC_words (κ P : Nat) (C D : Nat → Cl) (hp : (lst (2 ^ P) (fun j => D j κ)).Perm (lst (2 ^ P) (fun j => C j κ))) (i : Nat) (hi : i < 2 ^ P) : runC κ (netL P) D i κ = runC κ (netL P) C i κ := by
  rw [runC_word, runC_word]
  have e := net_only P (fun j => C j κ) _ (net_sorted P (fun j => D j κ)) ((net_perm P _).trans hp)
  have h1 := lst_at (2 ^ P) (run (netL P) (fun j => C j κ)) i (by rw [lst_len]; exact hi)
  have h2 := lst_at (2 ^ P) (run (netL P) (fun j => D j κ)) i (by rw [lst_len]; exact hi)
  rw [← h1, ← h2]
  simp only [e]
/-- Put in order again, cells whose words tell them stay. -/
theorem netC_again (κ P : Nat) (C : Nat → Cl) (φ : Int → Cl) (hC : ∀ j, j < 2 ^ P → C j = φ (C j κ)) (i : Nat) (hi : i < 2 ^ P) : runC κ (netL P) (runC κ (netL P) C) i = runC κ (netL P) C i := by
  refine netC_same κ P C (runC κ (netL P) C) φ hC (fun j hj => ?_) ?_ i hi
  · exact runC_all κ (2 ^ P) _ C (netL_within P) (fun c => c = φ (c κ)) hC j hj
  · rw [runC_key]; exact net_perm P _

/-- The looks of pairs at a region: both read, both written. -/
def looks (r : Nat) (ps : List Pr) : List (Nat × Nat × Bool) := ps.flatMap fun p => [(r, p.1, false), (r, p.2.1, false), (r, p.1, true), (r, p.2.1, true)]
theorem looks_len (r : Nat) (ps : List Pr) : (looks r ps).length = ps.length * 4 := by
  induction ps with
  | nil => rfl
  | cons p ps ih => rw [looks, List.flatMap_cons, List.length_append, ← looks, ih]; simp; omega
theorem looks_snoc (r : Nat) (ps : List Pr) (p : Pr) : looks r (ps ++ [p]) = looks r ps ++ [(r, p.1, false), (r, p.2.1, false), (r, p.1, true), (r, p.2.1, true)] := by simp [looks]
theorem looks_behind (r : Nat) (ps : List Pr) (es : List (Nat × Nat × Bool)) : (es ++ looks r ps).drop es.length = looks r ps := List.drop_left
end Go.Proofs.Ytojdefaplekieaa
