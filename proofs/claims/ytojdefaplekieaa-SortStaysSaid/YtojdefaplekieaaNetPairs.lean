/- Plain facts on the pairs of a bitonic network as a list: what they make of numbers one behind the other, how many they are, which places they meet, and that the numbers stay the same ones. No program is named here. -/
import Derived.Test.YtojdefaplekieaaNetMath
namespace Go.Proofs.Ytojdefaplekieaa

/-- A pair: two places, and whether the lesser one goes to the first. -/
abbrev Pr := Nat × Nat × Bool
def mkP (k j i : Nat) : Pr := (i, i + j, upOf k i)
def lowB (j i : Nat) : Bool := decide (i / j % 2 = 0)
/-- The pairs j apart of the first m places. -/
def stageL (m k j : Nat) : List Pr := ((List.range m).filter (lowB j)).map (mkP k j)
def mergeL (n k : Nat) : Nat → List Pr
  | 0 => []
  | q + 1 => stageL n k (2 ^ q) ++ mergeL n k q
def phasesL (n : Nat) : Nat → List Pr
  | 0 => []
  | p + 1 => phasesL n p ++ mergeL n (2 ^ (p + 1)) (p + 1)
/-- What one pair makes of numbers. -/
def exch (x : Nat → Int) (p : Pr) : Nat → Int := fun i =>
  if i = p.1 then (if p.2.2 then min (x p.1) (x p.2.1) else max (x p.1) (x p.2.1))
  else if i = p.2.1 then (if p.2.2 then max (x p.1) (x p.2.1) else min (x p.1) (x p.2.1)) else x i
def run (ps : List Pr) (x : Nat → Int) : Nat → Int := ps.foldl exch x
theorem run_append (a b : List Pr) (x : Nat → Int) : run (a ++ b) x = run b (run a x) := List.foldl_append

theorem lowOf_low (j i : Nat) : lowOf j i / j % 2 = 0 := by
  unfold lowOf
  split
  · assumption
  · rename_i h
    have h1 : j ≤ i := by
      rcases Nat.lt_or_ge i j with h2 | h2
      · rw [Nat.div_eq_of_lt h2] at h; exact absurd rfl h
      · exact h2
    have := Nat.sub_mul_div i j 1
    rw [Nat.mul_one] at this
    rw [this]
    omega
theorem lowOf_cases (j i : Nat) : (i / j % 2 = 0 ∧ lowOf j i = i) ∨ (i / j % 2 = 1 ∧ i = lowOf j i + j) := by
  unfold lowOf
  split
  · exact .inl ⟨by assumption, rfl⟩
  · rename_i h
    refine .inr ⟨by omega, ?_⟩
    rcases Nat.lt_or_ge i j with h2 | h2
    · rw [Nat.div_eq_of_lt h2] at h; exact absurd rfl h
    · omega
theorem lowOf_le (j i : Nat) : lowOf j i ≤ i := by unfold lowOf; split <;> omega
theorem lowOf_self {j i : Nat} (h : i / j % 2 = 0) : lowOf j i = i := by unfold lowOf; rw [if_pos h]
theorem lowOf_add {j i : Nat} (hj : 0 < j) (h : i / j % 2 = 0) : lowOf j (i + j) = i ∧ (i + j) / j % 2 = 1 := by
  have e : (i + j) / j = i / j + 1 := Nat.add_div_right i hj
  have : (i + j) / j % 2 = 1 := by omega
  refine ⟨?_, this⟩
  unfold lowOf; rw [if_neg (by omega)]; omega
theorem stageL_succ (m k j : Nat) : stageL (m + 1) k j = stageL m k j ++ if lowB j m then [mkP k j m] else [] := by
  unfold stageL
  rw [List.range_succ, List.filter_append, List.map_append]
  congr 1
  cases h : lowB j m <;> simp [h]
/-- The pairs of one distance, one behind the other, make what they make at once. -/
theorem run_stage (k j : Nat) (hj : 0 < j) (x : Nat → Int) : ∀ m i, run (stageL m k j) x i = if lowOf j i < m then stage (upOf k) j x i else x i
  | 0, i => by rw [if_neg (by omega)]; rfl
  | m + 1, i => by
    have ih := run_stage k j hj x m
    rw [stageL_succ, run_append]
    cases hm : lowB j m
    · show run (stageL m k j) x i = _
      rw [ih i]
      have hm' : ¬ m / j % 2 = 0 := by unfold lowB at hm; simpa using hm
      have := lowOf_low j i
      by_cases hl : lowOf j i < m
      · rw [if_pos hl, if_pos (by omega)]
      · rw [if_neg hl, if_neg (by
          intro hc
          have e : lowOf j i = m := by omega
          rw [e] at this; exact hm' this)]
    · show exch (run (stageL m k j) x) (mkP k j m) i = _
      have hm' : m / j % 2 = 0 := by unfold lowB at hm; simpa using hm
      have l1 := lowOf_self hm'
      obtain ⟨l2, l3⟩ := lowOf_add hj hm'
      have y1 : run (stageL m k j) x m = x m := by rw [ih m, l1, if_neg (by omega)]
      have y2 : run (stageL m k j) x (m + j) = x (m + j) := by rw [ih (m + j), l2, if_neg (by omega)]
      unfold exch mkP
      dsimp only
      rw [y1, y2]
      by_cases h1 : i = m
      · subst h1
        rw [if_pos rfl, if_pos (show lowOf j i < i + 1 by omega)]
        unfold stage
        simp only [l1, hm']
        cases upOf k i <;> simp
      · rw [if_neg h1]
        by_cases h2 : i = m + j
        · subst h2
          rw [if_pos rfl, if_pos (show lowOf j (m + j) < m + 1 by omega)]
          unfold stage
          simp only [l2, l3]
          cases upOf k m <;> simp
        · rw [if_neg h2, ih i]
          have hne : lowOf j i ≠ m := by
            rcases lowOf_cases j i with ⟨_, e⟩ | ⟨_, e⟩
            · rw [e]; exact h1
            · intro e2; rw [e2] at e; exact h2 e
          by_cases hl : lowOf j i < m
          · rw [if_pos hl, if_pos (by omega)]
          · rw [if_neg hl, if_neg (by omega)]
/-- A stage looks at places below n alone, where n is a multiple of two distances. -/
theorem low_add_lt {j n i : Nat} (hj : 0 < j) (hn : 2 * j ∣ n) (hi : i < n) : lowOf j i + j < n := by
  obtain ⟨c, rfl⟩ := hn
  have h0 := lowOf_low j i
  have hle := lowOf_le j i
  have hd : lowOf j i / j < 2 * c := by
    rw [Nat.div_lt_iff_lt_mul hj]
    have : 2 * c * j = 2 * j * c := by rw [Nat.mul_assoc, Nat.mul_comm c j, ← Nat.mul_assoc]
    omega
  have hd2 : lowOf j i / j + 1 < 2 * c := by omega
  have h3 := Nat.lt_mul_div_succ (lowOf j i) hj
  have h4 : j * (lowOf j i / j + 1 + 1) ≤ j * (2 * c) := Nat.mul_le_mul_left j hd2
  rw [al_lo] at h4
  rw [Nat.mul_add, Nat.mul_one] at h4
  omega
theorem stage_near (up : Nat → Bool) {j n : Nat} (hj : 0 < j) (hn : 2 * j ∣ n) {x y : Nat → Int} (h : ∀ i, i < n → x i = y i) (i : Nat) (hi : i < n) : stage up j x i = stage up j y i := by
  have h1 := low_add_lt hj hn hi
  unfold stage
  dsimp only
  rw [h (lowOf j i) (by omega), h (lowOf j i + j) h1]
theorem run_merge (n k : Nat) : ∀ (q : Nat), 2 ^ q ∣ n → ∀ (x y : Nat → Int), (∀ i, i < n → x i = y i) → ∀ i, i < n → run (mergeL n k q) x i = merge (upOf k) q y i
  | 0, _, x, y, h, i, hi => h i hi
  | q + 1, hq, x, y, h, i, hi => by
    have e : 2 ^ (q + 1) = 2 * 2 ^ q := by rw [Nat.pow_succ, Nat.mul_comm]
    rw [e] at hq
    show run (stageL n k (2 ^ q) ++ mergeL n k q) x i = merge (upOf k) q (stage (upOf k) (2 ^ q) y) i
    rw [run_append]
    refine run_merge n k q (Nat.dvd_trans (Nat.dvd_mul_left _ _) hq) _ _ (fun a ha => ?_) i hi
    have := lowOf_le (2 ^ q) a
    rw [run_stage k (2 ^ q) (two_pos q) x n a, if_pos (by omega)]
    exact stage_near (upOf k) (two_pos q) hq h a ha
theorem run_phases (n : Nat) : ∀ (p : Nat), 2 ^ p ∣ n → ∀ (x : Nat → Int) i, i < n → run (phasesL n p) x i = phases p x i
  | 0, _, x, i, _ => rfl
  | p + 1, hp, x, i, hi => by
    show run (phasesL n p ++ mergeL n (2 ^ (p + 1)) (p + 1)) x i = merge (upOf (2 ^ (p + 1))) (p + 1) (phases p x) i
    rw [run_append]
    exact run_merge n _ (p + 1) hp _ _ (fun a ha => run_phases n p (Nat.dvd_trans (Nat.pow_dvd_pow 2 (by omega)) hp) x a ha) i hi
/-- The network of 2^p places puts whatever numbers in order. -/
theorem run_sorted (p : Nat) (x : Nat → Int) (i j : Nat) (hij : i ≤ j) (hj : j < 2 ^ p) : run (phasesL (2 ^ p) p) x i ≤ run (phasesL (2 ^ p) p) x j := by
  rw [run_phases (2 ^ p) p (Nat.dvd_refl _) x i (by omega), run_phases (2 ^ p) p (Nat.dvd_refl _) x j hj]
  exact phases_sorted p x i j hij hj

/-- n numbers as a list. -/
def lst (n : Nat) (x : Nat → Int) : List Int := (List.range n).map x
theorem lst_len (n : Nat) (x : Nat → Int) : (lst n x).length = n := by simp [lst]
theorem lst_at (n : Nat) (x : Nat → Int) (i : Nat) (h : i < (lst n x).length) : (lst n x)[i] = x i := by simp [lst]
theorem lst_ext (n : Nat) (x y : Nat → Int) (h : ∀ i, i < n → x i = y i) : lst n x = lst n y := by
  unfold lst; exact List.map_congr_left fun i hi => h i (by simpa using hi)
/-- Two places exchanged. -/
def swapAt (x : Nat → Int) (a b : Nat) : Nat → Int := fun i => if i = a then x b else if i = b then x a else x i
theorem lst_swap (n : Nat) (x : Nat → Int) (a b : Nat) (ha : a < n) (hb : b < n) : (lst n (swapAt x a b)).Perm (lst n x) := by
  have la : a < (lst n x).length := by rw [lst_len]; exact ha
  have lb : b < (lst n x).length := by rw [lst_len]; exact hb
  have e : lst n (swapAt x a b) = ((lst n x).set a (lst n x)[b]).set b (lst n x)[a] := by
    apply List.ext_getElem
    · simp [lst_len]
    · intro i h1 h2
      rw [List.getElem_set, List.getElem_set]
      simp only [lst_at]
      unfold swapAt
      by_cases hia : i = a
      · subst hia
        rw [if_pos rfl]
        by_cases hib : b = i
        · subst hib; rw [if_pos rfl]
        · rw [if_neg hib, if_pos rfl]
      · rw [if_neg hia]
        by_cases hib : i = b
        · subst hib; rw [if_pos rfl, if_pos rfl]
        · rw [if_neg hib, if_neg (fun h => hib h.symm), if_neg (fun h => hia h.symm)]
  rw [e]
  exact List.set_set_perm la lb
/-- A pair leaves the numbers as they are, or exchanges two. -/
theorem exch_cases (x : Nat → Int) (p : Pr) : exch x p = x ∨ exch x p = swapAt x p.1 p.2.1 := by
  obtain ⟨a, b, u⟩ := p
  rcases Int.le_total (x a) (x b) with h | h
  · cases u
    · right; funext i; unfold exch swapAt; dsimp only
      simp only [Bool.false_eq_true, if_false, Int.max_eq_right h, Int.min_eq_left h]
    · left; funext i; unfold exch; dsimp only
      simp only [if_true, Int.max_eq_right h, Int.min_eq_left h]
      by_cases h1 : i = a
      · rw [if_pos h1, h1]
      · rw [if_neg h1]
        by_cases h2 : i = b
        · rw [if_pos h2, h2]
        · rw [if_neg h2]
  · cases u
    · left; funext i; unfold exch; dsimp only
      simp only [Bool.false_eq_true, if_false, Int.max_eq_left h, Int.min_eq_right h]
      by_cases h1 : i = a
      · rw [if_pos h1, h1]
      · rw [if_neg h1]
        by_cases h2 : i = b
        · rw [if_pos h2, h2]
        · rw [if_neg h2]
    · right; funext i; unfold exch swapAt; dsimp only
      simp only [if_true, Int.max_eq_left h, Int.min_eq_right h]
/-- All places of the pairs are below n, the first one below the second one. -/
def Within (n : Nat) (ps : List Pr) : Prop := ∀ p ∈ ps, p.1 < p.2.1 ∧ p.2.1 < n
theorem run_perm (n : Nat) : ∀ (ps : List Pr) (x : Nat → Int), Within n ps → (lst n (run ps x)).Perm (lst n x)
  | [], _, _ => List.Perm.refl _
  | p :: ps, x, h => by
    have hp := h p (by simp)
    have ih := run_perm n ps (exch x p) (fun q hq => h q (by simp [hq]))
    refine List.Perm.trans ih ?_
    rcases exch_cases x p with e | e
    · rw [e]
    · rw [e]; exact lst_swap n x _ _ (by omega) hp.2
theorem stageL_within {n k j : Nat} (hj : 0 < j) (hn : 2 * j ∣ n) : Within n (stageL n k j) := by
  intro p hp
  unfold stageL at hp
  simp only [List.mem_map, List.mem_filter, List.mem_range] at hp
  obtain ⟨i, ⟨hi, hl⟩, rfl⟩ := hp
  have hl' : i / j % 2 = 0 := by unfold lowB at hl; simpa using hl
  have := low_add_lt hj hn hi
  rw [lowOf_self hl'] at this
  exact ⟨by show i < i + j; omega, this⟩
theorem Within.append {n : Nat} {a b : List Pr} (h : Within n a) (k : Within n b) : Within n (a ++ b) := fun p hp => by
  rcases List.mem_append.1 hp with h1 | h1
  · exact h p h1
  · exact k p h1
theorem mergeL_within (n k : Nat) : ∀ q, 2 ^ q ∣ n → Within n (mergeL n k q)
  | 0, _ => fun p hp => by simp [mergeL] at hp
  | q + 1, h => by
    have e : 2 ^ (q + 1) = 2 * 2 ^ q := by rw [Nat.pow_succ, Nat.mul_comm]
    rw [e] at h
    exact (stageL_within (two_pos q) h).append (mergeL_within n k q (Nat.dvd_trans (Nat.dvd_mul_left _ _) h))
theorem phasesL_within (n : Nat) : ∀ p, 2 ^ p ∣ n → Within n (phasesL n p)
  | 0, _ => fun p hp => by simp [phasesL] at hp
  | p + 1, h => (phasesL_within n p (Nat.dvd_trans (Nat.pow_dvd_pow 2 (by omega)) h)).append (mergeL_within n _ (p + 1) h)
/-- The network of 2^p places. -/
def netL (p : Nat) : List Pr := phasesL (2 ^ p) p
theorem netL_within (p : Nat) : Within (2 ^ p) (netL p) := phasesL_within _ p (Nat.dvd_refl _)
theorem net_perm (p : Nat) (x : Nat → Int) : (lst (2 ^ p) (run (netL p) x)).Perm (lst (2 ^ p) x) := run_perm _ _ x (netL_within p)
theorem net_sorted (p : Nat) (x : Nat → Int) : (lst (2 ^ p) (run (netL p) x)).Pairwise (· ≤ ·) := by
  rw [List.pairwise_iff_getElem]
  intro i j hi hj hij
  rw [lst_len] at hi hj
  rw [lst_at, lst_at]
  exact run_sorted p x i j (by omega) hj
/-- What is in order and has the same numbers is what the network makes. -/
theorem net_only (p : Nat) (x : Nat → Int) (l : List Int) (hs : l.Pairwise (· ≤ ·)) (hp : l.Perm (lst (2 ^ p) x)) : lst (2 ^ p) (run (netL p) x) = l :=
  List.Perm.eq_of_pairwise (le := (· ≤ ·)) (fun _ _ _ _ h1 h2 => Int.le_antisymm h1 h2) (net_sorted p x) hs ((net_perm p x).trans hp.symm)

/-- How many pairs there are. -/
theorem low_count (j : Nat) (hj : 0 < j) : ∀ c, ((List.range (2 * j * c)).filter (lowB j)).length = j * c
  | 0 => by simp
  | c + 1 => by
    have e : 2 * j * (c + 1) = 2 * j * c + (j + j) := by rw [Nat.mul_add]; omega
    rw [e, List.range_add, List.filter_append, List.length_append, low_count j hj c, List.filter_map, List.length_map, List.range_add, List.filter_append, List.length_append]
    have h1 : (List.range j).filter (lowB j ∘ fun x => 2 * j * c + x) = List.range j := by
      rw [List.filter_eq_self]
      intro a ha
      have ha' : a < j := by simpa using ha
      simp only [Function.comp, lowB, decide_eq_true_eq]
      exact half_lo ha'
    have h2 : ((List.range j).map (fun x => j + x)).filter (lowB j ∘ fun x => 2 * j * c + x) = [] := by
      rw [List.filter_eq_nil_iff]
      intro a ha
      simp only [List.mem_map, List.mem_range] at ha
      obtain ⟨i, hi, rfl⟩ := ha
      have := half_hi (c := c) hi
      simp only [Function.comp, lowB, decide_eq_true_eq]
      omega
    rw [h1, h2]
    simp [Nat.mul_add]
theorem stageL_len {n k j : Nat} (hj : 0 < j) (hn : 2 * j ∣ n) : 2 * (stageL n k j).length = n := by
  obtain ⟨c, rfl⟩ := hn
  unfold stageL
  rw [List.length_map, low_count j hj c, Nat.mul_assoc]
theorem mergeL_len (n k : Nat) : ∀ q, 2 ^ q ∣ n → 2 * (mergeL n k q).length = q * n
  | 0, _ => by simp [mergeL]
  | q + 1, h => by
    have e : 2 ^ (q + 1) = 2 * 2 ^ q := by rw [Nat.pow_succ, Nat.mul_comm]
    rw [e] at h
    have h1 := stageL_len (k := k) (two_pos q) h
    have h2 := mergeL_len n k q (Nat.dvd_trans (Nat.dvd_mul_left _ _) h)
    rw [mergeL, List.length_append, Nat.add_mul]; omega
theorem phasesL_len (n : Nat) : ∀ p, 2 ^ p ∣ n → 4 * (phasesL n p).length = p * (p + 1) * n
  | 0, _ => by simp [phasesL]
  | p + 1, h => by
    have h1 := phasesL_len n p (Nat.dvd_trans (Nat.pow_dvd_pow 2 (by omega)) h)
    have h2 := mergeL_len n (2 ^ (p + 1)) (p + 1) h
    have e : (p + 1) * (p + 1 + 1) * n = p * (p + 1) * n + 2 * ((p + 1) * n) := by
      rw [Nat.mul_add (p + 1) (p + 1) 1, Nat.mul_one, Nat.add_mul p 1 (p + 1), Nat.one_mul, Nat.add_mul, Nat.add_mul]; omega
    rw [phasesL, List.length_append, e]; omega

/-- How often a place is met. -/
def mets (ps : List Pr) (i : Nat) : Nat := ps.countP (fun p => p.1 == i) + ps.countP (fun p => p.2.1 == i)
theorem mets_append (a b : List Pr) (i : Nat) : mets (a ++ b) i = mets a i + mets b i := by unfold mets; rw [List.countP_append, List.countP_append]; omega
theorem mets_stage (k j : Nat) (hj : 0 < j) : ∀ m i, mets (stageL m k j) i = if lowOf j i < m then 1 else 0
  | 0, i => by rw [if_neg (by omega)]; rfl
  | m + 1, i => by
    have ih := mets_stage k j hj m i
    rw [stageL_succ, mets_append, ih]
    cases hm : lowB j m
    · have hm' : ¬ m / j % 2 = 0 := by unfold lowB at hm; simpa using hm
      have := lowOf_low j i
      have hne : lowOf j i ≠ m := fun e => hm' (e ▸ this)
      rw [if_neg (show ¬ (false = true) by decide)]
      show (if lowOf j i < m then 1 else 0) + 0 = _
      by_cases hl : lowOf j i < m
      · rw [if_pos hl, if_pos (by omega)]
      · rw [if_neg hl, if_neg (by omega)]
    · have hm' : m / j % 2 = 0 := by unfold lowB at hm; simpa using hm
      have l1 := lowOf_self hm'
      obtain ⟨l2, l3⟩ := lowOf_add hj hm'
      rw [if_pos rfl]
      have e : mets [mkP k j m] i = (if i = m then 1 else 0) + (if i = m + j then 1 else 0) := by
        unfold mets mkP
        simp only [List.countP_cons, List.countP_nil, Nat.zero_add, beq_iff_eq]
        congr 1
        · by_cases h : i = m
          · rw [if_pos h.symm, if_pos h]
          · rw [if_neg (fun h' => h h'.symm), if_neg h]
        · by_cases h : i = m + j
          · rw [if_pos h.symm, if_pos h]
          · rw [if_neg (fun h' => h h'.symm), if_neg h]
      rw [e]
      by_cases h1 : i = m
      · subst h1; rw [l1, if_neg (by omega), if_pos rfl, if_neg (by omega), if_pos (by omega)]
      · by_cases h2 : i = m + j
        · subst h2; rw [l2, if_neg (by omega), if_neg h1, if_pos rfl, if_pos (by omega)]
        · have hne : lowOf j i ≠ m := by
            rcases lowOf_cases j i with ⟨_, e⟩ | ⟨_, e⟩
            · rw [e]; exact h1
            · intro e2; rw [e2] at e; exact h2 e
          rw [if_neg h1, if_neg h2]
          by_cases hl : lowOf j i < m
          · rw [if_pos hl, if_pos (by omega)]
          · rw [if_neg hl, if_neg (by omega)]
theorem mets_merge (n k : Nat) (i : Nat) (hi : i < n) : ∀ q, mets (mergeL n k q) i = q
  | 0 => rfl
  | q + 1 => by
    have := lowOf_le (2 ^ q) i
    rw [mergeL, mets_append, mets_merge n k i hi q, mets_stage k (2 ^ q) (two_pos q), if_pos (by omega)]; omega
theorem mets_phases (n : Nat) (i : Nat) (hi : i < n) : ∀ p, 2 * mets (phasesL n p) i = p * (p + 1)
  | 0 => rfl
  | p + 1 => by
    have ih := mets_phases n i hi p
    have e : (p + 1) * (p + 1 + 1) = p * (p + 1) + 2 * (p + 1) := by
      rw [Nat.mul_add (p + 1) (p + 1) 1, Nat.mul_one, Nat.add_mul p 1 (p + 1), Nat.one_mul]; omega
    rw [phasesL, mets_append, mets_merge n _ i hi (p + 1), e]; omega

/-- The pairs of twice as many places, those of the first half alone, are the pairs of one half. -/
theorem stageL_half (m k j : Nat) : (stageL (2 * m) k j).filter (fun p => decide (p.1 < m)) = stageL m k j := by
  unfold stageL
  rw [List.filter_map, List.filter_filter]
  congr 1
  rw [show 2 * m = m + m by omega, List.range_add, List.filter_append]
  have h1 : (List.range m).filter (fun a => ((fun p : Pr => decide (p.1 < m)) ∘ mkP k j) a && lowB j a) = (List.range m).filter (lowB j) := by
    apply List.filter_congr
    intro a ha
    have ha' : a < m := by simpa using ha
    simp [Function.comp, mkP, ha']
  have h2 : ((List.range m).map (fun x => m + x)).filter (fun a => ((fun p : Pr => decide (p.1 < m)) ∘ mkP k j) a && lowB j a) = [] := by
    rw [List.filter_eq_nil_iff]
    intro a ha
    simp only [List.mem_map, List.mem_range] at ha
    obtain ⟨i, hi, rfl⟩ := ha
    simp [Function.comp, mkP]
    intro hc
    exact absurd (of_decide_eq_true hc) (by omega)
  rw [h1, h2, List.append_nil]
theorem mergeL_half (m k : Nat) : ∀ q, (mergeL (2 * m) k q).filter (fun p => decide (p.1 < m)) = mergeL m k q
  | 0 => rfl
  | q + 1 => by rw [mergeL, mergeL, List.filter_append, stageL_half, mergeL_half m k q]
theorem phasesL_half (m : Nat) : ∀ p, (phasesL (2 * m) p).filter (fun p => decide (p.1 < m)) = phasesL m p
  | 0 => rfl
  | p + 1 => by rw [phasesL, phasesL, List.filter_append, mergeL_half, phasesL_half m p]
/-- A network is that of its first rounds, twice as long as that of half as many places, and its last round, all up. -/
theorem netL_succ (p : Nat) : netL (p + 1) = phasesL (2 * 2 ^ p) p ++ mergeL (2 * 2 ^ p) (2 ^ (p + 1)) (p + 1) := by
  unfold netL; rw [phasesL, show 2 ^ (p + 1) = 2 * 2 ^ p by rw [Nat.pow_succ, Nat.mul_comm]]
theorem first_len (p : Nat) : (phasesL (2 * 2 ^ p) p).length = 2 * (netL p).length := by
  have h1 := phasesL_len (2 * 2 ^ p) p (Nat.dvd_mul_left _ _)
  have h2 := phasesL_len (2 ^ p) p (Nat.dvd_refl _)
  rw [show p * (p + 1) * (2 * 2 ^ p) = 2 * (p * (p + 1) * 2 ^ p) by rw [Nat.mul_left_comm]] at h1
  unfold netL; omega
theorem last_up (n k : Nat) (h : n ≤ k) : ∀ q, ∀ p ∈ mergeL n k q, p.2.2 = true
  | 0, p, hp => by simp [mergeL] at hp
  | q + 1, p, hp => by
    rw [mergeL] at hp
    rcases List.mem_append.1 hp with h1 | h1
    · unfold stageL at h1
      simp only [List.mem_map, List.mem_filter, List.mem_range] at h1
      obtain ⟨i, ⟨hi, _⟩, rfl⟩ := h1
      show upOf k i = true
      unfold upOf
      rw [Nat.div_eq_of_lt (by omega)]; rfl
    · exact last_up n k h q p h1
theorem netL_len (p : Nat) : 4 * (netL p).length = p * (p + 1) * 2 ^ p := phasesL_len _ p (Nat.dvd_refl _)
theorem netL_mets (p i : Nat) (hi : i < 2 ^ p) : 2 * mets (netL p) i = p * (p + 1) := mets_phases _ i hi p

/-- What is in order has its least number first and its greatest one last. -/
theorem sorted_first (l : List Int) (hs : l.Pairwise (· ≤ ·)) (h : 0 < l.length) (v : Int) (hv : v ∈ l) : l[0] ≤ v := by
  obtain ⟨i, hi, rfl⟩ := List.getElem_of_mem hv
  rw [List.pairwise_iff_getElem] at hs
  rcases Nat.eq_zero_or_pos i with h0 | h0
  · subst h0; exact Int.le_refl _
  · exact hs 0 i h hi h0
theorem sorted_last (l : List Int) (hs : l.Pairwise (· ≤ ·)) (h : 0 < l.length) (v : Int) (hv : v ∈ l) : v ≤ l[l.length - 1] := by
  obtain ⟨i, hi, rfl⟩ := List.getElem_of_mem hv
  rw [List.pairwise_iff_getElem] at hs
  by_cases h0 : i = l.length - 1
  · subst h0; exact Int.le_refl _
  · exact hs i (l.length - 1) hi (by omega) (by omega)
/-- A row of noughts and ones in order: first the noughts. -/
theorem zeros_ones (l : List Int) (h : ∀ v ∈ l, v = 0 ∨ v = 1) : (List.replicate (l.length - l.count 1) (0 : Int) ++ List.replicate (l.count 1) 1).Pairwise (· ≤ ·) ∧ (List.replicate (l.length - l.count 1) (0 : Int) ++ List.replicate (l.count 1) 1).Perm l := by
  constructor
  · rw [List.pairwise_append]
    refine ⟨List.pairwise_replicate.2 (.inr (Int.le_refl _)), List.pairwise_replicate.2 (.inr (Int.le_refl _)), fun a ha b hb => ?_⟩
    rw [(List.mem_replicate.1 ha).2, (List.mem_replicate.1 hb).2]; decide
  · induction l with
    | nil => exact List.Perm.refl _
    | cons a l ih =>
      have ih := ih (fun v hv => h v (by simp [hv]))
      have hc : l.count 1 ≤ l.length := List.count_le_length
      rcases h a (by simp) with rfl | rfl
      · rw [List.count_cons_of_ne (by decide), List.length_cons, show l.length + 1 - l.count 1 = (l.length - l.count 1) + 1 by omega, List.replicate_succ, List.cons_append]
        exact List.Perm.cons _ ih
      · rw [List.count_cons_self, List.length_cons, show l.length + 1 - (l.count 1 + 1) = l.length - l.count 1 by omega, List.replicate_succ]
        exact List.perm_middle.trans (List.Perm.cons _ ih)
end Go.Proofs.Ytojdefaplekieaa
