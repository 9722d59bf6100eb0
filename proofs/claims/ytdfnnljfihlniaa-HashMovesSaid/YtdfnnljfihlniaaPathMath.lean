/- Plain facts on ways down a tree of 2 to the d-th leaves: the nodes of a way, how far two ways are one, how many ways meet a node. No function is called here. -/
namespace Go.Proofs.Ytdfnnljfihlniaa

/-- The node at depth k on the way to a leaf, in a tree that is d deep. -/
def nd (d l k : Nat) : Nat := 2 ^ k - 1 + l / 2 ^ (d - k)
/-- A way: the nodes of depths 0 to d. -/
def way (d l : Nat) : List Nat := (List.range (d + 1)).map (nd d l)
theorem two_pow_pos (k : Nat) : 0 < 2 ^ k := Nat.two_pow_pos k
theorem way_len (d l : Nat) : (way d l).length = d + 1 := by simp [way]
theorem way_at (d l k : Nat) (h : k < (way d l).length) : (way d l)[k] = nd d l k := by simp [way]
theorem nd_zero (d l : Nat) (h : l < 2 ^ d) : nd d l 0 = 0 := by
  unfold nd
  rw [Nat.sub_zero, Nat.div_eq_of_lt h]
theorem nd_last (d l : Nat) : nd d l d = 2 ^ d - 1 + l := by unfold nd; rw [Nat.sub_self]; simp
/-- The leaf's part at depth k: fewer than there are nodes of that depth. -/
theorem part_lt (d l k : Nat) (hk : k ≤ d) (h : l < 2 ^ d) : l / 2 ^ (d - k) < 2 ^ k := by
  rw [Nat.div_lt_iff_lt_mul (two_pow_pos _), ← Nat.pow_add, show k + (d - k) = d by omega]
  exact h
theorem part_half (d l k : Nat) (hk : k < d) : l / 2 ^ (d - (k + 1)) / 2 = l / 2 ^ (d - k) := by
  rw [Nat.div_div_eq_div_mul, ← Nat.pow_succ, show (d - (k + 1)).succ = d - k by omega]
theorem nd_lt (d l k : Nat) (hk : k ≤ d) (h : l < 2 ^ d) : nd d l k < 2 ^ (k + 1) - 1 := by
  have h1 := part_lt d l k hk h
  have h2 := two_pow_pos k
  unfold nd
  rw [Nat.pow_succ]
  omega
theorem nd_ge (d l k : Nat) : 2 ^ k - 1 ≤ nd d l k := Nat.le_add_right _ _
theorem pow_le (a b : Nat) (h : a ≤ b) : 2 ^ a ≤ 2 ^ b := Nat.pow_le_pow_right (by decide) h
/-- All are nodes of the tree. -/
theorem nd_in (d l k : Nat) (hk : k ≤ d) (h : l < 2 ^ d) : nd d l k < 2 * 2 ^ d - 1 := by
  have h1 := nd_lt d l k hk h
  have h2 := pow_le (k + 1) (d + 1) (by omega)
  rw [Nat.pow_succ 2 d] at h2
  omega
/-- Each is below the one ahead. -/
theorem nd_down (d l k : Nat) (hk : k < d) : nd d l (k + 1) = 2 * nd d l k + 1 + l / 2 ^ (d - (k + 1)) % 2 := by
  have h1 := part_half d l k hk
  have h2 := two_pow_pos k
  unfold nd
  rw [Nat.pow_succ, ← h1]
  omega
/-- The node above is the one ahead. -/
theorem nd_up (d l k : Nat) (hk : k < d) : (nd d l (k + 1) - 1) / 2 = nd d l k := by
  rw [nd_down d l k hk]; omega
/-- Two nodes of one depth are one just if the leaves' parts are. -/
theorem nd_eq (d a b k : Nat) : nd d a k = nd d b k ↔ a / 2 ^ (d - k) = b / 2 ^ (d - k) := by unfold nd; omega
/-- A node has one depth. -/
theorem nd_depth (d a b j k : Nat) (hj : j ≤ d) (hk : k ≤ d) (ha : a < 2 ^ d) (hb : b < 2 ^ d) (h : nd d a j = nd d b k) : j = k := by
  have h1 := nd_lt d a j hj ha
  have h2 := nd_lt d b k hk hb
  have h3 := nd_ge d a j
  have h4 := nd_ge d b k
  rcases Nat.lt_trichotomy j k with h5 | h5 | h5
  · have := pow_le (j + 1) k h5; have := two_pow_pos (j + 1); omega
  · exact h5
  · have := pow_le (k + 1) j h5; have := two_pow_pos (k + 1); omega
/-- What is one at a depth is one above it. -/
theorem part_up (d a b : Nat) : ∀ m k, k + m ≤ d → a / 2 ^ (d - (k + m)) = b / 2 ^ (d - (k + m)) → a / 2 ^ (d - k) = b / 2 ^ (d - k)
  | 0, _, _, h => h
  | m + 1, k, hd, h => by
    refine part_up d a b m k (by omega) ?_
    rw [← part_half d a (k + m) (by omega), ← part_half d b (k + m) (by omega)]
    rw [show k + m + 1 = k + (m + 1) by omega, h]
theorem nd_above (d a b j k : Nat) (hjk : j ≤ k) (hk : k ≤ d) (h : nd d a k = nd d b k) : nd d a j = nd d b j := by
  rw [nd_eq] at h ⊢
  obtain ⟨m, rfl⟩ : ∃ m, k = j + m := ⟨k - j, by omega⟩
  exact part_up d a b m j hk h
/-- How far two ways are one, asked from depth 0 on, no further than n. -/
def deep (d a b : Nat) : Nat → Nat
  | 0 => 0
  | n + 1 => if deep d a b n = n ∧ nd d a (n + 1) = nd d b (n + 1) then n + 1 else deep d a b n
theorem deep_le (d a b : Nat) : ∀ n, deep d a b n ≤ n
  | 0 => Nat.le_refl _
  | n + 1 => by
    have := deep_le d a b n
    unfold deep
    split <;> omega
/-- Down to it the nodes are one; behind it they are not. -/
theorem deep_one (d a b : Nat) (ha : a < 2 ^ d) (hb : b < 2 ^ d) : ∀ n, n ≤ d → nd d a (deep d a b n) = nd d b (deep d a b n) ∧ (deep d a b n < n → nd d a (deep d a b n + 1) ≠ nd d b (deep d a b n + 1))
  | 0, _ => ⟨by show nd d a 0 = nd d b 0; rw [nd_zero d a ha, nd_zero d b hb], fun h => absurd h (Nat.not_lt_zero _)⟩
  | n + 1, hn => by
    obtain ⟨h1, h2⟩ := deep_one d a b ha hb n (by omega)
    have hl := deep_le d a b n
    unfold deep
    by_cases hc : deep d a b n = n ∧ nd d a (n + 1) = nd d b (n + 1)
    · rw [if_pos hc]; exact ⟨hc.2, fun h => absurd h (Nat.lt_irrefl _)⟩
    · rw [if_neg hc]
      refine ⟨h1, fun _ => ?_⟩
      by_cases he : deep d a b n = n
      · rw [he]; exact fun h => hc ⟨he, h⟩
      · exact h2 (by omega)
/-- The nodes are one just at those depths that are no deeper. -/
theorem deep_iff (d a b : Nat) (ha : a < 2 ^ d) (hb : b < 2 ^ d) (k : Nat) (hk : k ≤ d) : nd d a k = nd d b k ↔ k ≤ deep d a b d := by
  obtain ⟨h1, h2⟩ := deep_one d a b ha hb d (Nat.le_refl _)
  have hl := deep_le d a b d
  constructor
  · intro h
    apply Nat.le_of_not_lt
    intro hlt
    exact h2 (by omega) (nd_above d a b _ k (by omega) hk h)
  · intro h
    exact nd_above d a b k _ h hl h1
/-- It is the only number of which that can be said. -/
theorem deep_only (d a b : Nat) (ha : a < 2 ^ d) (hb : b < 2 ^ d) (m : Nat) (hm : m ≤ d) (h1 : nd d a m = nd d b m) (h2 : m < d → nd d a (m + 1) ≠ nd d b (m + 1)) : deep d a b d = m := by
  have h3 := (deep_iff d a b ha hb m hm).1 h1
  have hl := deep_le d a b d
  by_cases h4 : m = deep d a b d
  · exact h4.symm
  · exact absurd ((deep_iff d a b ha hb (m + 1) (by omega)).2 (by omega)) (h2 (by omega))
theorem deep_self (d a : Nat) (ha : a < 2 ^ d) : deep d a a d = d := deep_only d a a ha ha d (Nat.le_refl _) rfl (fun h => absurd h (Nat.lt_irrefl _))
theorem deep_turn (d a b : Nat) (ha : a < 2 ^ d) (hb : b < 2 ^ d) : deep d b a d = deep d a b d := by
  obtain ⟨h1, h2⟩ := deep_one d a b ha hb d (Nat.le_refl _)
  exact deep_only d b a hb ha _ (deep_le d a b d) h1.symm (fun h e => h2 h e.symm)
/-- Of three, the two that are nearest bound the others. -/
theorem deep_three (d a b c : Nat) (ha : a < 2 ^ d) (hb : b < 2 ^ d) (hc : c < 2 ^ d) : min (deep d a b d) (deep d b c d) ≤ deep d a c d := by
  have h1 := deep_le d a b d
  have h2 := deep_le d b c d
  refine (deep_iff d a c ha hc _ (by omega)).1 ?_
  exact ((deep_iff d a b ha hb _ (by omega)).2 (by omega)).trans ((deep_iff d b c hb hc _ (by omega)).2 (by omega))
/-- How many of the first n leaves are on the way to a node of depth k, by its part p. -/
def met (d k p : Nat) : Nat → Nat
  | 0 => 0
  | n + 1 => met d k p n + if n / 2 ^ (d - k) = p then 1 else 0
theorem met_succ (d k p n : Nat) : met d k p (n + 1) = met d k p n + if n / 2 ^ (d - k) = p then 1 else 0 := rfl
theorem met_many (d k p : Nat) : ∀ n, met d k p n = min n ((p + 1) * 2 ^ (d - k)) - min n (p * 2 ^ (d - k))
  | 0 => by unfold met; omega
  | n + 1 => by
    rw [met_succ, met_many d k p n]
    have hp := two_pow_pos (d - k)
    obtain ⟨q, hq⟩ : ∃ q, 2 ^ (d - k) = q := ⟨_, rfl⟩
    rw [hq] at hp ⊢
    have e : (p + 1) * q = p * q + q := by rw [Nat.add_mul, Nat.one_mul]
    by_cases h : n / q = p
    · rw [if_pos h]
      have h1 : p * q ≤ n := by rw [← h]; exact Nat.div_mul_le_self n q
      have h2 : n < p * q + q := by
        have := Nat.lt_div_mul_add (a := n) hp
        rw [h] at this
        exact this
      omega
    · rw [if_neg h]
      rcases Nat.lt_or_ge n (p * q) with h1 | h1
      · omega
      · rcases Nat.lt_or_ge n (p * q + q) with h2 | h2
        · exact absurd (Nat.div_eq_of_lt_le (by omega) (by rw [e]; exact h2)) h
        · omega
/-- As many leaves are below a node as its depth leaves. -/
theorem met_all (d k p : Nat) (hk : k ≤ d) (hp : p < 2 ^ k) : met d k p (2 ^ d) = 2 ^ (d - k) := by
  rw [met_many]
  have e : 2 ^ d = 2 ^ k * 2 ^ (d - k) := by rw [← Nat.pow_add, show k + (d - k) = d by omega]
  have h1 : (p + 1) * 2 ^ (d - k) ≤ 2 ^ d := by rw [e]; exact Nat.mul_le_mul_right _ hp
  have h2 : (p + 1) * 2 ^ (d - k) = p * 2 ^ (d - k) + 2 ^ (d - k) := by rw [Nat.add_mul, Nat.one_mul]
  have h3 := two_pow_pos (d - k)
  rw [h2] at h1 ⊢
  generalize p * 2 ^ (d - k) = x at *
  generalize 2 ^ (d - k) = y at *
  generalize 2 ^ d = u at *
  omega
/-- In a tree of twice as many leaves the way of leaf l is that of half of l, and one node more. -/
theorem nd_half (d l k : Nat) (hk : k ≤ d) : nd (d + 1) l k = nd d (l / 2) k := by
  unfold nd
  rw [Nat.div_div_eq_div_mul, show d + 1 - k = (d - k) + 1 by omega, Nat.pow_succ, Nat.mul_comm]
theorem way_half (d l : Nat) : way (d + 1) l = way d (l / 2) ++ [nd (d + 1) l (d + 1)] := by
  unfold way
  rw [List.range_succ, List.map_append]
  congr 1
  refine List.map_congr_left (fun k hk => nd_half d l k ?_)
  have := List.mem_range.1 hk
  omega
/-- Each node of a tree is on a way: which part it is of its depth. -/
theorem nd_all (d v : Nat) (hv : v < 2 * 2 ^ d - 1) : ∃ k p, k ≤ d ∧ p < 2 ^ k ∧ v = 2 ^ k - 1 + p := by
  induction d with
  | zero => exact ⟨0, 0, Nat.le_refl _, by decide, by simp at hv; omega⟩
  | succ d ih =>
    by_cases h : v < 2 * 2 ^ d - 1
    · obtain ⟨k, p, h1, h2, h3⟩ := ih h
      exact ⟨k, p, by omega, h2, h3⟩
    · have := two_pow_pos d
      refine ⟨d + 1, v - (2 ^ (d + 1) - 1), Nat.le_refl _, ?_, ?_⟩ <;> rw [Nat.pow_succ] at * <;> omega
/-- The depth of a node, reckoned by halving. -/
def dep : Nat → Nat → Nat
  | 0, _ => 0
  | f + 1, n => if n ≤ 1 then 0 else dep f (n / 2) + 1
theorem dep_is : ∀ (f k p : Nat), k ≤ f → p < 2 ^ k → dep f (2 ^ k + p) = k
  | 0, k, p, hk, hp => by
    obtain rfl : k = 0 := by omega
    rfl
  | f + 1, 0, p, _, hp => by
    have : p = 0 := by simpa using hp
    subst this
    rfl
  | f + 1, k + 1, p, hk, hp => by
    have h1 := two_pow_pos k
    unfold dep
    rw [if_neg (by rw [Nat.pow_succ]; omega)]
    rw [Nat.pow_succ] at hp ⊢
    rw [show (2 ^ k * 2 + p) / 2 = 2 ^ k + p / 2 by omega, dep_is f k (p / 2) (by omega) (by omega)]
end Go.Proofs.Ytdfnnljfihlniaa
