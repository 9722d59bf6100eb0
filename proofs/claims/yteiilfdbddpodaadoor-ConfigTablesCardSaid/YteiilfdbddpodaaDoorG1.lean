/- Texts of ours put together: PathMath, DealMath, DealMore. -/
/- Plain facts on ways down a tree of 2 to the d-th leaves: the nodes of a way, how far two ways are one, how many ways meet a node. No function is called here. -/
namespace Go.Proofs.YteiilfdbddpodaaDoor
set_option maxRecDepth 100000

/-- The node at depth k on the way to a leaf, in a tree that is d deep. -/
def nd (d l k : Nat) : Nat := 2 ^ k - 1 + l / 2 ^ (d - k)
/-- A way: the nodes of depths 0 to d. -/
def way (d l : Nat) : List Nat := (List.range (d + 1)).map (nd d l)
theorem two_pow_pos (k : Nat) : 0 < 2 ^ k := Nat.two_pow_pos k
theorem way_len (d l : Nat) : (way d l).length = d + 1 := by simp [way]
theorem way_at (d l k : Nat) (h : k < (way d l).length) : (way d l)[k] = nd d l k := by simp [way]
theorem nd_zero (d l : Nat) (h : l < 2 ^ d) : nd d l 0 = 0 := by
  unfold nd
  rw [Nat.sub_zero, Nat.div_eq_of_lt h]
theorem nd_last (d l : Nat) : nd d l d = 2 ^ d - 1 + l := by unfold nd; rw [Nat.sub_self]; simp
/-- The leaf's part at depth k: fewer than there are nodes of that depth. -/
theorem part_lt (d l k : Nat) (hk : k ≤ d) (h : l < 2 ^ d) : l / 2 ^ (d - k) < 2 ^ k := by
  rw [Nat.div_lt_iff_lt_mul (two_pow_pos _), ← Nat.pow_add, show k + (d - k) = d by omega]
  exact h
theorem part_half (d l k : Nat) (hk : k < d) : l / 2 ^ (d - (k + 1)) / 2 = l / 2 ^ (d - k) := by
  rw [Nat.div_div_eq_div_mul, ← Nat.pow_succ, show (d - (k + 1)).succ = d - k by omega]
theorem nd_lt (d l k : Nat) (hk : k ≤ d) (h : l < 2 ^ d) : nd d l k < 2 ^ (k + 1) - 1 := by
  have h1 := part_lt d l k hk h
  have h2 := two_pow_pos k
  unfold nd
  rw [Nat.pow_succ]
  omega
theorem nd_ge (d l k : Nat) : 2 ^ k - 1 ≤ nd d l k := Nat.le_add_right _ _
theorem pow_le (a b : Nat) (h : a ≤ b) : 2 ^ a ≤ 2 ^ b := Nat.pow_le_pow_right (by decide) h
/-- All are nodes of the tree. -/
theorem nd_in (d l k : Nat) (hk : k ≤ d) (h : l < 2 ^ d) : nd d l k < 2 * 2 ^ d - 1 := by
  have h1 := nd_lt d l k hk h
  have h2 := pow_le (k + 1) (d + 1) (by omega)
  rw [Nat.pow_succ 2 d] at h2
  omega
/-- Each is below the one ahead. -/
theorem nd_down (d l k : Nat) (hk : k < d) : nd d l (k + 1) = 2 * nd d l k + 1 + l / 2 ^ (d - (k + 1)) % 2 := by
  have h1 := part_half d l k hk
  have h2 := two_pow_pos k
  unfold nd
  rw [Nat.pow_succ, ← h1]
  omega
/-- The node above is the one ahead. -/
theorem nd_up (d l k : Nat) (hk : k < d) : (nd d l (k + 1) - 1) / 2 = nd d l k := by
  rw [nd_down d l k hk]; omega
/-- Two nodes of one depth are one just if the leaves' parts are. -/
theorem nd_eq (d a b k : Nat) : nd d a k = nd d b k ↔ a / 2 ^ (d - k) = b / 2 ^ (d - k) := by unfold nd; omega
/-- A node has one depth. -/
theorem nd_depth (d a b j k : Nat) (hj : j ≤ d) (hk : k ≤ d) (ha : a < 2 ^ d) (hb : b < 2 ^ d) (h : nd d a j = nd d b k) : j = k := by
  have h1 := nd_lt d a j hj ha
  have h2 := nd_lt d b k hk hb
  have h3 := nd_ge d a j
  have h4 := nd_ge d b k
  rcases Nat.lt_trichotomy j k with h5 | h5 | h5
  · have := pow_le (j + 1) k h5; have := two_pow_pos (j + 1); omega
  · exact h5
  · have := pow_le (k + 1) j h5; have := two_pow_pos (k + 1); omega
/-- What is one at a depth is one above it. -/
theorem part_up (d a b : Nat) : ∀ m k, k + m ≤ d → a / 2 ^ (d - (k + m)) = b / 2 ^ (d - (k + m)) → a / 2 ^ (d - k) = b / 2 ^ (d - k)
  | 0, _, _, h => h
  | m + 1, k, hd, h => by
    refine part_up d a b m k (by omega) ?_
    rw [← part_half d a (k + m) (by omega), ← part_half d b (k + m) (by omega)]
    rw [show k + m + 1 = k + (m + 1) by omega, h]
theorem nd_above (d a b j k : Nat) (hjk : j ≤ k) (hk : k ≤ d) (h : nd d a k = nd d b k) : nd d a j = nd d b j := by
  rw [nd_eq] at h ⊢
  obtain ⟨m, rfl⟩ : ∃ m, k = j + m := ⟨k - j, by omega⟩
  exact part_up d a b m j hk h
/-- How far two ways are one, asked from depth 0 on, no further than n. -/
def deep (d a b : Nat) : Nat → Nat
  | 0 => 0
  | n + 1 => if deep d a b n = n ∧ nd d a (n + 1) = nd d b (n + 1) then n + 1 else deep d a b n
theorem deep_le (d a b : Nat) : ∀ n, deep d a b n ≤ n
  | 0 => Nat.le_refl _
  | n + 1 => by
    have := deep_le d a b n
    unfold deep
    split <;> omega
/-- Down to it the nodes are one; behind it they are not. -/
theorem deep_one (d a b : Nat) (ha : a < 2 ^ d) (hb : b < 2 ^ d) : ∀ n, n ≤ d → nd d a (deep d a b n) = nd d b (deep d a b n) ∧ (deep d a b n < n → nd d a (deep d a b n + 1) ≠ nd d b (deep d a b n + 1))
  | 0, _ => ⟨by show nd d a 0 = nd d b 0; rw [nd_zero d a ha, nd_zero d b hb], fun h => absurd h (Nat.not_lt_zero _)⟩
  | n + 1, hn => by
    obtain ⟨h1, h2⟩ := deep_one d a b ha hb n (by omega)
    have hl := deep_le d a b n
    unfold deep
    by_cases hc : deep d a b n = n ∧ nd d a (n + 1) = nd d b (n + 1)
    · rw [if_pos hc]; exact ⟨hc.2, fun h => absurd h (Nat.lt_irrefl _)⟩
    · rw [if_neg hc]
      refine ⟨h1, fun _ => ?_⟩
      by_cases he : deep d a b n = n
      · rw [he]; exact fun h => hc ⟨he, h⟩
      · exact h2 (by omega)
/-- The nodes are one just at those depths that are no deeper. -/
theorem deep_iff (d a b : Nat) (ha : a < 2 ^ d) (hb : b < 2 ^ d) (k : Nat) (hk : k ≤ d) : nd d a k = nd d b k ↔ k ≤ deep d a b d := by
  obtain ⟨h1, h2⟩ := deep_one d a b ha hb d (Nat.le_refl _)
  have hl := deep_le d a b d
  constructor
  · intro h
    apply Nat.le_of_not_lt
    intro hlt
    exact h2 (by omega) (nd_above d a b _ k (by omega) hk h)
  · intro h
    exact nd_above d a b k _ h hl h1
/-- It is the only number of which that can be said. -/
theorem deep_only (d a b : Nat) (ha : a < 2 ^ d) (hb : b < 2 ^ d) (m : Nat) (hm : m ≤ d) (h1 : nd d a m = nd d b m) (h2 : m < d → nd d a (m + 1) ≠ nd d b (m + 1)) : deep d a b d = m := by
  have h3 := (deep_iff d a b ha hb m hm).1 h1
  have hl := deep_le d a b d
  by_cases h4 : m = deep d a b d
  · exact h4.symm
  · exact absurd ((deep_iff d a b ha hb (m + 1) (by omega)).2 (by omega)) (h2 (by omega))
theorem deep_self (d a : Nat) (ha : a < 2 ^ d) : deep d a a d = d := deep_only d a a ha ha d (Nat.le_refl _) rfl (fun h => absurd h (Nat.lt_irrefl _))
theorem deep_turn (d a b : Nat) (ha : a < 2 ^ d) (hb : b < 2 ^ d) : deep d b a d = deep d a b d := by
  obtain ⟨h1, h2⟩ := deep_one d a b ha hb d (Nat.le_refl _)
  exact deep_only d b a hb ha _ (deep_le d a b d) h1.symm (fun h e => h2 h e.symm)
/-- Of three, the two that are nearest bound the others. -/
theorem deep_three (d a b c : Nat) (ha : a < 2 ^ d) (hb : b < 2 ^ d) (hc : c < 2 ^ d) : min (deep d a b d) (deep d b c d) ≤ deep d a c d := by
  have h1 := deep_le d a b d
  have h2 := deep_le d b c d
  refine (deep_iff d a c ha hc _ (by omega)).1 ?_
  exact ((deep_iff d a b ha hb _ (by omega)).2 (by omega)).trans ((deep_iff d b c hb hc _ (by omega)).2 (by omega))
/-- How many of the first n leaves are on the way to a node of depth k, by its part p. -/
def met (d k p : Nat) : Nat → Nat
  | 0 => 0
  | n + 1 => met d k p n + if n / 2 ^ (d - k) = p then 1 else 0
theorem met_succ (d k p n : Nat) : met d k p (n + 1) = met d k p n + if n / 2 ^ (d - k) = p then 1 else 0 := rfl
theorem met_many (d k p : Nat) : ∀ n, met d k p n = min n ((p + 1) * 2 ^ (d - k)) - min n (p * 2 ^ (d - k))
  | 0 => by unfold met; omega
  | n + 1 => by
    rw [met_succ, met_many d k p n]
    have hp := two_pow_pos (d - k)
    obtain ⟨q, hq⟩ : ∃ q, 2 ^ (d - k) = q := ⟨_, rfl⟩
    rw [hq] at hp ⊢
    have e : (p + 1) * q = p * q + q := by rw [Nat.add_mul, Nat.one_mul]
    by_cases h : n / q = p
    · rw [if_pos h]
      have h1 : p * q ≤ n := by rw [← h]; exact Nat.div_mul_le_self n q
      have h2 : n < p * q + q := by
        have := Nat.lt_div_mul_add (a := n) hp
        rw [h] at this
        exact this
      omega
    · rw [if_neg h]
      rcases Nat.lt_or_ge n (p * q) with h1 | h1
      · omega
      · rcases Nat.lt_or_ge n (p * q + q) with h2 | h2
        · exact absurd (Nat.div_eq_of_lt_le (by omega) (by rw [e]; exact h2)) h
        · omega
/-- As many leaves are below a node as its depth leaves. -/
theorem met_all (d k p : Nat) (hk : k ≤ d) (hp : p < 2 ^ k) : met d k p (2 ^ d) = 2 ^ (d - k) := by
  rw [met_many]
  have e : 2 ^ d = 2 ^ k * 2 ^ (d - k) := by rw [← Nat.pow_add, show k + (d - k) = d by omega]
  have h1 : (p + 1) * 2 ^ (d - k) ≤ 2 ^ d := by rw [e]; exact Nat.mul_le_mul_right _ hp
  have h2 : (p + 1) * 2 ^ (d - k) = p * 2 ^ (d - k) + 2 ^ (d - k) := by rw [Nat.add_mul, Nat.one_mul]
  have h3 := two_pow_pos (d - k)
  rw [h2] at h1 ⊢
  generalize p * 2 ^ (d - k) = x at *
  generalize 2 ^ (d - k) = y at *
  generalize 2 ^ d = u at *
  omega
/-- In a tree of twice as many leaves the way of leaf l is that of half of l, and one node more. -/
theorem nd_half (d l k : Nat) (hk : k ≤ d) : nd (d + 1) l k = nd d (l / 2) k := by
  unfold nd
  rw [Nat.div_div_eq_div_mul, show d + 1 - k = (d - k) + 1 by omega, Nat.pow_succ, Nat.mul_comm]
theorem way_half (d l : Nat) : way (d + 1) l = way d (l / 2) ++ [nd (d + 1) l (d + 1)] := by
  unfold way
  rw [List.range_succ, List.map_append]
  congr 1
  refine List.map_congr_left (fun k hk => nd_half d l k ?_)
  have := List.mem_range.1 hk
  omega
/-- Each node of a tree is on a way: which part it is of its depth. -/
theorem nd_all (d v : Nat) (hv : v < 2 * 2 ^ d - 1) : ∃ k p, k ≤ d ∧ p < 2 ^ k ∧ v = 2 ^ k - 1 + p := by
  induction d with
  | zero => exact ⟨0, 0, Nat.le_refl _, by decide, by simp at hv; omega⟩
  | succ d ih =>
    by_cases h : v < 2 * 2 ^ d - 1
    · obtain ⟨k, p, h1, h2, h3⟩ := ih h
      exact ⟨k, p, by omega, h2, h3⟩
    · have := two_pow_pos d
      refine ⟨d + 1, v - (2 ^ (d + 1) - 1), Nat.le_refl _, ?_, ?_⟩ <;> rw [Nat.pow_succ] at * <;> omega
/-- The depth of a node, reckoned by halving. -/
def dep : Nat → Nat → Nat
  | 0, _ => 0
  | f + 1, n => if n ≤ 1 then 0 else dep f (n / 2) + 1
theorem dep_is : ∀ (f k p : Nat), k ≤ f → p < 2 ^ k → dep f (2 ^ k + p) = k
  | 0, k, p, hk, hp => by
    obtain rfl : k = 0 := by omega
    rfl
  | f + 1, 0, p, _, hp => by
    have : p = 0 := by simpa using hp
    subst this
    rfl
  | f + 1, k + 1, p, hk, hp => by
    have h1 := two_pow_pos k
    unfold dep
    rw [if_neg (by rw [Nat.pow_succ]; omega)]
    rw [Nat.pow_succ] at hp ⊢
    rw [show (2 ^ k * 2 + p) / 2 = 2 ^ k + p / 2 by omega, dep_is f k (p / 2) (by omega) (by omega)]
end Go.Proofs.YteiilfdbddpodaaDoor

/- Plain facts on dealing: the order in which items are dealt, and where each one goes. No function is called here. -/
namespace Go.Proofs.YteiilfdbddpodaaDoor
set_option maxRecDepth 100000

/-- An item: its Id, and how deep it may lie (below 0: empty). -/
abbrev It := Int × Int
/-- What items are put in order by: the empty ones last, the deepest first, the lesser Id first. -/
def dk0 (x : It) : Int := if 0 ≤ x.2 then 0 else 1
def dk1 (x : It) : Int := if 0 ≤ x.2 then -x.2 else 0
def dk2 (x : It) : Int := if 0 ≤ x.2 then x.1 else 0
/-- Item i is dealt ahead of item j. -/
def bef (f : Nat → It) (i j : Nat) : Prop :=
  dk0 (f i) < dk0 (f j) ∨ dk0 (f i) = dk0 (f j) ∧ (dk1 (f i) < dk1 (f j) ∨ dk1 (f i) = dk1 (f j) ∧ (dk2 (f i) < dk2 (f j) ∨ dk2 (f i) = dk2 (f j) ∧ i < j))
theorem bef_irrefl (f : Nat → It) (i : Nat) : ¬ bef f i i := by unfold bef; omega
theorem bef_trans {f : Nat → It} {i j k : Nat} (h1 : bef f i j) (h2 : bef f j k) : bef f i k := by unfold bef at *; omega
theorem bef_asymm {f : Nat → It} {i j : Nat} (h1 : bef f i j) (h2 : bef f j i) : False := bef_irrefl f i (bef_trans h1 h2)
theorem bef_total (f : Nat → It) {i j : Nat} (h : i ≠ j) : bef f i j ∨ bef f j i := by unfold bef; omega
theorem bef_not (f : Nat → It) {i j : Nat} (h : i ≠ j) : ¬ bef f i j ↔ bef f j i :=
  ⟨fun h1 => (bef_total f h).resolve_left h1, fun h1 h2 => bef_asymm h1 h2⟩
/-- Of two items that are not empty: by Deep, by Id, by place. -/
theorem bef_real {f : Nat → It} {i j : Nat} (hi : 0 ≤ (f i).2) (hj : 0 ≤ (f j).2) : bef f i j ↔ (f j).2 < (f i).2 ∨ (f i).2 = (f j).2 ∧ ((f i).1 < (f j).1 ∨ (f i).1 = (f j).1 ∧ i < j) := by
  unfold bef dk0 dk1 dk2
  rw [if_pos hi, if_pos hj, if_pos hi, if_pos hj, if_pos hi, if_pos hj]
  omega
theorem bef_mix {f : Nat → It} {i j : Nat} (hi : 0 ≤ (f i).2) (hj : (f j).2 < 0) : bef f i j := by
  unfold bef dk0
  rw [if_pos hi, if_neg (by omega)]
  omega
theorem bef_none {f : Nat → It} {i j : Nat} (hi : (f i).2 < 0) (hj : (f j).2 < 0) : bef f i j ↔ i < j := by
  unfold bef dk0 dk1 dk2
  rw [if_neg (by omega), if_neg (by omega), if_neg (by omega), if_neg (by omega), if_neg (by omega), if_neg (by omega)]
  omega
/-- A list of places is the order of n items. -/
structure IsOrd (f : Nat → It) (n : Nat) (o : List Nat) : Prop where
  perm : o.Perm (List.range n)
  srt : o.Pairwise (bef f)
section
variable {f : Nat → It} {n : Nat} {o o' : List Nat}
/-- There is no more than one. -/
theorem IsOrd.only (h : IsOrd f n o) (h' : IsOrd f n o') : o = o' :=
  List.Perm.eq_of_pairwise (fun _ _ _ _ h1 h2 => (bef_asymm h1 h2).elim) h.srt h'.srt (h.perm.trans h'.perm.symm)
theorem IsOrd.len (h : IsOrd f n o) : o.length = n := by rw [h.perm.length_eq, List.length_range]
theorem IsOrd.mem (h : IsOrd f n o) (i : Nat) : i ∈ o ↔ i < n := by rw [h.perm.mem_iff, List.mem_range]
theorem IsOrd.nodup (h : IsOrd f n o) : o.Nodup := h.perm.nodup_iff.2 List.nodup_range
theorem IsOrd.lt (h : IsOrd f n o) (k : Nat) (hk : k < o.length) : o[k] < n := (h.mem _).1 (List.getElem_mem hk)
/-- What is sorted, has no place twice, and has just the places below n, is the order. -/
theorem IsOrd.of (hs : o.Pairwise (bef f)) (hm : ∀ i, i ∈ o ↔ i < n) : IsOrd f n o :=
  ⟨(List.perm_ext_iff_of_nodup (hs.imp fun h e => by subst e; exact bef_irrefl _ _ h) List.nodup_range).2 fun i => by rw [hm, List.mem_range], hs⟩
end
/-- The order's places of items that are not empty, and those of the empty ones. -/
def reals (f : Nat → It) (o : List Nat) : List Nat := o.filter fun i => decide (0 ≤ (f i).2)
def blanks (f : Nat → It) (o : List Nat) : List Nat := o.filter fun i => !decide (0 ≤ (f i).2)
theorem ord_split {f : Nat → It} : ∀ {o : List Nat}, o.Pairwise (bef f) → o = reals f o ++ blanks f o
  | [], _ => rfl
  | i :: o, h => by
    obtain ⟨h1, h2⟩ := List.pairwise_cons.1 h
    have ih := ord_split h2
    unfold reals blanks at *
    by_cases hi : 0 ≤ (f i).2
    · rw [List.filter_cons_of_pos (by simp [hi]), List.filter_cons_of_neg (by simp [hi]), List.cons_append, ← ih]
    · rw [List.filter_cons_of_neg (by simp [hi]), List.filter_cons_of_pos (by simp [hi])]
      have hno : ∀ j ∈ o, ¬ 0 ≤ (f j).2 := fun j hj h0 => bef_asymm (h1 j hj) (bef_mix h0 (by omega))
      have e : o.filter (fun i => decide (0 ≤ (f i).2)) = [] := by
        rw [List.filter_eq_nil_iff]
        intro j hj
        simpa using hno j hj
      rw [e] at ih ⊢
      rw [List.nil_append] at ih ⊢
      rw [← ih]

/-- Of a row of S slots the last one first. -/
def rv (S x : Nat) : Nat := x / S * S + (S - 1 - x % S)
theorem rv_div (S x : Nat) (hS : 0 < S) : rv S x / S = x / S := by
  unfold rv
  have := Nat.mod_lt x hS
  have e : (S - 1 - x % S) / S = 0 := Nat.div_eq_of_lt (by omega)
  rw [Nat.mul_comm, Nat.mul_add_div hS, e, Nat.add_zero]
theorem rv_mod (S x : Nat) (hS : 0 < S) : rv S x % S = S - 1 - x % S := by
  unfold rv
  have := Nat.mod_lt x hS
  rw [Nat.mul_comm, Nat.mul_add_mod, Nat.mod_eq_of_lt (by omega)]
theorem rv_rv (S x : Nat) (hS : 0 < S) : rv S (rv S x) = x := by
  have h1 := rv_div S x hS
  have h2 := rv_mod S x hS
  have h3 := Nat.mod_lt x hS
  have h4 := Nat.div_add_mod x S
  unfold rv at h1 h2 ⊢
  rw [h1, h2, Nat.mul_comm]
  omega
theorem rv_inj {S x y : Nat} (hS : 0 < S) (h : rv S x = rv S y) : x = y := by rw [← rv_rv S x hS, ← rv_rv S y hS, h]
theorem rv_lt {S x d : Nat} (hS : 0 < S) (h : x < d * S) : rv S x < d * S := by
  have h1 := rv_div S x hS
  have h2 : x / S < d := (Nat.div_lt_iff_lt_mul hS).2 h
  exact (Nat.div_lt_iff_lt_mul hS).1 (by omega)
/-- By level and slot: what is left is a level's places and those above, less the slots that are taken. -/
theorem rv_level (S lv on : Nat) (hon : on < S) : rv S ((lv + 1) * S - on - 1) = lv * S + on := by
  have hS : 0 < S := by omega
  have e : (lv + 1) * S - on - 1 = S * lv + (S - 1 - on) := by rw [Nat.add_mul, Nat.one_mul, Nat.mul_comm]; omega
  unfold rv
  rw [e, Nat.mul_add_div hS, Nat.mul_add_mod, Nat.div_eq_of_lt (by omega), Nat.mod_eq_of_lt (by omega)]
  rw [Nat.add_zero]
  omega

/-- Where items go, one behind the other, by how deep each may lie: r places of the levels are left, st of the stash's T are taken; L is how many places all levels have. -/
def dl (S L T : Nat) : Nat → Nat → List Nat → List (Option Nat)
  | _, _, [] => []
  | r, st, d :: ds =>
    if min r ((d + 1) * S) = 0 then (if st < T then some (L + st) :: dl S L T 0 (st + 1) ds else none :: dl S L T 0 st ds)
    else some (rv S (min r ((d + 1) * S) - 1)) :: dl S L T (min r ((d + 1) * S) - 1) st ds
/-- How many find no place on a level. -/
def lo (S : Nat) : Nat → List Nat → Nat
  | _, [] => 0
  | r, d :: ds => if min r ((d + 1) * S) = 0 then lo S 0 ds + 1 else lo S (min r ((d + 1) * S) - 1) ds
/-- By how many the items from one on are more than there is room for, at most. -/
def mxs (S : Nat) : List Nat → Nat
  | [] => 0
  | d :: ds => max (ds.length + 1 - (d + 1) * S) (mxs S ds)
theorem dl_len (S L T : Nat) : ∀ (ds : List Nat) (r st : Nat), (dl S L T r st ds).length = ds.length
  | [], _, _ => rfl
  | d :: ds, r, st => by
    unfold dl
    split
    · split <;> simp [dl_len S L T ds]
    · simp [dl_len S L T ds]
theorem mxs_le (S : Nat) : ∀ ds : List Nat, mxs S ds ≤ ds.length
  | [] => Nat.le_refl _
  | d :: ds => by
    have := mxs_le S ds
    unfold mxs
    simp
    omega
theorem lo_is (S : Nat) (hS : 0 < S) : ∀ (ds : List Nat) (r : Nat), lo S r ds = max (ds.length - r) (mxs S ds)
  | [], r => by unfold lo mxs; simp
  | d :: ds, r => by
    have hp : 0 < (d + 1) * S := Nat.mul_pos (by omega) hS
    have hm := mxs_le S ds
    unfold lo mxs
    rw [lo_is S hS ds, lo_is S hS ds]
    rw [List.length_cons]
    split <;> omega
theorem dl_none (S L T : Nat) : ∀ (ds : List Nat) (r st : Nat), (dl S L T r st ds).countP (fun x => x.isNone) = lo S r ds - (T - st)
  | [], _, _ => by simp [dl, lo]
  | d :: ds, r, st => by
    unfold dl lo
    split
    · split
      · rw [List.countP_cons, dl_none S L T ds]; simp; omega
      · rw [List.countP_cons, dl_none S L T ds]; simp; omega
    · rw [List.countP_cons, dl_none S L T ds]; simp
/-- What is dealt lies on a level, of the places that are left, or in the stash, behind those that are taken. -/
theorem dl_mem (S L T : Nat) (hS : 0 < S) : ∀ (ds : List Nat) (r st : Nat), r ≤ L → ∀ y, some y ∈ dl S L T r st ds → (rv S y < r) ∨ (L + st ≤ y ∧ y < L + T)
  | [], _, _, _, y, h => by simp [dl] at h
  | d :: ds, r, st, hr, y, h => by
    unfold dl at h
    split at h
    · split at h
      · rcases List.mem_cons.1 h with h | h
        · injection h with h; subst h; right; omega
        · rcases dl_mem S L T hS ds 0 (st + 1) (by omega) y h with h | h
          · omega
          · right; omega
      · rcases List.mem_cons.1 h with h | h
        · cases h
        · rcases dl_mem S L T hS ds 0 st (by omega) y h with h | h
          · omega
          · right; omega
    · rcases List.mem_cons.1 h with h | h
      · injection h with h; subst h; left; rw [rv_rv S _ hS]; omega
      · rcases dl_mem S L T hS ds _ st (by omega) y h with h | h
        · left; omega
        · right; omega
/-- No place is dealt twice. -/
theorem dl_once (S L T : Nat) (hS : 0 < S) (d0 : Nat) (hL : L = d0 * S) : ∀ (ds : List Nat) (r st : Nat), r ≤ L → (dl S L T r st ds).Pairwise fun a b => ∀ y, a = some y → b ≠ some y
  | [], _, _, _ => by unfold dl; exact List.Pairwise.nil
  | d :: ds, r, st, hr => by
    unfold dl
    split
    · split
      · refine List.pairwise_cons.2 ⟨fun b hb y hy e => ?_, dl_once S L T hS d0 hL ds 0 (st + 1) (by omega)⟩
        subst e
        injection hy with hy
        rcases dl_mem S L T hS ds 0 (st + 1) (by omega) y hb with h | h <;> omega
      · exact List.pairwise_cons.2 ⟨fun b _ y hy => (by cases hy), dl_once S L T hS d0 hL ds 0 st (by omega)⟩
    · refine List.pairwise_cons.2 ⟨fun b hb y hy e => ?_, dl_once S L T hS d0 hL ds _ st (by omega)⟩
      subst e
      injection hy with hy
      rcases dl_mem S L T hS ds _ st (by omega) y hb with h | h
      · rw [← hy, rv_rv S _ hS] at h; omega
      · have : rv S (min r ((d + 1) * S) - 1) < d0 * S := rv_lt hS (by omega)
        omega
/-- None lies deeper than it may. -/
theorem dl_deep (S L T : Nat) (hS : 0 < S) : ∀ (ds : List Nat) (r st k y : Nat) (hk : k < ds.length), (dl S L T r st ds)[k]? = some (some y) → y < L → y / S ≤ ds[k]
  | [], _, _, k, _, hk, _, _ => absurd hk (by simp)
  | d :: ds, r, st, 0, y, hk, h, hy => by
    unfold dl at h
    split at h
    · split at h
      · simp at h; omega
      · simp at h
    · simp at h
      subst h
      rw [rv_div S _ hS, List.getElem_cons_zero]
      have hp : 0 < (d + 1) * S := Nat.mul_pos (by omega) hS
      have : (min r ((d + 1) * S) - 1) / S < d + 1 := (Nat.div_lt_iff_lt_mul hS).2 (by omega)
      omega
  | d :: ds, r, st, k + 1, y, hk, h, hy => by
    unfold dl at h
    rw [List.getElem_cons_succ]
    split at h
    · split at h
      · rw [List.getElem?_cons_succ] at h
        exact dl_deep S L T hS ds _ _ k y _ h hy
      · rw [List.getElem?_cons_succ] at h
        exact dl_deep S L T hS ds _ _ k y _ h hy
    · rw [List.getElem?_cons_succ] at h
      exact dl_deep S L T hS ds _ _ k y _ h hy
/-- How many lie in the stash. -/
def inSt (L : Nat) (x : Option Nat) : Bool := match x with | some y => decide (L ≤ y) | none => false
theorem dl_stash (S L T : Nat) (hS : 0 < S) (d0 : Nat) (hL : L = d0 * S) : ∀ (ds : List Nat) (r st : Nat), r ≤ L → (dl S L T r st ds).countP (inSt L) = min (lo S r ds) (T - st)
  | [], _, _, _ => by simp [dl, lo]
  | d :: ds, r, st, hr => by
    unfold dl lo
    split
    · split
      · rw [List.countP_cons, dl_stash S L T hS d0 hL ds _ _ (by omega)]
        have : inSt L (some (L + st)) = true := by simp [inSt]
        rw [if_pos this]; omega
      · rw [List.countP_cons, dl_stash S L T hS d0 hL ds _ _ (by omega)]
        have : inSt L none = false := rfl
        rw [this]; simp; omega
    · rw [List.countP_cons, dl_stash S L T hS d0 hL ds _ _ (by omega)]
      have h1 : rv S (min r ((d + 1) * S) - 1) < d0 * S := rv_lt hS (by omega)
      have : inSt L (some (rv S (min r ((d + 1) * S) - 1))) = false := by simp [inSt]; omega
      rw [this]; simp
/-- Of items in order, those that may lie no deeper than d. -/
theorem mxs_ge (S : Nat) : ∀ (ds : List Nat) (d : Nat), ds.Pairwise (fun a b => b ≤ a) → ds.countP (fun x => decide (x ≤ d)) - (d + 1) * S ≤ mxs S ds
  | [], d, _ => by simp
  | x :: ds, d, h => by
    obtain ⟨h1, h2⟩ := List.pairwise_cons.1 h
    have ih := mxs_ge S ds d h2
    unfold mxs
    rw [List.countP_cons]
    by_cases hx : x ≤ d
    · have hle : ds.countP (fun x => decide (x ≤ d)) ≤ ds.length := List.countP_le_length
      have hm : (x + 1) * S ≤ (d + 1) * S := Nat.mul_le_mul_right _ (by omega)
      rw [if_pos (by simp [hx])]
      omega
    · rw [if_neg (by simp [hx])]
      omega
theorem mxs_one (S : Nat) : ∀ (ds : List Nat), ds.Pairwise (fun a b => b ≤ a) → mxs S ds = 0 ∨ ∃ d ∈ ds, mxs S ds ≤ ds.countP (fun x => decide (x ≤ d)) - (d + 1) * S
  | [], _ => .inl rfl
  | x :: ds, h => by
    obtain ⟨h1, h2⟩ := List.pairwise_cons.1 h
    unfold mxs
    by_cases hc : ds.length + 1 - (x + 1) * S ≤ mxs S ds
    · rcases mxs_one S ds h2 with h3 | ⟨d, hd, h3⟩
      · left; omega
      · right
        refine ⟨d, List.mem_cons_of_mem _ hd, ?_⟩
        rw [List.countP_cons]
        omega
    · right
      refine ⟨x, List.mem_cons_self, ?_⟩
      have : ds.countP (fun y => decide (y ≤ x)) = ds.length := by
        rw [List.countP_eq_length]
        intro y hy
        simpa using h1 y hy
      rw [List.countP_cons, this]
      simp
      omega
end Go.Proofs.YteiilfdbddpodaaDoor

/- Plain facts on dealing: how many are left over, the places that are left for the others, items that stand otherwise. No function is called here. -/
namespace Go.Proofs.YteiilfdbddpodaaDoor
set_option maxRecDepth 100000

/-- By how many those that may lie on the first levels alone are more than there is room for, the levels below k. -/
def msd (S D : Nat) (ds : List Nat) : Nat → Nat
  | 0 => 0
  | k + 1 => max (msd S D ds k) (ds.countP (fun x => decide (min x D ≤ k)) - S * (k + 1))
theorem msd_ge (S D : Nat) (ds : List Nat) : ∀ k d, d < k → ds.countP (fun x => decide (min x D ≤ d)) - S * (d + 1) ≤ msd S D ds k
  | 0, d, h => absurd h (Nat.not_lt_zero _)
  | k + 1, d, h => by
    unfold msd
    by_cases e : d = k
    · subst e; omega
    · have := msd_ge S D ds k d (by omega); omega
theorem msd_le (S D : Nat) (ds : List Nat) (m : Nat) : ∀ k, (∀ d, d < k → ds.countP (fun x => decide (min x D ≤ d)) - S * (d + 1) ≤ m) → msd S D ds k ≤ m
  | 0, _ => Nat.zero_le _
  | k + 1, h => by
    have h1 := msd_le S D ds m k (fun d hd => h d (by omega))
    have h2 := h k (by omega)
    unfold msd
    omega
theorem count_mono {α : Type} (p q : α → Bool) (l : List α) (h : ∀ x ∈ l, p x = true → q x = true) : l.countP p ≤ l.countP q := List.countP_mono_left h
/-- As few as can be are left over. -/
theorem lo_msd (S D : Nat) (hS : 0 < S) (ds : List Nat) (h : ds.Pairwise (fun a b => b ≤ a)) : lo S ((D + 1) * S) ds = msd S D ds (D + 1) := by
  have hall : ds.countP (fun x => decide (min x D ≤ D)) = ds.length := by
    rw [List.countP_eq_length]
    intro x _
    simp
    omega
  have hD := msd_ge S D ds (D + 1) D (by omega)
  rw [hall, Nat.mul_comm] at hD
  rw [lo_is S hS]
  apply Nat.le_antisymm
  · have hm : mxs S ds ≤ msd S D ds (D + 1) := by
      rcases mxs_one S ds h with h1 | ⟨d, hd, h1⟩
      · omega
      · by_cases hdD : d ≤ D
        · have h2 := msd_ge S D ds (D + 1) d (by omega)
          have h3 : ds.countP (fun x => decide (x ≤ d)) ≤ ds.countP (fun x => decide (min x D ≤ d)) := count_mono _ _ _ fun x _ hx => by
            simp at hx ⊢; omega
          rw [Nat.mul_comm] at h2
          omega
        · have h3 : ds.countP (fun x => decide (x ≤ d)) ≤ ds.length := List.countP_le_length
          have h4 : (D + 1) * S ≤ (d + 1) * S := Nat.mul_le_mul_right _ (by omega)
          omega
    omega
  · refine msd_le S D ds _ (D + 1) fun d hd => ?_
    by_cases e : d = D
    · subst e
      rw [hall, Nat.mul_comm]
      omega
    · have h1 := mxs_ge S ds d h
      have h3 : ds.countP (fun x => decide (min x D ≤ d)) ≤ ds.countP (fun x => decide (x ≤ d)) := count_mono _ _ _ fun x _ hx => by
        simp at hx ⊢; omega
      rw [Nat.mul_comm S]
      omega

/-- Which item has which place, of those that were dealt. -/
def asg : List Nat → List (Option Nat) → Nat → Option Nat
  | x :: R, p :: P, i => if x = i then p else asg R P i
  | _, _, _ => none
theorem asg_at : ∀ (R : List Nat) (P : List (Option Nat)) (k : Nat), R.Nodup → (hR : k < R.length) → (hP : k < P.length) → asg R P R[k] = P[k]
  | [], _, _, _, hR, _ => absurd hR (by simp)
  | _ :: _, [], _, _, _, hP => absurd hP (by simp)
  | x :: R, p :: P, 0, _, _, _ => by unfold asg; simp
  | x :: R, p :: P, k + 1, hn, hR, hP => by
    obtain ⟨h1, h2⟩ := List.nodup_cons.1 hn
    unfold asg
    simp only [List.getElem_cons_succ]
    rw [if_neg (fun e => h1 (by rw [e]; exact List.getElem_mem _))]
    exact asg_at R P k h2 _ _
theorem asg_out : ∀ (R : List Nat) (P : List (Option Nat)) (i : Nat), i ∉ R → asg R P i = none
  | [], _, _, _ => by unfold asg; rfl
  | _ :: _, [], _, _ => by unfold asg; rfl
  | x :: R, p :: P, i, h => by
    unfold asg
    rw [if_neg (fun e => h (by rw [e]; exact List.mem_cons_self))]
    exact asg_out R P i (fun e => h (List.mem_cons_of_mem _ e))
theorem asg_some {R : List Nat} {P : List (Option Nat)} (hn : R.Nodup) (hl : P.length = R.length) {i p : Nat} (h : asg R P i = some p) : ∃ k, ∃ hk : k < R.length, R[k] = i ∧ P[k]'(by omega) = some p := by
  by_cases hi : i ∈ R
  · obtain ⟨k, hk, rfl⟩ := List.mem_iff_getElem.1 hi
    rw [asg_at R P k hn hk (by omega)] at h
    exact ⟨k, hk, rfl, h⟩
  · rw [asg_out R P i hi] at h
    cases h
/-- Dealt places are unlike. -/
theorem asg_inj {R : List Nat} {P : List (Option Nat)} (hn : R.Nodup) (hl : P.length = R.length) (ho : P.Pairwise fun a b => ∀ y, a = some y → b ≠ some y) {i j p : Nat} (hi : asg R P i = some p) (hj : asg R P j = some p) : i = j := by
  obtain ⟨a, ha, rfl, e1⟩ := asg_some hn hl hi
  obtain ⟨b, hb, rfl, e2⟩ := asg_some hn hl hj
  have hp := List.pairwise_iff_getElem.1 ho
  rcases Nat.lt_trichotomy a b with h | h | h
  · exact absurd e2 (hp a b (by omega) (by omega) h p e1)
  · subst h; rfl
  · exact absurd e1 (hp b a (by omega) (by omega) h p e2)

/-- Numbers below n of which something holds: which one is the k-th. -/
theorem rank_at (p : Nat → Bool) : ∀ (n k : Nat) (hk : k < ((List.range n).filter p).length), (List.range ((List.range n).filter p)[k]).countP p = k
  | 0, k, hk => absurd hk (by simp)
  | n + 1, k, hk => by
    have e : (List.range (n + 1)).filter p = (List.range n).filter p ++ (if p n then [n] else []) := by
      rw [List.range_succ, List.filter_append]
      congr 1
      cases h : p n <;> simp [h]
    by_cases h : k < ((List.range n).filter p).length
    · have : ((List.range (n + 1)).filter p)[k] = ((List.range n).filter p)[k] := by
        simp only [e]
        rw [List.getElem_append_left h]
      rw [this]
      exact rank_at p n k h
    · have hp : p n = true := by
        cases hp : p n
        · rw [e, hp] at hk; simp at hk; simp at h; omega
        · rfl
      have hk2 : k = ((List.range n).filter p).length := by
        rw [e, hp] at hk
        simp at hk h
        omega
      have : ((List.range (n + 1)).filter p)[k] = n := by
        simp only [e, hp]
        rw [List.getElem_append_right (by omega)]
        simp
      rw [this, hk2, List.countP_eq_length_filter]
theorem filter_up (p : Nat → Bool) (n : Nat) : ((List.range n).filter p).Pairwise (· < ·) := List.pairwise_lt_range.filter p
theorem nodup_up {l : List Nat} (h : l.Pairwise (· < ·)) : l.Nodup := h.imp fun h => Nat.ne_of_lt h
section
variable (A : Nat → Option Nat) (n : Nat)
/-- Is a place dealt to one of the first n items? The places that are left; the items that have none. -/
def isAt (p : Nat) : Bool := (List.range n).any fun i => A i == some p
def fre : List Nat := (List.range n).filter fun p => !isAt A n p
def wants : List Nat := (List.range n).filter fun i => (A i).isNone
/-- Where an item goes, all told. -/
def outP (i : Nat) : Nat := match A i with
  | some p => p
  | none => (fre A n)[(List.range i).countP fun j => (A j).isNone]?.getD 0
theorem isAt_iff (p : Nat) : isAt A n p = true ↔ ∃ i, i < n ∧ A i = some p := by
  unfold isAt
  rw [List.any_eq_true]
  constructor
  · rintro ⟨i, hi, h⟩; exact ⟨i, List.mem_range.1 hi, by simpa using h⟩
  · rintro ⟨i, hi, h⟩; exact ⟨i, List.mem_range.2 hi, by simpa using h⟩
end
section
variable {A : Nat → Option Nat} {n : Nat}
/-- The places that are dealt, in the order of the items. -/
theorem some_perm (hlt : ∀ i p, i < n → A i = some p → p < n) (hinj : ∀ i j p, i < n → j < n → A i = some p → A j = some p → i = j) :
    (((List.range n).filter fun i => !(A i).isNone).map (outP A n)).Perm ((List.range n).filter (isAt A n)) := by
  refine (List.perm_ext_iff_of_nodup ?_ (nodup_up (filter_up _ n))).2 fun p => ?_
  · unfold List.Nodup
    rw [List.pairwise_map]
    refine List.Pairwise.imp_of_mem ?_ (filter_up (fun i => !(A i).isNone) n)
    intro a b ha hb hab e
    obtain ⟨ha1, ha2⟩ := List.mem_filter.1 ha
    obtain ⟨hb1, hb2⟩ := List.mem_filter.1 hb
    cases hA : A a with
    | none => rw [hA] at ha2; cases ha2
    | some x =>
      cases hB : A b with
      | none => rw [hB] at hb2; cases hb2
      | some y =>
        unfold outP at e
        rw [hA, hB] at e
        have e : x = y := e
        subst e
        have := hinj a b x (List.mem_range.1 ha1) (List.mem_range.1 hb1) hA hB
        omega
  · rw [List.mem_map, List.mem_filter, isAt_iff, List.mem_range]
    constructor
    · rintro ⟨i, hi, rfl⟩
      obtain ⟨hi1, hi2⟩ := List.mem_filter.1 hi
      cases hA : A i with
      | none => rw [hA] at hi2; cases hi2
      | some x =>
        have e : outP A n i = x := by unfold outP; rw [hA]
        rw [e]
        exact ⟨hlt i x (List.mem_range.1 hi1) hA, i, List.mem_range.1 hi1, hA⟩
    · rintro ⟨_, i, hi, hA⟩
      refine ⟨i, List.mem_filter.2 ⟨List.mem_range.2 hi, by rw [hA]; rfl⟩, ?_⟩
      unfold outP; rw [hA]
/-- As many places are left as items that have none. -/
theorem fre_len (hlt : ∀ i p, i < n → A i = some p → p < n) (hinj : ∀ i j p, i < n → j < n → A i = some p → A j = some p → i = j) : (fre A n).length = (wants A n).length := by
  have h1 := (some_perm hlt hinj).length_eq
  have h2 := (List.filter_append_perm (fun i => (A i).isNone) (List.range n)).length_eq
  have h3 := (List.filter_append_perm (isAt A n) (List.range n)).length_eq
  rw [List.length_append, List.length_range] at h2 h3
  rw [List.length_map] at h1
  unfold fre wants
  omega
theorem wants_out (hlt : ∀ i p, i < n → A i = some p → p < n) (hinj : ∀ i j p, i < n → j < n → A i = some p → A j = some p → i = j) : (wants A n).map (outP A n) = fre A n := by
  have hl := fre_len hlt hinj
  apply List.ext_getElem
  · rw [List.length_map, hl]
  · intro k h1 h2
    rw [List.getElem_map]
    have hk : k < (wants A n).length := by omega
    have hr := rank_at (fun i => (A i).isNone) n k hk
    have hm : (wants A n)[k] ∈ wants A n := List.getElem_mem hk
    have hw : (A (wants A n)[k]).isNone = true := (List.mem_filter.1 hm).2
    cases hA : A (wants A n)[k] with
    | some x => rw [hA] at hw; cases hw
    | none =>
      unfold outP
      rw [hA]
      show (fre A n)[_]?.getD 0 = _
      have hr' : (List.range (wants A n)[k]).countP (fun j => (A j).isNone) = k := hr
      rw [hr', List.getElem?_eq_getElem h2]
      rfl
/-- Each place is dealt once. -/
theorem out_perm (hlt : ∀ i p, i < n → A i = some p → p < n) (hinj : ∀ i j p, i < n → j < n → A i = some p → A j = some p → i = j) : ((List.range n).map (outP A n)).Perm (List.range n) := by
  have h1 := (List.filter_append_perm (fun i => (A i).isNone) (List.range n)).symm.map (outP A n)
  refine h1.trans ?_
  rw [List.map_append]
  have h2 : List.map (outP A n) (List.filter (fun i => (A i).isNone) (List.range n)) = fre A n := wants_out hlt hinj
  rw [h2]
  refine ((List.Perm.refl _).append (some_perm hlt hinj)).trans ?_
  exact List.perm_append_comm.trans (List.filter_append_perm (isAt A n) (List.range n))
end
end Go.Proofs.YteiilfdbddpodaaDoor
