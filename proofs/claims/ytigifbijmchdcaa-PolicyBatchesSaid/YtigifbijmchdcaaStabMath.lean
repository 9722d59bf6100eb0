/- Merging in place: what swapped ranges and turned ranges hold, and that both halves of a merge can be merged by themselves. Plain mathematics; no program is named. -/
import Derived.Sort.LotA
namespace Go.Proofs.Ytigifbijmchdcaa
open Go.Sort
section
variable {α : Type} [Inhabited α]
theorem swp_at (d : Array α) {i j : Nat} (hi : i < d.size) (hj : j < d.size) (x : Nat) : (swp d i j)[x]! = d[if x = i then j else if x = j then i else x]! := by
  by_cases h1 : x = i
  · rw [if_pos h1]
    subst h1
    by_cases h2 : x = j
    · subst h2; exact swp_right d x x hi
    · exact swp_left d x j hi h2
  · rw [if_neg h1]
    by_cases h2 : x = j
    · rw [if_pos h2]; subst h2; exact swp_right d i x hj
    · rw [if_neg h2]; exact swp_other d i j x h1 h2
/-- n elements from a on change places with those from b on. -/
def swr (d : Array α) (a b : Nat) : Nat → Array α
  | 0 => d
  | n + 1 => swp (swr d a b n) (a + n) (b + n)
theorem swr_size (d : Array α) (a b n : Nat) : (swr d a b n).size = d.size := by
  induction n with
  | zero => rfl
  | succ n ih => rw [swr, size_swp, ih]
/-- Where the element at x stood. -/
def swx (a b n x : Nat) : Nat := if a ≤ x ∧ x < a + n then x - a + b else if b ≤ x ∧ x < b + n then x - b + a else x
theorem swr_at (d : Array α) (a b n : Nat) (h : a + n ≤ b) (hs : b + n ≤ d.size) (x : Nat) : (swr d a b n)[x]! = d[swx a b n x]! := by
  induction n generalizing x with
  | zero =>
    have : swx a b 0 x = x := by unfold swx; rw [if_neg (by omega), if_neg (by omega)]
    rw [this]; rfl
  | succ n ih =>
    rw [swr, swp_at _ (by rw [swr_size]; omega) (by rw [swr_size]; omega), ih (by omega) (by omega)]
    congr 1
    unfold swx
    (repeat' split) <;> omega
theorem swr_perm (d : Array α) (a b n lo hi : Nat) (h1 : lo ≤ a) (h : a + n ≤ b) (h2 : b + n ≤ hi) (hs : hi ≤ d.size) : PermIn lo hi d (swr d a b n) := by
  induction n with
  | zero => exact permIn_refl _ _ _
  | succ n ih => exact permIn_trans _ _ _ _ _ (ih (by omega) (by omega)) (swp_permIn _ _ _ _ _ (by omega) (by omega) (by omega) (by omega) (by rw [swr_size]; omega))
/-- Of what is turned, [a, m) behind [m, b), the element at x stood there. -/
def rox (a m b x : Nat) : Nat := if a ≤ x ∧ x < a + (b - m) then x + (m - a) else if a + (b - m) ≤ x ∧ x < b then x - (b - m) else x
/-- i ahead of m and j from m on are to be turned still. -/
structure RotSt (d : Array α) (a m b i j : Nat) (dk : Array α) : Prop where
  hi : 0 < i
  hj : 0 < j
  hia : i ≤ m - a
  hjb : j ≤ b - m
  perm : PermIn a b d dk
  turn : ∀ x, d[rox a m b x]! = dk[rox (m - i) m (m + j) x]!
theorem RotSt.start (d : Array α) {a m b : Nat} (h1 : a < m) (h2 : m < b) : RotSt d a m b (m - a) (b - m) d :=
  ⟨by omega, by omega, Nat.le_refl _, Nat.le_refl _, permIn_refl _ _ _, fun x => by rw [show m - (m - a) = a by omega, show m + (b - m) = b by omega]⟩
theorem RotSt.left {d dk : Array α} {a m b i j : Nat} (h : RotSt d a m b i j dk) (hb : b ≤ d.size) (hij : j < i) : RotSt d a m b (i - j) j (swr dk (m - i) m j) := by
  obtain ⟨hi, hj, hia, hjb, perm, turn⟩ := h
  have hs := perm.1
  refine ⟨by omega, hj, by omega, hjb, permIn_trans _ _ _ _ _ perm (swr_perm dk _ _ _ a b (by omega) (by omega) (by omega) (by omega)), fun x => ?_⟩
  rw [turn, swr_at dk _ _ _ (by omega) (by omega)]
  congr 1
  unfold rox swx
  (repeat' split) <;> omega
theorem RotSt.right {d dk : Array α} {a m b i j : Nat} (h : RotSt d a m b i j dk) (hb : b ≤ d.size) (hij : i < j) : RotSt d a m b i (j - i) (swr dk (m - i) (m + j - i) i) := by
  obtain ⟨hi, hj, hia, hjb, perm, turn⟩ := h
  have hs := perm.1
  refine ⟨hi, by omega, hia, by omega, permIn_trans _ _ _ _ _ perm (swr_perm dk _ _ _ a b (by omega) (by omega) (by omega) (by omega)), fun x => ?_⟩
  rw [turn, swr_at dk _ _ _ (by omega) (by omega)]
  congr 1
  unfold rox swx
  (repeat' split) <;> omega
/-- d' is d with [a, m) behind [m, b). -/
structure Turned (d : Array α) (a m b : Nat) (d' : Array α) : Prop where
  perm : PermIn a b d d'
  turn : ∀ x, d'[x]! = d[rox a m b x]!
theorem RotSt.last {d dk : Array α} {a m b i : Nat} (h : RotSt d a m b i i dk) (hb : b ≤ d.size) : Turned d a m b (swr dk (m - i) m i) := by
  obtain ⟨hi, hj, hia, hjb, perm, turn⟩ := h
  have hs := perm.1
  refine ⟨permIn_trans _ _ _ _ _ perm (swr_perm dk _ _ _ a b (by omega) (by omega) (by omega) (by omega)), fun x => ?_⟩
  rw [turn, swr_at dk _ _ _ (by omega) (by omega)]
  congr 1
  unfold rox swx
  (repeat' split) <;> omega
theorem Turned.none (d : Array α) {a m b : Nat} (h1 : a ≤ m) (h2 : m ≤ b) (h : a = m ∨ m = b) : Turned d a m b d :=
  ⟨permIn_refl _ _ _, fun x => by congr 1; unfold rox; (repeat' split) <;> omega⟩
variable {lt : α → α → Bool}
/-- In order, either end too. -/
theorem sorted_le (hS : SWO lt) {d : Array α} {a b i j : Nat} (h : SortedIn lt a b d) (ha : a ≤ i) (hij : i ≤ j) (hb : j < b) : lt d[j]! d[i]! = false := by
  rcases Nat.lt_or_ge i j with hlt | hge
  · exact h i j ha hlt hb
  · have : i = j := by omega
    subst this; exact hS.irrefl _
omit [Inhabited α] in
theorem lt_of_le_lt (hS : SWO lt) {x y z : α} (h1 : lt y x = false) (h2 : lt y z = true) : lt x z = true := by
  cases h : lt x z with
  | true => rfl
  | false => rw [hS.ntrans _ _ _ h1 h] at h2; exact absurd h2 (by decide)
omit [Inhabited α] in
theorem lt_of_lt_le (hS : SWO lt) {x y z : α} (h1 : lt x y = true) (h2 : lt z y = false) : lt x z = true := by
  cases h : lt x z with
  | true => rfl
  | false => rw [hS.ntrans _ _ _ h h2] at h1; exact absurd h1 (by decide)
/-- Two runs that are in order, none of the first above one of the second. -/
theorem sorted_join {d : Array α} {a m b : Nat} (h1 : SortedIn lt a m d) (h2 : SortedIn lt m b d) (h : ∀ x y, a ≤ x → x < m → m ≤ y → y < b → lt d[y]! d[x]! = false) : SortedIn lt a b d := by
  intro i j hi hij hj
  rcases Nat.lt_or_ge j m with h3 | h3
  · exact h1 i j hi hij h3
  · rcases Nat.lt_or_ge i m with h4 | h4
    · exact h i j hi h4 h3 hj
    · exact h2 i j h4 hij hj
theorem sorted_part {d : Array α} {a b a' b' : Nat} (h : SortedIn lt a b d) (ha : a ≤ a') (hb : b' ≤ b) : SortedIn lt a' b' d := fun i j hi hij hj => h i j (by omega) hij (by omega)
theorem sorted_congr {d d' : Array α} {a b : Nat} (h : SortedIn lt a b d) (he : ∀ x, a ≤ x → x < b → d'[x]! = d[x]!) : SortedIn lt a b d' := fun i j hi hij hj => by
  rw [he i hi (by omega), he j (by omega) hj]; exact h i j hi hij hj
theorem PermIn.out {a b : Nat} {d d' : Array α} (h : PermIn a b d d') {x : Nat} (hx : x < a ∨ b ≤ x) : d'[x]! = d[x]! := h.2.1 x hx

/-! ### One element put into what is in order -/
/-- Where the first one goes: by halves. -/
structure FindL (lt : α → α → Bool) (d : Array α) (m b : Nat) (v : α) (i j : Nat) : Prop where
  hm : m ≤ i
  hij : i ≤ j
  hb : j ≤ b
  lo : ∀ x, m ≤ x → x < i → lt d[x]! v = true
  hi : ∀ x, j ≤ x → x < b → lt d[x]! v = false
theorem FindL.start (d : Array α) {m b : Nat} (v : α) (h : m ≤ b) : FindL lt d m b v m b := ⟨Nat.le_refl _, h, Nat.le_refl _, fun x h1 h2 => by omega, fun x h1 h2 => by omega⟩
theorem FindL.up (hS : SWO lt) {d : Array α} {m b i j h : Nat} {v : α} (F : FindL lt d m b v i j) (hs : SortedIn lt m b d) (h1 : i ≤ h) (h2 : h < j) (hl : lt d[h]! v = true) : FindL lt d m b v (h + 1) j := by
  obtain ⟨hm, hij, hb, lo, hi⟩ := F
  exact ⟨by omega, by omega, hb, fun x hx1 hx2 => lt_of_le_lt hS (sorted_le hS hs hx1 (by omega) (by omega)) hl, hi⟩
theorem FindL.down (hS : SWO lt) {d : Array α} {m b i j h : Nat} {v : α} (F : FindL lt d m b v i j) (hs : SortedIn lt m b d) (h1 : i ≤ h) (h2 : h < j) (hl : lt d[h]! v = false) : FindL lt d m b v i h := by
  obtain ⟨hm, hij, hb, lo, hi⟩ := F
  exact ⟨hm, h1, by omega, lo, fun x hx1 hx2 => hS.ntrans _ _ _ (sorted_le hS hs (by omega) hx1 hx2) hl⟩
/-- It goes up step by step: it is at k. -/
structure GoUp (d : Array α) (a b k : Nat) (dk : Array α) : Prop where
  hk : a ≤ k
  perm : PermIn a b d dk
  at_ : ∀ x, dk[x]! = d[if a ≤ x ∧ x < k then x + 1 else if x = k then a else x]!
theorem GoUp.start (d : Array α) (a b : Nat) : GoUp d a b a d := ⟨Nat.le_refl _, permIn_refl _ _ _, fun x => by congr 1; (repeat' split) <;> omega⟩
theorem GoUp.step {d dk : Array α} {a b k : Nat} (h : GoUp d a b k dk) (hk : k + 1 < b) (hb : b ≤ d.size) : GoUp d a b (k + 1) (swp dk k (k + 1)) := by
  obtain ⟨h1, perm, at_⟩ := h
  have hs := perm.1
  refine ⟨by omega, permIn_trans _ _ _ _ _ perm (swp_permIn _ _ _ _ _ h1 (by omega) (by omega) hk (by omega)), fun x => ?_⟩
  rw [swp_at _ (by omega) (by omega), at_]
  congr 1
  (repeat' split) <;> omega
theorem GoUp.sorted (hS : SWO lt) {d dk : Array α} {a b i : Nat} (h : GoUp d a b (i - 1) dk) (hs : SortedIn lt (a + 1) b d) (F : FindL lt d (a + 1) b d[a]! i i) : SortedIn lt a b dk := by
  obtain ⟨h1, perm, at_⟩ := h
  obtain ⟨hm, _, hb, lo, hi⟩ := F
  intro x y hx hxy hy
  rw [at_ x, at_ y]
  rcases Nat.lt_trichotomy y (i - 1) with hy1 | hy1 | hy1
  · rw [if_pos ⟨by omega, hy1⟩, if_pos ⟨hx, by omega⟩]
    exact sorted_le hS hs (by omega) (by omega) (by omega)
  · rw [if_neg (by omega), if_pos hy1, if_pos ⟨hx, by omega⟩]
    exact hS.asymmA (lo (x + 1) (by omega) (by omega))
  · rw [if_neg (by omega), if_neg (by omega)]
    rcases Nat.lt_trichotomy x (i - 1) with hx1 | hx1 | hx1
    · rw [if_pos ⟨hx, hx1⟩]
      exact sorted_le hS hs (by omega) (by omega) hy
    · rw [if_neg (by omega), if_pos hx1]
      exact hi y (by omega) hy
    · rw [if_neg (by omega), if_neg (by omega)]
      exact hs x y (by omega) hxy hy
/-- Where the last one goes: by halves. -/
structure FindR (lt : α → α → Bool) (d : Array α) (a m : Nat) (v : α) (i j : Nat) : Prop where
  ha : a ≤ i
  hij : i ≤ j
  hm : j ≤ m
  lo : ∀ x, a ≤ x → x < i → lt v d[x]! = false
  hi : ∀ x, j ≤ x → x < m → lt v d[x]! = true
theorem FindR.start (d : Array α) {a m : Nat} (v : α) (h : a ≤ m) : FindR lt d a m v a m := ⟨Nat.le_refl _, h, Nat.le_refl _, fun x h1 h2 => by omega, fun x h1 h2 => by omega⟩
theorem FindR.up (hS : SWO lt) {d : Array α} {a m i j h : Nat} {v : α} (F : FindR lt d a m v i j) (hs : SortedIn lt a m d) (h1 : i ≤ h) (h2 : h < j) (hl : lt v d[h]! = false) : FindR lt d a m v (h + 1) j := by
  obtain ⟨ha, hij, hm, lo, hi⟩ := F
  exact ⟨by omega, by omega, hm, fun x hx1 hx2 => hS.ntrans _ _ _ hl (sorted_le hS hs hx1 (by omega) (by omega)), hi⟩
theorem FindR.down (hS : SWO lt) {d : Array α} {a m i j h : Nat} {v : α} (F : FindR lt d a m v i j) (hs : SortedIn lt a m d) (h1 : i ≤ h) (h2 : h < j) (hl : lt v d[h]! = true) : FindR lt d a m v i h := by
  obtain ⟨ha, hij, hm, lo, hi⟩ := F
  exact ⟨ha, h1, by omega, lo, fun x hx1 hx2 => lt_of_lt_le hS hl (sorted_le hS hs (by omega) hx1 hx2)⟩
/-- It goes down step by step: it is at k. -/
structure GoDn (d : Array α) (a m k : Nat) (dk : Array α) : Prop where
  hk : k ≤ m
  perm : PermIn a (m + 1) d dk
  at_ : ∀ x, dk[x]! = d[if k < x ∧ x ≤ m then x - 1 else if x = k then m else x]!
theorem GoDn.start (d : Array α) (a m : Nat) : GoDn d a m m d := ⟨Nat.le_refl _, permIn_refl _ _ _, fun x => by congr 1; (repeat' split) <;> omega⟩
theorem GoDn.step {d dk : Array α} {a m k : Nat} (h : GoDn d a m (k + 1) dk) (hk : a ≤ k) (hb : m < d.size) : GoDn d a m k (swp dk (k + 1) k) := by
  obtain ⟨h1, perm, at_⟩ := h
  have hs := perm.1
  refine ⟨by omega, permIn_trans _ _ _ _ _ perm (swp_permIn _ _ _ _ _ (by omega) (by omega) hk (by omega) (by omega)), fun x => ?_⟩
  rw [swp_at _ (by omega) (by omega), at_]
  congr 1
  (repeat' split) <;> omega
theorem GoDn.sorted (hS : SWO lt) {d dk : Array α} {a m i : Nat} (h : GoDn d a m i dk) (hs : SortedIn lt a m d) (F : FindR lt d a m d[m]! i i) : SortedIn lt a (m + 1) dk := by
  obtain ⟨h1, perm, at_⟩ := h
  obtain ⟨ha, _, hm, lo, hi⟩ := F
  intro x y hx hxy hy
  rw [at_ x, at_ y]
  rcases Nat.lt_trichotomy y i with hy1 | hy1 | hy1
  · rw [if_neg (by omega), if_neg (by omega), if_neg (by omega), if_neg (by omega)]
    exact hs x y hx hxy (by omega)
  · rw [if_neg (by omega), if_pos hy1, if_neg (by omega), if_neg (by omega)]
    exact lo x hx (by omega)
  · rw [if_pos ⟨hy1, by omega⟩]
    rcases Nat.lt_trichotomy x i with hx1 | hx1 | hx1
    · rw [if_neg (by omega), if_neg (by omega)]
      exact sorted_le hS hs hx (by omega) (by omega)
    · rw [if_neg (by omega), if_pos hx1]
      exact hS.asymmA (hi (y - 1) (by omega) (by omega))
    · rw [if_pos ⟨hx1, by omega⟩]
      exact sorted_le hS hs (by omega) (by omega) (by omega)

/-! ### The middle of a merge -/
/-- Where what is turned begins: by halves. n is the middle and m together. -/
structure FindM (lt : α → α → Bool) (d : Array α) (n lo0 hi0 s r : Nat) : Prop where
  h1 : lo0 ≤ s
  h2 : s ≤ r
  h3 : r ≤ hi0
  lo : ∀ c, lo0 ≤ c → c < s → lt d[n - 1 - c]! d[c]! = false
  hi : ∀ c, r ≤ c → c < hi0 → lt d[n - 1 - c]! d[c]! = true
theorem FindM.start (d : Array α) (n : Nat) {lo0 hi0 : Nat} (h : lo0 ≤ hi0) : FindM lt d n lo0 hi0 lo0 hi0 := ⟨Nat.le_refl _, h, Nat.le_refl _, fun x h1 h2 => by omega, fun x h1 h2 => by omega⟩
/-- The bounds of the middle's search: all of them lie in the first run, and their fellows in the second one. -/
structure MidB (a m b n lo0 hi0 : Nat) : Prop where
  mid : n = (a + b) / 2 + m
  am : a < m
  mb : m < b
  cs : (m ≤ (a + b) / 2 ∧ lo0 = a ∧ hi0 = m) ∨ ((a + b) / 2 < m ∧ lo0 = n - b ∧ hi0 = (a + b) / 2)
variable {d : Array α} {a m b n lo0 hi0 s r : Nat}
theorem MidB.le (B : MidB a m b n lo0 hi0) : a ≤ lo0 ∧ lo0 ≤ hi0 ∧ hi0 ≤ m ∧ hi0 ≤ (a + b) / 2 := by
  obtain ⟨hn, am, mb, cs⟩ := B
  omega
theorem MidB.pair (B : MidB a m b n lo0 hi0) {c : Nat} (h1 : lo0 ≤ c) (h2 : c < hi0) : a ≤ c ∧ c < m ∧ m ≤ n - 1 - c ∧ n - 1 - c < b := by
  obtain ⟨hn, am, mb, cs⟩ := B
  omega
theorem FindM.up (hS : SWO lt) (F : FindM lt d n lo0 hi0 s r) (B : MidB a m b n lo0 hi0) (hs1 : SortedIn lt a m d) (hs2 : SortedIn lt m b d) {c : Nat} (hc1 : s ≤ c) (hc2 : c < r) (hl : lt d[n - 1 - c]! d[c]! = false) : FindM lt d n lo0 hi0 (c + 1) r := by
  obtain ⟨h1, h2, h3, lo, hi⟩ := F
  refine ⟨by omega, by omega, h3, fun x hx1 hx2 => ?_, hi⟩
  have p1 := B.pair (c := c) (by omega) (by omega)
  have p2 := B.pair (c := x) hx1 (by omega)
  exact hS.ntrans _ _ _ (hS.ntrans _ _ _ (sorted_le hS hs2 p1.2.2.1 (by omega) p2.2.2.2) hl) (sorted_le hS hs1 p2.1 (by omega) p1.2.1)
theorem FindM.down (hS : SWO lt) (F : FindM lt d n lo0 hi0 s r) (B : MidB a m b n lo0 hi0) (hs1 : SortedIn lt a m d) (hs2 : SortedIn lt m b d) {c : Nat} (hc1 : s ≤ c) (hc2 : c < r) (hl : lt d[n - 1 - c]! d[c]! = true) : FindM lt d n lo0 hi0 s c := by
  obtain ⟨h1, h2, h3, lo, hi⟩ := F
  refine ⟨h1, hc1, by omega, lo, fun x hx1 hx2 => ?_⟩
  have p1 := B.pair (c := c) (by omega) (by omega)
  have p2 := B.pair (c := x) (by omega) hx2
  exact lt_of_le_lt hS (sorted_le hS hs2 p2.2.2.1 (by omega) p1.2.2.2) (lt_of_lt_le hS hl (sorted_le hS hs1 p1.1 hx1 p2.2.1))
theorem MidB.fit (B : MidB a m b n lo0 hi0) {x : Nat} (h1 : lo0 ≤ x) (h2 : x ≤ hi0) : a ≤ x ∧ x ≤ m ∧ x ≤ (a + b) / 2 ∧ m ≤ n - x ∧ n - x ≤ b ∧ (a + b) / 2 ≤ n - x ∧ x ≤ n := by
  obtain ⟨hn, am, mb, cs⟩ := B
  omega
/-- What is known behind the turning: four runs, and none of the left half above one of the right half. -/
structure Halves (lt : α → α → Bool) (a b s mid e : Nat) (d : Array α) : Prop where
  o1 : a ≤ s
  o2 : s ≤ mid
  o3 : mid ≤ e
  o4 : e ≤ b
  r1 : SortedIn lt a s d
  r2 : SortedIn lt s mid d
  r3 : SortedIn lt mid e d
  r4 : SortedIn lt e b d
  ab : ∀ x y, a ≤ x → x < mid → mid ≤ y → y < b → lt d[y]! d[x]! = false
theorem FindM.halves (hS : SWO lt) (F : FindM lt d n lo0 hi0 s s) (B : MidB a m b n lo0 hi0) (hs1 : SortedIn lt a m d) (hs2 : SortedIn lt m b d) {d1 : Array α} (T : Turned d s m (n - s) d1) : Halves lt a b s ((a + b) / 2) (n - s) d1 := by
  have hle := B.le
  obtain ⟨h1, _, h3, lo, hi⟩ := F
  obtain ⟨hn, am, mb, cs⟩ := B
  obtain ⟨_, turn⟩ := T
  have e1 : ∀ x, a ≤ x → x < s → d1[x]! = d[x]! := fun x _ hx => by rw [turn]; congr 1; unfold rox; rw [if_neg (by omega), if_neg (by omega)]
  have e2 : ∀ x, s ≤ x → x < (a + b) / 2 → d1[x]! = d[x + (m - s)]! := fun x hx1 hx2 => by rw [turn]; congr 1; unfold rox; rw [if_pos (by omega)]
  have e3 : ∀ x, (a + b) / 2 ≤ x → x < n - s → d1[x]! = d[x - ((a + b) / 2 - s)]! := fun x hx1 hx2 => by rw [turn]; congr 1; unfold rox; rw [if_neg (by omega), if_pos (by omega)]; omega
  have e4 : ∀ x, n - s ≤ x → x < b → d1[x]! = d[x]! := fun x hx1 _ => by rw [turn]; congr 1; unfold rox; rw [if_neg (by omega), if_neg (by omega)]
  refine ⟨by omega, by omega, by omega, by omega, sorted_congr (sorted_part hs1 (Nat.le_refl _) (by omega)) e1, ?_, ?_, sorted_congr (sorted_part hs2 (by omega) (Nat.le_refl _)) e4, ?_⟩
  · intro x y hx hxy hy
    rw [e2 x hx (by omega), e2 y (by omega) hy]
    exact hs2 _ _ (by omega) (by omega) (by omega)
  · intro x y hx hxy hy
    rw [e3 x hx (by omega), e3 y (by omega) hy]
    exact hs1 _ _ (by omega) (by omega) (by omega)
  · intro x y hx1 hx2 hy1 hy2
    rcases Nat.lt_or_ge x s with hxs | hxs
    · rw [e1 x hx1 hxs]
      rcases Nat.lt_or_ge y (n - s) with hys | hys
      · rw [e3 y hy1 hys]
        exact sorted_le hS hs1 hx1 (by omega) (by omega)
      · rw [e4 y hys hy2]
        -- the pair at s - 1
        have hlo : lo0 < s := by omega
        have hp := lo (s - 1) (by omega) (by omega)
        rw [show n - 1 - (s - 1) = n - s by omega] at hp
        exact hS.ntrans _ _ _ (hS.ntrans _ _ _ (sorted_le hS hs2 (by omega) hys hy2) hp) (sorted_le hS hs1 hx1 (by omega) (by omega))
    · rw [e2 x hxs hx2]
      rcases Nat.lt_or_ge y (n - s) with hys | hys
      · rw [e3 y hy1 hys]
        have hhi : s < hi0 := by omega
        have hp := hi s (Nat.le_refl _) hhi
        exact hS.ntrans _ _ _ (sorted_le hS hs1 (by omega) (show s ≤ y - ((a + b) / 2 - s) by omega) (by omega)) (hS.ntrans _ _ _ (hS.asymmA hp) (sorted_le hS hs2 (by omega) (by omega) (by omega)))
      · rw [e4 y hys hy2]
        exact sorted_le hS hs2 (by omega) (by omega) hy2
theorem Halves.left {mid e : Nat} {d1 : Array α} (H : Halves lt a b s mid e d1) (h : ¬ (a < s ∧ s < mid)) : SortedIn lt a mid d1 := by
  have o1 := H.o1
  have o2 := H.o2
  rcases Nat.lt_or_ge a s with h1 | h1
  · have : s = mid := by omega
    rw [← this]; exact H.r1
  · have : a = s := by omega
    rw [this]; exact H.r2
theorem Halves.right {mid e : Nat} {d1 d2 : Array α} (H : Halves lt a b s mid e d1) (hp : PermIn a mid d1 d2) (h : ¬ (mid < e ∧ e < b)) : SortedIn lt mid b d2 := by
  have o3 := H.o3
  have o4 := H.o4
  refine sorted_congr ?_ fun x hx _ => PermIn.out hp (Or.inr hx)
  rcases Nat.lt_or_ge mid e with h1 | h1
  · have : e = b := by omega
    rw [← this]; exact H.r3
  · have : mid = e := by omega
    rw [this]; exact H.r4
theorem Halves.parts {mid e : Nat} {d1 d2 : Array α} (H : Halves lt a b s mid e d1) (hp : PermIn a mid d1 d2) : SortedIn lt mid e d2 ∧ SortedIn lt e b d2 :=
  ⟨sorted_congr H.r3 fun x hx _ => PermIn.out hp (Or.inr hx), sorted_congr H.r4 fun x hx _ => PermIn.out hp (Or.inr (by have := H.o3; omega))⟩
/-- Both halves in order by themselves: all is. -/
theorem Halves.done {mid e : Nat} {d1 d2 d3 : Array α} (H : Halves lt a b s mid e d1) (hb : b ≤ d1.size) (p2 : PermIn a mid d1 d2) (s2 : SortedIn lt a mid d2) (p3 : PermIn mid b d2 d3) (s3 : SortedIn lt mid b d3) : PermIn a b d1 d3 ∧ SortedIn lt a b d3 := by
  have z2 := p2.1
  have z3 := p3.1
  have o1 := H.o1
  have o2 := H.o2
  have o3 := H.o3
  have o4 := H.o4
  refine ⟨permIn_trans _ _ _ _ _ (permIn_mono _ _ a mid a b (Nat.le_refl _) (by omega) (by omega) p2) (permIn_mono _ _ mid b a b (by omega) (Nat.le_refl _) (by omega) p3), sorted_join (sorted_congr s2 fun x _ hx => PermIn.out p3 (Or.inl hx)) s3 fun x y hx1 hx2 hy1 hy2 => ?_⟩
  have q : ∀ y, mid ≤ y → y < b → ∀ x, a ≤ x → x < mid → lt d2[y]! d2[x]! = false := fun y hy1 hy2 => by
    rw [PermIn.out p2 (Or.inr hy1)]
    exact permIn_all d1 d2 a mid (fun v => lt d1[y]! v = false) (by omega) p2 (fun x hx1 hx2 => H.ab x y hx1 hx2 hy1 hy2)
  rw [PermIn.out p3 (Or.inl hx2)]
  exact permIn_all d2 d3 mid b (fun v => lt v d2[x]! = false) (by omega) p3 (fun y hy1 hy2 => q y hy1 hy2 x hx1 hx2) y hy1 hy2

/-! ### Runs that are in order, one behind the other -/
/-- From a on each run of s is in order, up to n. -/
def RunsFrom (lt : α → α → Bool) (s a n : Nat) (d : Array α) : Prop := ∀ q, a ≤ q * s → SortedIn lt (q * s) (min (q * s + s) n) d
/-- Each run of s that ends at a, or ahead of it, is in order. -/
def RunsTo (lt : α → α → Bool) (s a : Nat) (d : Array α) : Prop := ∀ q, q * s + s ≤ a → SortedIn lt (q * s) (q * s + s) d
theorem RunsTo.zero {s : Nat} (hs : 0 < s) (d : Array α) : RunsTo lt s 0 d := fun q h => by omega
theorem RunsTo.next {s p : Nat} {d d' : Array α} (hs : 0 < s) (h : RunsTo lt s (p * s) d) (hp : PermIn (p * s) (p * s + s) d d') (hn : SortedIn lt (p * s) (p * s + s) d') : RunsTo lt s (p * s + s) d' := fun q hq => by
  have hc : q < p ∨ q = p := by
    rcases Nat.lt_trichotomy q p with h1 | h1 | h1
    · exact Or.inl h1
    · exact Or.inr h1
    · have := Nat.mul_le_mul_right s (show p + 1 ≤ q from h1)
      rw [Nat.add_mul, Nat.one_mul] at this
      omega
  rcases hc with h1 | rfl
  · have h2 := Nat.mul_le_mul_right s (show q + 1 ≤ p from h1)
    rw [Nat.add_mul, Nat.one_mul] at h2
    exact sorted_congr (h q h2) fun x _ hx => PermIn.out hp (Or.inl (by omega))
  · exact hn
/-- All runs of s, up to n. -/
theorem RunsTo.all {s p n : Nat} {d d' : Array α} (hs : 0 < s) (h : RunsTo lt s (p * s) d) (hn : n < p * s + s) (hp : PermIn (p * s) n d d') (hl : SortedIn lt (p * s) n d') : RunsFrom lt s 0 n d' := fun q _ => by
  rcases Nat.lt_trichotomy q p with h1 | h1 | h1
  · have h2 := Nat.mul_le_mul_right s (show q + 1 ≤ p from h1)
    rw [Nat.add_mul, Nat.one_mul] at h2
    exact sorted_part (sorted_congr (h q h2) fun x _ hx => PermIn.out hp (Or.inl (by omega))) (Nat.le_refl _) (Nat.min_le_left _ _)
  · subst h1
    exact sorted_part hl (Nat.le_refl _) (Nat.min_le_right _ _)
  · have h2 := Nat.mul_le_mul_right s (show p + 1 ≤ q from h1)
    rw [Nat.add_mul, Nat.one_mul] at h2
    exact fun i j hi hij hj => by omega
theorem RunsFrom.keep {s a a' n : Nat} {d d' : Array α} {lo hi : Nat} (h : RunsFrom lt s a n d) (ha : a ≤ a') (hp : PermIn lo hi d d') (hh : hi ≤ a') : RunsFrom lt s a' n d' := fun q hq =>
  sorted_congr (h q (by omega)) fun x hx _ => PermIn.out hp (Or.inr (by omega))
theorem RunsFrom.last {s n : Nat} {d : Array α} (h : RunsFrom lt s 0 n d) (hs : n ≤ s) : SortedIn lt 0 n d := by
  have := h 0 (by omega)
  rw [Nat.zero_mul, Nat.zero_add, Nat.min_eq_right hs] at this
  exact this
end
end Go.Proofs.Ytigifbijmchdcaa
