/- Plain facts on bitonic networks: pair behind pair the numbers at two places are put in order; behind all pairs they are in order. By rows of noughts and ones. No program is named here. -/
import Derived.WalkKit
namespace Go.Proofs.Ytojdefaplekieaa

/-- The lower one of the two places that are held against one another j apart. -/
def lowOf (j i : Nat) : Nat := if i / j % 2 = 0 then i else i - j
/-- All pairs of places that are j apart at once; up: the lesser one goes to the lower place. -/
def stage (up : Nat → Bool) (j : Nat) (x : Nat → Int) (i : Nat) : Int :=
  let a := lowOf j i
  if (up a = true) = (i / j % 2 = 0) then min (x a) (x (a + j)) else max (x a) (x (a + j))
/-- Places 2^(q-1), 2^(q-2), .., 1 apart, one behind the other. -/
def merge (up : Nat → Bool) : Nat → (Nat → Int) → (Nat → Int)
  | 0, x => x
  | q + 1, x => merge up q (stage up (2 ^ q) x)
def upOf (k i : Nat) : Bool := decide (i / k % 2 = 0)
/-- The network's first p rounds. -/
def phases : Nat → (Nat → Int) → (Nat → Int)
  | 0, x => x
  | p + 1, x => merge (upOf (2 ^ (p + 1))) (p + 1) (phases p x)

theorem al_lo (m c : Nat) : m * (2 * c) = 2 * m * c := by rw [Nat.mul_left_comm, Nat.mul_assoc]
theorem al_hi (m c i : Nat) : m * (2 * c + 1) + i = 2 * m * c + (m + i) := by rw [Nat.mul_add, al_lo]; omega
theorem two_pos (q : Nat) : 0 < 2 ^ q := Nat.pow_pos (by decide)
/-- Places of an aligned block: the first half. -/
theorem half_lo {h c i : Nat} (_hi : i < h) : (2 * h * c + i) / h % 2 = 0 := by
  have hp : 0 < h := by omega
  rw [show 2 * h * c + i = i + h * (2 * c) by rw [Nat.mul_comm 2 h, Nat.mul_assoc, Nat.add_comm], Nat.add_mul_div_left _ _ hp, Nat.div_eq_of_lt _hi]
  omega
theorem half_hi {h c i : Nat} (_hi : i < h) : (2 * h * c + (h + i)) / h % 2 = 1 := by
  have hp : 0 < h := by omega
  rw [show 2 * h * c + (h + i) = i + h * (2 * c + 1) by rw [Nat.mul_add, Nat.mul_comm 2 h, Nat.mul_assoc]; omega, Nat.add_mul_div_left _ _ hp, Nat.div_eq_of_lt _hi]
  omega
theorem stage_lo (up : Nat → Bool) (x : Nat → Int) {h c i : Nat} (hi : i < h) :
    stage up h x (2 * h * c + i) = if up (2 * h * c + i) then min (x (2 * h * c + i)) (x (2 * h * c + (h + i))) else max (x (2 * h * c + i)) (x (2 * h * c + (h + i))) := by
  have e := half_lo (c := c) hi
  have el : lowOf h (2 * h * c + i) = 2 * h * c + i := by unfold lowOf; rw [if_pos e]
  unfold stage
  simp only [el, e]
  rw [show 2 * h * c + i + h = 2 * h * c + (h + i) by omega]
  cases up (2 * h * c + i) <;> simp
theorem stage_hi (up : Nat → Bool) (x : Nat → Int) {h c i : Nat} (hi : i < h) :
    stage up h x (2 * h * c + (h + i)) = if up (2 * h * c + i) then max (x (2 * h * c + i)) (x (2 * h * c + (h + i))) else min (x (2 * h * c + i)) (x (2 * h * c + (h + i))) := by
  have e := half_hi (c := c) hi
  have el : lowOf h (2 * h * c + (h + i)) = 2 * h * c + i := by unfold lowOf; rw [if_neg (by omega)]; omega
  unfold stage
  simp only [el, e]
  rw [show 2 * h * c + i + h = 2 * h * c + (h + i) by omega]
  cases up (2 * h * c + i) <;> simp

/-- n numbers: ones from a to z alone (o = 1), or noughts alone (o = 0). -/
def Bump (u : Nat → Int) (n : Nat) : Prop := ∃ a z, a ≤ z ∧ z ≤ n ∧ ((∀ i, i < n → u i = if a ≤ i ∧ i < z then 1 else 0) ∨ ∀ i, i < n → u i = if a ≤ i ∧ i < z then 0 else 1)
def All (u : Nat → Int) (n : Nat) (o : Int) : Prop := ∀ i, i < n → u i = o
/-- Noughts, then ones; ones, then noughts. -/
def Rise (u : Nat → Int) (n : Nat) : Prop := ∃ a, a ≤ n ∧ ∀ i, i < n → u i = if i < a then 0 else 1
def Fall (u : Nat → Int) (n : Nat) : Prop := ∃ a, a ≤ n ∧ ∀ i, i < n → u i = if i < a then 1 else 0
/-- Of two halves of what rises and falls: the lesser ones are noughts, and the greater ones rise and fall; or the greater ones are ones, and the lesser ones rise and fall. -/
theorem halves (u : Nat → Int) (h : Nat) (hb : Bump u (2 * h)) :
    (All (fun i => min (u i) (u (h + i))) h 0 ∧ Bump (fun i => max (u i) (u (h + i))) h) ∨ (All (fun i => max (u i) (u (h + i))) h 1 ∧ Bump (fun i => min (u i) (u (h + i))) h) := by
  obtain ⟨a, z, haz, hz, hu | hu⟩ := hb
  · by_cases hc : z ≤ a + h
    · refine .inl ⟨fun i hi => ?_, ?_⟩
      · show min (u i) (u (h + i)) = 0
        rw [hu i (by omega), hu (h + i) (by omega)]
        by_cases h1 : a ≤ i ∧ i < z <;> by_cases h2 : a ≤ h + i ∧ h + i < z <;> simp only [h1, h2, if_false] <;> first | decide | omega
      · by_cases h3 : z ≤ h
        · refine ⟨a, z, haz, h3, .inl fun i hi => ?_⟩
          show max (u i) (u (h + i)) = _
          rw [hu i (by omega), hu (h + i) (by omega), if_neg (show ¬(a ≤ h + i ∧ h + i < z) by omega)]
          by_cases h1 : a ≤ i ∧ i < z <;> simp only [h1, if_false] <;> decide
        · by_cases h4 : h ≤ a
          · refine ⟨a - h, z - h, by omega, by omega, .inl fun i hi => ?_⟩
            show max (u i) (u (h + i)) = _
            rw [hu i (by omega), hu (h + i) (by omega), if_neg (show ¬(a ≤ i ∧ i < z) by omega)]
            by_cases h1 : a ≤ h + i ∧ h + i < z
            · rw [if_pos h1, if_pos (by omega)]; decide
            · rw [if_neg h1, if_neg (by omega)]; decide
          · refine ⟨z - h, a, by omega, by omega, .inr fun i hi => ?_⟩
            show max (u i) (u (h + i)) = _
            rw [hu i (by omega), hu (h + i) (by omega)]
            by_cases h1 : z - h ≤ i ∧ i < a
            · rw [if_pos h1, if_neg (by omega), if_neg (by omega)]; decide
            · rw [if_neg h1]
              by_cases h2 : a ≤ i ∧ i < z
              · rw [if_pos h2]; split <;> decide
              · rw [if_neg h2, if_pos (by omega)]; decide
    · refine .inr ⟨fun i hi => ?_, a, z - h, by omega, by omega, .inl fun i hi => ?_⟩
      · show max (u i) (u (h + i)) = 1
        rw [hu i (by omega), hu (h + i) (by omega)]
        by_cases h1 : a ≤ i ∧ i < z
        · rw [if_pos h1]; split <;> decide
        · rw [if_neg h1, if_pos (by omega)]; decide
      · show min (u i) (u (h + i)) = _
        rw [hu i (by omega), hu (h + i) (by omega)]
        by_cases h1 : a ≤ i ∧ i < z - h
        · rw [if_pos h1, if_pos (by omega), if_pos (by omega)]; decide
        · rw [if_neg h1]
          by_cases h2 : a ≤ i ∧ i < z
          · rw [if_pos h2, if_neg (by omega)]; decide
          · rw [if_neg h2]; split <;> decide
  · by_cases hc : z ≤ a + h
    · refine .inr ⟨fun i hi => ?_, ?_⟩
      · show max (u i) (u (h + i)) = 1
        rw [hu i (by omega), hu (h + i) (by omega)]
        by_cases h1 : a ≤ i ∧ i < z <;> by_cases h2 : a ≤ h + i ∧ h + i < z <;> simp only [h1, h2, if_false] <;> first | decide | omega
      · by_cases h3 : z ≤ h
        · refine ⟨a, z, haz, h3, .inr fun i hi => ?_⟩
          show min (u i) (u (h + i)) = _
          rw [hu i (by omega), hu (h + i) (by omega), if_neg (show ¬(a ≤ h + i ∧ h + i < z) by omega)]
          by_cases h1 : a ≤ i ∧ i < z <;> simp only [h1, if_false] <;> decide
        · by_cases h4 : h ≤ a
          · refine ⟨a - h, z - h, by omega, by omega, .inr fun i hi => ?_⟩
            show min (u i) (u (h + i)) = _
            rw [hu i (by omega), hu (h + i) (by omega), if_neg (show ¬(a ≤ i ∧ i < z) by omega)]
            by_cases h1 : a ≤ h + i ∧ h + i < z
            · rw [if_pos h1, if_pos (by omega)]; decide
            · rw [if_neg h1, if_neg (by omega)]; decide
          · refine ⟨z - h, a, by omega, by omega, .inl fun i hi => ?_⟩
            show min (u i) (u (h + i)) = _
            rw [hu i (by omega), hu (h + i) (by omega)]
            by_cases h1 : z - h ≤ i ∧ i < a
            · rw [if_pos h1, if_neg (by omega), if_neg (by omega)]; decide
            · rw [if_neg h1]
              by_cases h2 : a ≤ i ∧ i < z
              · rw [if_pos h2]; split <;> decide
              · rw [if_neg h2, if_pos (by omega)]; decide
    · refine .inl ⟨fun i hi => ?_, a, z - h, by omega, by omega, .inr fun i hi => ?_⟩
      · show min (u i) (u (h + i)) = 0
        rw [hu i (by omega), hu (h + i) (by omega)]
        by_cases h1 : a ≤ i ∧ i < z
        · rw [if_pos h1]; split <;> decide
        · rw [if_neg h1, if_pos (by omega)]; decide
      · show max (u i) (u (h + i)) = _
        rw [hu i (by omega), hu (h + i) (by omega)]
        by_cases h1 : a ≤ i ∧ i < z - h
        · rw [if_pos h1, if_pos (by omega), if_pos (by omega)]; decide
        · rw [if_neg h1]
          by_cases h2 : a ≤ i ∧ i < z
          · rw [if_pos h2, if_neg (by omega)]; decide
          · rw [if_neg h2]; split <;> decide

theorem All.bump0 {u : Nat → Int} {n : Nat} (h : All u n 0) : Bump u n := ⟨0, 0, Nat.le_refl _, Nat.zero_le _, .inl fun i hi => by rw [h i hi, if_neg (by omega)]⟩
theorem All.bump1 {u : Nat → Int} {n : Nat} (h : All u n 1) : Bump u n := ⟨0, 0, Nat.le_refl _, Nat.zero_le _, .inr fun i hi => by rw [h i hi, if_neg (by omega)]⟩
theorem All.ext {u v : Nat → Int} {n : Nat} {o : Int} (h : All u n o) (e : ∀ i, i < n → v i = u i) : All v n o := fun i hi => (e i hi).trans (h i hi)
theorem Bump.ext {u v : Nat → Int} {n : Nat} (h : Bump u n) (e : ∀ i, i < n → v i = u i) : Bump v n := by
  obtain ⟨a, z, h1, h2, h3 | h3⟩ := h
  · exact ⟨a, z, h1, h2, .inl fun i hi => (e i hi).trans (h3 i hi)⟩
  · exact ⟨a, z, h1, h2, .inr fun i hi => (e i hi).trans (h3 i hi)⟩
/-- The numbers from place b on. -/
def from_ (x : Nat → Int) (b i : Nat) : Int := x (b + i)

/-- A block whose numbers are all one stays so. -/
theorem merge_all (up : Nat → Bool) (o : Int) : ∀ (q : Nat) (x : Nat → Int) (c : Nat), All (from_ x (2 ^ q * c)) (2 ^ q) o → All (from_ (merge up q x) (2 ^ q * c)) (2 ^ q) o
  | 0, _, _, h => h
  | q + 1, x, c, h => by
    have e : 2 ^ (q + 1) = 2 * 2 ^ q := by rw [Nat.pow_succ, Nat.mul_comm]
    rw [e] at h ⊢
    have h1 : ∀ i, i < 2 ^ q → x (2 * 2 ^ q * c + i) = o := fun i hi => h i (by omega)
    have h2 : ∀ i, i < 2 ^ q → x (2 * 2 ^ q * c + (2 ^ q + i)) = o := fun i hi => h (2 ^ q + i) (by omega)
    have a1 : All (from_ (stage up (2 ^ q) x) (2 ^ q * (2 * c))) (2 ^ q) o := fun i hi => by
      show stage up (2 ^ q) x (2 ^ q * (2 * c) + i) = o
      rw [al_lo, stage_lo up x hi, h1 i hi, h2 i hi]
      split <;> omega
    have a2 : All (from_ (stage up (2 ^ q) x) (2 ^ q * (2 * c + 1))) (2 ^ q) o := fun i hi => by
      show stage up (2 ^ q) x (2 ^ q * (2 * c + 1) + i) = o
      rw [al_hi, stage_hi up x hi, h1 i hi, h2 i hi]
      split <;> omega
    have b1 := merge_all up o q _ _ a1
    have b2 := merge_all up o q _ _ a2
    intro i hi
    show merge up q (stage up (2 ^ q) x) (2 * 2 ^ q * c + i) = o
    by_cases hl : i < 2 ^ q
    · have := b1 i hl
      unfold from_ at this
      rwa [al_lo] at this
    · have := b2 (i - 2 ^ q) (by omega)
      unfold from_ at this
      rwa [al_hi, show 2 ^ q + (i - 2 ^ q) = i by omega] at this

theorem Rise.join0 {u : Nat → Int} {h : Nat} (h1 : All u h 0) (h2 : Rise (fun i => u (h + i)) h) : Rise u (2 * h) := by
  obtain ⟨a, ha, hu⟩ := h2
  refine ⟨h + a, by omega, fun i hi => ?_⟩
  by_cases hl : i < h
  · rw [h1 i hl, if_pos (by omega)]
  · have := hu (i - h) (by omega)
    dsimp only at this
    rw [show h + (i - h) = i by omega] at this
    rw [this]
    by_cases hc : i - h < a
    · rw [if_pos hc, if_pos (by omega)]
    · rw [if_neg hc, if_neg (by omega)]
theorem Rise.join1 {u : Nat → Int} {h : Nat} (h1 : Rise u h) (h2 : All (fun i => u (h + i)) h 1) : Rise u (2 * h) := by
  obtain ⟨a, ha, hu⟩ := h1
  refine ⟨a, by omega, fun i hi => ?_⟩
  by_cases hl : i < h
  · exact hu i hl
  · have := h2 (i - h) (by omega)
    dsimp only at this
    rw [show h + (i - h) = i by omega] at this
    rw [this, if_neg (by omega)]
theorem Fall.join1 {u : Nat → Int} {h : Nat} (h1 : All u h 1) (h2 : Fall (fun i => u (h + i)) h) : Fall u (2 * h) := by
  obtain ⟨a, ha, hu⟩ := h2
  refine ⟨h + a, by omega, fun i hi => ?_⟩
  by_cases hl : i < h
  · rw [h1 i hl, if_pos (by omega)]
  · have := hu (i - h) (by omega)
    dsimp only at this
    rw [show h + (i - h) = i by omega] at this
    rw [this]
    by_cases hc : i - h < a
    · rw [if_pos hc, if_pos (by omega)]
    · rw [if_neg hc, if_neg (by omega)]
theorem Fall.join0 {u : Nat → Int} {h : Nat} (h1 : Fall u h) (h2 : All (fun i => u (h + i)) h 0) : Fall u (2 * h) := by
  obtain ⟨a, ha, hu⟩ := h1
  refine ⟨a, by omega, fun i hi => ?_⟩
  by_cases hl : i < h
  · exact hu i hl
  · have := h2 (i - h) (by omega)
    dsimp only at this
    rw [show h + (i - h) = i by omega] at this
    rw [this, if_neg (by omega)]
/-- What rises, and then falls, in two halves, is a bump. -/
theorem Bump.of {u : Nat → Int} {h : Nat} (h1 : Rise u h) (h2 : Fall (fun i => u (h + i)) h) : Bump u (2 * h) := by
  obtain ⟨a, ha, hu⟩ := h1
  obtain ⟨b, hb, hv⟩ := h2
  refine ⟨a, h + b, by omega, by omega, .inl fun i hi => ?_⟩
  by_cases hl : i < h
  · rw [hu i hl]
    by_cases hc : i < a
    · rw [if_pos hc, if_neg (by omega)]
    · rw [if_neg hc, if_pos (by omega)]
  · have := hv (i - h) (by omega)
    dsimp only at this
    rw [show h + (i - h) = i by omega] at this
    rw [this]
    by_cases hc : i - h < b
    · rw [if_pos hc, if_pos (by omega)]
    · rw [if_neg hc, if_neg (by omega)]

/-- The two halves of a block in the words of the whole. -/
theorem from_half (x : Nat → Int) (m c : Nat) : from_ x (m * (2 * c)) = from_ x (2 * m * c) ∧ from_ x (m * (2 * c + 1)) = fun i => from_ x (2 * m * c) (m + i) := by
  constructor
  · rw [al_lo]
  · funext i; unfold from_; rw [al_hi]
theorem merge_rise (up : Nat → Bool) : ∀ (q : Nat) (x : Nat → Int) (c : Nat), (∀ i, i < 2 ^ q → up (2 ^ q * c + i) = true) → Bump (from_ x (2 ^ q * c)) (2 ^ q) → Rise (from_ (merge up q x) (2 ^ q * c)) (2 ^ q)
  | 0, x, c, _, h => by
    obtain ⟨a, z, haz, hz, hu | hu⟩ := h
    · have h0 := hu 0 (by decide)
      show Rise (from_ x (2 ^ 0 * c)) 1
      by_cases hc : a ≤ 0 ∧ 0 < z
      · exact ⟨0, by omega, fun i hi => by obtain rfl : i = 0 := by omega
                                           rw [h0, if_pos hc]; rfl⟩
      · exact ⟨1, by omega, fun i hi => by obtain rfl : i = 0 := by omega
                                           rw [h0, if_neg hc]; rfl⟩
    · have h0 := hu 0 (by decide)
      show Rise (from_ x (2 ^ 0 * c)) 1
      by_cases hc : a ≤ 0 ∧ 0 < z
      · exact ⟨1, by omega, fun i hi => by obtain rfl : i = 0 := by omega
                                           rw [h0, if_pos hc]; rfl⟩
      · exact ⟨0, by omega, fun i hi => by obtain rfl : i = 0 := by omega
                                           rw [h0, if_neg hc]; rfl⟩
  | q + 1, x, c, hup, h => by
    have e : 2 ^ (q + 1) = 2 * 2 ^ q := by rw [Nat.pow_succ, Nat.mul_comm]
    rw [e] at h hup ⊢
    obtain ⟨f1, f2⟩ := from_half (merge up q (stage up (2 ^ q) x)) (2 ^ q) c
    obtain ⟨g1, g2⟩ := from_half (stage up (2 ^ q) x) (2 ^ q) c
    have l1 : ∀ i, i < 2 ^ q → from_ (stage up (2 ^ q) x) (2 ^ q * (2 * c)) i = min (from_ x (2 * 2 ^ q * c) i) (from_ x (2 * 2 ^ q * c) (2 ^ q + i)) := fun i hi => by
      rw [g1]; unfold from_; rw [stage_lo up x hi, hup i (by omega), if_pos rfl]
    have l2 : ∀ i, i < 2 ^ q → from_ (stage up (2 ^ q) x) (2 ^ q * (2 * c + 1)) i = max (from_ x (2 * 2 ^ q * c) i) (from_ x (2 * 2 ^ q * c) (2 ^ q + i)) := fun i hi => by
      rw [g2]; unfold from_; dsimp only; rw [stage_hi up x hi, hup i (by omega), if_pos rfl]
    have u1 : ∀ i, i < 2 ^ q → up (2 ^ q * (2 * c) + i) = true := fun i hi => by rw [al_lo]; exact hup i (by omega)
    have u2 : ∀ i, i < 2 ^ q → up (2 ^ q * (2 * c + 1) + i) = true := fun i hi => by rw [al_hi]; exact hup (2 ^ q + i) (by omega)
    show Rise (from_ (merge up q (stage up (2 ^ q) x)) (2 * 2 ^ q * c)) (2 * 2 ^ q)
    rcases halves _ _ h with ⟨ha, hb⟩ | ⟨ha, hb⟩
    · have r1 := merge_all up 0 q _ _ (ha.ext l1)
      have r2 := merge_rise up q _ _ u2 (hb.ext l2)
      rw [f1] at r1
      rw [f2] at r2
      exact Rise.join0 r1 r2
    · have r1 := merge_rise up q _ _ u1 (hb.ext l1)
      have r2 := merge_all up 1 q _ _ (ha.ext l2)
      rw [f1] at r1
      rw [f2] at r2
      exact Rise.join1 r1 r2
theorem merge_fall (up : Nat → Bool) : ∀ (q : Nat) (x : Nat → Int) (c : Nat), (∀ i, i < 2 ^ q → up (2 ^ q * c + i) = false) → Bump (from_ x (2 ^ q * c)) (2 ^ q) → Fall (from_ (merge up q x) (2 ^ q * c)) (2 ^ q)
  | 0, x, c, _, h => by
    obtain ⟨a, z, haz, hz, hu | hu⟩ := h
    · have h0 := hu 0 (by decide)
      show Fall (from_ x (2 ^ 0 * c)) 1
      by_cases hc : a ≤ 0 ∧ 0 < z
      · exact ⟨1, by omega, fun i hi => by obtain rfl : i = 0 := by omega
                                           rw [h0, if_pos hc]; rfl⟩
      · exact ⟨0, by omega, fun i hi => by obtain rfl : i = 0 := by omega
                                           rw [h0, if_neg hc]; rfl⟩
    · have h0 := hu 0 (by decide)
      show Fall (from_ x (2 ^ 0 * c)) 1
      by_cases hc : a ≤ 0 ∧ 0 < z
      · exact ⟨0, by omega, fun i hi => by obtain rfl : i = 0 := by omega
                                           rw [h0, if_pos hc]; rfl⟩
      · exact ⟨1, by omega, fun i hi => by obtain rfl : i = 0 := by omega
                                           rw [h0, if_neg hc]; rfl⟩
  | q + 1, x, c, hup, h => by
    have e : 2 ^ (q + 1) = 2 * 2 ^ q := by rw [Nat.pow_succ, Nat.mul_comm]
    rw [e] at h hup ⊢
    obtain ⟨f1, f2⟩ := from_half (merge up q (stage up (2 ^ q) x)) (2 ^ q) c
    obtain ⟨g1, g2⟩ := from_half (stage up (2 ^ q) x) (2 ^ q) c
    have nf : ¬ (false = true) := by decide
    have l1 : ∀ i, i < 2 ^ q → from_ (stage up (2 ^ q) x) (2 ^ q * (2 * c)) i = max (from_ x (2 * 2 ^ q * c) i) (from_ x (2 * 2 ^ q * c) (2 ^ q + i)) := fun i hi => by
      rw [g1]; unfold from_; rw [stage_lo up x hi, hup i (by omega), if_neg nf]
    have l2 : ∀ i, i < 2 ^ q → from_ (stage up (2 ^ q) x) (2 ^ q * (2 * c + 1)) i = min (from_ x (2 * 2 ^ q * c) i) (from_ x (2 * 2 ^ q * c) (2 ^ q + i)) := fun i hi => by
      rw [g2]; unfold from_; dsimp only; rw [stage_hi up x hi, hup i (by omega), if_neg nf]
    have u1 : ∀ i, i < 2 ^ q → up (2 ^ q * (2 * c) + i) = false := fun i hi => by rw [al_lo]; exact hup i (by omega)
    have u2 : ∀ i, i < 2 ^ q → up (2 ^ q * (2 * c + 1) + i) = false := fun i hi => by rw [al_hi]; exact hup (2 ^ q + i) (by omega)
    show Fall (from_ (merge up q (stage up (2 ^ q) x)) (2 * 2 ^ q * c)) (2 * 2 ^ q)
    rcases halves _ _ h with ⟨ha, hb⟩ | ⟨ha, hb⟩
    · have r1 := merge_fall up q _ _ u1 (hb.ext l1)
      have r2 := merge_all up 0 q _ _ (ha.ext l2)
      rw [f1] at r1
      rw [f2] at r2
      exact Fall.join0 r1 r2
    · have r1 := merge_all up 1 q _ _ (ha.ext l1)
      have r2 := merge_fall up q _ _ u2 (hb.ext l2)
      rw [f1] at r1
      rw [f2] at r2
      exact Fall.join1 r1 r2

/-- Which way a block goes is said by its number. -/
theorem upOf_block (k c i : Nat) (hi : i < k) : upOf k (k * c + i) = decide (c % 2 = 0) := by
  unfold upOf
  rw [Nat.mul_add_div (by omega), Nat.div_eq_of_lt hi, Nat.add_zero]
/-- Behind p rounds of a row of noughts and ones, each block of 2^p rises or falls, in turn. -/
theorem phases_block : ∀ (p : Nat) (x : Nat → Int), (∀ i, x i = 0 ∨ x i = 1) → ∀ c, (c % 2 = 0 → Rise (from_ (phases p x) (2 ^ p * c)) (2 ^ p)) ∧ (c % 2 = 1 → Fall (from_ (phases p x) (2 ^ p * c)) (2 ^ p))
  | 0, x, hx, c => by
    have one : ∀ i, i < 2 ^ 0 → i = 0 := fun i hi => by simpa using hi
    rcases hx (2 ^ 0 * c + 0) with h | h
    · exact ⟨fun _ => ⟨1, by decide, fun i hi => by rw [one i hi]; exact h⟩, fun _ => ⟨0, by decide, fun i hi => by rw [one i hi]; exact h⟩⟩
    · exact ⟨fun _ => ⟨0, by decide, fun i hi => by rw [one i hi]; exact h⟩, fun _ => ⟨1, by decide, fun i hi => by rw [one i hi]; exact h⟩⟩
  | p + 1, x, hx, c => by
    have e : 2 ^ (p + 1) = 2 * 2 ^ p := by rw [Nat.pow_succ, Nat.mul_comm]
    obtain ⟨g1, g2⟩ := from_half (phases p x) (2 ^ p) c
    have r1 := (phases_block p x hx (2 * c)).1 (by omega)
    have r2 := (phases_block p x hx (2 * c + 1)).2 (by omega)
    rw [g1] at r1
    rw [g2] at r2
    have hb : Bump (from_ (phases p x) (2 ^ (p + 1) * c)) (2 ^ (p + 1)) := by rw [e]; exact Bump.of r1 r2
    constructor
    · intro h
      exact merge_rise _ (p + 1) _ c (fun i hi => by rw [upOf_block _ _ _ hi]; simpa using h) hb
    · intro h
      exact merge_fall _ (p + 1) _ c (fun i hi => by rw [upOf_block _ _ _ hi]; simpa using h) hb

/-- One for what is above t, nought for the others. -/
def over (t v : Int) : Int := if t < v then 1 else 0
theorem over_min (t a b : Int) : over t (min a b) = min (over t a) (over t b) := by
  unfold over
  by_cases h1 : t < a <;> by_cases h2 : t < b <;> simp only [h1, h2, if_true, if_false] <;> first | (rw [if_pos (by omega)]; decide) | (rw [if_neg (by omega)]; decide)
theorem over_max (t a b : Int) : over t (max a b) = max (over t a) (over t b) := by
  unfold over
  by_cases h1 : t < a <;> by_cases h2 : t < b <;> simp only [h1, h2, if_true, if_false] <;> first | (rw [if_pos (by omega)]; decide) | (rw [if_neg (by omega)]; decide)
theorem stage_over (up : Nat → Bool) (j : Nat) (t : Int) (x : Nat → Int) : stage up j (fun i => over t (x i)) = fun i => over t (stage up j x i) := by
  funext i
  unfold stage
  dsimp only
  split
  · rw [over_min]
  · rw [over_max]
theorem merge_over (up : Nat → Bool) (t : Int) : ∀ (q : Nat) (x : Nat → Int), merge up q (fun i => over t (x i)) = fun i => over t (merge up q x i)
  | 0, _ => rfl
  | q + 1, x => by
    show merge up q (stage up (2 ^ q) fun i => over t (x i)) = _
    rw [stage_over, merge_over up t q]; rfl
theorem phases_over (t : Int) : ∀ (p : Nat) (x : Nat → Int), phases p (fun i => over t (x i)) = fun i => over t (phases p x i)
  | 0, _ => rfl
  | p + 1, x => by
    show merge _ _ (phases p fun i => over t (x i)) = _
    rw [phases_over t p, merge_over]; rfl
/-- Behind all rounds the numbers are in order. -/
theorem phases_sorted (p : Nat) (x : Nat → Int) (i j : Nat) (hij : i ≤ j) (hj : j < 2 ^ p) : phases p x i ≤ phases p x j := by
  rcases Int.lt_or_le (phases p x j) (phases p x i) with hlt | hle
  · exfalso
    have h := (phases_block p (fun i => over (phases p x j) (x i)) (fun i => by unfold over; split <;> simp) 0).1 rfl
    obtain ⟨a, ha, hu⟩ := h
    have h1 := hu i (by omega)
    have h2 := hu j hj
    unfold from_ at h1 h2
    rw [Nat.mul_zero, Nat.zero_add, phases_over] at h1 h2
    dsimp only at h1 h2
    unfold over at h1 h2
    rw [if_pos hlt] at h1
    rw [if_neg (by omega)] at h2
    by_cases hc : i < a
    · rw [if_pos hc] at h1; omega
    · rw [if_neg (by omega)] at h2; omega
  · exact hle
end Go.Proofs.Ytojdefaplekieaa
