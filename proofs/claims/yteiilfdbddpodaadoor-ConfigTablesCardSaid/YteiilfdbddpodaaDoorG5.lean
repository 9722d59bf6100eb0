/- Texts of ours put together: Rng, NetMath, NetPairs. -/
import Derived.WalkKit
/- What a number's form says of its size; what is returned. Plain facts; no program is named here. -/
namespace Go.Proofs.YteiilfdbddpodaaDoor
set_option maxRecDepth 100000

theorem u64_rng {a : Int} (h : (Lit.int .u64 a).wf = true) : 0 ≤ a ∧ a ≤ 18446744073709551615 := by
  simp only [Lit.wf, IntKind.min, IntKind.max, IntKind.signed, IntKind.bits, Bool.and_eq_true] at h
  exact ⟨by have := h.1; simp at this; omega, by have := h.2; simp at this; omega⟩
theorem i64_rng {a : Int} (h : (Lit.int .i64 a).wf = true) : -9223372036854775808 ≤ a ∧ a ≤ 9223372036854775807 := by
  simp only [Lit.wf, IntKind.min, IntKind.max, IntKind.signed, IntKind.bits, Bool.and_eq_true] at h
  exact ⟨by have := h.1; simp at this; omega, by have := h.2; simp at this; omega⟩
theorem ret_int {k : IntKind} {a b : Int} (h : a = b) : Ending.returned (.int k a) = .returned (.int k b) := by rw [h]
end Go.Proofs.YteiilfdbddpodaaDoor

/- Plain facts on bitonic networks: pair behind pair the numbers at two places are put in order; behind all pairs they are in order. By rows of noughts and ones. No program is named here. -/
namespace Go.Proofs.YteiilfdbddpodaaDoor
set_option maxRecDepth 100000

/-- The lower one of the two places that are held against one another j apart. -/
def lowOf (j i : Nat) : Nat := if i / j % 2 = 0 then i else i - j
/-- All pairs of places that are j apart at once; up: the lesser one goes to the lower place. -/
def stage (up : Nat → Bool) (j : Nat) (x : Nat → Int) (i : Nat) : Int :=
  let a := lowOf j i
  if (up a = true) = (i / j % 2 = 0) then min (x a) (x (a + j)) else max (x a) (x (a + j))
/-- Places 2^(q-1), 2^(q-2), .., 1 apart, one behind the other. -/
def merge (up : Nat → Bool) : Nat → (Nat → Int) → (Nat → Int)
  | 0, x => x
  | q + 1, x => merge up q (stage up (2 ^ q) x)
def upOf (k i : Nat) : Bool := decide (i / k % 2 = 0)
/-- The network's first p rounds. -/
def phases : Nat → (Nat → Int) → (Nat → Int)
  | 0, x => x
  | p + 1, x => merge (upOf (2 ^ (p + 1))) (p + 1) (phases p x)

theorem al_lo (m c : Nat) : m * (2 * c) = 2 * m * c := by rw [Nat.mul_left_comm, Nat.mul_assoc]
theorem al_hi (m c i : Nat) : m * (2 * c + 1) + i = 2 * m * c + (m + i) := by rw [Nat.mul_add, al_lo]; omega
theorem two_pos (q : Nat) : 0 < 2 ^ q := Nat.pow_pos (by decide)
/-- Places of an aligned block: the first half. -/
theorem half_lo {h c i : Nat} (_hi : i < h) : (2 * h * c + i) / h % 2 = 0 := by
  have hp : 0 < h := by omega
  rw [show 2 * h * c + i = i + h * (2 * c) by rw [Nat.mul_comm 2 h, Nat.mul_assoc, Nat.add_comm], Nat.add_mul_div_left _ _ hp, Nat.div_eq_of_lt _hi]
  omega
theorem half_hi {h c i : Nat} (_hi : i < h) : (2 * h * c + (h + i)) / h % 2 = 1 := by
  have hp : 0 < h := by omega
  rw [show 2 * h * c + (h + i) = i + h * (2 * c + 1) by rw [Nat.mul_add, Nat.mul_comm 2 h, Nat.mul_assoc]; omega, Nat.add_mul_div_left _ _ hp, Nat.div_eq_of_lt _hi]
  omega
theorem stage_lo (up : Nat → Bool) (x : Nat → Int) {h c i : Nat} (hi : i < h) :
    stage up h x (2 * h * c + i) = if up (2 * h * c + i) then min (x (2 * h * c + i)) (x (2 * h * c + (h + i))) else max (x (2 * h * c + i)) (x (2 * h * c + (h + i))) := by
  have e := half_lo (c := c) hi
  have el : lowOf h (2 * h * c + i) = 2 * h * c + i := by unfold lowOf; rw [if_pos e]
  unfold stage
  simp only [el, e]
  rw [show 2 * h * c + i + h = 2 * h * c + (h + i) by omega]
  cases up (2 * h * c + i) <;> simp
theorem stage_hi (up : Nat → Bool) (x : Nat → Int) {h c i : Nat} (hi : i < h) :
    stage up h x (2 * h * c + (h + i)) = if up (2 * h * c + i) then max (x (2 * h * c + i)) (x (2 * h * c + (h + i))) else min (x (2 * h * c + i)) (x (2 * h * c + (h + i))) := by
  have e := half_hi (c := c) hi
  have el : lowOf h (2 * h * c + (h + i)) = 2 * h * c + i := by unfold lowOf; rw [if_neg (by omega)]; omega
  unfold stage
  simp only [el, e]
  rw [show 2 * h * c + i + h = 2 * h * c + (h + i) by omega]
  cases up (2 * h * c + i) <;> simp

/-- n numbers: ones from a to z alone (o = 1), or noughts alone (o = 0). -/
def Bump (u : Nat → Int) (n : Nat) : Prop := ∃ a z, a ≤ z ∧ z ≤ n ∧ ((∀ i, i < n → u i = if a ≤ i ∧ i < z then 1 else 0) ∨ ∀ i, i < n → u i = if a ≤ i ∧ i < z then 0 else 1)
def All (u : Nat → Int) (n : Nat) (o : Int) : Prop := ∀ i, i < n → u i = o
/-- Noughts, then ones; ones, then noughts. -/
def Rise (u : Nat → Int) (n : Nat) : Prop := ∃ a, a ≤ n ∧ ∀ i, i < n → u i = if i < a then 0 else 1
def Fall (u : Nat → Int) (n : Nat) : Prop := ∃ a, a ≤ n ∧ ∀ i, i < n → u i = if i < a then 1 else 0
/-- Of two halves of what rises and falls: the lesser ones are noughts, and the greater ones rise and fall; or the greater ones are ones, and the lesser ones rise and fall. -/
theorem halves (u : Nat → Int) (h : Nat) (hb : Bump u (2 * h)) :
    (All (fun i => min (u i) (u (h + i))) h 0 ∧ Bump (fun i => max (u i) (u (h + i))) h) ∨ (All (fun i => max (u i) (u (h + i))) h 1 ∧ Bump (fun i => min (u i) (u (h + i))) h) := by
  obtain ⟨a, z, haz, hz, hu | hu⟩ := hb
  · by_cases hc : z ≤ a + h
    · refine .inl ⟨fun i hi => ?_, ?_⟩
      · show min (u i) (u (h + i)) = 0
        rw [hu i (by omega), hu (h + i) (by omega)]
        by_cases h1 : a ≤ i ∧ i < z <;> by_cases h2 : a ≤ h + i ∧ h + i < z <;> simp only [h1, h2, if_false] <;> first | decide | omega
      · by_cases h3 : z ≤ h
        · refine ⟨a, z, haz, h3, .inl fun i hi => ?_⟩
          show max (u i) (u (h + i)) = _
          rw [hu i (by omega), hu (h + i) (by omega), if_neg (show ¬(a ≤ h + i ∧ h + i < z) by omega)]
          by_cases h1 : a ≤ i ∧ i < z <;> simp only [h1, if_false] <;> decide
        · by_cases h4 : h ≤ a
          · refine ⟨a - h, z - h, by omega, by omega, .inl fun i hi => ?_⟩
            show max (u i) (u (h + i)) = _
            rw [hu i (by omega), hu (h + i) (by omega), if_neg (show ¬(a ≤ i ∧ i < z) by omega)]
            by_cases h1 : a ≤ h + i ∧ h + i < z
            · rw [if_pos h1, if_pos (by omega)]; decide
            · rw [if_neg h1, if_neg (by omega)]; decide
          · refine ⟨z - h, a, by omega, by omega, .inr fun i hi => ?_⟩
            show max (u i) (u (h + i)) = _
            rw [hu i (by omega), hu (h + i) (by omega)]
            by_cases h1 : z - h ≤ i ∧ i < a
            · rw [if_pos h1, if_neg (by omega), if_neg (by omega)]; decide
            · rw [if_neg h1]
              by_cases h2 : a ≤ i ∧ i < z
              · rw [if_pos h2]; split <;> decide
              · rw [if_neg h2, if_pos (by omega)]; decide
    · refine .inr ⟨fun i hi => ?_, a, z - h, by omega, by omega, .inl fun i hi => ?_⟩
      · show max (u i) (u (h + i)) = 1
        rw [hu i (by omega), hu (h + i) (by omega)]
        by_cases h1 : a ≤ i ∧ i < z
        · rw [if_pos h1]; split <;> decide
        · rw [if_neg h1, if_pos (by omega)]; decide
      · show min (u i) (u (h + i)) = _
        rw [hu i (by omega), hu (h + i) (by omega)]
        by_cases h1 : a ≤ i ∧ i < z - h
        · rw [if_pos h1, if_pos (by omega), if_pos (by omega)]; decide
        · rw [if_neg h1]
          by_cases h2 : a ≤ i ∧ i < z
          · rw [if_pos h2, if_neg (by omega)]; decide
          · rw [if_neg h2]; split <;> decide
  · by_cases hc : z ≤ a + h
    · refine .inr ⟨fun i hi => ?_, ?_⟩
      · show max (u i) (u (h + i)) = 1
        rw [hu i (by omega), hu (h + i) (by omega)]
        by_cases h1 : a ≤ i ∧ i < z <;> by_cases h2 : a ≤ h + i ∧ h + i < z <;> simp only [h1, h2, if_false] <;> first | decide | omega
      · by_cases h3 : z ≤ h
        · refine ⟨a, z, haz, h3, .inr fun i hi => ?_⟩
          show min (u i) (u (h + i)) = _
          rw [hu i (by omega), hu (h + i) (by omega), if_neg (show ¬(a ≤ h + i ∧ h + i < z) by omega)]
          by_cases h1 : a ≤ i ∧ i < z <;> simp only [h1, if_false] <;> decide
        · by_cases h4 : h ≤ a
          · refine ⟨a - h, z - h, by omega, by omega, .inr fun i hi => ?_⟩
            show min (u i) (u (h + i)) = _
            rw [hu i (by omega), hu (h + i) (by omega), if_neg (show ¬(a ≤ i ∧ i < z) by omega)]
            by_cases h1 : a ≤ h + i ∧ h + i < z
            · rw [if_pos h1, if_pos (by omega)]; decide
            · rw [if_neg h1, if_neg (by omega)]; decide
          · refine ⟨z - h, a, by omega, by omega, .inl fun i hi => ?_⟩
            show min (u i) (u (h + i)) = _
            rw [hu i (by omega), hu (h + i) (by omega)]
            by_cases h1 : z - h ≤ i ∧ i < a
            · rw [if_pos h1, if_neg (by omega), if_neg (by omega)]; decide
            · rw [if_neg h1]
              by_cases h2 : a ≤ i ∧ i < z
              · rw [if_pos h2]; split <;> decide
              · rw [if_neg h2, if_pos (by omega)]; decide
    · refine .inl ⟨fun i hi => ?_, a, z - h, by omega, by omega, .inr fun i hi => ?_⟩
      · show min (u i) (u (h + i)) = 0
        rw [hu i (by omega), hu (h + i) (by omega)]
        by_cases h1 : a ≤ i ∧ i < z
        · rw [if_pos h1]; split <;> decide
        · rw [if_neg h1, if_pos (by omega)]; decide
      · show max (u i) (u (h + i)) = _
        rw [hu i (by omega), hu (h + i) (by omega)]
        by_cases h1 : a ≤ i ∧ i < z - h
        · rw [if_pos h1, if_pos (by omega), if_pos (by omega)]; decide
        · rw [if_neg h1]
          by_cases h2 : a ≤ i ∧ i < z
          · rw [if_pos h2, if_neg (by omega)]; decide
          · rw [if_neg h2]; split <;> decide

theorem All.bump0 {u : Nat → Int} {n : Nat} (h : All u n 0) : Bump u n := ⟨0, 0, Nat.le_refl _, Nat.zero_le _, .inl fun i hi => by rw [h i hi, if_neg (by omega)]⟩
theorem All.bump1 {u : Nat → Int} {n : Nat} (h : All u n 1) : Bump u n := ⟨0, 0, Nat.le_refl _, Nat.zero_le _, .inr fun i hi => by rw [h i hi, if_neg (by omega)]⟩
theorem All.ext {u v : Nat → Int} {n : Nat} {o : Int} (h : All u n o) (e : ∀ i, i < n → v i = u i) : All v n o := fun i hi => (e i hi).trans (h i hi)
theorem Bump.ext {u v : Nat → Int} {n : Nat} (h : Bump u n) (e : ∀ i, i < n → v i = u i) : Bump v n := by
  obtain ⟨a, z, h1, h2, h3 | h3⟩ := h
  · exact ⟨a, z, h1, h2, .inl fun i hi => (e i hi).trans (h3 i hi)⟩
  · exact ⟨a, z, h1, h2, .inr fun i hi => (e i hi).trans (h3 i hi)⟩
/-- The numbers from place b on. -/
def from_ (x : Nat → Int) (b i : Nat) : Int := x (b + i)

/-- A block whose numbers are all one stays so. -/
theorem merge_all (up : Nat → Bool) (o : Int) : ∀ (q : Nat) (x : Nat → Int) (c : Nat), All (from_ x (2 ^ q * c)) (2 ^ q) o → All (from_ (merge up q x) (2 ^ q * c)) (2 ^ q) o
  | 0, _, _, h => h
  | q + 1, x, c, h => by
    have e : 2 ^ (q + 1) = 2 * 2 ^ q := by rw [Nat.pow_succ, Nat.mul_comm]
    rw [e] at h ⊢
    have h1 : ∀ i, i < 2 ^ q → x (2 * 2 ^ q * c + i) = o := fun i hi => h i (by omega)
    have h2 : ∀ i, i < 2 ^ q → x (2 * 2 ^ q * c + (2 ^ q + i)) = o := fun i hi => h (2 ^ q + i) (by omega)
    have a1 : All (from_ (stage up (2 ^ q) x) (2 ^ q * (2 * c))) (2 ^ q) o := fun i hi => by
      show stage up (2 ^ q) x (2 ^ q * (2 * c) + i) = o
      rw [al_lo, stage_lo up x hi, h1 i hi, h2 i hi]
      split <;> omega
    have a2 : All (from_ (stage up (2 ^ q) x) (2 ^ q * (2 * c + 1))) (2 ^ q) o := fun i hi => by
      show stage up (2 ^ q) x (2 ^ q * (2 * c + 1) + i) = o
      rw [al_hi, stage_hi up x hi, h1 i hi, h2 i hi]
      split <;> omega
    have b1 := merge_all up o q _ _ a1
    have b2 := merge_all up o q _ _ a2
    intro i hi
    show merge up q (stage up (2 ^ q) x) (2 * 2 ^ q * c + i) = o
    by_cases hl : i < 2 ^ q
    · have := b1 i hl
      unfold from_ at this
      rwa [al_lo] at this
    · have := b2 (i - 2 ^ q) (by omega)
      unfold from_ at this
      rwa [al_hi, show 2 ^ q + (i - 2 ^ q) = i by omega] at this

theorem Rise.join0 {u : Nat → Int} {h : Nat} (h1 : All u h 0) (h2 : Rise (fun i => u (h + i)) h) : Rise u (2 * h) := by
  obtain ⟨a, ha, hu⟩ := h2
  refine ⟨h + a, by omega, fun i hi => ?_⟩
  by_cases hl : i < h
  · rw [h1 i hl, if_pos (by omega)]
  · have := hu (i - h) (by omega)
    dsimp only at this
    rw [show h + (i - h) = i by omega] at this
    rw [this]
    by_cases hc : i - h < a
    · rw [if_pos hc, if_pos (by omega)]
    · rw [if_neg hc, if_neg (by omega)]
theorem Rise.join1 {u : Nat → Int} {h : Nat} (h1 : Rise u h) (h2 : All (fun i => u (h + i)) h 1) : Rise u (2 * h) := by
  obtain ⟨a, ha, hu⟩ := h1
  refine ⟨a, by omega, fun i hi => ?_⟩
  by_cases hl : i < h
  · exact hu i hl
  · have := h2 (i - h) (by omega)
    dsimp only at this
    rw [show h + (i - h) = i by omega] at this
    rw [this, if_neg (by omega)]
theorem Fall.join1 {u : Nat → Int} {h : Nat} (h1 : All u h 1) (h2 : Fall (fun i => u (h + i)) h) : Fall u (2 * h) := by
  obtain ⟨a, ha, hu⟩ := h2
  refine ⟨h + a, by omega, fun i hi => ?_⟩
  by_cases hl : i < h
  · rw [h1 i hl, if_pos (by omega)]
  · have := hu (i - h) (by omega)
    dsimp only at this
    rw [show h + (i - h) = i by omega] at this
    rw [this]
    by_cases hc : i - h < a
    · rw [if_pos hc, if_pos (by omega)]
    · rw [if_neg hc, if_neg (by omega)]
theorem Fall.join0 {u : Nat → Int} {h : Nat} (h1 : Fall u h) (h2 : All (fun i => u (h + i)) h 0) : Fall u (2 * h) := by
  obtain ⟨a, ha, hu⟩ := h1
  refine ⟨a, by omega, fun i hi => ?_⟩
  by_cases hl : i < h
  · exact hu i hl
  · have := h2 (i - h) (by omega)
    dsimp only at this
    rw [show h + (i - h) = i by omega] at this
    rw [this, if_neg (by omega)]
/-- What rises, and then falls, in two halves, is a bump. -/
theorem Bump.of {u : Nat → Int} {h : Nat} (h1 : Rise u h) (h2 : Fall (fun i => u (h + i)) h) : Bump u (2 * h) := by
  obtain ⟨a, ha, hu⟩ := h1
  obtain ⟨b, hb, hv⟩ := h2
  refine ⟨a, h + b, by omega, by omega, .inl fun i hi => ?_⟩
  by_cases hl : i < h
  · rw [hu i hl]
    by_cases hc : i < a
    · rw [if_pos hc, if_neg (by omega)]
    · rw [if_neg hc, if_pos (by omega)]
  · have := hv (i - h) (by omega)
    dsimp only at this
    rw [show h + (i - h) = i by omega] at this
    rw [this]
    by_cases hc : i - h < b
    · rw [if_pos hc, if_pos (by omega)]
    · rw [if_neg hc, if_neg (by omega)]

/-- The two halves of a block in the words of the whole. -/
theorem from_half (x : Nat → Int) (m c : Nat) : from_ x (m * (2 * c)) = from_ x (2 * m * c) ∧ from_ x (m * (2 * c + 1)) = fun i => from_ x (2 * m * c) (m + i) := by
  constructor
  · rw [al_lo]
  · funext i; unfold from_; rw [al_hi]
theorem merge_rise (up : Nat → Bool) : ∀ (q : Nat) (x : Nat → Int) (c : Nat), (∀ i, i < 2 ^ q → up (2 ^ q * c + i) = true) → Bump (from_ x (2 ^ q * c)) (2 ^ q) → Rise (from_ (merge up q x) (2 ^ q * c)) (2 ^ q)
  | 0, x, c, _, h => by
    obtain ⟨a, z, haz, hz, hu | hu⟩ := h
    · have h0 := hu 0 (by decide)
      show Rise (from_ x (2 ^ 0 * c)) 1
      by_cases hc : a ≤ 0 ∧ 0 < z
      · exact ⟨0, by omega, fun i hi => by obtain rfl : i = 0 := by omega
                                           rw [h0, if_pos hc]; rfl⟩
      · exact ⟨1, by omega, fun i hi => by obtain rfl : i = 0 := by omega
                                           rw [h0, if_neg hc]; rfl⟩
    · have h0 := hu 0 (by decide)
      show Rise (from_ x (2 ^ 0 * c)) 1
      by_cases hc : a ≤ 0 ∧ 0 < z
      · exact ⟨1, by omega, fun i hi => by obtain rfl : i = 0 := by omega
                                           rw [h0, if_pos hc]; rfl⟩
      · exact ⟨0, by omega, fun i hi => by obtain rfl : i = 0 := by omega
                                           rw [h0, if_neg hc]; rfl⟩
  | q + 1, x, c, hup, h => by
    have e : 2 ^ (q + 1) = 2 * 2 ^ q := by rw [Nat.pow_succ, Nat.mul_comm]
    rw [e] at h hup ⊢
    obtain ⟨f1, f2⟩ := from_half (merge up q (stage up (2 ^ q) x)) (2 ^ q) c
    obtain ⟨g1, g2⟩ := from_half (stage up (2 ^ q) x) (2 ^ q) c
    have l1 : ∀ i, i < 2 ^ q → from_ (stage up (2 ^ q) x) (2 ^ q * (2 * c)) i = min (from_ x (2 * 2 ^ q * c) i) (from_ x (2 * 2 ^ q * c) (2 ^ q + i)) := fun i hi => by
      rw [g1]; unfold from_; rw [stage_lo up x hi, hup i (by omega), if_pos rfl]
    have l2 : ∀ i, i < 2 ^ q → from_ (stage up (2 ^ q) x) (2 ^ q * (2 * c + 1)) i = max (from_ x (2 * 2 ^ q * c) i) (from_ x (2 * 2 ^ q * c) (2 ^ q + i)) := fun i hi => by
      rw [g2]; unfold from_; dsimp only; rw [stage_hi up x hi, hup i (by omega), if_pos rfl]
    have u1 : ∀ i, i < 2 ^ q → up (2 ^ q * (2 * c) + i) = true := fun i hi => by rw [al_lo]; exact hup i (by omega)
    have u2 : ∀ i, i < 2 ^ q → up (2 ^ q * (2 * c + 1) + i) = true := fun i hi => by rw [al_hi]; exact hup (2 ^ q + i) (by omega)
    show Rise (from_ (merge up q (stage up (2 ^ q) x)) (2 * 2 ^ q * c)) (2 * 2 ^ q)
    rcases halves _ _ h with ⟨ha, hb⟩ | ⟨ha, hb⟩
    · have r1 := merge_all up 0 q _ _ (ha.ext l1)
      have r2 := merge_rise up q _ _ u2 (hb.ext l2)
      rw [f1] at r1
      rw [f2] at r2
      exact Rise.join0 r1 r2
    · have r1 := merge_rise up q _ _ u1 (hb.ext l1)
      have r2 := merge_all up 1 q _ _ (ha.ext l2)
      rw [f1] at r1
      rw [f2] at r2
      exact Rise.join1 r1 r2
theorem merge_fall (up : Nat → Bool) : ∀ (q : Nat) (x : Nat → Int) (c : Nat), (∀ i, i < 2 ^ q → up (2 ^ q * c + i) = false) → Bump (from_ x (2 ^ q * c)) (2 ^ q) → Fall (from_ (merge up q x) (2 ^ q * c)) (2 ^ q)
  | 0, x, c, _, h => by
    obtain ⟨a, z, haz, hz, hu | hu⟩ := h
    · have h0 := hu 0 (by decide)
      show Fall (from_ x (2 ^ 0 * c)) 1
      by_cases hc : a ≤ 0 ∧ 0 < z
      · exact ⟨1, by omega, fun i hi => by obtain rfl : i = 0 := by omega
                                           rw [h0, if_pos hc]; rfl⟩
      · exact ⟨0, by omega, fun i hi => by obtain rfl : i = 0 := by omega
                                           rw [h0, if_neg hc]; rfl⟩
    · have h0 := hu 0 (by decide)
      show Fall (from_ x (2 ^ 0 * c)) 1
      by_cases hc : a ≤ 0 ∧ 0 < z
      · exact ⟨0, by omega, fun i hi => by obtain rfl : i = 0 := by omega
                                           rw [h0, if_pos hc]; rfl⟩
      · exact ⟨1, by omega, fun i hi => by obtain rfl : i = 0 := by omega
                                           rw [h0, if_neg hc]; rfl⟩
  | q + 1, x, c, hup, h => by
    have e : 2 ^ (q + 1) = 2 * 2 ^ q := by rw [Nat.pow_succ, Nat.mul_comm]
    rw [e] at h hup ⊢
    obtain ⟨f1, f2⟩ := from_half (merge up q (stage up (2 ^ q) x)) (2 ^ q) c
    obtain ⟨g1, g2⟩ := from_half (stage up (2 ^ q) x) (2 ^ q) c
    have nf : ¬ (false = true) := by decide
    have l1 : ∀ i, i < 2 ^ q → from_ (stage up (2 ^ q) x) (2 ^ q * (2 * c)) i = max (from_ x (2 * 2 ^ q * c) i) (from_ x (2 * 2 ^ q * c) (2 ^ q + i)) := fun i hi => by
      rw [g1]; unfold from_; rw [stage_lo up x hi, hup i (by omega), if_neg nf]
    have l2 : ∀ i, i < 2 ^ q → from_ (stage up (2 ^ q) x) (2 ^ q * (2 * c + 1)) i = min (from_ x (2 * 2 ^ q * c) i) (from_ x (2 * 2 ^ q * c) (2 ^ q + i)) := fun i hi => by
      rw [g2]; unfold from_; dsimp only; rw [stage_hi up x hi, hup i (by omega), if_neg nf]
    have u1 : ∀ i, i < 2 ^ q → up (2 ^ q * (2 * c) + i) = false := fun i hi => by rw [al_lo]; exact hup i (by omega)
    have u2 : ∀ i, i < 2 ^ q → up (2 ^ q * (2 * c + 1) + i) = false := fun i hi => by rw [al_hi]; exact hup (2 ^ q + i) (by omega)
    show Fall (from_ (merge up q (stage up (2 ^ q) x)) (2 * 2 ^ q * c)) (2 * 2 ^ q)
    rcases halves _ _ h with ⟨ha, hb⟩ | ⟨ha, hb⟩
    · have r1 := merge_fall up q _ _ u1 (hb.ext l1)
      have r2 := merge_all up 0 q _ _ (ha.ext l2)
      rw [f1] at r1
      rw [f2] at r2
      exact Fall.join0 r1 r2
    · have r1 := merge_all up 1 q _ _ (ha.ext l1)
      have r2 := merge_fall up q _ _ u2 (hb.ext l2)
      rw [f1] at r1
      rw [f2] at r2
      exact Fall.join1 r1 r2

/-- Which way a block goes is said by its number. -/
theorem upOf_block (k c i : Nat) (hi : i < k) : upOf k (k * c + i) = decide (c % 2 = 0) := by
  unfold upOf
  rw [Nat.mul_add_div (by omega), Nat.div_eq_of_lt hi, Nat.add_zero]
/-- Behind p rounds of a row of noughts and ones, each block of 2^p rises or falls, in turn. -/
theorem phases_block : ∀ (p : Nat) (x : Nat → Int), (∀ i, x i = 0 ∨ x i = 1) → ∀ c, (c % 2 = 0 → Rise (from_ (phases p x) (2 ^ p * c)) (2 ^ p)) ∧ (c % 2 = 1 → Fall (from_ (phases p x) (2 ^ p * c)) (2 ^ p))
  | 0, x, hx, c => by
    have one : ∀ i, i < 2 ^ 0 → i = 0 := fun i hi => by simpa using hi
    rcases hx (2 ^ 0 * c + 0) with h | h
    · exact ⟨fun _ => ⟨1, by decide, fun i hi => by rw [one i hi]; exact h⟩, fun _ => ⟨0, by decide, fun i hi => by rw [one i hi]; exact h⟩⟩
    · exact ⟨fun _ => ⟨0, by decide, fun i hi => by rw [one i hi]; exact h⟩, fun _ => ⟨1, by decide, fun i hi => by rw [one i hi]; exact h⟩⟩
  | p + 1, x, hx, c => by
    have e : 2 ^ (p + 1) = 2 * 2 ^ p := by rw [Nat.pow_succ, Nat.mul_comm]
    obtain ⟨g1, g2⟩ := from_half (phases p x) (2 ^ p) c
    have r1 := (phases_block p x hx (2 * c)).1 (by omega)
    have r2 := (phases_block p x hx (2 * c + 1)).2 (by omega)
    rw [g1] at r1
    rw [g2] at r2
    have hb : Bump (from_ (phases p x) (2 ^ (p + 1) * c)) (2 ^ (p + 1)) := by rw [e]; exact Bump.of r1 r2
    constructor
    · intro h
      exact merge_rise _ (p + 1) _ c (fun i hi => by rw [upOf_block _ _ _ hi]; simpa using h) hb
    · intro h
      exact merge_fall _ (p + 1) _ c (fun i hi => by rw [upOf_block _ _ _ hi]; simpa using h) hb

/-- One for what is above t, nought for the others. -/
def over (t v : Int) : Int := if t < v then 1 else 0
theorem over_min (t a b : Int) : over t (min a b) = min (over t a) (over t b) := by
  unfold over
  by_cases h1 : t < a <;> by_cases h2 : t < b <;> simp only [h1, h2, if_true, if_false] <;> first | (rw [if_pos (by omega)]; decide) | (rw [if_neg (by omega)]; decide)
theorem over_max (t a b : Int) : over t (max a b) = max (over t a) (over t b) := by
  unfold over
  by_cases h1 : t < a <;> by_cases h2 : t < b <;> simp only [h1, h2, if_true, if_false] <;> first | (rw [if_pos (by omega)]; decide) | (rw [if_neg (by omega)]; decide)
theorem stage_over (up : Nat → Bool) (j : Nat) (t : Int) (x : Nat → Int) : stage up j (fun i => over t (x i)) = fun i => over t (stage up j x i) := by
  funext i
  unfold stage
  dsimp only
  split
  · rw [over_min]
  · rw [over_max]
theorem merge_over (up : Nat → Bool) (t : Int) : ∀ (q : Nat) (x : Nat → Int), merge up q (fun i => over t (x i)) = fun i => over t (merge up q x i)
  | 0, _ => rfl
  | q + 1, x => by
    show merge up q (stage up (2 ^ q) fun i => over t (x i)) = _
    rw [stage_over, merge_over up t q]; rfl
theorem phases_over (t : Int) : ∀ (p : Nat) (x : Nat → Int), phases p (fun i => over t (x i)) = fun i => over t (phases p x i)
  | 0, _ => rfl
  | p + 1, x => by
    show merge _ _ (phases p fun i => over t (x i)) = _
    rw [phases_over t p, merge_over]; rfl
/-- Behind all rounds the numbers are in order. -/
theorem phases_sorted (p : Nat) (x : Nat → Int) (i j : Nat) (hij : i ≤ j) (hj : j < 2 ^ p) : phases p x i ≤ phases p x j := by
  rcases Int.lt_or_le (phases p x j) (phases p x i) with hlt | hle
  · exfalso
    have h := (phases_block p (fun i => over (phases p x j) (x i)) (fun i => by unfold over; split <;> simp) 0).1 rfl
    obtain ⟨a, ha, hu⟩ := h
    have h1 := hu i (by omega)
    have h2 := hu j hj
    unfold from_ at h1 h2
    rw [Nat.mul_zero, Nat.zero_add, phases_over] at h1 h2
    dsimp only at h1 h2
    unfold over at h1 h2
    rw [if_pos hlt] at h1
    rw [if_neg (by omega)] at h2
    by_cases hc : i < a
    · rw [if_pos hc] at h1; omega
    · rw [if_neg (by omega)] at h2; omega
  · exact hle
end Go.Proofs.YteiilfdbddpodaaDoor

/- Plain facts on the pairs of a bitonic network as a list: what they make of numbers one behind the other, how many they are, which places they meet, and that the numbers stay the same ones. No program is named here. -/
namespace Go.Proofs.YteiilfdbddpodaaDoor
set_option maxRecDepth 100000

/-- A pair: two places, and whether the lesser one goes to the first. -/
abbrev Pr := Nat × Nat × Bool
def mkP (k j i : Nat) : Pr := (i, i + j, upOf k i)
def lowB (j i : Nat) : Bool := decide (i / j % 2 = 0)
/-- The pairs j apart of the first m places. -/
def stageL (m k j : Nat) : List Pr := ((List.range m).filter (lowB j)).map (mkP k j)
def mergeL (n k : Nat) : Nat → List Pr
  | 0 => []
  | q + 1 => stageL n k (2 ^ q) ++ mergeL n k q
def phasesL (n : Nat) : Nat → List Pr
  | 0 => []
  | p + 1 => phasesL n p ++ mergeL n (2 ^ (p + 1)) (p + 1)
/-- What one pair makes of numbers. -/
def exch (x : Nat → Int) (p : Pr) : Nat → Int := fun i =>
  if i = p.1 then (if p.2.2 then min (x p.1) (x p.2.1) else max (x p.1) (x p.2.1))
  else if i = p.2.1 then (if p.2.2 then max (x p.1) (x p.2.1) else min (x p.1) (x p.2.1)) else x i
def run (ps : List Pr) (x : Nat → Int) : Nat → Int := ps.foldl exch x
theorem run_append (a b : List Pr) (x : Nat → Int) : run (a ++ b) x = run b (run a x) := List.foldl_append

theorem lowOf_low (j i : Nat) : lowOf j i / j % 2 = 0 := by
  unfold lowOf
  split
  · assumption
  · rename_i h
    have h1 : j ≤ i := by
      rcases Nat.lt_or_ge i j with h2 | h2
      · rw [Nat.div_eq_of_lt h2] at h; exact absurd rfl h
      · exact h2
    have := Nat.sub_mul_div i j 1
    rw [Nat.mul_one] at this
    rw [this]
    omega
theorem lowOf_cases (j i : Nat) : (i / j % 2 = 0 ∧ lowOf j i = i) ∨ (i / j % 2 = 1 ∧ i = lowOf j i + j) := by
  unfold lowOf
  split
  · exact .inl ⟨by assumption, rfl⟩
  · rename_i h
    refine .inr ⟨by omega, ?_⟩
    rcases Nat.lt_or_ge i j with h2 | h2
    · rw [Nat.div_eq_of_lt h2] at h; exact absurd rfl h
    · omega
theorem lowOf_le (j i : Nat) : lowOf j i ≤ i := by unfold lowOf; split <;> omega
theorem lowOf_self {j i : Nat} (h : i / j % 2 = 0) : lowOf j i = i := by unfold lowOf; rw [if_pos h]
theorem lowOf_add {j i : Nat} (hj : 0 < j) (h : i / j % 2 = 0) : lowOf j (i + j) = i ∧ (i + j) / j % 2 = 1 := by
  have e : (i + j) / j = i / j + 1 := Nat.add_div_right i hj
  have : (i + j) / j % 2 = 1 := by omega
  refine ⟨?_, this⟩
  unfold lowOf; rw [if_neg (by omega)]; omega
theorem stageL_succ (m k j : Nat) : stageL (m + 1) k j = stageL m k j ++ if lowB j m then [mkP k j m] else [] := by
  unfold stageL
  rw [List.range_succ, List.filter_append, List.map_append]
  congr 1
  cases h : lowB j m <;> simp [h]
/-- The pairs of one distance, one behind the other, make what they make at once. -/
theorem run_stage (k j : Nat) (hj : 0 < j) (x : Nat → Int) : ∀ m i, run (stageL m k j) x i = if lowOf j i < m then stage (upOf k) j x i else x i
  | 0, i => by rw [if_neg (by omega)]; rfl
  | m + 1, i => by
    have ih := run_stage k j hj x m
    rw [stageL_succ, run_append]
    cases hm : lowB j m
    · show run (stageL m k j) x i = _
      rw [ih i]
      have hm' : ¬ m / j % 2 = 0 := by unfold lowB at hm; simpa using hm
      have := lowOf_low j i
      by_cases hl : lowOf j i < m
      · rw [if_pos hl, if_pos (by omega)]
      · rw [if_neg hl, if_neg (by
          intro hc
          have e : lowOf j i = m := by omega
          rw [e] at this; exact hm' this)]
    · show exch (run (stageL m k j) x) (mkP k j m) i = _
      have hm' : m / j % 2 = 0 := by unfold lowB at hm; simpa using hm
      have l1 := lowOf_self hm'
      obtain ⟨l2, l3⟩ := lowOf_add hj hm'
      have y1 : run (stageL m k j) x m = x m := by rw [ih m, l1, if_neg (by omega)]
      have y2 : run (stageL m k j) x (m + j) = x (m + j) := by rw [ih (m + j), l2, if_neg (by omega)]
      unfold exch mkP
      dsimp only
      rw [y1, y2]
      by_cases h1 : i = m
      · subst h1
        rw [if_pos rfl, if_pos (show lowOf j i < i + 1 by omega)]
        unfold stage
        simp only [l1, hm']
        cases upOf k i <;> simp
      · rw [if_neg h1]
        by_cases h2 : i = m + j
        · subst h2
          rw [if_pos rfl, if_pos (show lowOf j (m + j) < m + 1 by omega)]
          unfold stage
          simp only [l2, l3]
          cases upOf k m <;> simp
        · rw [if_neg h2, ih i]
          have hne : lowOf j i ≠ m := by
            rcases lowOf_cases j i with ⟨_, e⟩ | ⟨_, e⟩
            · rw [e]; exact h1
            · intro e2; rw [e2] at e; exact h2 e
          by_cases hl : lowOf j i < m
          · rw [if_pos hl, if_pos (by omega)]
          · rw [if_neg hl, if_neg (by omega)]
/-- A stage looks at places below n alone, where n is a multiple of two distances. -/
theorem low_add_lt {j n i : Nat} (hj : 0 < j) (hn : 2 * j ∣ n) (hi : i < n) : lowOf j i + j < n := by
  obtain ⟨c, rfl⟩ := hn
  have h0 := lowOf_low j i
  have hle := lowOf_le j i
  have hd : lowOf j i / j < 2 * c := by
    rw [Nat.div_lt_iff_lt_mul hj]
    have : 2 * c * j = 2 * j * c := by rw [Nat.mul_assoc, Nat.mul_comm c j, ← Nat.mul_assoc]
    omega
  have hd2 : lowOf j i / j + 1 < 2 * c := by omega
  have h3 := Nat.lt_mul_div_succ (lowOf j i) hj
  have h4 : j * (lowOf j i / j + 1 + 1) ≤ j * (2 * c) := Nat.mul_le_mul_left j hd2
  rw [al_lo] at h4
  rw [Nat.mul_add, Nat.mul_one] at h4
  omega
theorem stage_near (up : Nat → Bool) {j n : Nat} (hj : 0 < j) (hn : 2 * j ∣ n) {x y : Nat → Int} (h : ∀ i, i < n → x i = y i) (i : Nat) (hi : i < n) : stage up j x i = stage up j y i := by
  have h1 := low_add_lt hj hn hi
  unfold stage
  dsimp only
  rw [h (lowOf j i) (by omega), h (lowOf j i + j) h1]
theorem run_merge (n k : Nat) : ∀ (q : Nat), 2 ^ q ∣ n → ∀ (x y : Nat → Int), (∀ i, i < n → x i = y i) → ∀ i, i < n → run (mergeL n k q) x i = merge (upOf k) q y i
  | 0, _, x, y, h, i, hi => h i hi
  | q + 1, hq, x, y, h, i, hi => by
    have e : 2 ^ (q + 1) = 2 * 2 ^ q := by rw [Nat.pow_succ, Nat.mul_comm]
    rw [e] at hq
    show run (stageL n k (2 ^ q) ++ mergeL n k q) x i = merge (upOf k) q (stage (upOf k) (2 ^ q) y) i
    rw [run_append]
    refine run_merge n k q (Nat.dvd_trans (Nat.dvd_mul_left _ _) hq) _ _ (fun a ha => ?_) i hi
    have := lowOf_le (2 ^ q) a
    rw [run_stage k (2 ^ q) (two_pos q) x n a, if_pos (by omega)]
    exact stage_near (upOf k) (two_pos q) hq h a ha
theorem run_phases (n : Nat) : ∀ (p : Nat), 2 ^ p ∣ n → ∀ (x : Nat → Int) i, i < n → run (phasesL n p) x i = phases p x i
  | 0, _, x, i, _ => rfl
  | p + 1, hp, x, i, hi => by
    show run (phasesL n p ++ mergeL n (2 ^ (p + 1)) (p + 1)) x i = merge (upOf (2 ^ (p + 1))) (p + 1) (phases p x) i
    rw [run_append]
    exact run_merge n _ (p + 1) hp _ _ (fun a ha => run_phases n p (Nat.dvd_trans (Nat.pow_dvd_pow 2 (by omega)) hp) x a ha) i hi
/-- The network of 2^p places puts whatever numbers in order. -/
theorem run_sorted (p : Nat) (x : Nat → Int) (i j : Nat) (hij : i ≤ j) (hj : j < 2 ^ p) : run (phasesL (2 ^ p) p) x i ≤ run (phasesL (2 ^ p) p) x j := by
  rw [run_phases (2 ^ p) p (Nat.dvd_refl _) x i (by omega), run_phases (2 ^ p) p (Nat.dvd_refl _) x j hj]
  exact phases_sorted p x i j hij hj

/-- n numbers as a list. -/
def lst (n : Nat) (x : Nat → Int) : List Int := (List.range n).map x
theorem lst_len (n : Nat) (x : Nat → Int) : (lst n x).length = n := by simp [lst]
theorem lst_at (n : Nat) (x : Nat → Int) (i : Nat) (h : i < (lst n x).length) : (lst n x)[i] = x i := by simp [lst]
theorem lst_ext (n : Nat) (x y : Nat → Int) (h : ∀ i, i < n → x i = y i) : lst n x = lst n y := by
  unfold lst; exact List.map_congr_left fun i hi => h i (by simpa using hi)
/-- Two places exchanged. -/
def swapAt (x : Nat → Int) (a b : Nat) : Nat → Int := fun i => if i = a then x b else if i = b then x a else x i
theorem lst_swap (n : Nat) (x : Nat → Int) (a b : Nat) (ha : a < n) (hb : b < n) : (lst n (swapAt x a b)).Perm (lst n x) := by
  have la : a < (lst n x).length := by rw [lst_len]; exact ha
  have lb : b < (lst n x).length := by rw [lst_len]; exact hb
  have e : lst n (swapAt x a b) = ((lst n x).set a (lst n x)[b]).set b (lst n x)[a] := by
    apply List.ext_getElem
    · simp [lst_len]
    · intro i h1 h2
      rw [List.getElem_set, List.getElem_set]
      simp only [lst_at]
      unfold swapAt
      by_cases hia : i = a
      · subst hia
        rw [if_pos rfl]
        by_cases hib : b = i
        · subst hib; rw [if_pos rfl]
        · rw [if_neg hib, if_pos rfl]
      · rw [if_neg hia]
        by_cases hib : i = b
        · subst hib; rw [if_pos rfl, if_pos rfl]
        · rw [if_neg hib, if_neg (fun h => hib h.symm), if_neg (fun h => hia h.symm)]
  rw [e]
  exact List.set_set_perm la lb
/-- A pair leaves the numbers as they are, or exchanges two. -/
theorem exch_cases (x : Nat → Int) (p : Pr) : exch x p = x ∨ exch x p = swapAt x p.1 p.2.1 := by
  obtain ⟨a, b, u⟩ := p
  rcases Int.le_total (x a) (x b) with h | h
  · cases u
    · right; funext i; unfold exch swapAt; dsimp only
      simp only [Bool.false_eq_true, if_false, Int.max_eq_right h, Int.min_eq_left h]
    · left; funext i; unfold exch; dsimp only
      simp only [if_true, Int.max_eq_right h, Int.min_eq_left h]
      by_cases h1 : i = a
      · rw [if_pos h1, h1]
      · rw [if_neg h1]
        by_cases h2 : i = b
        · rw [if_pos h2, h2]
        · rw [if_neg h2]
  · cases u
    · left; funext i; unfold exch; dsimp only
      simp only [Bool.false_eq_true, if_false, Int.max_eq_left h, Int.min_eq_right h]
      by_cases h1 : i = a
      · rw [if_pos h1, h1]
      · rw [if_neg h1]
        by_cases h2 : i = b
        · rw [if_pos h2, h2]
        · rw [if_neg h2]
    · right; funext i; unfold exch swapAt; dsimp only
      simp only [if_true, Int.max_eq_left h, Int.min_eq_right h]
/-- All places of the pairs are below n, the first one below the second one. -/
def Within (n : Nat) (ps : List Pr) : Prop := ∀ p ∈ ps, p.1 < p.2.1 ∧ p.2.1 < n
theorem run_perm (n : Nat) : ∀ (ps : List Pr) (x : Nat → Int), Within n ps → (lst n (run ps x)).Perm (lst n x)
  | [], _, _ => List.Perm.refl _
  | p :: ps, x, h => by
    have hp := h p (by simp)
    have ih := run_perm n ps (exch x p) (fun q hq => h q (by simp [hq]))
    refine List.Perm.trans ih ?_
    rcases exch_cases x p with e | e
    · rw [e]
    · rw [e]; exact lst_swap n x _ _ (by omega) hp.2
theorem stageL_within {n k j : Nat} (hj : 0 < j) (hn : 2 * j ∣ n) : Within n (stageL n k j) := by
  intro p hp
  unfold stageL at hp
  simp only [List.mem_map, List.mem_filter, List.mem_range] at hp
  obtain ⟨i, ⟨hi, hl⟩, rfl⟩ := hp
  have hl' : i / j % 2 = 0 := by unfold lowB at hl; simpa using hl
  have := low_add_lt hj hn hi
  rw [lowOf_self hl'] at this
  exact ⟨by show i < i + j; omega, this⟩
theorem Within.append {n : Nat} {a b : List Pr} (h : Within n a) (k : Within n b) : Within n (a ++ b) := fun p hp => by
  rcases List.mem_append.1 hp with h1 | h1
  · exact h p h1
  · exact k p h1
theorem mergeL_within (n k : Nat) : ∀ q, 2 ^ q ∣ n → Within n (mergeL n k q)
  | 0, _ => fun p hp => by simp [mergeL] at hp
  | q + 1, h => by
    have e : 2 ^ (q + 1) = 2 * 2 ^ q := by rw [Nat.pow_succ, Nat.mul_comm]
    rw [e] at h
    exact (stageL_within (two_pos q) h).append (mergeL_within n k q (Nat.dvd_trans (Nat.dvd_mul_left _ _) h))
theorem phasesL_within (n : Nat) : ∀ p, 2 ^ p ∣ n → Within n (phasesL n p)
  | 0, _ => fun p hp => by simp [phasesL] at hp
  | p + 1, h => (phasesL_within n p (Nat.dvd_trans (Nat.pow_dvd_pow 2 (by omega)) h)).append (mergeL_within n _ (p + 1) h)
/-- The network of 2^p places. -/
def netL (p : Nat) : List Pr := phasesL (2 ^ p) p
theorem netL_within (p : Nat) : Within (2 ^ p) (netL p) := phasesL_within _ p (Nat.dvd_refl _)
theorem net_perm (p : Nat) (x : Nat → Int) : (lst (2 ^ p) (run (netL p) x)).Perm (lst (2 ^ p) x) := run_perm _ _ x (netL_within p)
theorem net_sorted (p : Nat) (x : Nat → Int) : (lst (2 ^ p) (run (netL p) x)).Pairwise (· ≤ ·) := by
  rw [List.pairwise_iff_getElem]
  intro i j hi hj hij
  rw [lst_len] at hi hj
  rw [lst_at, lst_at]
  exact run_sorted p x i j (by omega) hj
/-- What is in order and has the same numbers is what the network makes. -/
theorem net_only (p : Nat) (x : Nat → Int) (l : List Int) (hs : l.Pairwise (· ≤ ·)) (hp : l.Perm (lst (2 ^ p) x)) : lst (2 ^ p) (run (netL p) x) = l :=
  List.Perm.eq_of_pairwise (le := (· ≤ ·)) (fun _ _ _ _ h1 h2 => Int.le_antisymm h1 h2) (net_sorted p x) hs ((net_perm p x).trans hp.symm)

/-- How many pairs there are. -/
theorem low_count (j : Nat) (hj : 0 < j) : ∀ c, ((List.range (2 * j * c)).filter (lowB j)).length = j * c
  | 0 => by simp
  | c + 1 => by
    have e : 2 * j * (c + 1) = 2 * j * c + (j + j) := by rw [Nat.mul_add]; omega
    rw [e, List.range_add, List.filter_append, List.length_append, low_count j hj c, List.filter_map, List.length_map, List.range_add, List.filter_append, List.length_append]
    have h1 : (List.range j).filter (lowB j ∘ fun x => 2 * j * c + x) = List.range j := by
      rw [List.filter_eq_self]
      intro a ha
      have ha' : a < j := by simpa using ha
      simp only [Function.comp, lowB, decide_eq_true_eq]
      exact half_lo ha'
    have h2 : ((List.range j).map (fun x => j + x)).filter (lowB j ∘ fun x => 2 * j * c + x) = [] := by
      rw [List.filter_eq_nil_iff]
      intro a ha
      simp only [List.mem_map, List.mem_range] at ha
      obtain ⟨i, hi, rfl⟩ := ha
      have := half_hi (c := c) hi
      simp only [Function.comp, lowB, decide_eq_true_eq]
      omega
    rw [h1, h2]
    simp [Nat.mul_add]
theorem stageL_len {n k j : Nat} (hj : 0 < j) (hn : 2 * j ∣ n) : 2 * (stageL n k j).length = n := by
  obtain ⟨c, rfl⟩ := hn
  unfold stageL
  rw [List.length_map, low_count j hj c, Nat.mul_assoc]
theorem mergeL_len (n k : Nat) : ∀ q, 2 ^ q ∣ n → 2 * (mergeL n k q).length = q * n
  | 0, _ => by simp [mergeL]
  | q + 1, h => by
    have e : 2 ^ (q + 1) = 2 * 2 ^ q := by rw [Nat.pow_succ, Nat.mul_comm]
    rw [e] at h
    have h1 := stageL_len (k := k) (two_pos q) h
    have h2 := mergeL_len n k q (Nat.dvd_trans (Nat.dvd_mul_left _ _) h)
    rw [mergeL, List.length_append, Nat.add_mul]; omega
theorem phasesL_len (n : Nat) : ∀ p, 2 ^ p ∣ n → 4 * (phasesL n p).length = p * (p + 1) * n
  | 0, _ => by simp [phasesL]
  | p + 1, h => by
    have h1 := phasesL_len n p (Nat.dvd_trans (Nat.pow_dvd_pow 2 (by omega)) h)
    have h2 := mergeL_len n (2 ^ (p + 1)) (p + 1) h
    have e : (p + 1) * (p + 1 + 1) * n = p * (p + 1) * n + 2 * ((p + 1) * n) := by
      rw [Nat.mul_add (p + 1) (p + 1) 1, Nat.mul_one, Nat.add_mul p 1 (p + 1), Nat.one_mul, Nat.add_mul, Nat.add_mul]; omega
    rw [phasesL, List.length_append, e]; omega

/-- How often a place is met. -/
def mets (ps : List Pr) (i : Nat) : Nat := ps.countP (fun p => p.1 == i) + ps.countP (fun p => p.2.1 == i)
theorem mets_append (a b : List Pr) (i : Nat) : mets (a ++ b) i = mets a i + mets b i := by unfold mets; rw [List.countP_append, List.countP_append]; omega
theorem mets_stage (k j : Nat) (hj : 0 < j) : ∀ m i, mets (stageL m k j) i = if lowOf j i < m then 1 else 0
  | 0, i => by rw [if_neg (by omega)]; rfl
  | m + 1, i => by
    have ih := mets_stage k j hj m i
    rw [stageL_succ, mets_append, ih]
    cases hm : lowB j m
    · have hm' : ¬ m / j % 2 = 0 := by unfold lowB at hm; simpa using hm
      have := lowOf_low j i
      have hne : lowOf j i ≠ m := fun e => hm' (e ▸ this)
      rw [if_neg (show ¬ (false = true) by decide)]
      show (if lowOf j i < m then 1 else 0) + 0 = _
      by_cases hl : lowOf j i < m
      · rw [if_pos hl, if_pos (by omega)]
      · rw [if_neg hl, if_neg (by omega)]
    · have hm' : m / j % 2 = 0 := by unfold lowB at hm; simpa using hm
      have l1 := lowOf_self hm'
      obtain ⟨l2, l3⟩ := lowOf_add hj hm'
      rw [if_pos rfl]
      have e : mets [mkP k j m] i = (if i = m then 1 else 0) + (if i = m + j then 1 else 0) := by
        unfold mets mkP
        simp only [List.countP_cons, List.countP_nil, Nat.zero_add, beq_iff_eq]
        congr 1
        · by_cases h : i = m
          · rw [if_pos h.symm, if_pos h]
          · rw [if_neg (fun h' => h h'.symm), if_neg h]
        · by_cases h : i = m + j
          · rw [if_pos h.symm, if_pos h]
          · rw [if_neg (fun h' => h h'.symm), if_neg h]
      rw [e]
      by_cases h1 : i = m
      · subst h1; rw [l1, if_neg (by omega), if_pos rfl, if_neg (by omega), if_pos (by omega)]
      · by_cases h2 : i = m + j
        · subst h2; rw [l2, if_neg (by omega), if_neg h1, if_pos rfl, if_pos (by omega)]
        · have hne : lowOf j i ≠ m := by
            rcases lowOf_cases j i with ⟨_, e⟩ | ⟨_, e⟩
            · rw [e]; exact h1
            · intro e2; rw [e2] at e; exact h2 e
          rw [if_neg h1, if_neg h2]
          by_cases hl : lowOf j i < m
          · rw [if_pos hl, if_pos (by omega)]
          · rw [if_neg hl, if_neg (by omega)]
theorem mets_merge (n k : Nat) (i : Nat) (hi : i < n) : ∀ q, mets (mergeL n k q) i = q
  | 0 => rfl
  | q + 1 => by
    have := lowOf_le (2 ^ q) i
    rw [mergeL, mets_append, mets_merge n k i hi q, mets_stage k (2 ^ q) (two_pos q), if_pos (by omega)]; omega
theorem mets_phases (n : Nat) (i : Nat) (hi : i < n) : ∀ p, 2 * mets (phasesL n p) i = p * (p + 1)
  | 0 => rfl
  | p + 1 => by
    have ih := mets_phases n i hi p
    have e : (p + 1) * (p + 1 + 1) = p * (p + 1) + 2 * (p + 1) := by
      rw [Nat.mul_add (p + 1) (p + 1) 1, Nat.mul_one, Nat.add_mul p 1 (p + 1), Nat.one_mul]; omega
    rw [phasesL, mets_append, mets_merge n _ i hi (p + 1), e]; omega

/-- The pairs of twice as many places, those of the first half alone, are the pairs of one half. -/
theorem stageL_half (m k j : Nat) : (stageL (2 * m) k j).filter (fun p => decide (p.1 < m)) = stageL m k j := by
  unfold stageL
  rw [List.filter_map, List.filter_filter]
  congr 1
  rw [show 2 * m = m + m by omega, List.range_add, List.filter_append]
  have h1 : (List.range m).filter (fun a => ((fun p : Pr => decide (p.1 < m)) ∘ mkP k j) a && lowB j a) = (List.range m).filter (lowB j) := by
    apply List.filter_congr
    intro a ha
    have ha' : a < m := by simpa using ha
    simp [Function.comp, mkP, ha']
  have h2 : ((List.range m).map (fun x => m + x)).filter (fun a => ((fun p : Pr => decide (p.1 < m)) ∘ mkP k j) a && lowB j a) = [] := by
    rw [List.filter_eq_nil_iff]
    intro a ha
    simp only [List.mem_map, List.mem_range] at ha
    obtain ⟨i, hi, rfl⟩ := ha
    simp [Function.comp, mkP]
    intro hc
    exact absurd (of_decide_eq_true hc) (by omega)
  rw [h1, h2, List.append_nil]
theorem mergeL_half (m k : Nat) : ∀ q, (mergeL (2 * m) k q).filter (fun p => decide (p.1 < m)) = mergeL m k q
  | 0 => rfl
  | q + 1 => by rw [mergeL, mergeL, List.filter_append, stageL_half, mergeL_half m k q]
theorem phasesL_half (m : Nat) : ∀ p, (phasesL (2 * m) p).filter (fun p => decide (p.1 < m)) = phasesL m p
  | 0 => rfl
  | p + 1 => by rw [phasesL, phasesL, List.filter_append, mergeL_half, phasesL_half m p]
/-- A network is that of its first rounds, twice as long as that of half as many places, and its last round, all up. -/
theorem netL_succ (p : Nat) : netL (p + 1) = phasesL (2 * 2 ^ p) p ++ mergeL (2 * 2 ^ p) (2 ^ (p + 1)) (p + 1) := by
  unfold netL; rw [phasesL, show 2 ^ (p + 1) = 2 * 2 ^ p by rw [Nat.pow_succ, Nat.mul_comm]]
theorem first_len (p : Nat) : (phasesL (2 * 2 ^ p) p).length = 2 * (netL p).length := by
  have h1 := phasesL_len (2 * 2 ^ p) p (Nat.dvd_mul_left _ _)
  have h2 := phasesL_len (2 ^ p) p (Nat.dvd_refl _)
  rw [show p * (p + 1) * (2 * 2 ^ p) = 2 * (p * (p + 1) * 2 ^ p) by rw [Nat.mul_left_comm]] at h1
  unfold netL; omega
theorem last_up (n k : Nat) (h : n ≤ k) : ∀ q, ∀ p ∈ mergeL n k q, p.2.2 = true
  | 0, p, hp => by simp [mergeL] at hp
  | q + 1, p, hp => by
    rw [mergeL] at hp
    rcases List.mem_append.1 hp with h1 | h1
    · unfold stageL at h1
      simp only [List.mem_map, List.mem_filter, List.mem_range] at h1
      obtain ⟨i, ⟨hi, _⟩, rfl⟩ := h1
      show upOf k i = true
      unfold upOf
      rw [Nat.div_eq_of_lt (by omega)]; rfl
    · exact last_up n k h q p h1
theorem netL_len (p : Nat) : 4 * (netL p).length = p * (p + 1) * 2 ^ p := phasesL_len _ p (Nat.dvd_refl _)
theorem netL_mets (p i : Nat) (hi : i < 2 ^ p) : 2 * mets (netL p) i = p * (p + 1) := mets_phases _ i hi p

/-- What is in order has its least number first and its greatest one last. -/
theorem sorted_first (l : List Int) (hs : l.Pairwise (· ≤ ·)) (h : 0 < l.length) (v : Int) (hv : v ∈ l) : l[0] ≤ v := by
  obtain ⟨i, hi, rfl⟩ := List.getElem_of_mem hv
  rw [List.pairwise_iff_getElem] at hs
  rcases Nat.eq_zero_or_pos i with h0 | h0
  · subst h0; exact Int.le_refl _
  · exact hs 0 i h hi h0
theorem sorted_last (l : List Int) (hs : l.Pairwise (· ≤ ·)) (h : 0 < l.length) (v : Int) (hv : v ∈ l) : v ≤ l[l.length - 1] := by
  obtain ⟨i, hi, rfl⟩ := List.getElem_of_mem hv
  rw [List.pairwise_iff_getElem] at hs
  by_cases h0 : i = l.length - 1
  · subst h0; exact Int.le_refl _
  · exact hs i (l.length - 1) hi (by omega) (by omega)
/-- A row of noughts and ones in order: first the noughts. -/
theorem zeros_ones (l : List Int) (h : ∀ v ∈ l, v = 0 ∨ v = 1) : (List.replicate (l.length - l.count 1) (0 : Int) ++ List.replicate (l.count 1) 1).Pairwise (· ≤ ·) ∧ (List.replicate (l.length - l.count 1) (0 : Int) ++ List.replicate (l.count 1) 1).Perm l := by
  constructor
  · rw [List.pairwise_append]
    refine ⟨List.pairwise_replicate.2 (.inr (Int.le_refl _)), List.pairwise_replicate.2 (.inr (Int.le_refl _)), fun a ha b hb => ?_⟩
    rw [(List.mem_replicate.1 ha).2, (List.mem_replicate.1 hb).2]; decide
  · induction l with
    | nil => exact List.Perm.refl _
    | cons a l ih =>
      have ih := ih (fun v hv => h v (by simp [hv]))
      have hc : l.count 1 ≤ l.length := List.count_le_length
      rcases h a (by simp) with rfl | rfl
      · rw [List.count_cons_of_ne (by decide), List.length_cons, show l.length + 1 - l.count 1 = (l.length - l.count 1) + 1 by omega, List.replicate_succ, List.cons_append]
        exact List.Perm.cons _ ih
      · rw [List.count_cons_self, List.length_cons, show l.length + 1 - (l.count 1 + 1) = l.length - l.count 1 by omega, List.replicate_succ]
        exact List.perm_middle.trans (List.Perm.cons _ ih)
end Go.Proofs.YteiilfdbddpodaaDoor
