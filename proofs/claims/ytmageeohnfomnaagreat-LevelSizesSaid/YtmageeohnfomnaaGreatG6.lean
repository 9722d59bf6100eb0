/- Texts of ours put together: Rng, CellsWord, NetMath, NetPairs, SortMath, LevelMath, LevelInv. -/
import Derived.WalkKit
import Derived.Test.YtmageeohnfomnaaGreatProg
import Derived.Test.YtmageeohnfomnaaGreatG1
namespace Go.Proofs.YtmageeohnfomnaaGreat
set_option maxRecDepth 100000

theorem i64_rng {a : Int} (h : (Lit.int .i64 a).wf = true) : -9223372036854775808 ≤ a ∧ a ≤ 9223372036854775807 := by
  simp only [Lit.wf, IntKind.min, IntKind.max, IntKind.signed, IntKind.bits, Bool.and_eq_true] at h
  exact ⟨by have := h.1; simp at this; omega, by have := h.2; simp at this; omega⟩
theorem ret_int {k : IntKind} {a b : Int} (h : a = b) : Ending.returned (.int k a) = .returned (.int k b) := by rw [h]
end Go.Proofs.YtmageeohnfomnaaGreat


namespace Go.Proofs.YtmageeohnfomnaaGreat
set_option maxRecDepth 100000
theorem cellsWord : Tryz.prog.cellsOf 54 = 1 := by kernel_rfl
end Go.Proofs.YtmageeohnfomnaaGreat


namespace Go.Proofs.YtmageeohnfomnaaGreat
set_option maxRecDepth 100000

def lowOf (j i : Nat) : Nat := if i / j % 2 = 0 then i else i - j
def stage (up : Nat → Bool) (j : Nat) (x : Nat → Int) (i : Nat) : Int :=
  let a := lowOf j i
  if (up a = true) = (i / j % 2 = 0) then min (x a) (x (a + j)) else max (x a) (x (a + j))
def merge (up : Nat → Bool) : Nat → (Nat → Int) → (Nat → Int)
  | 0, x => x
  | q + 1, x => merge up q (stage up (2 ^ q) x)
def upOf (k i : Nat) : Bool := decide (i / k % 2 = 0)
def phases : Nat → (Nat → Int) → (Nat → Int)
  | 0, x => x
  | p + 1, x => merge (upOf (2 ^ (p + 1))) (p + 1) (phases p x)

theorem al_lo (m c : Nat) : m * (2 * c) = 2 * m * c := by rw [Nat.mul_left_comm, Nat.mul_assoc]
theorem al_hi (m c i : Nat) : m * (2 * c + 1) + i = 2 * m * c + (m + i) := by rw [Nat.mul_add, al_lo]; omega
theorem two_pos (q : Nat) : 0 < 2 ^ q := Nat.pow_pos (by decide)
theorem half_lo {h c i : Nat} (_hi : i < h) : (2 * h * c + i) / h % 2 = 0 := by
  have hp : 0 < h := by omega
  rw [show 2 * h * c + i = i + h * (2 * c) by rw [Nat.mul_comm 2 h, Nat.mul_assoc, Nat.add_comm], Nat.add_mul_div_left _ _ hp, Nat.div_eq_of_lt _hi]
  omega
theorem half_hi {h c i : Nat} (_hi : i < h) : (2 * h * c + (h + i)) / h % 2 = 1 := by
  have hp : 0 < h := by omega
  rw [show 2 * h * c + (h + i) = i + h * (2 * c + 1) by rw [Nat.mul_add, Nat.mul_comm 2 h, Nat.mul_assoc]; omega, Nat.add_mul_div_left _ _ hp, Nat.div_eq_of_lt _hi]
  omega
theorem stage_lo (up : Nat → Bool) (x : Nat → Int) {h c i : Nat} (hi : i < h) :
    stage up h x (2 * h * c + i) = if up (2 * h * c + i) then min (x (2 * h * c + i)) (x (2 * h * c + (h + i))) else max (x (2 * h * c + i)) (x (2 * h * c + (h + i))) := by
  have e := half_lo (c := c) hi
  have el : lowOf h (2 * h * c + i) = 2 * h * c + i := by unfold lowOf; rw [if_pos e]
  unfold stage
  simp only [el, e]
  rw [show 2 * h * c + i + h = 2 * h * c + (h + i) by omega]
  cases up (2 * h * c + i) <;> simp
theorem stage_hi (up : Nat → Bool) (x : Nat → Int) {h c i : Nat} (hi : i < h) :
    stage up h x (2 * h * c + (h + i)) = if up (2 * h * c + i) then max (x (2 * h * c + i)) (x (2 * h * c + (h + i))) else min (x (2 * h * c + i)) (x (2 * h * c + (h + i))) := by
  have e := half_hi (c := c) hi
  have el : lowOf h (2 * h * c + (h + i)) = 2 * h * c + i := by unfold lowOf; rw [if_neg (by omega)]; omega
  unfold stage
  simp only [el, e]
  rw [show 2 * h * c + i + h = 2 * h * c + (h + i) by omega]
  cases up (2 * h * c + i) <;> simp

def Bump (u : Nat → Int) (n : Nat) : Prop := ∃ a z, a ≤ z ∧ z ≤ n ∧ ((∀ i, i < n → u i = if a ≤ i ∧ i < z then 1 else 0) ∨ ∀ i, i < n → u i = if a ≤ i ∧ i < z then 0 else 1)
def All (u : Nat → Int) (n : Nat) (o : Int) : Prop := ∀ i, i < n → u i = o
def Rise (u : Nat → Int) (n : Nat) : Prop := ∃ a, a ≤ n ∧ ∀ i, i < n → u i = if i < a then 0 else 1
def Fall (u : Nat → Int) (n : Nat) : Prop := ∃ a, a ≤ n ∧ ∀ i, i < n → u i = if i < a then 1 else 0
theorem halves (u : Nat → Int) (h : Nat) (hb : Bump u (2 * h)) :
    (All (fun i => min (u i) (u (h + i))) h 0 ∧ Bump (fun i => max (u i) (u (h + i))) h) ∨ (All (fun i => max (u i) (u (h + i))) h 1 ∧ Bump (fun i => min (u i) (u (h + i))) h) := by
  obtain ⟨a, z, haz, hz, hu | hu⟩ := hb
  · by_cases hc : z ≤ a + h
    · refine .inl ⟨fun i hi => ?_, ?_⟩
      · show min (u i) (u (h + i)) = 0
        rw [hu i (by omega), hu (h + i) (by omega)]
        by_cases h1 : a ≤ i ∧ i < z <;> by_cases h2 : a ≤ h + i ∧ h + i < z <;> simp only [h1, h2, if_false] <;> first | decide | omega
      · by_cases h3 : z ≤ h
        · refine ⟨a, z, haz, h3, .inl fun i hi => ?_⟩
          show max (u i) (u (h + i)) = _
          rw [hu i (by omega), hu (h + i) (by omega), if_neg (show ¬(a ≤ h + i ∧ h + i < z) by omega)]
          by_cases h1 : a ≤ i ∧ i < z <;> simp only [h1, if_false] <;> decide
        · by_cases h4 : h ≤ a
          · refine ⟨a - h, z - h, by omega, by omega, .inl fun i hi => ?_⟩
            show max (u i) (u (h + i)) = _
            rw [hu i (by omega), hu (h + i) (by omega), if_neg (show ¬(a ≤ i ∧ i < z) by omega)]
            by_cases h1 : a ≤ h + i ∧ h + i < z
            · rw [if_pos h1, if_pos (by omega)]; decide
            · rw [if_neg h1, if_neg (by omega)]; decide
          · refine ⟨z - h, a, by omega, by omega, .inr fun i hi => ?_⟩
            show max (u i) (u (h + i)) = _
            rw [hu i (by omega), hu (h + i) (by omega)]
            by_cases h1 : z - h ≤ i ∧ i < a
            · rw [if_pos h1, if_neg (by omega), if_neg (by omega)]; decide
            · rw [if_neg h1]
              by_cases h2 : a ≤ i ∧ i < z
              · rw [if_pos h2]; split <;> decide
              · rw [if_neg h2, if_pos (by omega)]; decide
    · refine .inr ⟨fun i hi => ?_, a, z - h, by omega, by omega, .inl fun i hi => ?_⟩
      · show max (u i) (u (h + i)) = 1
        rw [hu i (by omega), hu (h + i) (by omega)]
        by_cases h1 : a ≤ i ∧ i < z
        · rw [if_pos h1]; split <;> decide
        · rw [if_neg h1, if_pos (by omega)]; decide
      · show min (u i) (u (h + i)) = _
        rw [hu i (by omega), hu (h + i) (by omega)]
        by_cases h1 : a ≤ i ∧ i < z - h
        · rw [if_pos h1, if_pos (by omega), if_pos (by omega)]; decide
        · rw [if_neg h1]
          by_cases h2 : a ≤ i ∧ i < z
          · rw [if_pos h2, if_neg (by omega)]; decide
          · rw [if_neg h2]; split <;> decide
  · by_cases hc : z ≤ a + h
    · refine .inr ⟨fun i hi => ?_, ?_⟩
      · show max (u i) (u (h + i)) = 1
        rw [hu i (by omega), hu (h + i) (by omega)]
        by_cases h1 : a ≤ i ∧ i < z <;> by_cases h2 : a ≤ h + i ∧ h + i < z <;> simp only [h1, h2, if_false] <;> first | decide | omega
      · by_cases h3 : z ≤ h
        · refine ⟨a, z, haz, h3, .inr fun i hi => ?_⟩
          show min (u i) (u (h + i)) = _
          rw [hu i (by omega), hu (h + i) (by omega), if_neg (show ¬(a ≤ h + i ∧ h + i < z) by omega)]
          by_cases h1 : a ≤ i ∧ i < z <;> simp only [h1, if_false] <;> decide
        · by_cases h4 : h ≤ a
          · refine ⟨a - h, z - h, by omega, by omega, .inr fun i hi => ?_⟩
            show min (u i) (u (h + i)) = _
            rw [hu i (by omega), hu (h + i) (by omega), if_neg (show ¬(a ≤ i ∧ i < z) by omega)]
            by_cases h1 : a ≤ h + i ∧ h + i < z
            · rw [if_pos h1, if_pos (by omega)]; decide
            · rw [if_neg h1, if_neg (by omega)]; decide
          · refine ⟨z - h, a, by omega, by omega, .inl fun i hi => ?_⟩
            show min (u i) (u (h + i)) = _
            rw [hu i (by omega), hu (h + i) (by omega)]
            by_cases h1 : z - h ≤ i ∧ i < a
            · rw [if_pos h1, if_neg (by omega), if_neg (by omega)]; decide
            · rw [if_neg h1]
              by_cases h2 : a ≤ i ∧ i < z
              · rw [if_pos h2]; split <;> decide
              · rw [if_neg h2, if_pos (by omega)]; decide
    · refine .inl ⟨fun i hi => ?_, a, z - h, by omega, by omega, .inr fun i hi => ?_⟩
      · show min (u i) (u (h + i)) = 0
        rw [hu i (by omega), hu (h + i) (by omega)]
        by_cases h1 : a ≤ i ∧ i < z
        · rw [if_pos h1]; split <;> decide
        · rw [if_neg h1, if_pos (by omega)]; decide
      · show max (u i) (u (h + i)) = _
        rw [hu i (by omega), hu (h + i) (by omega)]
        by_cases h1 : a ≤ i ∧ i < z - h
        · rw [if_pos h1, if_pos (by omega), if_pos (by omega)]; decide
        · rw [if_neg h1]
          by_cases h2 : a ≤ i ∧ i < z
          · rw [if_pos h2, if_neg (by omega)]; decide
          · rw [if_neg h2]; split <;> decide

theorem All.ext {u v : Nat → Int} {n : Nat} {o : Int} (h : All u n o) (e : ∀ i, i < n → v i = u i) : All v n o := fun i hi => (e i hi).trans (h i hi)
theorem Bump.ext {u v : Nat → Int} {n : Nat} (h : Bump u n) (e : ∀ i, i < n → v i = u i) : Bump v n := by
  obtain ⟨a, z, h1, h2, h3 | h3⟩ := h
  · exact ⟨a, z, h1, h2, .inl fun i hi => (e i hi).trans (h3 i hi)⟩
  · exact ⟨a, z, h1, h2, .inr fun i hi => (e i hi).trans (h3 i hi)⟩
def from_ (x : Nat → Int) (b i : Nat) : Int := x (b + i)

theorem merge_all (up : Nat → Bool) (o : Int) : ∀ (q : Nat) (x : Nat → Int) (c : Nat), All (from_ x (2 ^ q * c)) (2 ^ q) o → All (from_ (merge up q x) (2 ^ q * c)) (2 ^ q) o
  | 0, _, _, h => h
  | q + 1, x, c, h => by
    have e : 2 ^ (q + 1) = 2 * 2 ^ q := by rw [Nat.pow_succ, Nat.mul_comm]
    rw [e] at h ⊢
    have h1 : ∀ i, i < 2 ^ q → x (2 * 2 ^ q * c + i) = o := fun i hi => h i (by omega)
    have h2 : ∀ i, i < 2 ^ q → x (2 * 2 ^ q * c + (2 ^ q + i)) = o := fun i hi => h (2 ^ q + i) (by omega)
    have a1 : All (from_ (stage up (2 ^ q) x) (2 ^ q * (2 * c))) (2 ^ q) o := fun i hi => by
      show stage up (2 ^ q) x (2 ^ q * (2 * c) + i) = o
      rw [al_lo, stage_lo up x hi, h1 i hi, h2 i hi]
      split <;> omega
    have a2 : All (from_ (stage up (2 ^ q) x) (2 ^ q * (2 * c + 1))) (2 ^ q) o := fun i hi => by
      show stage up (2 ^ q) x (2 ^ q * (2 * c + 1) + i) = o
      rw [al_hi, stage_hi up x hi, h1 i hi, h2 i hi]
      split <;> omega
    have b1 := merge_all up o q _ _ a1
    have b2 := merge_all up o q _ _ a2
    intro i hi
    show merge up q (stage up (2 ^ q) x) (2 * 2 ^ q * c + i) = o
    by_cases hl : i < 2 ^ q
    · have := b1 i hl
      unfold from_ at this
      rwa [al_lo] at this
    · have := b2 (i - 2 ^ q) (by omega)
      unfold from_ at this
      rwa [al_hi, show 2 ^ q + (i - 2 ^ q) = i by omega] at this

theorem Rise.join0 {u : Nat → Int} {h : Nat} (h1 : All u h 0) (h2 : Rise (fun i => u (h + i)) h) : Rise u (2 * h) := by
  obtain ⟨a, ha, hu⟩ := h2
  refine ⟨h + a, by omega, fun i hi => ?_⟩
  by_cases hl : i < h
  · rw [h1 i hl, if_pos (by omega)]
  · have := hu (i - h) (by omega)
    dsimp only at this
    rw [show h + (i - h) = i by omega] at this
    rw [this]
    by_cases hc : i - h < a
    · rw [if_pos hc, if_pos (by omega)]
    · rw [if_neg hc, if_neg (by omega)]
theorem Rise.join1 {u : Nat → Int} {h : Nat} (h1 : Rise u h) (h2 : All (fun i => u (h + i)) h 1) : Rise u (2 * h) := by
  obtain ⟨a, ha, hu⟩ := h1
  refine ⟨a, by omega, fun i hi => ?_⟩
  by_cases hl : i < h
  · exact hu i hl
  · have := h2 (i - h) (by omega)
    dsimp only at this
    rw [show h + (i - h) = i by omega] at this
    rw [this, if_neg (by omega)]
theorem Fall.join1 {u : Nat → Int} {h : Nat} (h1 : All u h 1) (h2 : Fall (fun i => u (h + i)) h) : Fall u (2 * h) := by
  obtain ⟨a, ha, hu⟩ := h2
  refine ⟨h + a, by omega, fun i hi => ?_⟩
  by_cases hl : i < h
  · rw [h1 i hl, if_pos (by omega)]
  · have := hu (i - h) (by omega)
    dsimp only at this
    rw [show h + (i - h) = i by omega] at this
    rw [this]
    by_cases hc : i - h < a
    · rw [if_pos hc, if_pos (by omega)]
    · rw [if_neg hc, if_neg (by omega)]
theorem Fall.join0 {u : Nat → Int} {h : Nat} (h1 : Fall u h) (h2 : All (fun i => u (h + i)) h 0) : Fall u (2 * h) := by
  obtain ⟨a, ha, hu⟩ := h1
  refine ⟨a, by omega, fun i hi => ?_⟩
  by_cases hl : i < h
  · exact hu i hl
  · have := h2 (i - h) (by omega)
    dsimp only at this
    rw [show h + (i - h) = i by omega] at this
    rw [this, if_neg (by omega)]
theorem Bump.of {u : Nat → Int} {h : Nat} (h1 : Rise u h) (h2 : Fall (fun i => u (h + i)) h) : Bump u (2 * h) := by
  obtain ⟨a, ha, hu⟩ := h1
  obtain ⟨b, hb, hv⟩ := h2
  refine ⟨a, h + b, by omega, by omega, .inl fun i hi => ?_⟩
  by_cases hl : i < h
  · rw [hu i hl]
    by_cases hc : i < a
    · rw [if_pos hc, if_neg (by omega)]
    · rw [if_neg hc, if_pos (by omega)]
  · have := hv (i - h) (by omega)
    dsimp only at this
    rw [show h + (i - h) = i by omega] at this
    rw [this]
    by_cases hc : i - h < b
    · rw [if_pos hc, if_pos (by omega)]
    · rw [if_neg hc, if_neg (by omega)]

theorem from_half (x : Nat → Int) (m c : Nat) : from_ x (m * (2 * c)) = from_ x (2 * m * c) ∧ from_ x (m * (2 * c + 1)) = fun i => from_ x (2 * m * c) (m + i) := by
  constructor
  · rw [al_lo]
  · funext i; unfold from_; rw [al_hi]
theorem merge_rise (up : Nat → Bool) : ∀ (q : Nat) (x : Nat → Int) (c : Nat), (∀ i, i < 2 ^ q → up (2 ^ q * c + i) = true) → Bump (from_ x (2 ^ q * c)) (2 ^ q) → Rise (from_ (merge up q x) (2 ^ q * c)) (2 ^ q)
  | 0, x, c, _, h => by
    obtain ⟨a, z, haz, hz, hu | hu⟩ := h
    · have h0 := hu 0 (by decide)
      show Rise (from_ x (2 ^ 0 * c)) 1
      by_cases hc : a ≤ 0 ∧ 0 < z
      · exact ⟨0, by omega, fun i hi => by obtain rfl : i = 0 := by omega
                                           rw [h0, if_pos hc]; rfl⟩
      · exact ⟨1, by omega, fun i hi => by obtain rfl : i = 0 := by omega
                                           rw [h0, if_neg hc]; rfl⟩
    · have h0 := hu 0 (by decide)
      show Rise (from_ x (2 ^ 0 * c)) 1
      by_cases hc : a ≤ 0 ∧ 0 < z
      · exact ⟨1, by omega, fun i hi => by obtain rfl : i = 0 := by omega
                                           rw [h0, if_pos hc]; rfl⟩
      · exact ⟨0, by omega, fun i hi => by obtain rfl : i = 0 := by omega
                                           rw [h0, if_neg hc]; rfl⟩
  | q + 1, x, c, hup, h => by
    have e : 2 ^ (q + 1) = 2 * 2 ^ q := by rw [Nat.pow_succ, Nat.mul_comm]
    rw [e] at h hup ⊢
    obtain ⟨f1, f2⟩ := from_half (merge up q (stage up (2 ^ q) x)) (2 ^ q) c
    obtain ⟨g1, g2⟩ := from_half (stage up (2 ^ q) x) (2 ^ q) c
    have l1 : ∀ i, i < 2 ^ q → from_ (stage up (2 ^ q) x) (2 ^ q * (2 * c)) i = min (from_ x (2 * 2 ^ q * c) i) (from_ x (2 * 2 ^ q * c) (2 ^ q + i)) := fun i hi => by
      rw [g1]; unfold from_; rw [stage_lo up x hi, hup i (by omega), if_pos rfl]
    have l2 : ∀ i, i < 2 ^ q → from_ (stage up (2 ^ q) x) (2 ^ q * (2 * c + 1)) i = max (from_ x (2 * 2 ^ q * c) i) (from_ x (2 * 2 ^ q * c) (2 ^ q + i)) := fun i hi => by
      rw [g2]; unfold from_; dsimp only; rw [stage_hi up x hi, hup i (by omega), if_pos rfl]
    have u1 : ∀ i, i < 2 ^ q → up (2 ^ q * (2 * c) + i) = true := fun i hi => by rw [al_lo]; exact hup i (by omega)
    have u2 : ∀ i, i < 2 ^ q → up (2 ^ q * (2 * c + 1) + i) = true := fun i hi => by rw [al_hi]; exact hup (2 ^ q + i) (by omega)
    show Rise (from_ (merge up q (stage up (2 ^ q) x)) (2 * 2 ^ q * c)) (2 * 2 ^ q)
    rcases halves _ _ h with ⟨ha, hb⟩ | ⟨ha, hb⟩
    · have r1 := merge_all up 0 q _ _ (ha.ext l1)
      have r2 := merge_rise up q _ _ u2 (hb.ext l2)
      rw [f1] at r1
      rw [f2] at r2
      exact Rise.join0 r1 r2
    · have r1 := merge_rise up q _ _ u1 (hb.ext l1)
      have r2 := merge_all up 1 q _ _ (ha.ext l2)
      rw [f1] at r1
      rw [f2] at r2
      exact Rise.join1 r1 r2
theorem merge_fall (up : Nat → Bool) : ∀ (q : Nat) (x : Nat → Int) (c : Nat), (∀ i, i < 2 ^ q → up (2 ^ q * c + i) = false) → Bump (from_ x (2 ^ q * c)) (2 ^ q) → Fall (from_ (merge up q x) (2 ^ q * c)) (2 ^ q)
  | 0, x, c, _, h => by
    obtain ⟨a, z, haz, hz, hu | hu⟩ := h
    · have h0 := hu 0 (by decide)
      show Fall (from_ x (2 ^ 0 * c)) 1
      by_cases hc : a ≤ 0 ∧ 0 < z
      · exact ⟨1, by omega, fun i hi => by obtain rfl : i = 0 := by omega
                                           rw [h0, if_pos hc]; rfl⟩
      · exact ⟨0, by omega, fun i hi => by obtain rfl : i = 0 := by omega
                                           rw [h0, if_neg hc]; rfl⟩
    · have h0 := hu 0 (by decide)
      show Fall (from_ x (2 ^ 0 * c)) 1
      by_cases hc : a ≤ 0 ∧ 0 < z
      · exact ⟨0, by omega, fun i hi => by obtain rfl : i = 0 := by omega
                                           rw [h0, if_pos hc]; rfl⟩
      · exact ⟨1, by omega, fun i hi => by obtain rfl : i = 0 := by omega
                                           rw [h0, if_neg hc]; rfl⟩
  | q + 1, x, c, hup, h => by
    have e : 2 ^ (q + 1) = 2 * 2 ^ q := by rw [Nat.pow_succ, Nat.mul_comm]
    rw [e] at h hup ⊢
    obtain ⟨f1, f2⟩ := from_half (merge up q (stage up (2 ^ q) x)) (2 ^ q) c
    obtain ⟨g1, g2⟩ := from_half (stage up (2 ^ q) x) (2 ^ q) c
    have nf : ¬ (false = true) := by decide
    have l1 : ∀ i, i < 2 ^ q → from_ (stage up (2 ^ q) x) (2 ^ q * (2 * c)) i = max (from_ x (2 * 2 ^ q * c) i) (from_ x (2 * 2 ^ q * c) (2 ^ q + i)) := fun i hi => by
      rw [g1]; unfold from_; rw [stage_lo up x hi, hup i (by omega), if_neg nf]
    have l2 : ∀ i, i < 2 ^ q → from_ (stage up (2 ^ q) x) (2 ^ q * (2 * c + 1)) i = min (from_ x (2 * 2 ^ q * c) i) (from_ x (2 * 2 ^ q * c) (2 ^ q + i)) := fun i hi => by
      rw [g2]; unfold from_; dsimp only; rw [stage_hi up x hi, hup i (by omega), if_neg nf]
    have u1 : ∀ i, i < 2 ^ q → up (2 ^ q * (2 * c) + i) = false := fun i hi => by rw [al_lo]; exact hup i (by omega)
    have u2 : ∀ i, i < 2 ^ q → up (2 ^ q * (2 * c + 1) + i) = false := fun i hi => by rw [al_hi]; exact hup (2 ^ q + i) (by omega)
    show Fall (from_ (merge up q (stage up (2 ^ q) x)) (2 * 2 ^ q * c)) (2 * 2 ^ q)
    rcases halves _ _ h with ⟨ha, hb⟩ | ⟨ha, hb⟩
    · have r1 := merge_fall up q _ _ u1 (hb.ext l1)
      have r2 := merge_all up 0 q _ _ (ha.ext l2)
      rw [f1] at r1
      rw [f2] at r2
      exact Fall.join0 r1 r2
    · have r1 := merge_all up 1 q _ _ (ha.ext l1)
      have r2 := merge_fall up q _ _ u2 (hb.ext l2)
      rw [f1] at r1
      rw [f2] at r2
      exact Fall.join1 r1 r2

theorem upOf_block (k c i : Nat) (hi : i < k) : upOf k (k * c + i) = decide (c % 2 = 0) := by
  unfold upOf
  rw [Nat.mul_add_div (by omega), Nat.div_eq_of_lt hi, Nat.add_zero]
theorem phases_block : ∀ (p : Nat) (x : Nat → Int), (∀ i, x i = 0 ∨ x i = 1) → ∀ c, (c % 2 = 0 → Rise (from_ (phases p x) (2 ^ p * c)) (2 ^ p)) ∧ (c % 2 = 1 → Fall (from_ (phases p x) (2 ^ p * c)) (2 ^ p))
  | 0, x, hx, c => by
    have one : ∀ i, i < 2 ^ 0 → i = 0 := fun i hi => by simpa using hi
    rcases hx (2 ^ 0 * c + 0) with h | h
    · exact ⟨fun _ => ⟨1, by decide, fun i hi => by rw [one i hi]; exact h⟩, fun _ => ⟨0, by decide, fun i hi => by rw [one i hi]; exact h⟩⟩
    · exact ⟨fun _ => ⟨0, by decide, fun i hi => by rw [one i hi]; exact h⟩, fun _ => ⟨1, by decide, fun i hi => by rw [one i hi]; exact h⟩⟩
  | p + 1, x, hx, c => by
    have e : 2 ^ (p + 1) = 2 * 2 ^ p := by rw [Nat.pow_succ, Nat.mul_comm]
    obtain ⟨g1, g2⟩ := from_half (phases p x) (2 ^ p) c
    have r1 := (phases_block p x hx (2 * c)).1 (by omega)
    have r2 := (phases_block p x hx (2 * c + 1)).2 (by omega)
    rw [g1] at r1
    rw [g2] at r2
    have hb : Bump (from_ (phases p x) (2 ^ (p + 1) * c)) (2 ^ (p + 1)) := by rw [e]; exact Bump.of r1 r2
    constructor
    · intro h
      exact merge_rise _ (p + 1) _ c (fun i hi => by rw [upOf_block _ _ _ hi]; simpa using h) hb
    · intro h
      exact merge_fall _ (p + 1) _ c (fun i hi => by rw [upOf_block _ _ _ hi]; simpa using h) hb

def over (t v : Int) : Int := if t < v then 1 else 0
theorem over_min (t a b : Int) : over t (min a b) = min (over t a) (over t b) := by
  unfold over
  by_cases h1 : t < a <;> by_cases h2 : t < b <;> simp only [h1, h2, if_true, if_false] <;> first | (rw [if_pos (by omega)]; decide) | (rw [if_neg (by omega)]; decide)
theorem over_max (t a b : Int) : over t (max a b) = max (over t a) (over t b) := by
  unfold over
  by_cases h1 : t < a <;> by_cases h2 : t < b <;> simp only [h1, h2, if_true, if_false] <;> first | (rw [if_pos (by omega)]; decide) | (rw [if_neg (by omega)]; decide)
theorem stage_over (up : Nat → Bool) (j : Nat) (t : Int) (x : Nat → Int) : stage up j (fun i => over t (x i)) = fun i => over t (stage up j x i) := by
  funext i
  unfold stage
  dsimp only
  split
  · rw [over_min]
  · rw [over_max]
theorem merge_over (up : Nat → Bool) (t : Int) : ∀ (q : Nat) (x : Nat → Int), merge up q (fun i => over t (x i)) = fun i => over t (merge up q x i)
  | 0, _ => rfl
  | q + 1, x => by
    show merge up q (stage up (2 ^ q) fun i => over t (x i)) = _
    rw [stage_over, merge_over up t q]; rfl
theorem phases_over (t : Int) : ∀ (p : Nat) (x : Nat → Int), phases p (fun i => over t (x i)) = fun i => over t (phases p x i)
  | 0, _ => rfl
  | p + 1, x => by
    show merge _ _ (phases p fun i => over t (x i)) = _
    rw [phases_over t p, merge_over]; rfl
theorem phases_sorted (p : Nat) (x : Nat → Int) (i j : Nat) (hij : i ≤ j) (hj : j < 2 ^ p) : phases p x i ≤ phases p x j := by
  rcases Int.lt_or_le (phases p x j) (phases p x i) with hlt | hle
  · exfalso
    have h := (phases_block p (fun i => over (phases p x j) (x i)) (fun i => by unfold over; split <;> simp) 0).1 rfl
    obtain ⟨a, ha, hu⟩ := h
    have h1 := hu i (by omega)
    have h2 := hu j hj
    unfold from_ at h1 h2
    rw [Nat.mul_zero, Nat.zero_add, phases_over] at h1 h2
    dsimp only at h1 h2
    unfold over at h1 h2
    rw [if_pos hlt] at h1
    rw [if_neg (by omega)] at h2
    by_cases hc : i < a
    · rw [if_pos hc] at h1; omega
    · rw [if_neg (by omega)] at h2; omega
  · exact hle
end Go.Proofs.YtmageeohnfomnaaGreat


namespace Go.Proofs.YtmageeohnfomnaaGreat
set_option maxRecDepth 100000

abbrev Pr := Nat × Nat × Bool
def mkP (k j i : Nat) : Pr := (i, i + j, upOf k i)
def lowB (j i : Nat) : Bool := decide (i / j % 2 = 0)
def stageL (m k j : Nat) : List Pr := ((List.range m).filter (lowB j)).map (mkP k j)
def mergeL (n k : Nat) : Nat → List Pr
  | 0 => []
  | q + 1 => stageL n k (2 ^ q) ++ mergeL n k q
def phasesL (n : Nat) : Nat → List Pr
  | 0 => []
  | p + 1 => phasesL n p ++ mergeL n (2 ^ (p + 1)) (p + 1)
def exch (x : Nat → Int) (p : Pr) : Nat → Int := fun i =>
  if i = p.1 then (if p.2.2 then min (x p.1) (x p.2.1) else max (x p.1) (x p.2.1))
  else if i = p.2.1 then (if p.2.2 then max (x p.1) (x p.2.1) else min (x p.1) (x p.2.1)) else x i
def run (ps : List Pr) (x : Nat → Int) : Nat → Int := ps.foldl exch x
theorem run_append (a b : List Pr) (x : Nat → Int) : run (a ++ b) x = run b (run a x) := List.foldl_append

theorem lowOf_low (j i : Nat) : lowOf j i / j % 2 = 0 := by
  unfold lowOf
  split
  · assumption
  · rename_i h
    have h1 : j ≤ i := by
      rcases Nat.lt_or_ge i j with h2 | h2
      · rw [Nat.div_eq_of_lt h2] at h; exact absurd rfl h
      · exact h2
    have := Nat.sub_mul_div i j 1
    rw [Nat.mul_one] at this
    rw [this]
    omega
theorem lowOf_cases (j i : Nat) : (i / j % 2 = 0 ∧ lowOf j i = i) ∨ (i / j % 2 = 1 ∧ i = lowOf j i + j) := by
  unfold lowOf
  split
  · exact .inl ⟨by assumption, rfl⟩
  · rename_i h
    refine .inr ⟨by omega, ?_⟩
    rcases Nat.lt_or_ge i j with h2 | h2
    · rw [Nat.div_eq_of_lt h2] at h; exact absurd rfl h
    · omega
theorem lowOf_le (j i : Nat) : lowOf j i ≤ i := by unfold lowOf; split <;> omega
theorem lowOf_self {j i : Nat} (h : i / j % 2 = 0) : lowOf j i = i := by unfold lowOf; rw [if_pos h]
theorem lowOf_add {j i : Nat} (hj : 0 < j) (h : i / j % 2 = 0) : lowOf j (i + j) = i ∧ (i + j) / j % 2 = 1 := by
  have e : (i + j) / j = i / j + 1 := Nat.add_div_right i hj
  have : (i + j) / j % 2 = 1 := by omega
  refine ⟨?_, this⟩
  unfold lowOf; rw [if_neg (by omega)]; omega
theorem stageL_succ (m k j : Nat) : stageL (m + 1) k j = stageL m k j ++ if lowB j m then [mkP k j m] else [] := by
  unfold stageL
  rw [List.range_succ, List.filter_append, List.map_append]
  congr 1
  cases h : lowB j m <;> simp [h]
theorem run_stage (k j : Nat) (hj : 0 < j) (x : Nat → Int) : ∀ m i, run (stageL m k j) x i = if lowOf j i < m then stage (upOf k) j x i else x i
  | 0, i => by rw [if_neg (by omega)]; rfl
  | m + 1, i => by
    have ih := run_stage k j hj x m
    rw [stageL_succ, run_append]
    cases hm : lowB j m
    · show run (stageL m k j) x i = _
      rw [ih i]
      have hm' : ¬ m / j % 2 = 0 := by unfold lowB at hm; simpa using hm
      have := lowOf_low j i
      by_cases hl : lowOf j i < m
      · rw [if_pos hl, if_pos (by omega)]
      · rw [if_neg hl, if_neg (by
          intro hc
          have e : lowOf j i = m := by omega
          rw [e] at this; exact hm' this)]
    · show exch (run (stageL m k j) x) (mkP k j m) i = _
      have hm' : m / j % 2 = 0 := by unfold lowB at hm; simpa using hm
      have l1 := lowOf_self hm'
      obtain ⟨l2, l3⟩ := lowOf_add hj hm'
      have y1 : run (stageL m k j) x m = x m := by rw [ih m, l1, if_neg (by omega)]
      have y2 : run (stageL m k j) x (m + j) = x (m + j) := by rw [ih (m + j), l2, if_neg (by omega)]
      unfold exch mkP
      dsimp only
      rw [y1, y2]
      by_cases h1 : i = m
      · subst h1
        rw [if_pos rfl, if_pos (show lowOf j i < i + 1 by omega)]
        unfold stage
        simp only [l1, hm']
        cases upOf k i <;> simp
      · rw [if_neg h1]
        by_cases h2 : i = m + j
        · subst h2
          rw [if_pos rfl, if_pos (show lowOf j (m + j) < m + 1 by omega)]
          unfold stage
          simp only [l2, l3]
          cases upOf k m <;> simp
        · rw [if_neg h2, ih i]
          have hne : lowOf j i ≠ m := by
            rcases lowOf_cases j i with ⟨_, e⟩ | ⟨_, e⟩
            · rw [e]; exact h1
            · intro e2; rw [e2] at e; exact h2 e
          by_cases hl : lowOf j i < m
          · rw [if_pos hl, if_pos (by omega)]
          · rw [if_neg hl, if_neg (by omega)]
theorem low_add_lt {j n i : Nat} (hj : 0 < j) (hn : 2 * j ∣ n) (hi : i < n) : lowOf j i + j < n := by
  obtain ⟨c, rfl⟩ := hn
  have h0 := lowOf_low j i
  have hle := lowOf_le j i
  have hd : lowOf j i / j < 2 * c := by
    rw [Nat.div_lt_iff_lt_mul hj]
    have : 2 * c * j = 2 * j * c := by rw [Nat.mul_assoc, Nat.mul_comm c j, ← Nat.mul_assoc]
    omega
  have hd2 : lowOf j i / j + 1 < 2 * c := by omega
  have h3 := Nat.lt_mul_div_succ (lowOf j i) hj
  have h4 : j * (lowOf j i / j + 1 + 1) ≤ j * (2 * c) := Nat.mul_le_mul_left j hd2
  rw [al_lo] at h4
  rw [Nat.mul_add, Nat.mul_one] at h4
  omega
theorem stage_near (up : Nat → Bool) {j n : Nat} (hj : 0 < j) (hn : 2 * j ∣ n) {x y : Nat → Int} (h : ∀ i, i < n → x i = y i) (i : Nat) (hi : i < n) : stage up j x i = stage up j y i := by
  have h1 := low_add_lt hj hn hi
  unfold stage
  dsimp only
  rw [h (lowOf j i) (by omega), h (lowOf j i + j) h1]
theorem run_merge (n k : Nat) : ∀ (q : Nat), 2 ^ q ∣ n → ∀ (x y : Nat → Int), (∀ i, i < n → x i = y i) → ∀ i, i < n → run (mergeL n k q) x i = merge (upOf k) q y i
  | 0, _, x, y, h, i, hi => h i hi
  | q + 1, hq, x, y, h, i, hi => by
    have e : 2 ^ (q + 1) = 2 * 2 ^ q := by rw [Nat.pow_succ, Nat.mul_comm]
    rw [e] at hq
    show run (stageL n k (2 ^ q) ++ mergeL n k q) x i = merge (upOf k) q (stage (upOf k) (2 ^ q) y) i
    rw [run_append]
    refine run_merge n k q (Nat.dvd_trans (Nat.dvd_mul_left _ _) hq) _ _ (fun a ha => ?_) i hi
    have := lowOf_le (2 ^ q) a
    rw [run_stage k (2 ^ q) (two_pos q) x n a, if_pos (by omega)]
    exact stage_near (upOf k) (two_pos q) hq h a ha
theorem run_phases (n : Nat) : ∀ (p : Nat), 2 ^ p ∣ n → ∀ (x : Nat → Int) i, i < n → run (phasesL n p) x i = phases p x i
  | 0, _, x, i, _ => rfl
  | p + 1, hp, x, i, hi => by
    show run (phasesL n p ++ mergeL n (2 ^ (p + 1)) (p + 1)) x i = merge (upOf (2 ^ (p + 1))) (p + 1) (phases p x) i
    rw [run_append]
    exact run_merge n _ (p + 1) hp _ _ (fun a ha => run_phases n p (Nat.dvd_trans (Nat.pow_dvd_pow 2 (by omega)) hp) x a ha) i hi
theorem run_sorted (p : Nat) (x : Nat → Int) (i j : Nat) (hij : i ≤ j) (hj : j < 2 ^ p) : run (phasesL (2 ^ p) p) x i ≤ run (phasesL (2 ^ p) p) x j := by
  rw [run_phases (2 ^ p) p (Nat.dvd_refl _) x i (by omega), run_phases (2 ^ p) p (Nat.dvd_refl _) x j hj]
  exact phases_sorted p x i j hij hj

def lst (n : Nat) (x : Nat → Int) : List Int := (List.range n).map x
theorem lst_len (n : Nat) (x : Nat → Int) : (lst n x).length = n := by simp [lst]
theorem lst_at (n : Nat) (x : Nat → Int) (i : Nat) (h : i < (lst n x).length) : (lst n x)[i] = x i := by simp [lst]
def swapAt (x : Nat → Int) (a b : Nat) : Nat → Int := fun i => if i = a then x b else if i = b then x a else x i
theorem lst_swap (n : Nat) (x : Nat → Int) (a b : Nat) (ha : a < n) (hb : b < n) : (lst n (swapAt x a b)).Perm (lst n x) := by
  have la : a < (lst n x).length := by rw [lst_len]; exact ha
  have lb : b < (lst n x).length := by rw [lst_len]; exact hb
  have e : lst n (swapAt x a b) = ((lst n x).set a (lst n x)[b]).set b (lst n x)[a] := by
    apply List.ext_getElem
    · simp [lst_len]
    · intro i h1 h2
      rw [List.getElem_set, List.getElem_set]
      simp only [lst_at]
      unfold swapAt
      by_cases hia : i = a
      · subst hia
        rw [if_pos rfl]
        by_cases hib : b = i
        · subst hib; rw [if_pos rfl]
        · rw [if_neg hib, if_pos rfl]
      · rw [if_neg hia]
        by_cases hib : i = b
        · subst hib; rw [if_pos rfl, if_pos rfl]
        · rw [if_neg hib, if_neg (fun h => hib h.symm), if_neg (fun h => hia h.symm)]
  rw [e]
  exact List.set_set_perm la lb
theorem exch_cases (x : Nat → Int) (p : Pr) : exch x p = x ∨ exch x p = swapAt x p.1 p.2.1 := by
  obtain ⟨a, b, u⟩ := p
  rcases Int.le_total (x a) (x b) with h | h
  · cases u
    · right; funext i; unfold exch swapAt; dsimp only
      simp only [Bool.false_eq_true, if_false, Int.max_eq_right h, Int.min_eq_left h]
    · left; funext i; unfold exch; dsimp only
      simp only [if_true, Int.max_eq_right h, Int.min_eq_left h]
      by_cases h1 : i = a
      · rw [if_pos h1, h1]
      · rw [if_neg h1]
        by_cases h2 : i = b
        · rw [if_pos h2, h2]
        · rw [if_neg h2]
  · cases u
    · left; funext i; unfold exch; dsimp only
      simp only [Bool.false_eq_true, if_false, Int.max_eq_left h, Int.min_eq_right h]
      by_cases h1 : i = a
      · rw [if_pos h1, h1]
      · rw [if_neg h1]
        by_cases h2 : i = b
        · rw [if_pos h2, h2]
        · rw [if_neg h2]
    · right; funext i; unfold exch swapAt; dsimp only
      simp only [if_true, Int.max_eq_left h, Int.min_eq_right h]
def Within (n : Nat) (ps : List Pr) : Prop := ∀ p ∈ ps, p.1 < p.2.1 ∧ p.2.1 < n
theorem run_perm (n : Nat) : ∀ (ps : List Pr) (x : Nat → Int), Within n ps → (lst n (run ps x)).Perm (lst n x)
  | [], _, _ => List.Perm.refl _
  | p :: ps, x, h => by
    have hp := h p (by simp)
    have ih := run_perm n ps (exch x p) (fun q hq => h q (by simp [hq]))
    refine List.Perm.trans ih ?_
    rcases exch_cases x p with e | e
    · rw [e]
    · rw [e]; exact lst_swap n x _ _ (by omega) hp.2
theorem stageL_within {n k j : Nat} (hj : 0 < j) (hn : 2 * j ∣ n) : Within n (stageL n k j) := by
  intro p hp
  unfold stageL at hp
  simp only [List.mem_map, List.mem_filter, List.mem_range] at hp
  obtain ⟨i, ⟨hi, hl⟩, rfl⟩ := hp
  have hl' : i / j % 2 = 0 := by unfold lowB at hl; simpa using hl
  have := low_add_lt hj hn hi
  rw [lowOf_self hl'] at this
  exact ⟨by show i < i + j; omega, this⟩
theorem Within.append {n : Nat} {a b : List Pr} (h : Within n a) (k : Within n b) : Within n (a ++ b) := fun p hp => by
  rcases List.mem_append.1 hp with h1 | h1
  · exact h p h1
  · exact k p h1
theorem mergeL_within (n k : Nat) : ∀ q, 2 ^ q ∣ n → Within n (mergeL n k q)
  | 0, _ => fun p hp => by simp [mergeL] at hp
  | q + 1, h => by
    have e : 2 ^ (q + 1) = 2 * 2 ^ q := by rw [Nat.pow_succ, Nat.mul_comm]
    rw [e] at h
    exact (stageL_within (two_pos q) h).append (mergeL_within n k q (Nat.dvd_trans (Nat.dvd_mul_left _ _) h))
theorem phasesL_within (n : Nat) : ∀ p, 2 ^ p ∣ n → Within n (phasesL n p)
  | 0, _ => fun p hp => by simp [phasesL] at hp
  | p + 1, h => (phasesL_within n p (Nat.dvd_trans (Nat.pow_dvd_pow 2 (by omega)) h)).append (mergeL_within n _ (p + 1) h)
def netL (p : Nat) : List Pr := phasesL (2 ^ p) p
theorem netL_within (p : Nat) : Within (2 ^ p) (netL p) := phasesL_within _ p (Nat.dvd_refl _)
theorem net_perm (p : Nat) (x : Nat → Int) : (lst (2 ^ p) (run (netL p) x)).Perm (lst (2 ^ p) x) := run_perm _ _ x (netL_within p)
theorem net_sorted (p : Nat) (x : Nat → Int) : (lst (2 ^ p) (run (netL p) x)).Pairwise (· ≤ ·) := by
  rw [List.pairwise_iff_getElem]
  intro i j hi hj hij
  rw [lst_len] at hi hj
  rw [lst_at, lst_at]
  exact run_sorted p x i j (by omega) hj
theorem low_count (j : Nat) (hj : 0 < j) : ∀ c, ((List.range (2 * j * c)).filter (lowB j)).length = j * c
  | 0 => by simp
  | c + 1 => by
    have e : 2 * j * (c + 1) = 2 * j * c + (j + j) := by rw [Nat.mul_add]; omega
    rw [e, List.range_add, List.filter_append, List.length_append, low_count j hj c, List.filter_map, List.length_map, List.range_add, List.filter_append, List.length_append]
    have h1 : (List.range j).filter (lowB j ∘ fun x => 2 * j * c + x) = List.range j := by
      rw [List.filter_eq_self]
      intro a ha
      have ha' : a < j := by simpa using ha
      simp only [Function.comp, lowB, decide_eq_true_eq]
      exact half_lo ha'
    have h2 : ((List.range j).map (fun x => j + x)).filter (lowB j ∘ fun x => 2 * j * c + x) = [] := by
      rw [List.filter_eq_nil_iff]
      intro a ha
      simp only [List.mem_map, List.mem_range] at ha
      obtain ⟨i, hi, rfl⟩ := ha
      have := half_hi (c := c) hi
      simp only [Function.comp, lowB, decide_eq_true_eq]
      omega
    rw [h1, h2]
    simp [Nat.mul_add]
theorem stageL_len {n k j : Nat} (hj : 0 < j) (hn : 2 * j ∣ n) : 2 * (stageL n k j).length = n := by
  obtain ⟨c, rfl⟩ := hn
  unfold stageL
  rw [List.length_map, low_count j hj c, Nat.mul_assoc]
theorem mergeL_len (n k : Nat) : ∀ q, 2 ^ q ∣ n → 2 * (mergeL n k q).length = q * n
  | 0, _ => by simp [mergeL]
  | q + 1, h => by
    have e : 2 ^ (q + 1) = 2 * 2 ^ q := by rw [Nat.pow_succ, Nat.mul_comm]
    rw [e] at h
    have h1 := stageL_len (k := k) (two_pos q) h
    have h2 := mergeL_len n k q (Nat.dvd_trans (Nat.dvd_mul_left _ _) h)
    rw [mergeL, List.length_append, Nat.add_mul]; omega
theorem phasesL_len (n : Nat) : ∀ p, 2 ^ p ∣ n → 4 * (phasesL n p).length = p * (p + 1) * n
  | 0, _ => by simp [phasesL]
  | p + 1, h => by
    have h1 := phasesL_len n p (Nat.dvd_trans (Nat.pow_dvd_pow 2 (by omega)) h)
    have h2 := mergeL_len n (2 ^ (p + 1)) (p + 1) h
    have e : (p + 1) * (p + 1 + 1) * n = p * (p + 1) * n + 2 * ((p + 1) * n) := by
      rw [Nat.mul_add (p + 1) (p + 1) 1, Nat.mul_one, Nat.add_mul p 1 (p + 1), Nat.one_mul, Nat.add_mul, Nat.add_mul]; omega
    rw [phasesL, List.length_append, e]; omega

theorem netL_len (p : Nat) : 4 * (netL p).length = p * (p + 1) * 2 ^ p := phasesL_len _ p (Nat.dvd_refl _)
end Go.Proofs.YtmageeohnfomnaaGreat


namespace Go.Proofs.YtmageeohnfomnaaGreat
set_option maxRecDepth 100000

abbrev Cl := Nat → Int
def turned (κ : Nat) (u : Bool) (a b : Cl) : Bool := if u then decide (b κ < a κ) else decide (a κ < b κ)
def exC (κ : Nat) (C : Nat → Cl) (p : Pr) : Nat → Cl := fun i =>
  if i = p.1 then (if turned κ p.2.2 (C p.1) (C p.2.1) then C p.2.1 else C p.1)
  else if i = p.2.1 then (if turned κ p.2.2 (C p.1) (C p.2.1) then C p.1 else C p.2.1) else C i
def runC (κ : Nat) (ps : List Pr) (C : Nat → Cl) : Nat → Cl := ps.foldl (exC κ) C
theorem runC_append (κ : Nat) (a b : List Pr) (C : Nat → Cl) : runC κ (a ++ b) C = runC κ b (runC κ a C) := List.foldl_append
theorem runC_snoc (κ : Nat) (ps : List Pr) (p : Pr) (C : Nat → Cl) : runC κ (ps ++ [p]) C = exC κ (runC κ ps C) p := by rw [runC_append]; rfl
theorem exC_key (κ : Nat) (C : Nat → Cl) (p : Pr) : (fun i => exC κ C p i κ) = exch (fun i => C i κ) p := by
  funext i
  unfold exC exch turned
  obtain ⟨a, b, u⟩ := p
  dsimp only
  by_cases h1 : i = a
  · rw [if_pos h1, if_pos h1]
    cases u
    · simp only [Bool.false_eq_true, if_false, decide_eq_true_eq]
      split <;> omega
    · simp only [if_true, decide_eq_true_eq]
      split <;> omega
  · rw [if_neg h1, if_neg h1]
    by_cases h2 : i = b
    · rw [if_pos h2, if_pos h2]
      cases u
      · simp only [Bool.false_eq_true, if_false, decide_eq_true_eq]
        split <;> omega
      · simp only [if_true, decide_eq_true_eq]
        split <;> omega
    · rw [if_neg h2, if_neg h2]
theorem runC_key (κ : Nat) : ∀ (ps : List Pr) (C : Nat → Cl), (fun i => runC κ ps C i κ) = run ps (fun i => C i κ)
  | [], _ => rfl
  | p :: ps, C => by
    show (fun i => runC κ ps (exC κ C p) i κ) = run ps (exch (fun i => C i κ) p)
    rw [runC_key κ ps (exC κ C p), exC_key]
theorem runC_word (κ : Nat) (ps : List Pr) (C : Nat → Cl) (i : Nat) : runC κ ps C i κ = run ps (fun i => C i κ) i := congrFun (runC_key κ ps C) i

def lstC (n : Nat) (C : Nat → Cl) : List Cl := (List.range n).map C
theorem lstC_len (n : Nat) (C : Nat → Cl) : (lstC n C).length = n := by simp [lstC]
theorem lstC_at (n : Nat) (C : Nat → Cl) (i : Nat) (h : i < (lstC n C).length) : (lstC n C)[i] = C i := by simp [lstC]
theorem mem_lstC {n : Nat} {C : Nat → Cl} {c : Cl} : c ∈ lstC n C ↔ ∃ i, i < n ∧ C i = c := by unfold lstC; simp [List.mem_map]
def swapC (C : Nat → Cl) (a b : Nat) : Nat → Cl := fun i => if i = a then C b else if i = b then C a else C i
theorem lstC_swap (n : Nat) (C : Nat → Cl) (a b : Nat) (ha : a < n) (hb : b < n) : (lstC n (swapC C a b)).Perm (lstC n C) := by
  have la : a < (lstC n C).length := by rw [lstC_len]; exact ha
  have lb : b < (lstC n C).length := by rw [lstC_len]; exact hb
  have e : lstC n (swapC C a b) = ((lstC n C).set a (lstC n C)[b]).set b (lstC n C)[a] := by
    apply List.ext_getElem
    · simp [lstC_len]
    · intro i h1 h2
      rw [List.getElem_set, List.getElem_set]
      simp only [lstC_at]
      unfold swapC
      by_cases hia : i = a
      · subst hia
        rw [if_pos rfl]
        by_cases hib : b = i
        · subst hib; rw [if_pos rfl]
        · rw [if_neg hib, if_pos rfl]
      · rw [if_neg hia]
        by_cases hib : i = b
        · subst hib; rw [if_pos rfl, if_pos rfl]
        · rw [if_neg hib, if_neg (fun h => hib h.symm), if_neg (fun h => hia h.symm)]
  rw [e]
  exact List.set_set_perm la lb
theorem exC_cases (κ : Nat) (C : Nat → Cl) (p : Pr) : exC κ C p = C ∨ exC κ C p = swapC C p.1 p.2.1 := by
  cases h : turned κ p.2.2 (C p.1) (C p.2.1)
  · left
    funext i
    unfold exC
    rw [h]
    by_cases h1 : i = p.1
    · rw [if_pos h1, h1]; rfl
    · rw [if_neg h1]
      by_cases h2 : i = p.2.1
      · rw [if_pos h2, h2]; rfl
      · rw [if_neg h2]
  · right
    funext i
    unfold exC swapC
    rw [h]
    by_cases h1 : i = p.1
    · rw [if_pos h1, if_pos h1]; rfl
    · rw [if_neg h1, if_neg h1]
      by_cases h2 : i = p.2.1
      · rw [if_pos h2, if_pos h2]; rfl
      · rw [if_neg h2, if_neg h2]
theorem runC_perm (κ n : Nat) : ∀ (ps : List Pr) (C : Nat → Cl), Within n ps → (lstC n (runC κ ps C)).Perm (lstC n C)
  | [], _, _ => List.Perm.refl _
  | p :: ps, C, h => by
    have hp := h p (by simp)
    refine List.Perm.trans (runC_perm κ n ps (exC κ C p) (fun q hq => h q (by simp [hq]))) ?_
    rcases exC_cases κ C p with e | e
    · rw [e]
    · rw [e]; exact lstC_swap n C _ _ (by omega) hp.2
theorem runC_from (κ n : Nat) (ps : List Pr) (C : Nat → Cl) (h : Within n ps) (i : Nat) (hi : i < n) : ∃ j, j < n ∧ runC κ ps C i = C j := by
  have h1 : runC κ ps C i ∈ lstC n C := (runC_perm κ n ps C h).mem_iff.1 (mem_lstC.2 ⟨i, hi, rfl⟩)
  obtain ⟨j, hj, e⟩ := mem_lstC.1 h1
  exact ⟨j, hj, e.symm⟩
theorem runC_all (κ n : Nat) (ps : List Pr) (C : Nat → Cl) (h : Within n ps) (Pc : Cl → Prop) (hp : ∀ j, j < n → Pc (C j)) (i : Nat) (hi : i < n) : Pc (runC κ ps C i) := by
  obtain ⟨j, hj, e⟩ := runC_from κ n ps C h i hi
  rw [e]; exact hp j hj
theorem exC_far (κ : Nat) (C : Nat → Cl) (p : Pr) (i : Nat) (h1 : i ≠ p.1) (h2 : i ≠ p.2.1) : exC κ C p i = C i := by
  unfold exC; rw [if_neg h1, if_neg h2]
theorem runC_far (κ n : Nat) : ∀ (ps : List Pr) (C : Nat → Cl), Within n ps → ∀ i, n ≤ i → runC κ ps C i = C i
  | [], _, _, _, _ => rfl
  | p :: ps, C, h, i, hi => by
    have hp := h p (by simp)
    have e : runC κ (p :: ps) C i = runC κ ps (exC κ C p) i := rfl
    rw [e, runC_far κ n ps (exC κ C p) (fun q hq => h q (by simp [hq])) i hi]
    exact exC_far κ C p i (by omega) (by omega)
theorem runC_near (κ n : Nat) : ∀ (ps : List Pr) (C D : Nat → Cl), Within n ps → (∀ i, i < n → C i = D i) → ∀ i, i < n → runC κ ps C i = runC κ ps D i
  | [], _, _, _, h, i, hi => h i hi
  | p :: ps, C, D, hw, h, i, hi => by
    have hp := hw p (by simp)
    have e : ∀ E : Nat → Cl, runC κ (p :: ps) E i = runC κ ps (exC κ E p) i := fun _ => rfl
    rw [e C, e D]
    refine runC_near κ n ps _ _ (fun q hq => hw q (by simp [hq])) (fun j hj => ?_) i hi
    unfold exC
    rw [h p.1 (by omega), h p.2.1 hp.2, h j hj]
theorem netC_sorted (κ P : Nat) (C : Nat → Cl) (i j : Nat) (hij : i ≤ j) (hj : j < 2 ^ P) : runC κ (netL P) C i κ ≤ runC κ (netL P) C j κ := by
  rw [runC_word, runC_word]
  exact run_sorted P _ i j hij hj
def looks (r : Nat) (ps : List Pr) : List (Nat × Nat × Bool) := ps.flatMap fun p => [(r, p.1, false), (r, p.2.1, false), (r, p.1, true), (r, p.2.1, true)]
theorem looks_len (r : Nat) (ps : List Pr) : (looks r ps).length = ps.length * 4 := by
  induction ps with
  | nil => rfl
  | cons p ps ih => rw [looks, List.flatMap_cons, List.length_append, ← looks, ih]; simp; omega
theorem looks_snoc (r : Nat) (ps : List Pr) (p : Pr) : looks r (ps ++ [p]) = looks r ps ++ [(r, p.1, false), (r, p.2.1, false), (r, p.1, true), (r, p.2.1, true)] := by simp [looks]
end Go.Proofs.YtmageeohnfomnaaGreat


namespace Go.Proofs.YtmageeohnfomnaaGreat
set_option maxRecDepth 100000

theorem runC_index (κ n : Nat) : ∀ (ps : List Pr) (C : Nat → Cl), Within n ps → ∃ π : Nat → Nat, (∀ i, runC κ ps C i = C (π i)) ∧ (∀ i, i < n → π i < n) ∧ ∀ i j, i < n → j < n → π i = π j → i = j
  | [], C, _ => ⟨id, fun _ => rfl, fun _ h => h, fun _ _ _ _ h => h⟩
  | p :: ps, C, h => by
    have hp := h p (by simp)
    obtain ⟨π, h1, h2, h3⟩ := runC_index κ n ps (exC κ C p) (fun q hq => h q (by simp [hq]))
    have e : ∀ i, runC κ (p :: ps) C i = exC κ C p (π i) := h1
    rcases exC_cases κ C p with hx | hx
    · exact ⟨π, fun i => by rw [e, hx], h2, h3⟩
    · refine ⟨fun i => if π i = p.1 then p.2.1 else if π i = p.2.1 then p.1 else π i, fun i => ?_, fun i hi => ?_, fun i j hi hj hij => ?_⟩
      · rw [e, hx]
        unfold swapC
        by_cases ha : π i = p.1
        · simp only [if_pos ha]
        · by_cases hb : π i = p.2.1
          · simp only [if_neg ha, if_pos hb]
          · simp only [if_neg ha, if_neg hb]
      · have := h2 i hi
        dsimp only
        split
        · exact hp.2
        · split <;> omega
      · apply h3 i j hi hj
        dsimp only at hij
        split at hij <;> split at hij <;> (try split at hij) <;> (try split at hij) <;> omega
theorem onto_of_inj {n : Nat} {π : Nat → Nat} (h1 : ∀ i, i < n → π i < n) (h2 : ∀ i j, i < n → j < n → π i = π j → i = j) : ((List.range n).map π).Perm (List.range n) := by
  have hn : ((List.range n).map π).Nodup := by
    unfold List.Nodup
    rw [List.pairwise_map]
    refine List.Pairwise.imp_of_mem ?_ List.pairwise_lt_range
    intro a b ha hb hab e
    have := h2 a b (List.mem_range.1 ha) (List.mem_range.1 hb) e
    omega
  have hs : ∀ x ∈ (List.range n).map π, x < n := fun x hx => by
    obtain ⟨i, hi, rfl⟩ := List.mem_map.1 hx
    exact h1 i (List.mem_range.1 hi)
  have h3 : ((List.range n).map π).Perm ((List.range n).filter fun x => ((List.range n).map π).contains x) :=
    (List.perm_ext_iff_of_nodup hn (nodup_up (filter_up _ n))).2 fun x => by
      rw [List.mem_filter, List.mem_range]
      constructor
      · intro hx; exact ⟨hs x hx, by simpa using hx⟩
      · intro hx; simpa using hx.2
  have h4 := List.filter_append_perm (fun x => ((List.range n).map π).contains x) (List.range n)
  have h5 := h3.length_eq
  have h6 := h4.length_eq
  rw [List.length_map, List.length_range] at h5
  rw [List.length_append, List.length_range] at h6
  have h7 : List.filter (fun x => !((List.range n).map π).contains x) (List.range n) = [] := List.eq_nil_of_length_eq_zero (by omega)
  rw [h7, List.append_nil] at h4
  exact h3.trans h4
theorem onto_at {n : Nat} {π : Nat → Nat} (h : ((List.range n).map π).Perm (List.range n)) (k : Nat) (hk : k < n) : ∃ i, i < n ∧ π i = k := by
  have : k ∈ (List.range n).map π := h.mem_iff.2 (List.mem_range.2 hk)
  obtain ⟨i, hi, e⟩ := List.mem_map.1 this
  exact ⟨i, List.mem_range.1 hi, e⟩
theorem inj_of_perm {n : Nat} {π : Nat → Nat} (h : ((List.range n).map π).Perm (List.range n)) {i j : Nat} (hi : i < n) (hj : j < n) (e : π i = π j) : i = j := by
  have hn : ((List.range n).map π).Nodup := h.nodup_iff.2 List.nodup_range
  have hp := List.pairwise_iff_getElem.1 hn
  rcases Nat.lt_trichotomy i j with h1 | h1 | h1
  · have := hp i j (by simpa using hi) (by simpa using hj) h1
    simp at this
    exact absurd e this
  · exact h1
  · have := hp j i (by simpa using hj) (by simpa using hi) h1
    simp at this
    exact absurd e.symm this
theorem lst_nat (n : Nat) (σ : Nat → Nat) : lst n (fun i => ((σ i : Nat) : Int)) = ((List.range n).map σ).map (fun x : Nat => ((x : Nat) : Int)) := by
  unfold lst
  rw [List.map_map]; rfl
theorem sort_place (κ P : Nat) (C : Nat → Cl) (σ : Nat → Nat) (hC : ∀ i, i < 2 ^ P → C i κ = (σ i : Nat)) (hσ : ((List.range (2 ^ P)).map σ).Perm (List.range (2 ^ P))) (i : Nat) (hi : i < 2 ^ P) : runC κ (netL P) C (σ i) = C i := by
  have hσi : σ i < 2 ^ P := List.mem_range.1 (hσ.mem_iff.1 (List.mem_map.2 ⟨i, List.mem_range.2 hi, rfl⟩))
  have hkeys : ∀ p, p < 2 ^ P → runC κ (netL P) C p κ = (p : Int) := by
    intro p hp
    have e1 : (lst (2 ^ P) (run (netL P) (fun j => C j κ))).Perm (lst (2 ^ P) (fun j => ((j : Nat) : Int))) := by
      refine (net_perm P _).trans ?_
      have : lst (2 ^ P) (fun j => C j κ) = lst (2 ^ P) (fun j => ((σ j : Nat) : Int)) := by
        unfold lst
        exact List.map_congr_left fun j hj => hC j (List.mem_range.1 hj)
      rw [this, lst_nat, lst_nat]
      have hid : (List.range (2 ^ P)).map (fun j => j) = List.range (2 ^ P) := by simp
      rw [hid]
      exact hσ.map _
    have e2 : (lst (2 ^ P) (fun j => ((j : Nat) : Int))).Pairwise (· ≤ ·) := by
      unfold lst
      rw [List.pairwise_map]
      exact List.pairwise_lt_range.imp fun h => by omega
    have e3 : lst (2 ^ P) (run (netL P) (fun j => C j κ)) = lst (2 ^ P) (fun j => ((j : Nat) : Int)) :=
      List.Perm.eq_of_pairwise (fun a b _ _ h1 h2 => by omega) (net_sorted P _) e2 e1
    have h1 := lst_at (2 ^ P) (run (netL P) (fun j => C j κ)) p (by rw [lst_len]; exact hp)
    have h2 := lst_at (2 ^ P) (fun j => ((j : Nat) : Int)) p (by rw [lst_len]; exact hp)
    rw [runC_word, ← h1]
    simp only [e3]
    exact h2
  obtain ⟨j, hj, e⟩ := runC_from κ (2 ^ P) (netL P) C (netL_within P) (σ i) hσi
  have h1 := hkeys (σ i) hσi
  rw [e, hC j hj] at h1
  have : j = i := inj_of_perm hσ hj hi (by omega)
  rw [e, this]

def setw (c : Cl) (k : Nat) (v : Int) : Cl := fun i => if i = k then v else c i
def nul : Cl := fun _ => 0
theorem setw_at (c : Cl) (k : Nat) (v : Int) : setw c k v k = v := by unfold setw; rw [if_pos rfl]
theorem setw_far (c : Cl) (k : Nat) (v : Int) (i : Nat) (h : i ≠ k) : setw c k v i = c i := by unfold setw; rw [if_neg h]
theorem setw_two (c : Cl) (k : Nat) (u v : Int) : setw (setw c k u) k v = setw c k v := by
  funext i
  unfold setw
  by_cases h : i = k
  · rw [if_pos h, if_pos h]
  · rw [if_neg h, if_neg h, if_neg h]
theorem setw_same (c : Cl) (k : Nat) (v : Int) (h : c k = v) : setw c k v = c := by
  funext i
  unfold setw
  by_cases e : i = k
  · rw [if_pos e, e, h]
  · rw [if_neg e]
theorem setw_nul (k : Nat) : setw nul k 0 = nul := setw_same _ _ _ rfl
def hasB (c : Cl) : Prop := c 0 = 1
def keyOf (D n : Nat) (dp : Int → Nat) (X : Nat → Cl) (i : Nat) : Int := if i < n ∧ X i 0 = 1 then ((D : Int) - (dp (X i 2) : Nat)) * 4294967296 + X i 1 else 4611686018427387904 + (i : Int)
def keyed (D n : Nat) (dp : Int → Nat) (X : Nat → Cl) (i : Nat) : Cl := setw (X i) 11 (keyOf D n dp X i)
def itemOf (dp : Int → Nat) (c : Cl) : It := if c 0 = 1 then (c 1, (dp (c 2) : Nat)) else (0, -1)
def tab1 (D n P : Nat) (dp : Int → Nat) (X : Nat → Cl) : Nat → Cl := runC 11 (netL P) (keyed D n dp X)
def tabI (D n P : Nat) (dp : Int → Nat) (X : Nat → Cl) (j : Nat) : It := itemOf dp (tab1 D n P dp X j)
def tab2 (S D T n P : Nat) (dp : Int → Nat) (X : Nat → Cl) (o : List Nat) (i : Nat) : Cl :=
  if i < n then setw (if i ∈ lostO (tabI D n P dp X) S D T o then nul else tab1 D n P dp X i) 11 ((outP (goes (tabI D n P dp X) S D T o) n i : Nat) : Int) else setw (tab1 D n P dp X i) 11 (i : Int)
def tab3 (S D T n P : Nat) (dp : Int → Nat) (X : Nat → Cl) (o : List Nat) : Nat → Cl := runC 11 (netL P) (tab2 S D T n P dp X o)
def tabY (S D T n P : Nat) (dp : Int → Nat) (X : Nat → Cl) (o : List Nat) (i : Nat) : Cl := setw (tab3 S D T n P dp X o i) 11 0
structure TabOk (D n P : Nat) (dp : Int → Nat) (X : Nat → Cl) : Prop where
  room : n ≤ 2 ^ P
  none : ∀ i, i < 2 ^ P → ¬ (i < n ∧ hasB (X i)) → X i = nul
  id0 : ∀ i, i < n → hasB (X i) → 0 ≤ X i 1 ∧ X i 1 ≤ 2147483648
  dep : ∀ i, i < n → hasB (X i) → dp (X i 2) ≤ D
  last : ∀ i, i < n → hasB (X i) → X i 11 = 0
section
variable {S D T n P : Nat} {dp : Int → Nat} {X : Nat → Cl} {o : List Nat}
theorem TabOk.at (h : TabOk D n P dp X) {i : Nat} (hi : i < 2 ^ P) (hb : hasB (X i)) : i < n := by
  apply Classical.byContradiction
  intro hn
  have := h.none i hi (fun e => hn e.1)
  rw [this] at hb
  unfold hasB nul at hb
  omega
theorem TabOk.last' (h : TabOk D n P dp X) {i : Nat} (hi : i < 2 ^ P) : setw (X i) 11 0 = X i := by
  by_cases hb : hasB (X i)
  · exact setw_same _ _ _ (h.last i (h.at hi hb) hb)
  · rw [h.none i hi (fun e => hb e.2)]; exact setw_nul 11
theorem keyed_has (i : Nat) : hasB (keyed D n dp X i) ↔ hasB (X i) := by
  unfold hasB keyed
  rw [setw_far _ _ _ _ (by decide)]
theorem TabOk.key (h : TabOk D n P dp X) {i : Nat} (hi : i < 2 ^ P) : (hasB (X i) → keyOf D n dp X i < 4611686018427387904 ∨ 1073741823 ≤ D) ∧ (¬ hasB (X i) → 4611686018427387904 ≤ keyOf D n dp X i) := by
  constructor
  · intro hb
    have hn := h.at hi hb
    have h1 := h.id0 i hn hb
    have h2 := h.dep i hn hb
    unfold keyOf
    rw [if_pos ⟨hn, hb⟩]
    omega
  · intro hb
    unfold keyOf
    rw [if_neg (fun e => hb e.2)]
    omega
theorem tab1_from : ∃ π : Nat → Nat, (∀ i, tab1 D n P dp X i = keyed D n dp X (π i)) ∧ (∀ i, i < 2 ^ P → π i < 2 ^ P) ∧ ∀ i j, i < 2 ^ P → j < 2 ^ P → π i = π j → i = j :=
  runC_index 11 (2 ^ P) (netL P) (keyed D n dp X) (netL_within P)
theorem tab1_key (i j : Nat) (hij : i ≤ j) (hj : j < 2 ^ P) : tab1 D n P dp X i 11 ≤ tab1 D n P dp X j 11 := netC_sorted 11 P _ i j hij hj
theorem keyed_key (i : Nat) : keyed D n dp X i 11 = keyOf D n dp X i := setw_at _ _ _
theorem tab1_low (h : TabOk D n P dp X) (hD : D ≤ 10) {j : Nat} (hj : j < 2 ^ P) (hb : hasB (tab1 D n P dp X j)) : j < n := by
  obtain ⟨π, h1, h2, h3⟩ := tab1_from (D := D) (n := n) (P := P) (dp := dp) (X := X)
  apply Classical.byContradiction
  intro hjn
  have hall : ∀ i, i ≤ j → π i < n := by
    intro i hi
    have hk := tab1_key (D := D) (n := n) (dp := dp) (X := X) i j hi hj
    rw [h1 i, h1 j, keyed_key, keyed_key] at hk
    have hbj : hasB (X (π j)) := by rw [h1 j] at hb; exact (keyed_has _).1 hb
    have k1 := ((h.key (h2 j hj)).1 hbj).resolve_right (by omega)
    have hbi : hasB (X (π i)) := by
      apply Classical.byContradiction
      intro hn
      have := (h.key (h2 i (by omega))).2 hn
      omega
    exact h.at (h2 i (by omega)) hbi
  have hnd : ((List.range (n + 1)).map π).Nodup := by
    unfold List.Nodup
    rw [List.pairwise_map]
    refine List.Pairwise.imp_of_mem ?_ List.pairwise_lt_range
    intro a b ha hb' hab e
    have ha := List.mem_range.1 ha
    have hb' := List.mem_range.1 hb'
    have := h3 a b (by omega) (by omega) e
    omega
  have hle := hnd.length_le_of_subset (l₂ := List.range n) fun x hx => by
    obtain ⟨i, hi, rfl⟩ := List.mem_map.1 hx
    exact List.mem_range.2 (hall i (by have := List.mem_range.1 hi; omega))
  simp at hle
  omega
theorem itemOf_real (c : Cl) : 0 ≤ (itemOf dp c).2 ↔ hasB c := by
  unfold itemOf hasB
  by_cases h : c 0 = 1
  · rw [if_pos h]; simp [h]
  · rw [if_neg h]; simp [h]
theorem tab_all (h : TabOk D n P dp X) (hD : D ≤ 10) (hS : 0 < S) (hn : n = (D + 1) * S + T + 1) (ho : IsOrd (tabI D n P dp X) n o) :
    ∃ g : Nat → Option Nat, (∀ k i, k < n → g k = some i → hasB (X k) ∧ i < n - 1 ∧ tabY S D T n P dp X o i = X k ∧ (i < (D + 1) * S → i / S ≤ dp (X k 2))) ∧
      (∀ k l i, k < n → l < n → g k = some i → g l = some i → k = l) ∧ (∀ i, i < n - 1 → (∀ k, k < n → g k ≠ some i) → tabY S D T n P dp X o i = nul) ∧
      (lostO (tabI D n P dp X) S D T o = [] → ∀ k, k < n → hasB (X k) → ∃ i, g k = some i) := by
  obtain ⟨π, h1, h2, h3⟩ := tab1_from (D := D) (n := n) (P := P) (dp := dp) (X := X)
  have hon := onto_of_inj h2 h3
  have hN := h.room
  -- the way back
  have hback : ∀ k, ∃ j, k < 2 ^ P → j < 2 ^ P ∧ π j = k := fun k => by
    by_cases hk : k < 2 ^ P
    · obtain ⟨j, hj, e⟩ := onto_at hon k hk
      exact ⟨j, fun _ => ⟨hj, e⟩⟩
    · exact ⟨0, fun hk' => absurd hk' hk⟩
  obtain ⟨ρ, hρ⟩ : ∃ ρ : Nat → Nat, ∀ k, k < 2 ^ P → ρ k < 2 ^ P ∧ π (ρ k) = k := ⟨fun k => Classical.choose (hback k), fun k hk => Classical.choose_spec (hback k) hk⟩
  have hρπ : ∀ j, j < 2 ^ P → ρ (π j) = j := fun j hj => h3 _ _ (hρ _ (h2 j hj)).1 hj (hρ _ (h2 j hj)).2
  have hcell : ∀ j, tab1 D n P dp X j = setw (X (π j)) 11 (keyOf D n dp X (π j)) := fun j => h1 j
  have hreal : ∀ j, 0 ≤ (tabI D n P dp X j).2 ↔ hasB (X (π j)) := fun j => by
    unfold tabI
    rw [itemOf_real, h1 j, keyed_has]
  have hdeep : ∀ j, hasB (X (π j)) → (tabI D n P dp X j).2 = (dp (X (π j) 2) : Nat) := fun j hb => by
    unfold tabI itemOf
    rw [hcell j, setw_far _ _ _ 0 (by decide), setw_far _ _ _ 2 (by decide), if_pos (show X (π j) 0 = 1 from hb)]
  -- the second sorting
  have hperm := goes_perm (T := T) hS (show (D + 1) * S + T < n by omega) ho
  have hσ : ((List.range (2 ^ P)).map fun i => if i < n then outP (goes (tabI D n P dp X) S D T o) n i else i).Perm (List.range (2 ^ P)) := by
    refine onto_of_inj (fun i hi => ?_) (fun i j hi hj e => ?_)
    · by_cases hin : i < n
      · rw [if_pos hin]
        have : outP (goes (tabI D n P dp X) S D T o) n i < n := List.mem_range.1 (hperm.mem_iff.1 (List.mem_map.2 ⟨i, List.mem_range.2 hin, rfl⟩))
        omega
      · rw [if_neg hin]; exact hi
    · have hlt : ∀ i, i < n → outP (goes (tabI D n P dp X) S D T o) n i < n := fun i hin => List.mem_range.1 (hperm.mem_iff.1 (List.mem_map.2 ⟨i, List.mem_range.2 hin, rfl⟩))
      by_cases hin : i < n
      · by_cases hjn : j < n
        · rw [if_pos hin, if_pos hjn] at e
          exact inj_of_perm hperm hin hjn e
        · rw [if_pos hin, if_neg hjn] at e
          have := hlt i hin; omega
      · by_cases hjn : j < n
        · rw [if_neg hin, if_pos hjn] at e
          have := hlt j hjn; omega
        · rw [if_neg hin, if_neg hjn] at e; exact e
  have h3rd : ∀ j, j < n → tabY S D T n P dp X o (outP (goes (tabI D n P dp X) S D T o) n j) = setw (if j ∈ lostO (tabI D n P dp X) S D T o then nul else tab1 D n P dp X j) 11 0 := fun j hj => by
    have := sort_place 11 P (tab2 S D T n P dp X o) _ (fun i hi => ?_) hσ j (by omega)
    · rw [if_pos hj] at this
      unfold tabY tab3
      rw [this]
      unfold tab2
      rw [if_pos hj, setw_two]
    · unfold tab2
      by_cases hin : i < n
      · rw [if_pos hin, setw_at, if_pos hin]
      · rw [if_neg hin, setw_at, if_neg hin]
  have hlow : ∀ k, k < n → hasB (X k) → ρ k < n := fun k hk hb => by
    obtain ⟨a, b⟩ := hρ k (by omega)
    refine tab1_low h hD a ?_
    rw [h1, keyed_has, b]
    exact hb
  refine ⟨fun k => goes (tabI D n P dp X) S D T o (ρ k), fun k i hk hg => ?_, fun k l i hk hl hg hg' => ?_, fun i hi hno => ?_, fun hl k hk hb => ?_⟩
  · have hg : goes (tabI D n P dp X) S D T o (ρ k) = some i := hg
    obtain ⟨a, b⟩ := hρ k (by omega)
    obtain ⟨c1, c2⟩ := goes_real ho hg
    have hb : hasB (X k) := by rw [hreal, b] at c2; exact c2
    have c3 := goes_lt hS ho hg
    refine ⟨hb, by omega, ?_, fun hi => ?_⟩
    · have := h3rd (ρ k) c1
      rw [out_some hg] at this
      rw [this, if_neg (fun hm => by rw [((lost_mem ho _).1 hm).2] at hg; cases hg), hcell, setw_two, b]
      exact h.last' (by omega)
    · have := goes_deep hS ho hg hi
      rw [hdeep _ (by rw [b]; exact hb), b] at this
      omega
  · have := goes_inj hS ho hg hg'
    have e1 := (hρ k (by omega)).2
    have e2 := (hρ l (by omega)).2
    rw [← e1, ← e2, this]
  · obtain ⟨j, hj, e⟩ := onto_at hperm i (by omega)
    have := h3rd j hj
    rw [e] at this
    rw [this]
    by_cases hm : j ∈ lostO (tabI D n P dp X) S D T o
    · rw [if_pos hm]; exact setw_nul 11
    · rw [if_neg hm]
      cases hg : goes (tabI D n P dp X) S D T o j with
      | some p =>
        rw [out_some hg] at e
        subst e
        have hjN : j < 2 ^ P := by omega
        have c2 := (goes_real ho hg).2
        rw [hreal] at c2
        refine absurd ?_ (hno (π j) (h.at (h2 j hjN) c2))
        show goes (tabI D n P dp X) S D T o (ρ (π j)) = _
        rw [hρπ j hjN]; exact hg
      | none =>
        have hnr : ¬ hasB (X (π j)) := fun hb => hm ((lost_mem ho j).2 ⟨⟨hj, (hreal j).2 hb⟩, hg⟩)
        rw [hcell, setw_two, h.none _ (h2 j (by omega)) (fun e => hnr e.2)]
        exact setw_nul 11
  · obtain ⟨a, b⟩ := hρ k (by omega)
    cases hg : goes (tabI D n P dp X) S D T o (ρ k) with
    | some i => exact ⟨i, hg⟩
    | none =>
      have : ρ k ∈ lostO (tabI D n P dp X) S D T o := (lost_mem ho _).2 ⟨⟨hlow k hk hb, (hreal _).2 (by rw [b]; exact hb)⟩, hg⟩
      rw [hl] at this
      cases this
end
end Go.Proofs.YtmageeohnfomnaaGreat


namespace Go.Proofs.YtmageeohnfomnaaGreat
set_option maxRecDepth 100000

def blk (id : Int) (lf : Nat) (d : Nat → Int) : Cl := fun i => if i = 0 then 1 else if i = 1 then id else if i = 2 then (lf : Int) else if i < 11 then d (i - 3) else 0
theorem blk_has (id : Int) (lf : Nat) (d : Nat → Int) : hasB (blk id lf d) := rfl
theorem blk_id (id : Int) (lf : Nat) (d : Nat → Int) : blk id lf d 1 = id := rfl
theorem blk_leaf (id : Int) (lf : Nat) (d : Nat → Int) : blk id lf d 2 = (lf : Int) := rfl
theorem nul_has : ¬ hasB nul := by unfold hasB nul; omega
abbrev Pl := Nat × Nat
def isPl (S D T : Nat) (q : Pl) : Prop := q.1 = 0 ∧ q.2 < S * (2 * 2 ^ D - 1) ∨ q.1 = 1 ∧ q.2 < T
def mayLie (S D : Nat) (q : Pl) (lf : Nat) : Prop := q.1 = 0 → ∃ k, k ≤ D ∧ nd D lf k = q.2 / S
def wayQ (S D from' i : Nat) : Pl := if i < (D + 1) * S then (0, nd D from' (i / S) * S + i % S) else (1, i - (D + 1) * S)
section
variable {S D T from' : Nat}
theorem wayQ_is (hS : 0 < S) (hf : from' < 2 ^ D) {i : Nat} (hi : i < (D + 1) * S + T) : isPl S D T (wayQ S D from' i) := by
  unfold wayQ isPl
  by_cases h : i < (D + 1) * S
  · rw [if_pos h]
    left
    refine ⟨rfl, ?_⟩
    have h1 : i / S < D + 1 := (Nat.div_lt_iff_lt_mul hS).2 h
    have h2 := nd_in D from' (i / S) (by omega) hf
    have h3 := Nat.mod_lt i hS
    have h4 : (nd D from' (i / S) + 1) * S ≤ (2 * 2 ^ D - 1) * S := Nat.mul_le_mul_right _ h2
    rw [Nat.add_mul, Nat.one_mul] at h4
    rw [Nat.mul_comm S]
    show nd D from' (i / S) * S + i % S < _
    omega
  · rw [if_neg h]
    right
    exact ⟨rfl, by show i - (D + 1) * S < T; omega⟩
theorem wayQ_inj (hS : 0 < S) (hf : from' < 2 ^ D) {i j : Nat} (h : wayQ S D from' i = wayQ S D from' j) : i = j := by
  unfold wayQ at h
  by_cases hi : i < (D + 1) * S
  · by_cases hj : j < (D + 1) * S
    · rw [if_pos hi, if_pos hj] at h
      injection h with _ h
      have h1 : i / S < D + 1 := (Nat.div_lt_iff_lt_mul hS).2 hi
      have h2 : j / S < D + 1 := (Nat.div_lt_iff_lt_mul hS).2 hj
      have m1 := Nat.mod_lt i hS
      have m2 := Nat.mod_lt j hS
      have e1 := congrArg (fun x => x / S) h
      have e2 := congrArg (fun x => x % S) h
      simp only [Nat.mul_comm _ S, Nat.mul_add_div hS, Nat.mul_add_mod, Nat.mod_mod, Nat.div_eq_of_lt m1, Nat.div_eq_of_lt m2, Nat.add_zero] at e1 e2
      have e3 := nd_depth D from' from' (i / S) (j / S) (by omega) (by omega) hf hf e1
      have d1 := Nat.div_add_mod i S
      have d2 := Nat.div_add_mod j S
      rw [← d1, ← d2, e3, e2]
    · rw [if_pos hi, if_neg hj] at h
      injection h with h _; omega
  · by_cases hj : j < (D + 1) * S
    · rw [if_neg hi, if_pos hj] at h
      injection h with h _; omega
    · rw [if_neg hi, if_neg hj] at h
      injection h with _ h; omega
theorem wayQ_onto (hS : 0 < S) {q : Pl} (hq : isPl S D T q) (hm : mayLie S D q from') : ∃ i, i < (D + 1) * S + T ∧ wayQ S D from' i = q := by
  obtain ⟨r, a⟩ := q
  rcases hq with ⟨h1, h2⟩ | ⟨h1, h2⟩
  · obtain ⟨k, hk, e⟩ := hm h1
    have h1 : r = 0 := h1
    have e : nd D from' k = a / S := e
    subst h1
    have m1 := Nat.mod_lt a hS
    have hlt : S * k + a % S < (D + 1) * S := by
      have : (k + 1) * S ≤ (D + 1) * S := Nat.mul_le_mul_right _ (by omega)
      rw [Nat.add_mul, Nat.one_mul, Nat.mul_comm] at this
      omega
    refine ⟨S * k + a % S, by omega, ?_⟩
    unfold wayQ
    rw [if_pos hlt, Nat.mul_add_div hS, Nat.mul_add_mod, Nat.mod_mod, Nat.div_eq_of_lt m1, Nat.add_zero, e]
    have := Nat.div_add_mod a S
    rw [Nat.mul_comm, this]
  · have h1 : r = 1 := h1
    have h2 : a < T := h2
    subst h1
    refine ⟨(D + 1) * S + a, by omega, ?_⟩
    unfold wayQ
    rw [if_neg (by omega)]
    congr 1
    omega
theorem wayQ_may (hS : 0 < S) (hf : from' < 2 ^ D) {lf i : Nat} (hl : lf < 2 ^ D) (h : i < (D + 1) * S → i / S ≤ deep D from' lf D) : mayLie S D (wayQ S D from' i) lf := by
  unfold mayLie wayQ
  by_cases hi : i < (D + 1) * S
  · rw [if_pos hi]
    intro _
    have h1 : i / S < D + 1 := (Nat.div_lt_iff_lt_mul hS).2 hi
    have h2 := (deep_iff D from' lf hf hl (i / S) (by omega)).2 (h hi)
    refine ⟨i / S, by omega, ?_⟩
    show _ = (nd D from' (i / S) * S + i % S) / S
    rw [Nat.mul_comm, Nat.mul_add_div hS, Nat.div_eq_of_lt (Nat.mod_lt i hS), Nat.add_zero, h2]
  · rw [if_neg hi]
    intro h
    have : (1 : Nat) = 0 := h
    omega
end
abbrev Bm := Int → Option (Nat × (Nat → Int))
structure LvInv (S D T : Nat) (E : Pl → Cl) (m : Bm) : Prop where
  cell : ∀ q, isPl S D T q → E q = nul ∨ ∃ id lf d, m id = some (lf, d) ∧ E q = blk id lf d ∧ mayLie S D q lf
  once : ∀ q q', isPl S D T q → isPl S D T q' → hasB (E q) → hasB (E q') → E q 1 = E q' 1 → q = q'
  here : ∀ id lf d, m id = some (lf, d) → ∃ q, isPl S D T q ∧ E q = blk id lf d
  rng : ∀ id lf d, m id = some (lf, d) → (0 ≤ id ∧ id ≤ 2147483648) ∧ lf < 2 ^ D
theorem LvInv.new (S D T : Nat) : LvInv S D T (fun _ => nul) (fun _ => none) :=
  ⟨fun _ _ => .inl rfl, fun _ _ _ _ h => absurd h nul_has, fun _ _ _ h => (by cases h), fun _ _ _ h => (by cases h)⟩
def laidX (S D T from' : Nat) (E : Pl → Cl) (id : Int) (nb : Cl) (i : Nat) : Cl :=
  if i < (D + 1) * S + T then (if E (wayQ S D from' i) 0 = 1 ∧ E (wayQ S D from' i) 1 = id then nul else E (wayQ S D from' i)) else if i = (D + 1) * S + T then nb else nul
def dpW (D from' : Nat) (x : Int) : Nat := deep D from' x.toNat D
def setB (m : Bm) (id : Int) (b : Option (Nat × (Nat → Int))) : Bm := fun i => if i = id then b else m i
section
variable {S D T from' : Nat} {E E' : Pl → Cl} {m : Bm} {id : Int}
theorem LvInv.find (h : LvInv S D T E m) (hS : 0 < S) (hf : from' < 2 ^ D) (hat : ∀ lf d, m id = some (lf, d) → lf = from') :
    (∀ lf d, m id = some (lf, d) → ∃ i, i < (D + 1) * S + T ∧ E (wayQ S D from' i) = blk id from' d) ∧
    (∀ i, i < (D + 1) * S + T → hasB (E (wayQ S D from' i)) → E (wayQ S D from' i) 1 = id → ∃ d, m id = some (from', d) ∧ E (wayQ S D from' i) = blk id from' d) := by
  constructor
  · intro lf d hd
    have hlf := hat lf d hd
    subst hlf
    obtain ⟨q, hq, e⟩ := h.here id lf d hd
    rcases h.cell q hq with h1 | ⟨id', lf', d', h1, h2, h3⟩
    · rw [e] at h1
      exact absurd (blk_has id lf d) (by rw [h1]; exact nul_has)
    · rw [e] at h2
      have e1 : id = id' := congrFun h2 1
      subst e1
      rw [hd] at h1
      injection h1 with h1
      injection h1 with h1 _
      subst h1
      obtain ⟨i, hi, e2⟩ := wayQ_onto hS hq h3
      exact ⟨i, hi, by rw [e2]; exact e⟩
  · intro i hi hb h1
    rcases h.cell _ (wayQ_is hS hf hi) with h2 | ⟨id', lf', d', h2, h3, h4⟩
    · rw [h2] at hb; exact absurd hb nul_has
    · rw [h3, blk_id] at h1
      subst h1
      have := hat lf' d' h2
      subst this
      exact ⟨d', h2, h3⟩
def cellB (id : Int) : Option (Nat × (Nat → Int)) → Cl
  | some (lf, d) => blk id lf d
  | none => nul
theorem LvInv.laid (h : LvInv S D T E m) (hS : 0 < S) (hf : from' < 2 ^ D) (nb : Option (Nat × (Nat → Int))) (i : Nat) :
    laidX S D T from' E id (cellB id nb) i = nul ∨
    (i < (D + 1) * S + T ∧ laidX S D T from' E id (cellB id nb) i = E (wayQ S D from' i) ∧ ∃ id' lf d, id' ≠ id ∧ m id' = some (lf, d) ∧ E (wayQ S D from' i) = blk id' lf d) ∨
    (i = (D + 1) * S + T ∧ ∃ lf d, nb = some (lf, d) ∧ laidX S D T from' E id (cellB id nb) i = blk id lf d) := by
  unfold laidX
  by_cases hi : i < (D + 1) * S + T
  · rw [if_pos hi]
    by_cases hc : E (wayQ S D from' i) 0 = 1 ∧ E (wayQ S D from' i) 1 = id
    · rw [if_pos hc]; exact .inl rfl
    · rw [if_neg hc]
      rcases h.cell _ (wayQ_is hS hf hi) with h2 | ⟨id', lf', d', h2, h3, h4⟩
      · exact .inl h2
      · refine .inr (.inl ⟨hi, rfl, id', lf', d', fun e => hc ?_, h2, h3⟩)
        rw [h3]
        exact ⟨rfl, e⟩
  · rw [if_neg hi]
    by_cases he : i = (D + 1) * S + T
    · rw [if_pos he]
      cases nb with
      | none => exact .inl rfl
      | some b =>
        obtain ⟨lf, d⟩ := b
        exact .inr (.inr ⟨he, lf, d, rfl, rfl⟩)
    · rw [if_neg he]; exact .inl rfl
theorem LvInv.tab (h : LvInv S D T E m) (hS : 0 < S) (hf : from' < 2 ^ D) (hid : 0 ≤ id ∧ id ≤ 2147483648) (nb : Option (Nat × (Nat → Int))) {n P : Nat} (hn : n = (D + 1) * S + T + 1) (hP : n ≤ 2 ^ P) :
    TabOk D n P (dpW D from') (laidX S D T from' E id (cellB id nb)) := by
  refine ⟨hP, fun i _ hno => ?_, fun i _ hb => ?_, fun i _ hb => ?_, fun i _ hb => ?_⟩
  · rcases h.laid (id := id) hS hf nb i with h1 | ⟨h1, h2, id', lf, d, h3, h4, h5⟩ | ⟨h1, lf, d, h2, h3⟩
    · exact h1
    · exact absurd ⟨by omega, by rw [h2, h5]; exact blk_has _ _ _⟩ hno
    · exact absurd ⟨by omega, by rw [h3]; exact blk_has _ _ _⟩ hno
  · rcases h.laid (id := id) hS hf nb i with h1 | ⟨h1, h2, id', lf, d, h3, h4, h5⟩ | ⟨h1, lf, d, h2, h3⟩
    · rw [h1] at hb; exact absurd hb nul_has
    · rw [h2, h5, blk_id]; exact (h.rng _ _ _ h4).1
    · rw [h3, blk_id]; exact hid
  · exact deep_le _ _ _ _
  · rcases h.laid (id := id) hS hf nb i with h1 | ⟨h1, h2, id', lf, d, h3, h4, h5⟩ | ⟨h1, lf, d, h2, h3⟩
    · rw [h1] at hb; exact absurd hb nul_has
    · rw [h2, h5]; rfl
    · rw [h3]; rfl
theorem LvInv.laid_once (h : LvInv S D T E m) (hS : 0 < S) (hf : from' < 2 ^ D) (nb : Option (Nat × (Nat → Int))) {k l : Nat} (hk : hasB (laidX S D T from' E id (cellB id nb) k)) (hl : hasB (laidX S D T from' E id (cellB id nb) l))
    (e : laidX S D T from' E id (cellB id nb) k 1 = laidX S D T from' E id (cellB id nb) l 1) : k = l := by
  rcases h.laid (id := id) hS hf nb k with h1 | ⟨h1, h2, id1, lf1, d1, h3, h4, h5⟩ | ⟨h1, lf1, d1, h2, h3⟩
  · rw [h1] at hk; exact absurd hk nul_has
  · rcases h.laid (id := id) hS hf nb l with g1 | ⟨g1, g2, id2, lf2, d2, g3, g4, g5⟩ | ⟨g1, lf2, d2, g2, g3⟩
    · rw [g1] at hl; exact absurd hl nul_has
    · rw [h2, g2] at e
      have := h.once _ _ (wayQ_is hS hf h1) (wayQ_is hS hf g1) (by rw [h5]; exact blk_has _ _ _) (by rw [g5]; exact blk_has _ _ _) e
      exact wayQ_inj hS hf this
    · rw [h2, h5, g3, blk_id, blk_id] at e; exact absurd e h3
  · rcases h.laid (id := id) hS hf nb l with g1 | ⟨g1, g2, id2, lf2, d2, g3, g4, g5⟩ | ⟨g1, lf2, d2, g2, g3⟩
    · rw [g1] at hl; exact absurd hl nul_has
    · rw [h3, g2, g5, blk_id, blk_id] at e; exact absurd e.symm g3
    · rw [h1, g1]
theorem LvInv.next (h : LvInv S D T E m) (hS : 0 < S) (hD : D ≤ 10) (hf : from' < 2 ^ D) (hat : ∀ lf d, m id = some (lf, d) → lf = from') (hid : 0 ≤ id ∧ id ≤ 2147483648)
    (nb : Option (Nat × (Nat → Int))) (hnb : ∀ lf d, nb = some (lf, d) → lf < 2 ^ D) {n P : Nat} (hn : n = (D + 1) * S + T + 1) (hP : n ≤ 2 ^ P) {o : List Nat}
    (ho : IsOrd (tabI D n P (dpW D from') (laidX S D T from' E id (cellB id nb))) n o) (hlost : lostO (tabI D n P (dpW D from') (laidX S D T from' E id (cellB id nb))) S D T o = [])
    (hY : ∀ i, i < (D + 1) * S + T → E' (wayQ S D from' i) = tabY S D T n P (dpW D from') (laidX S D T from' E id (cellB id nb)) o i)
    (hfar : ∀ q, isPl S D T q → (∀ i, i < (D + 1) * S + T → wayQ S D from' i ≠ q) → E' q = E q) : LvInv S D T E' (setB m id nb) := by
  have hok := h.tab hS hf hid nb hn hP
  obtain ⟨g, g1, g2, g3, g4⟩ := tab_all hok hD hS hn ho
  have hlaid := fun k => h.laid (id := id) hS hf nb k
  have honce := fun k l => h.laid_once (id := id) hS hf nb (k := k) (l := l)
  have hold : ∀ i, i < (D + 1) * S + T → ∀ id' lf d, id' ≠ id → E (wayQ S D from' i) = blk id' lf d → laidX S D T from' E id (cellB id nb) i = blk id' lf d := fun i hi id' lf d hne e => by
    unfold laidX
    rw [if_pos hi, if_neg (fun hc => hne (by rw [e, blk_id] at hc; exact hc.2)), e]
  have hnew : ∀ {lf d}, nb = some (lf, d) → laidX S D T from' E id (cellB id nb) ((D + 1) * S + T) = blk id lf d := fun {lf d} e => by
    unfold laidX
    rw [if_neg (by omega), if_pos rfl, e]
    rfl
  generalize laidX S D T from' E id (cellB id nb) = X at *
  have hother : ∀ id' b, id' ≠ id → m id' = some b → setB m id nb id' = some b := fun id' b h1 h2 => by unfold setB; rw [if_neg h1]; exact h2
  have hself : ∀ b, nb = some b → setB m id nb id = some b := fun b h1 => by unfold setB; rw [if_pos rfl]; exact h1
  -- what each laid block is
  have hX : ∀ k, k < n → hasB (X k) → ∃ id' lf d, setB m id nb id' = some (lf, d) ∧ X k = blk id' lf d ∧ lf < 2 ^ D := fun k _ hb => by
    rcases hlaid k with h1 | ⟨h1, h2, id', lf, d, h3, h4, h5⟩ | ⟨h1, lf, d, h2, h3⟩
    · rw [h1] at hb; exact absurd hb nul_has
    · exact ⟨id', lf, d, hother _ _ h3 h4, by rw [h2, h5], (h.rng _ _ _ h4).2⟩
    · exact ⟨id, lf, d, hself _ h2, h3, hnb lf d h2⟩
  -- what stands on the way
  have hon : ∀ i, i < (D + 1) * S + T → E' (wayQ S D from' i) = nul ∨ ∃ k, k < n ∧ g k = some i ∧ hasB (X k) ∧ E' (wayQ S D from' i) = X k ∧ (i < (D + 1) * S → i / S ≤ dpW D from' (X k 2)) := fun i hi => by
    by_cases hk : ∃ k, k < n ∧ g k = some i
    · obtain ⟨k, hk, e⟩ := hk
      obtain ⟨c1, c2, c3, c4⟩ := g1 k i hk e
      exact .inr ⟨k, hk, e, c1, by rw [hY i hi, c3], c4⟩
    · left
      rw [hY i hi]
      exact g3 i (by omega) (fun k hk' e => hk ⟨k, hk', e⟩)
  -- what stands elsewhere
  have hoff : ∀ q, isPl S D T q → (∀ i, i < (D + 1) * S + T → wayQ S D from' i ≠ q) → E' q = E q ∧ (hasB (E q) → E q 1 ≠ id) := fun q hq hno => by
    refine ⟨hfar q hq hno, fun hb e => ?_⟩
    rcases h.cell q hq with h1 | ⟨id', lf, d, h1, h2, h3⟩
    · rw [h1] at hb; exact nul_has hb
    · rw [h2, blk_id] at e
      subst e
      have := hat lf d h1
      subst this
      obtain ⟨i, hi, e2⟩ := wayQ_onto hS hq h3
      exact hno i hi e2
  refine ⟨fun q hq => ?_, fun q q' hq hq' hb hb' e => ?_, fun id' lf d hm' => ?_, fun id' lf d hm' => ?_⟩
  · by_cases hw : ∃ i, i < (D + 1) * S + T ∧ wayQ S D from' i = q
    · obtain ⟨i, hi, rfl⟩ := hw
      rcases hon i hi with h1 | ⟨k, hk, _, hb, h1, h2⟩
      · exact .inl h1
      · obtain ⟨id', lf, d, h3, h4, h5⟩ := hX k hk hb
        refine .inr ⟨id', lf, d, h3, by rw [h1, h4], wayQ_may hS hf h5 fun hi' => ?_⟩
        have := h2 hi'
        rw [h4, blk_leaf] at this
        exact this
    · have hno : ∀ i, i < (D + 1) * S + T → wayQ S D from' i ≠ q := fun i hi e => hw ⟨i, hi, e⟩
      obtain ⟨h1, h2⟩ := hoff q hq hno
      rw [h1]
      rcases h.cell q hq with h3 | ⟨id', lf, d, h3, h4, h5⟩
      · exact .inl h3
      · refine .inr ⟨id', lf, d, hother _ _ (fun e => ?_) h3, h4, h5⟩
        exact h2 (by rw [h4]; exact blk_has _ _ _) (by rw [h4]; exact e)
  · by_cases hw : ∃ i, i < (D + 1) * S + T ∧ wayQ S D from' i = q
    · obtain ⟨i, hi, rfl⟩ := hw
      rcases hon i hi with h1 | ⟨k, hk, gk, hbk, h1, _⟩
      · rw [h1] at hb; exact absurd hb nul_has
      · by_cases hw' : ∃ i, i < (D + 1) * S + T ∧ wayQ S D from' i = q'
        · obtain ⟨i', hi', rfl⟩ := hw'
          rcases hon i' hi' with h1' | ⟨k', hk', gk', hbk', h1', _⟩
          · rw [h1'] at hb'; exact absurd hb' nul_has
          · rw [h1, h1'] at e
            have := honce k k' hbk hbk' e
            subst this
            rw [gk] at gk'
            injection gk' with gk'
            rw [gk']
        · have hno : ∀ i, i < (D + 1) * S + T → wayQ S D from' i ≠ q' := fun i hi e => hw' ⟨i, hi, e⟩
          obtain ⟨h2, h3⟩ := hoff q' hq' hno
          rw [h2] at hb' e
          rw [h1] at e
          exfalso
          rcases hlaid k with h4 | ⟨h4, h5, _⟩ | ⟨_, lf, d, _, h5⟩
          · rw [h4] at hbk; exact nul_has hbk
          · rw [h5] at e hbk
            exact hno k h4 (h.once _ _ (wayQ_is hS hf h4) hq' hbk hb' e)
          · rw [h5, blk_id] at e
            exact h3 hb' e.symm
    · have hno : ∀ i, i < (D + 1) * S + T → wayQ S D from' i ≠ q := fun i hi e => hw ⟨i, hi, e⟩
      obtain ⟨h2, h3⟩ := hoff q hq hno
      rw [h2] at hb e
      by_cases hw' : ∃ i, i < (D + 1) * S + T ∧ wayQ S D from' i = q'
      · obtain ⟨i', hi', rfl⟩ := hw'
        rcases hon i' hi' with h1' | ⟨k', hk', gk', hbk', h1', _⟩
        · rw [h1'] at hb'; exact absurd hb' nul_has
        · rw [h1'] at e
          exfalso
          rcases hlaid k' with h4 | ⟨h4, h5, _⟩ | ⟨_, lf, d, _, h5⟩
          · rw [h4] at hbk'; exact nul_has hbk'
          · rw [h5] at e hbk'
            exact hno k' h4 (h.once _ _ hq (wayQ_is hS hf h4) hb hbk' e).symm
          · rw [h5, blk_id] at e
            exact h3 hb e
      · have hno' : ∀ i, i < (D + 1) * S + T → wayQ S D from' i ≠ q' := fun i hi e => hw' ⟨i, hi, e⟩
        obtain ⟨h2', h3'⟩ := hoff q' hq' hno'
        rw [h2'] at hb' e
        exact h.once q q' hq hq' hb hb' e
  · -- each block is there
    have hfind : ∀ k, k < n → X k = blk id' lf d → ∃ q, isPl S D T q ∧ E' q = blk id' lf d := fun k hk hx => by
      obtain ⟨i, hi⟩ := g4 hlost k hk (by rw [hx]; exact blk_has _ _ _)
      obtain ⟨c1, c2, c3, _⟩ := g1 k i hk hi
      have hi2 : i < (D + 1) * S + T := by omega
      exact ⟨_, wayQ_is hS hf hi2, by rw [hY i hi2, c3, hx]⟩
    by_cases e : id' = id
    · subst e
      have hb : nb = some (lf, d) := by unfold setB at hm'; rw [if_pos rfl] at hm'; exact hm'
      exact hfind ((D + 1) * S + T) (by omega) (hnew hb)
    · have hm : m id' = some (lf, d) := by unfold setB at hm'; rw [if_neg e] at hm'; exact hm'
      obtain ⟨q, hq, hqE⟩ := h.here id' lf d hm
      by_cases hw : ∃ i, i < (D + 1) * S + T ∧ wayQ S D from' i = q
      · obtain ⟨i, hi, rfl⟩ := hw
        exact hfind i (by omega) (hold i hi id' lf d e hqE)
      · have hno : ∀ i, i < (D + 1) * S + T → wayQ S D from' i ≠ q := fun i hi e => hw ⟨i, hi, e⟩
        exact ⟨q, hq, by rw [(hoff q hq hno).1]; exact hqE⟩
  · by_cases e : id' = id
    · subst e
      have hb : nb = some (lf, d) := by unfold setB at hm'; rw [if_pos rfl] at hm'; exact hm'
      exact ⟨hid, hnb lf d hb⟩
    · have hm : m id' = some (lf, d) := by unfold setB at hm'; rw [if_neg e] at hm'; exact hm'
      exact h.rng _ _ _ hm
theorem LvInv.room (h : LvInv S D T E m) (hS : 0 < S) (hf : from' < 2 ^ D) (nb : Option (Nat × (Nat → Int))) {n P : Nat} (hn : n = (D + 1) * S + T + 1) (hP : n ≤ 2 ^ P) {o : List Nat}
    (ho : IsOrd (tabI D n P (dpW D from') (laidX S D T from' E id (cellB id nb))) n o) (I : List Int) (hI : ∀ id' b, setB m id nb id' = some b → id' ∈ I) (hlen : I.length ≤ T) :
    lostO (tabI D n P (dpW D from') (laidX S D T from' E id (cellB id nb))) S D T o = [] := by
  have hlaid := fun k => h.laid (id := id) hS hf nb k
  have honce := fun k l => h.laid_once (id := id) hS hf nb (k := k) (l := l)
  generalize laidX S D T from' E id (cellB id nb) = X at *
  obtain ⟨π, h1, h2, h3⟩ := tab1_from (D := D) (n := n) (P := P) (dp := dpW D from') (X := X)
  have hw : ∀ j, tab1 D n P (dpW D from') X j 1 = X (π j) 1 := fun j => by
    rw [h1]; unfold keyed; rw [setw_far _ _ _ _ (by decide)]
  have hr : ∀ j, 0 ≤ (tabI D n P (dpW D from') X j).2 ↔ hasB (X (π j)) := fun j => by
    unfold tabI
    rw [itemOf_real, h1 j, keyed_has]
  have hfew := lost_few (S := S) (D := D) (T := T) hS ho
  have hcount : (List.range n).countP (fun i => decide (0 ≤ (tabI D n P (dpW D from') X i).2)) ≤ I.length := by
    rw [List.countP_eq_length_filter]
    have hnd : (((List.range n).filter fun i => decide (0 ≤ (tabI D n P (dpW D from') X i).2)).map fun j => X (π j) 1).Nodup := by
      unfold List.Nodup
      rw [List.pairwise_map]
      refine List.Pairwise.imp_of_mem ?_ (filter_up (fun i => decide (0 ≤ (tabI D n P (dpW D from') X i).2)) n)
      intro a b ha hb hab e
      obtain ⟨a1, a2⟩ := List.mem_filter.1 ha
      obtain ⟨b1, b2⟩ := List.mem_filter.1 hb
      have a1 := List.mem_range.1 a1
      have b1 := List.mem_range.1 b1
      have a3 := (hr a).1 (by simpa using a2)
      have b3 := (hr b).1 (by simpa using b2)
      have := h3 a b (by omega) (by omega) (honce _ _ a3 b3 e)
      omega
    have hsub := hnd.length_le_of_subset (l₂ := I) fun x hx => by
      obtain ⟨j, hj, rfl⟩ := List.mem_map.1 hx
      have hb := (hr j).1 (by simpa using (List.mem_filter.1 hj).2)
      rcases hlaid (π j) with c1 | ⟨c1, c2, id', lf, d, c3, c4, c5⟩ | ⟨c1, lf, d, c2, c3⟩
      · rw [c1] at hb; exact absurd hb nul_has
      · rw [c2, c5, blk_id]
        exact hI id' (lf, d) (by unfold setB; rw [if_neg c3]; exact c4)
      · rw [c3, blk_id]
        exact hI id (lf, d) (by unfold setB; rw [if_pos rfl]; exact c2)
    rw [List.length_map] at hsub
    exact hsub
  exact List.eq_nil_of_length_eq_zero (by omega)
end
end Go.Proofs.YtmageeohnfomnaaGreat

