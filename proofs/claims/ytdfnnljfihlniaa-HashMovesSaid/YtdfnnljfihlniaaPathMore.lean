/- Plain facts on trees' sizes, on the bits of leaves, and on how far two ways are one, reckoned by the bits that differ. No function is called here. -/
import Derived.Test.YtdfnnljfihlniaaMath
import Derived.Test.YtdfnnljfihlniaaPathMath
namespace Go.Proofs.Ytdfnnljfihlniaa
open Go.RowKit

/-- Is there a tree of so many leaves? -/
def isTree (n : Int) : Bool := (List.range 11).any fun p => n == ((2 ^ p : Nat) : Int)
theorem isTree_iff (n : Int) : isTree n = true ↔ ∃ p, p ≤ 10 ∧ n = ((2 ^ p : Nat) : Int) := by
  unfold isTree
  rw [List.any_eq_true]
  constructor
  · rintro ⟨p, hp, h⟩
    exact ⟨p, by have := List.mem_range.1 hp; omega, by simpa using h⟩
  · rintro ⟨p, hp, h⟩
    exact ⟨p, List.mem_range.2 (by omega), by simpa using h⟩
theorem tree_le (p : Nat) (h : p ≤ 10) : 2 ^ p ≤ 1024 := Nat.pow_le_pow_right (by decide) h
theorem isTree_rng {n : Int} (h : isTree n = true) : 1 ≤ n ∧ n ≤ 1024 := by
  obtain ⟨p, hp, rfl⟩ := (isTree_iff n).1 h
  have := tree_le p hp
  have := two_pow_pos p
  omega
theorem isTree_two {D N : Nat} (hD : D ≤ 10) (hN : 2 ^ D = N) : isTree (N : Int) = true := (isTree_iff _).2 ⟨D, hD, by rw [hN]⟩
theorem pow_cast (k : Nat) : ((2 ^ k : Nat) : Int) = 2 ^ k := by simp
theorem rd_tree (n : Int) (h1 : n ≤ 1024) : (rd n == n) = isTree n := by
  cases ht : isTree n
  · rw [beq_eq_false_iff_ne]
    intro e
    have hr : n = ((2 ^ re n : Nat) : Int) := by rw [pow_cast]; exact e.symm
    have hle : re n ≤ 10 := by
      apply Nat.le_of_not_lt
      intro h
      have : 2 ^ 11 ≤ 2 ^ re n := Nat.pow_le_pow_right (by decide) h
      omega
    rw [(isTree_iff n).2 ⟨re n, hle, hr⟩] at ht
    cases ht
  · obtain ⟨p, hp, e⟩ := (isTree_iff n).1 ht
    have hb := isTree_rng ht
    have h2 := (rd_mid n hb.1 (by omega)).1
    have h3 := pow_above n p n (by rw [e, pow_cast]) (by omega) (Int.le_refl _)
    rw [beq_iff_eq]
    omega
theorem tree_big {n : Int} (h : 1024 < n) : isTree n = false := by
  cases ht : isTree n
  · rfl
  · have := isTree_rng ht; omega
theorem lg_two (D : Nat) : lg ((2 ^ D : Nat) : Int) = D := by
  rw [pow_cast]
  apply lg_unique
  · exact Int.le_refl _
  · rw [Int.pow_succ]
    have : (0 : Int) < 2 ^ D := Int.pow_pos (by decide)
    omega
/-- How deep a tree is; nothing, if there is none. -/
def dpt (n : Int) : Nat := if isTree n then n.toNat.log2 else 0
theorem dpt_two {D N : Nat} (hD : D ≤ 10) (hN : 2 ^ D = N) : dpt (N : Int) = D := by
  unfold dpt
  rw [if_pos (isTree_two hD hN), Int.toNat_natCast, ← hN, Nat.log2_two_pow]
theorem dpt_no {n : Int} (h : isTree n = false) : dpt n = 0 := by unfold dpt; rw [h]; rfl
theorem dpt_le (n : Int) : dpt n ≤ 10 := by
  cases h : isTree n
  · rw [dpt_no h]; omega
  · obtain ⟨p, hp, rfl⟩ := (isTree_iff n).1 h
    rw [dpt_two hp rfl]; exact hp
/-- How many nodes a tree has; nothing, if there is none. -/
def ndsI (n : Int) : Int := if isTree n = true then 2 * n - 1 else 0
theorem ndsI_yes {n : Int} (h : isTree n = true) : ndsI n = 2 * n - 1 := by unfold ndsI; rw [if_pos h]
theorem ndsI_no {n : Int} (h : isTree n = false) : ndsI n = 0 := by unfold ndsI; rw [h]; rfl
/-- Is there such a leaf? -/
def inT (n l : Int) : Bool := isTree n && decide (0 ≤ l) && decide (l < n)
theorem inT_iff (n l : Int) : inT n l = true ↔ ∃ D m : Nat, D ≤ 10 ∧ n = ((2 ^ D : Nat) : Int) ∧ l = (m : Int) ∧ m < 2 ^ D := by
  unfold inT
  rw [Bool.and_eq_true, Bool.and_eq_true, isTree_iff, decide_eq_true_iff, decide_eq_true_iff]
  constructor
  · rintro ⟨⟨⟨p, hp, rfl⟩, h0⟩, h1⟩
    exact ⟨p, l.toNat, hp, rfl, by omega, by omega⟩
  · rintro ⟨D, m, hD, rfl, rfl, h⟩
    exact ⟨⟨⟨D, hD, rfl⟩, by omega⟩, by omega⟩
theorem inT_yes {D N m : Nat} (hD : D ≤ 10) (hN : 2 ^ D = N) (hm : m < N) : inT (N : Int) (m : Int) = true := (inT_iff _ _).2 ⟨D, m, hD, by rw [hN], rfl, by omega⟩
theorem inT_off {n l : Int} (h : isTree n = false) : inT n l = false := by unfold inT; rw [h]; rfl
theorem inT_low {n l : Int} (h : l < 0) : inT n l = false := by
  unfold inT
  have : decide (0 ≤ l) = false := by simp; omega
  rw [this]; simp
theorem inT_on {n l : Int} (h : isTree n = true) (h0 : 0 ≤ l) : inT n l = decide (l < n) := by unfold inT; rw [h]; simp [h0]
/-- A node of a way, whatever is asked. -/
def nodeI (n l k : Int) : Int := if inT n l = true ∧ 0 ≤ k ∧ k ≤ dpt n then (nd (dpt n) l.toNat k.toNat : Nat) else -1
theorem nodeI_in {D N m k : Nat} (hD : D ≤ 10) (hN : 2 ^ D = N) (hm : m < N) (hk : k ≤ D) : nodeI (N : Int) (m : Int) (k : Int) = (nd D m k : Nat) := by
  unfold nodeI
  rw [dpt_two hD hN, if_pos ⟨inT_yes hD hN hm, by omega, by omega⟩]
  rfl
theorem nodeI_no {n l k : Int} (h : ¬ (inT n l = true ∧ 0 ≤ k ∧ k ≤ dpt n)) : nodeI n l k = -1 := by unfold nodeI; rw [if_neg h]
/-- How far two ways are one, whatever is asked. -/
def deepI (n a b : Int) : Int := if inT n a = true ∧ inT n b = true then (deep (dpt n) a.toNat b.toNat (dpt n) : Nat) else -1
theorem deepI_in {D N a b : Nat} (hD : D ≤ 10) (hN : 2 ^ D = N) (ha : a < N) (hb : b < N) : deepI (N : Int) (a : Int) (b : Int) = (deep D a b D : Nat) := by
  unfold deepI
  rw [dpt_two hD hN, if_pos ⟨inT_yes hD hN ha, inT_yes hD hN hb⟩]
  rfl
theorem deepI_no {n a b : Int} (h : ¬ (inT n a = true ∧ inT n b = true)) : deepI n a b = -1 := by unfold deepI; rw [if_neg h]

theorem xor_i64 (a b : Nat) (ha : a < 9223372036854775808) (hb : b < 9223372036854775808) : bits .xor .i64 (a : Int) (b : Int) = ((a ^^^ b : Nat) : Int) := by
  show IntKind.i64.wrap ((BitVec.ofInt 64 (a : Int) ^^^ BitVec.ofInt 64 (b : Int)).toNat : Int) = _
  rw [BitVec.toNat_xor, ofInt_u64 a (by omega), ofInt_u64 b (by omega), IntKind.wrap_i64]
  have : a ^^^ b < 2 ^ 63 := Nat.xor_lt_two_pow (by omega) (by omega)
  omega
theorem and_one_i64 (x : Nat) (h : x < 9223372036854775808) : bits .and .i64 (x : Int) 1 = ((x % 2 : Nat) : Int) := by
  rw [show (1 : Int) = ((1 : Nat) : Int) from rfl, and_i64 x 1 h (by decide), Nat.and_one_is_mod]
/-- The lowest bits of a number, whatever it is, are a leaf. -/
theorem mask_leaf (a : Int) (L n : Nat) (hn : 2 ^ L = n) (h1 : n ≤ 1024) : ∃ k : Nat, k < n ∧ bits .and .i64 a ((n : Int) - 1) = (k : Int) := by
  have hp := two_pow_pos L
  refine ⟨(BitVec.ofInt 64 a).toNat % n, Nat.mod_lt _ (by omega), ?_⟩
  show IntKind.i64.wrap ((BitVec.ofInt 64 a &&& BitVec.ofInt 64 ((n : Int) - 1)).toNat : Int) = _
  rw [show (n : Int) - 1 = ((n - 1 : Nat) : Int) by omega, BitVec.toNat_and, ofInt_u64 (n - 1) (by omega), IntKind.wrap_i64, ← hn, Nat.and_two_pow_sub_one_eq_mod]
  have := Nat.mod_lt (BitVec.ofInt 64 a).toNat hp
  omega
theorem xor_none {a b : Nat} (h : a ^^^ b = 0) : a = b := by
  apply Nat.eq_of_testBit_eq
  intro i
  have := congrArg (fun x => x.testBit i) h
  simp only [Nat.testBit_xor, Nat.zero_testBit] at this
  cases ha : a.testBit i <;> cases hb : b.testBit i <;> simp_all
theorem part_xor (a b k : Nat) : (a ^^^ b) / 2 ^ k = a / 2 ^ k ^^^ b / 2 ^ k := by
  rw [← Nat.shiftRight_eq_div_pow, ← Nat.shiftRight_eq_div_pow, ← Nat.shiftRight_eq_div_pow, Nat.shiftRight_xor_distrib]
/-- The bits from the first one that differs on: as many as the ways part. -/
theorem deep_xor (D a b : Nat) (ha : a < 2 ^ D) (hb : b < 2 ^ D) : (D : Int) - lg (2 * ((a ^^^ b : Nat) : Int)) = (deep D a b D : Nat) := by
  by_cases h : a = b
  · subst h
    rw [Nat.xor_self, deep_self D a ha]
    rw [lg_small _ (by simp)]
    omega
  · have hx : a ^^^ b ≠ 0 := fun e => h (xor_none e)
    have hlt : a ^^^ b < 2 ^ D := Nat.xor_lt_two_pow ha hb
    rw [lg_double _ (by omega)]
    unfold lg
    rw [Int.toNat_natCast]
    have h1 := Nat.log2_self_le hx
    have h2 := Nat.lt_log2_self (n := a ^^^ b)
    have h3 : (a ^^^ b).log2 < D := (Nat.log2_lt hx).2 hlt
    generalize (a ^^^ b).log2 = t at *
    have e := deep_only D a b ha hb (D - (t + 1)) (by omega) ?_ ?_
    · rw [e]; omega
    · rw [nd_eq, show D - (D - (t + 1)) = t + 1 by omega]
      have := part_xor a b (t + 1)
      rw [Nat.div_eq_of_lt h2] at this
      exact xor_none this.symm
    · intro _
      rw [Ne, nd_eq, show D - (D - (t + 1) + 1) = t by omega]
      intro e
      have := part_xor a b t
      rw [e, Nat.xor_self] at this
      have h4 : 1 ≤ (a ^^^ b) / 2 ^ t := (Nat.le_div_iff_mul_le (two_pow_pos t)).2 (by omega)
      omega
theorem shl_tree (L n : Nat) (hn : 2 ^ L = n) (h1 : n ≤ 1024) : wrap64 ((2 : Int) ^ L) = (n : Int) := by
  have e : ((2 : Int) ^ L) = (n : Int) := by rw [← hn]; simp
  rw [e]; unfold wrap64; omega
end Go.Proofs.Ytdfnnljfihlniaa
