/- Texts of ours put together: Math, PathMore, StoreMath. -/
import Derived.Laws.BitsAllLaws
import Derived.Lib.BitFns
import Derived.WalkKit
import Derived.Test.YtmageeohnfomnaaGreatProg
import Derived.Test.YtmageeohnfomnaaGreatG1
namespace Go.Proofs.YtmageeohnfomnaaGreat
set_option maxRecDepth 100000

def B (x : Int) : BitVec 64 := BitVec.ofInt 64 x
def V (v : BitVec 64) : Int := (v.toNat : Int)

theorem V_lo (v : BitVec 64) : 0 ≤ V v := by unfold V; omega
theorem V_hi (v : BitVec 64) : V v ≤ 18446744073709551615 := by unfold V; have := v.isLt; omega
theorem B_V (v : BitVec 64) : B (V v) = v := by
  unfold B V; apply BitVec.eq_of_toNat_eq; simp
theorem V_B (x : Int) (h0 : 0 ≤ x) (h1 : x ≤ 18446744073709551615) : V (B x) = x := by
  unfold B V; rw [BitVec.toNat_ofInt]; omega
theorem V_inj {u v : BitVec 64} (h : V u = V v) : u = v := by
  have := congrArg B h; rwa [B_V, B_V] at this
theorem wrapV (v : BitVec 64) : IntKind.u64.wrap (v.toNat : Int) = V v := by
  rw [IntKind.wrap_u64]; unfold V; have := v.isLt; omega
theorem and_V (x y : Int) : bits .and .u64 x y = V (B x &&& B y) := wrapV _
theorem or_V (x y : Int) : bits .or .u64 x y = V (B x ||| B y) := wrapV _
theorem xor_V (x y : Int) : bits .xor .u64 x y = V (B x ^^^ B y) := wrapV _
theorem B_max : B IntKind.u64.max = BitVec.allOnes 64 := by decide
theorem not_V (x : Int) : bits .xor .u64 IntKind.u64.max x = V (~~~ B x) := by
  rw [xor_V, B_max, BitVec.allOnes_xor]

def pk (m a b : Int) : Int := V (B m &&& B a ||| ~~~ B m &&& B b)
theorem pk_eq (m a b : Int) : bits .or .u64 (bits .and .u64 m a) (bits .and .u64 (bits .xor .u64 IntKind.u64.max m) b) = pk m a b := by
  rw [not_V, and_V, and_V, or_V, B_V, B_V, B_V]; rfl
theorem pk_all (a b : Int) (h0 : 0 ≤ a) (h1 : a ≤ 18446744073709551615) : pk 18446744073709551615 a b = a := by
  rw [pk, show B 18446744073709551615 = BitVec.allOnes 64 from by decide]
  simp only [BitVec.allOnes_and, BitVec.not_allOnes, BitVec.zero_and, BitVec.or_zero]
  exact V_B a h0 h1
theorem pk_none (a b : Int) (h0 : 0 ≤ b) (h1 : b ≤ 18446744073709551615) : pk 0 a b = b := by
  rw [pk, show B 0 = 0#64 from by decide]
  simp only [BitVec.zero_and, BitVec.not_zero, BitVec.allOnes_and, BitVec.zero_or]
  exact V_B b h0 h1

def mz (n : Int) : Int := if n = 0 then 18446744073709551615 else 0
def me (a b : Int) : Int := if a = b then 18446744073709551615 else 0
def ml (a b : Int) : Int := if a < b then 18446744073709551615 else 0
theorem or_lo (x y : Int) (h0 : 0 ≤ x) (h1 : x ≤ 18446744073709551615) (k0 : 0 ≤ y) (k1 : y ≤ 18446744073709551615) :
    x ≤ bits .or .u64 x y ∧ y ≤ bits .or .u64 x y := by
  rw [u64_or x y h0 (by omega) k0 (by omega)]
  have a := @Nat.left_le_or x.toNat y.toNat
  have b := @Nat.right_le_or x.toNat y.toNat
  omega
theorem or_hi (x y : Int) : bits .or .u64 x y ≤ 18446744073709551615 := by rw [or_V]; exact V_hi _
theorem zero_eq (n : Int) (h0 : 0 ≤ n) (h1 : n ≤ 18446744073709551615) :
    IntKind.u64.wrap (bits .or .u64 n (IntKind.u64.wrap (-n)) / 9223372036854775808 - 1) = mz n := by
  rw [IntKind.wrap_u64, IntKind.wrap_u64]
  by_cases h : n = 0
  · subst h; rfl
  · have e : (-n) % 18446744073709551616 = 18446744073709551616 - n := by omega
    rw [e]
    obtain ⟨a, b⟩ := or_lo n (18446744073709551616 - n) h0 h1 (by omega) (by omega)
    have c := or_hi n (18446744073709551616 - n)
    unfold mz; rw [if_neg h]
    generalize bits .or .u64 n (18446744073709551616 - n) = z at *
    have d : z / 9223372036854775808 = 1 := by omega
    rw [d]; rfl
theorem xor_zero_iff (a b : Int) (h0 : 0 ≤ a) (h1 : a ≤ 18446744073709551615) (k0 : 0 ≤ b) (k1 : b ≤ 18446744073709551615) :
    mz (bits .xor .u64 a b) = me a b := by
  unfold mz me
  by_cases h : a = b
  · subst h; rw [xor_V, BitVec.xor_self]; simp [V]
  · rw [if_neg h, if_neg]
    intro e; apply h
    rw [xor_V] at e
    have z : B a ^^^ B b = 0#64 := V_inj (e.trans rfl)
    have : B a = B b := by simpa using z
    rw [← V_B a h0 h1, ← V_B b k0 k1, this]
theorem xor_rng (a b : Int) : 0 ≤ bits .xor .u64 a b ∧ bits .xor .u64 a b ≤ 18446744073709551615 := by
  rw [xor_V]; exact ⟨V_lo _, V_hi _⟩
theorem less_eq (a b : Int) (h0 : 0 ≤ a) (h2 : 0 ≤ b) :
    IntKind.u64.wrap (-((if a.toNat < b.toNat then 1 else 0 : Nat) : Int)) = ml a b := by
  unfold ml
  by_cases h : a < b
  · rw [if_pos h, if_pos (by omega)]; rfl
  · rw [if_neg h, if_neg (by omega)]; rfl

theorem and_one (x : Int) (h0 : 0 ≤ x) (h1 : x ≤ 18446744073709551615) : bits .and .u64 x 1 = x % 2 := by
  rw [u64_and x 1 h0 (by omega) (by decide) (by decide)]
  have : x.toNat &&& (1 : Int).toNat = x.toNat % 2 := Nat.and_one_is_mod _
  rw [this]; omega

def lg (n : Int) : Int := (n.toNat.log2 : Int)
theorem lg_half (n : Int) (h : 2 ≤ n) : lg n = lg (n / 2) + 1 := by
  unfold lg
  rw [Nat.log2_def, if_pos (by omega)]
  have : (n / 2).toNat = n.toNat / 2 := by omega
  rw [this]; omega
theorem lg_small (n : Int) (h : n ≤ 1) : lg n = 0 := by
  unfold lg
  rw [Nat.log2_def, if_neg (by omega)]; rfl
theorem lg_lo (n : Int) : 0 ≤ lg n := by unfold lg; omega
theorem lg_hi (n : Int) (h1 : n ≤ 18446744073709551615) : lg n ≤ 63 := by
  unfold lg
  by_cases h : n.toNat = 0
  · rw [h]; decide
  · have := (Nat.log2_lt (k := 64) h).2 (by omega); omega

theorem bitLen_two (f : Nat) : ∀ x, x < 2 ^ f → x < 2 ^ 64 → x < 2 ^ Lib.bitLen x ∧ (x ≠ 0 → 2 ^ Lib.bitLen x ≤ 2 * x) := by
  induction f with
  | zero => intro x h _; have : x = 0 := by omega
            subst this; exact ⟨by decide, fun h => absurd rfl h⟩
  | succ f ih =>
    intro x h hx
    by_cases h0 : x = 0
    · subst h0; exact ⟨by decide, fun h => absurd rfl h⟩
    · rw [Lib.bitLen_half x h0 hx]
      obtain ⟨a, b⟩ := ih (x / 2) (by rw [Nat.pow_succ] at h; omega) (by omega)
      rw [Nat.pow_add]
      refine ⟨by omega, fun _ => ?_⟩
      by_cases h1 : x / 2 = 0
      · have : x = 1 := by omega
        subst this; decide
      · have := b h1; omega
theorem bitLen_log (x : Nat) (h0 : x ≠ 0) (hx : x < 2 ^ 64) : Lib.bitLen x = x.log2 + 1 := by
  obtain ⟨a, b⟩ := bitLen_two 64 x hx hx
  have b := b h0
  have p : Lib.bitLen x ≠ 0 := by intro h; rw [h] at a; omega
  have : x.log2 = Lib.bitLen x - 1 := by
    rw [Nat.log2_eq_iff h0]
    have e : Lib.bitLen x - 1 + 1 = Lib.bitLen x := by omega
    rw [e]
    refine ⟨?_, a⟩
    have : 2 ^ Lib.bitLen x = 2 ^ (Lib.bitLen x - 1) * 2 := by rw [← Nat.pow_succ, Nat.succ_eq_add_one, e]
    omega
  omega
theorem log_or_one (n : Nat) (hn : n < 2 ^ 64) : Lib.bitLen (n ||| 1) = n.log2 + 1 := by
  have h1 : n ||| 1 < 2 ^ 64 := Nat.or_lt_two_pow hn (by decide)
  have h0 : n ||| 1 ≠ 0 := by have := @Nat.right_le_or n 1; omega
  rw [bitLen_log _ h0 h1]
  by_cases z : n = 0
  · subst z; decide
  · have : (n ||| 1).log2 = n.log2 := by
      rw [Nat.log2_eq_iff h0]
      refine ⟨?_, ?_⟩
      · have := @Nat.left_le_or n 1; have := Nat.log2_self_le z; omega
      · exact Nat.or_lt_two_pow Nat.lt_log2_self (by have : 1 ≤ 2 ^ n.log2 := Nat.one_le_two_pow; rw [Nat.pow_succ]; omega)
    rw [this]
theorem or_one (n : Int) (h0 : 0 ≤ n) (h1 : n ≤ 18446744073709551615) : (bits .or .u64 n 1).toNat = n.toNat ||| 1 := by
  rw [u64_or n 1 h0 (by omega) (by decide) (by decide)]; rfl
theorem log_eq (n : Int) (h0 : 0 ≤ n) (h1 : n ≤ 18446744073709551615) : (Lib.bitLen (bits .or .u64 n 1).toNat : Int) - 1 = lg n := by
  rw [or_one n h0 h1, log_or_one n.toNat (by omega)]; unfold lg; omega

def re (n : Int) : Nat := Lib.bitLen (min (max n 1) 4611686018427387904 - 1).toNat
def rd (n : Int) : Int := 2 ^ re n
theorem re_le (n : Int) : re n ≤ 62 := Lib.bitLen_le _ 62 (by decide) (by omega)
theorem rd_pos (n : Int) : 1 ≤ rd n := by
  unfold rd; have : 1 ≤ 2 ^ re n := Nat.one_le_two_pow
  exact_mod_cast this
theorem rd_hi (n : Int) : rd n ≤ 4611686018427387904 := by
  unfold rd
  have h : 2 ^ re n ≤ 2 ^ 62 := Nat.pow_le_pow_right (by decide) (re_le n)
  have c : ((2 ^ re n : Nat) : Int) = 2 ^ re n := by simp
  rw [← c]; omega
theorem rd_low (n : Int) (h : n < 1) : rd n = 1 := by
  unfold rd re
  have : (min (max n 1) 4611686018427387904 - 1).toNat = 0 := by omega
  rw [this]; rfl
theorem rd_high (n : Int) (h : 4611686018427387904 < n) : rd n = 4611686018427387904 := by
  unfold rd re
  have : (min (max n 1) 4611686018427387904 - 1).toNat = 4611686018427387903 := by omega
  rw [this]; rfl
theorem rd_mid (n : Int) (h0 : 1 ≤ n) (h1 : n ≤ 4611686018427387904) : n ≤ rd n ∧ (1 < n → rd n < 2 * n) := by
  unfold rd re
  have e : (min (max n 1) 4611686018427387904 - 1).toNat = n.toNat - 1 := by omega
  rw [e]
  obtain ⟨a, b⟩ := bitLen_two 64 (n.toNat - 1) (by omega) (by omega)
  generalize hL : Lib.bitLen (n.toNat - 1) = L at *
  have c : ((2 ^ L : Nat) : Int) = 2 ^ L := by simp
  rw [← c]
  refine ⟨by omega, fun h => ?_⟩
  have := b (by omega); omega

theorem w64 (x : Int) (h0 : -9223372036854775808 ≤ x) (h1 : x ≤ 9223372036854775807) : RowKit.wrap64 x = x := by
  unfold RowKit.wrap64; omega
theorem round_eq (n : Int) : RowKit.wrap64 (2 ^ min (Lib.bitLen ((min (max n 1) 4611686018427387904).toNat - 1)) 64) = rd n := by
  have e : (min (max n 1) 4611686018427387904).toNat - 1 = (min (max n 1) 4611686018427387904 - 1).toNat := by omega
  rw [e]
  have r := re_le n
  have a := rd_pos n
  have b := rd_hi n
  unfold re at r
  rw [Nat.min_eq_left (by omega)]
  unfold rd re at *
  exact w64 _ (by omega) (by omega)

theorem pow_lt_pow (a b : Nat) (h : (2 : Int) ^ a < 2 ^ b) : a < b := by
  apply Nat.lt_of_not_le; intro hle
  have : 2 ^ b ≤ 2 ^ a := Nat.pow_le_pow_right (by decide) hle
  have c : ((2 ^ b : Nat) : Int) = 2 ^ b := by simp
  have d : ((2 ^ a : Nat) : Int) = 2 ^ a := by simp
  omega
theorem pow_below (n : Int) (k : Nat) (y : Int) (hy : y = 2 ^ k) (h : y < n) (h2 : y < 4611686018427387904) : 2 * y ≤ rd n := by
  have l : y < rd n := by
    by_cases hn : n ≤ 4611686018427387904
    · have := (rd_mid n (by have : (0 : Int) < 2 ^ k := Int.pow_pos (by decide)
                            omega) hn).1; omega
    · rw [rd_high n (by omega)]; omega
  have e : k < re n := pow_lt_pow _ _ (by rw [← hy]; exact l)
  have : 2 ^ (k + 1) ≤ 2 ^ re n := Nat.pow_le_pow_right (by decide) e
  have c : ((2 ^ re n : Nat) : Int) = 2 ^ re n := by simp
  have d : ((2 ^ (k + 1) : Nat) : Int) = 2 ^ (k + 1) := by simp
  have f : (2 : Int) ^ (k + 1) = 2 ^ k * 2 := Int.pow_succ _ _
  unfold rd
  omega
theorem pow_above (n : Int) (k : Nat) (y : Int) (hy : y = 2 ^ k) (h1 : y ≤ 4611686018427387904) (h : n ≤ y) : rd n ≤ y := by
  by_cases hn : n ≤ 1
  · have p : (0 : Int) < 2 ^ k := Int.pow_pos (by decide)
    by_cases h1 : n = 1
    · subst h1; have : rd 1 = 1 := by decide
      omega
    · rw [rd_low n (by omega)]; omega
  · have m := (rd_mid n (by omega) (by omega)).2 (by omega)
    apply Int.not_lt.1; intro hlt
    have e : k < re n := pow_lt_pow _ _ (by rw [← hy]; exact hlt)
    have : 2 ^ (k + 1) ≤ 2 ^ re n := Nat.pow_le_pow_right (by decide) e
    have c : ((2 ^ re n : Nat) : Int) = 2 ^ re n := by simp
    have d : ((2 ^ (k + 1) : Nat) : Int) = 2 ^ (k + 1) := by simp
    have f : (2 : Int) ^ (k + 1) = 2 ^ k * 2 := Int.pow_succ _ _
    unfold rd at m
    omega

def part (x : Int) (k : Nat) : Int := ((x.toNat % 2 ^ k : Nat) : Int)
theorem lg_unique (n : Int) (k : Nat) (h0 : (2 : Int) ^ k ≤ n) (h1 : n < 2 ^ (k + 1)) : lg n = k := by
  unfold lg
  have c : ((2 ^ k : Nat) : Int) = 2 ^ k := by simp
  have d : ((2 ^ (k + 1) : Nat) : Int) = 2 ^ (k + 1) := by simp
  have p : 0 < 2 ^ k := Nat.pow_pos (by decide)
  have : n.toNat.log2 = k := (Nat.log2_eq_iff (by omega)).2 ⟨by omega, by omega⟩
  rw [this]
theorem and_i64 (a b : Nat) (ha : a < 9223372036854775808) (hb : b < 9223372036854775808) : bits .and .i64 (a : Int) (b : Int) = ((a &&& b : Nat) : Int) := by
  show IntKind.i64.wrap ((BitVec.ofInt 64 (a : Int) &&& BitVec.ofInt 64 (b : Int)).toNat : Int) = _
  rw [BitVec.toNat_and, ofInt_u64 a (by omega), ofInt_u64 b (by omega), IntKind.wrap_i64]
  have : a &&& b ≤ a := Nat.and_le_left
  omega
theorem lg_double (a : Int) (h : 1 ≤ a) : lg (2 * a) = lg a + 1 := by
  rw [lg_half (2 * a) (by omega)]; congr 2; omega
end Go.Proofs.YtmageeohnfomnaaGreat


namespace Go.Proofs.YtmageeohnfomnaaGreat
set_option maxRecDepth 100000
open Go.RowKit

def isTree (n : Int) : Bool := (List.range 11).any fun p => n == ((2 ^ p : Nat) : Int)
theorem isTree_iff (n : Int) : isTree n = true ↔ ∃ p, p ≤ 10 ∧ n = ((2 ^ p : Nat) : Int) := by
  unfold isTree
  rw [List.any_eq_true]
  constructor
  · rintro ⟨p, hp, h⟩
    exact ⟨p, by have := List.mem_range.1 hp; omega, by simpa using h⟩
  · rintro ⟨p, hp, h⟩
    exact ⟨p, List.mem_range.2 (by omega), by simpa using h⟩
theorem tree_le (p : Nat) (h : p ≤ 10) : 2 ^ p ≤ 1024 := Nat.pow_le_pow_right (by decide) h
theorem isTree_rng {n : Int} (h : isTree n = true) : 1 ≤ n ∧ n ≤ 1024 := by
  obtain ⟨p, hp, rfl⟩ := (isTree_iff n).1 h
  have := tree_le p hp
  have := two_pow_pos p
  omega
theorem isTree_two {D N : Nat} (hD : D ≤ 10) (hN : 2 ^ D = N) : isTree (N : Int) = true := (isTree_iff _).2 ⟨D, hD, by rw [hN]⟩
theorem pow_cast (k : Nat) : ((2 ^ k : Nat) : Int) = 2 ^ k := by simp
theorem rd_tree (n : Int) (h1 : n ≤ 1024) : (rd n == n) = isTree n := by
  cases ht : isTree n
  · rw [beq_eq_false_iff_ne]
    intro e
    have hr : n = ((2 ^ re n : Nat) : Int) := by rw [pow_cast]; exact e.symm
    have hle : re n ≤ 10 := by
      apply Nat.le_of_not_lt
      intro h
      have : 2 ^ 11 ≤ 2 ^ re n := Nat.pow_le_pow_right (by decide) h
      omega
    rw [(isTree_iff n).2 ⟨re n, hle, hr⟩] at ht
    cases ht
  · obtain ⟨p, hp, e⟩ := (isTree_iff n).1 ht
    have hb := isTree_rng ht
    have h2 := (rd_mid n hb.1 (by omega)).1
    have h3 := pow_above n p n (by rw [e, pow_cast]) (by omega) (Int.le_refl _)
    rw [beq_iff_eq]
    omega
theorem tree_big {n : Int} (h : 1024 < n) : isTree n = false := by
  cases ht : isTree n
  · rfl
  · have := isTree_rng ht; omega
theorem lg_two (D : Nat) : lg ((2 ^ D : Nat) : Int) = D := by
  rw [pow_cast]
  apply lg_unique
  · exact Int.le_refl _
  · rw [Int.pow_succ]
    have : (0 : Int) < 2 ^ D := Int.pow_pos (by decide)
    omega
def dpt (n : Int) : Nat := if isTree n then n.toNat.log2 else 0
theorem dpt_two {D N : Nat} (hD : D ≤ 10) (hN : 2 ^ D = N) : dpt (N : Int) = D := by
  unfold dpt
  rw [if_pos (isTree_two hD hN), Int.toNat_natCast, ← hN, Nat.log2_two_pow]
theorem dpt_no {n : Int} (h : isTree n = false) : dpt n = 0 := by unfold dpt; rw [h]; rfl
def ndsI (n : Int) : Int := if isTree n = true then 2 * n - 1 else 0
theorem ndsI_yes {n : Int} (h : isTree n = true) : ndsI n = 2 * n - 1 := by unfold ndsI; rw [if_pos h]
theorem ndsI_no {n : Int} (h : isTree n = false) : ndsI n = 0 := by unfold ndsI; rw [h]; rfl
def inT (n l : Int) : Bool := isTree n && decide (0 ≤ l) && decide (l < n)
theorem inT_iff (n l : Int) : inT n l = true ↔ ∃ D m : Nat, D ≤ 10 ∧ n = ((2 ^ D : Nat) : Int) ∧ l = (m : Int) ∧ m < 2 ^ D := by
  unfold inT
  rw [Bool.and_eq_true, Bool.and_eq_true, isTree_iff, decide_eq_true_iff, decide_eq_true_iff]
  constructor
  · rintro ⟨⟨⟨p, hp, rfl⟩, h0⟩, h1⟩
    exact ⟨p, l.toNat, hp, rfl, by omega, by omega⟩
  · rintro ⟨D, m, hD, rfl, rfl, h⟩
    exact ⟨⟨⟨D, hD, rfl⟩, by omega⟩, by omega⟩
theorem inT_yes {D N m : Nat} (hD : D ≤ 10) (hN : 2 ^ D = N) (hm : m < N) : inT (N : Int) (m : Int) = true := (inT_iff _ _).2 ⟨D, m, hD, by rw [hN], rfl, by omega⟩
theorem inT_off {n l : Int} (h : isTree n = false) : inT n l = false := by unfold inT; rw [h]; rfl
theorem inT_low {n l : Int} (h : l < 0) : inT n l = false := by
  unfold inT
  have : decide (0 ≤ l) = false := by simp; omega
  rw [this]; simp
theorem inT_on {n l : Int} (h : isTree n = true) (h0 : 0 ≤ l) : inT n l = decide (l < n) := by unfold inT; rw [h]; simp [h0]
theorem xor_i64 (a b : Nat) (ha : a < 9223372036854775808) (hb : b < 9223372036854775808) : bits .xor .i64 (a : Int) (b : Int) = ((a ^^^ b : Nat) : Int) := by
  show IntKind.i64.wrap ((BitVec.ofInt 64 (a : Int) ^^^ BitVec.ofInt 64 (b : Int)).toNat : Int) = _
  rw [BitVec.toNat_xor, ofInt_u64 a (by omega), ofInt_u64 b (by omega), IntKind.wrap_i64]
  have : a ^^^ b < 2 ^ 63 := Nat.xor_lt_two_pow (by omega) (by omega)
  omega
theorem and_one_i64 (x : Nat) (h : x < 9223372036854775808) : bits .and .i64 (x : Int) 1 = ((x % 2 : Nat) : Int) := by
  rw [show (1 : Int) = ((1 : Nat) : Int) from rfl, and_i64 x 1 h (by decide), Nat.and_one_is_mod]
theorem xor_none {a b : Nat} (h : a ^^^ b = 0) : a = b := by
  apply Nat.eq_of_testBit_eq
  intro i
  have := congrArg (fun x => x.testBit i) h
  simp only [Nat.testBit_xor, Nat.zero_testBit] at this
  cases ha : a.testBit i <;> cases hb : b.testBit i <;> simp_all
theorem part_xor (a b k : Nat) : (a ^^^ b) / 2 ^ k = a / 2 ^ k ^^^ b / 2 ^ k := by
  rw [← Nat.shiftRight_eq_div_pow, ← Nat.shiftRight_eq_div_pow, ← Nat.shiftRight_eq_div_pow, Nat.shiftRight_xor_distrib]
theorem deep_xor (D a b : Nat) (ha : a < 2 ^ D) (hb : b < 2 ^ D) : (D : Int) - lg (2 * ((a ^^^ b : Nat) : Int)) = (deep D a b D : Nat) := by
  by_cases h : a = b
  · subst h
    rw [Nat.xor_self, deep_self D a ha]
    rw [lg_small _ (by simp)]
    omega
  · have hx : a ^^^ b ≠ 0 := fun e => h (xor_none e)
    have hlt : a ^^^ b < 2 ^ D := Nat.xor_lt_two_pow ha hb
    rw [lg_double _ (by omega)]
    unfold lg
    rw [Int.toNat_natCast]
    have h1 := Nat.log2_self_le hx
    have h2 := Nat.lt_log2_self (n := a ^^^ b)
    have h3 : (a ^^^ b).log2 < D := (Nat.log2_lt hx).2 hlt
    generalize (a ^^^ b).log2 = t at *
    have e := deep_only D a b ha hb (D - (t + 1)) (by omega) ?_ ?_
    · rw [e]; omega
    · rw [nd_eq, show D - (D - (t + 1)) = t + 1 by omega]
      have := part_xor a b (t + 1)
      rw [Nat.div_eq_of_lt h2] at this
      exact xor_none this.symm
    · intro _
      rw [Ne, nd_eq, show D - (D - (t + 1) + 1) = t by omega]
      intro e
      have := part_xor a b t
      rw [e, Nat.xor_self] at this
      have h4 : 1 ≤ (a ^^^ b) / 2 ^ t := (Nat.le_div_iff_mul_le (two_pow_pos t)).2 (by omega)
      omega
end Go.Proofs.YtmageeohnfomnaaGreat


namespace Go.Proofs.YtmageeohnfomnaaGreat
set_option maxRecDepth 100000

def blN (b h : Nat) : Nat := 2 ^ (b - 2 * h)
end Go.Proofs.YtmageeohnfomnaaGreat

