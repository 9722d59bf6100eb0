/- Plain facts on words that are folded and multiplied, on places, and on four words in a row. No function is called here. -/
import Derived.Test.YtdfnnljfihlniaaPathMore
namespace Go.Proofs.Ytdfnnljfihlniaa
open Go.RowKit

/-- A word and it shifted down, taken together. -/
def foB (v : BitVec 64) (k : Nat) : BitVec 64 := v ^^^ v >>> k
def hK : BitVec 64 := 0x9E3779B97F4A7C15#64
def hJ : BitVec 64 := 0xF1DE83E19937733D#64
def mxB (v : BitVec 64) : BitVec 64 := foB (foB v 29 * hK) 32
/-- Told back. -/
def unB (m : BitVec 64) : BitVec 64 := let n := foB m 32 * hJ; n ^^^ n >>> 29 ^^^ n >>> 58
theorem fo_back32 (v : BitVec 64) : foB (foB v 32) 32 = v := by
  unfold foB
  apply BitVec.eq_of_getLsbD_eq; intro i hi
  simp only [BitVec.getLsbD_xor, BitVec.getLsbD_ushiftRight]
  have h : v.getLsbD (32 + (32 + i)) = false := BitVec.getLsbD_of_ge _ _ (by omega)
  rw [h]
  cases v.getLsbD i <;> cases v.getLsbD (32 + i) <;> rfl
theorem fo_back29 (v : BitVec 64) : foB v 29 ^^^ foB v 29 >>> 29 ^^^ foB v 29 >>> 58 = v := by
  unfold foB
  apply BitVec.eq_of_getLsbD_eq; intro i hi
  simp only [BitVec.getLsbD_xor, BitVec.getLsbD_ushiftRight]
  have h : v.getLsbD (29 + (58 + i)) = false := BitVec.getLsbD_of_ge _ _ (by omega)
  have e : 29 + (29 + i) = 58 + i := by omega
  rw [h, e]
  cases v.getLsbD i <;> cases v.getLsbD (29 + i) <;> cases v.getLsbD (58 + i) <;> rfl
theorem un_mx (v : BitVec 64) : unB (mxB v) = v := by
  unfold unB mxB
  simp only [fo_back32, BitVec.mul_assoc]
  rw [show hK * hJ = 1#64 by decide, BitVec.mul_one]
  exact fo_back29 v

/-- The same of numbers. -/
def fo (n k : Int) : Int := bits .xor .u64 n (n / k)
def mx (n : Int) : Int := fo (IntKind.u64.wrap (fo n 536870912 * 11400714819323198485)) 4294967296
def un (m : Int) : Int := bits .xor .u64 (fo (IntKind.u64.wrap (fo m 4294967296 * 17428512612931826493)) 536870912) (IntKind.u64.wrap (fo m 4294967296 * 17428512612931826493) / 288230376151711744)
theorem B_shr (n : Int) (k : Nat) (h0 : 0 ≤ n) (h1 : n ≤ 18446744073709551615) : B (n / ((2 ^ k : Nat) : Int)) = B n >>> k := by
  apply BitVec.eq_of_toNat_eq
  rw [BitVec.toNat_ushiftRight, Nat.shiftRight_eq_div_pow]
  obtain ⟨m, rfl⟩ := Int.eq_ofNat_of_zero_le h0
  have hm : m < 2 ^ 64 := by omega
  unfold B
  rw [show ((m : Int) / ((2 ^ k : Nat) : Int)) = ((m / 2 ^ k : Nat) : Int) from (Int.natCast_ediv m (2 ^ k)).symm, BitVec.ofInt_natCast, BitVec.ofInt_natCast, BitVec.toNat_ofNat, BitVec.toNat_ofNat, Nat.mod_eq_of_lt hm, Nat.mod_eq_of_lt (Nat.lt_of_le_of_lt (Nat.div_le_self _ _) hm)]
theorem fo29 (n : Int) (h0 : 0 ≤ n) (h1 : n ≤ 18446744073709551615) : fo n 536870912 = V (foB (B n) 29) := by
  unfold fo foB; rw [xor_V, ← B_shr n 29 h0 h1]; rfl
theorem fo32 (n : Int) (h0 : 0 ≤ n) (h1 : n ≤ 18446744073709551615) : fo n 4294967296 = V (foB (B n) 32) := by
  unfold fo foB; rw [xor_V, ← B_shr n 32 h0 h1]; rfl
theorem wrap_rng (x : Int) : 0 ≤ IntKind.u64.wrap x ∧ IntKind.u64.wrap x ≤ 18446744073709551615 := by rw [IntKind.wrap_u64]; omega
theorem B_wrap (x : Int) : B (IntKind.u64.wrap x) = B x := by
  unfold B
  apply BitVec.eq_of_toNat_eq
  rw [BitVec.toNat_ofInt, BitVec.toNat_ofInt, IntKind.wrap_u64]
  omega
theorem B_mul (x y : Int) : B (x * y) = B x * B y := by unfold B; exact BitVec.ofInt_mul _ _
theorem fo_rng (n k : Int) : 0 ≤ fo n k ∧ fo n k ≤ 18446744073709551615 := xor_rng _ _
theorem mx_rng (n : Int) : 0 ≤ mx n ∧ mx n ≤ 18446744073709551615 := fo_rng _ _
theorem mx_V (n : Int) (h0 : 0 ≤ n) (h1 : n ≤ 18446744073709551615) : mx n = V (mxB (B n)) := by
  obtain ⟨a, b⟩ := wrap_rng (fo n 536870912 * 11400714819323198485)
  unfold mx mxB
  rw [fo32 _ a b, B_wrap, B_mul, fo29 n h0 h1, B_V]
  rfl
theorem un_V (n : Int) (h0 : 0 ≤ n) (h1 : n ≤ 18446744073709551615) : un n = V (unB (B n)) := by
  obtain ⟨a, b⟩ := wrap_rng (fo n 4294967296 * 17428512612931826493)
  unfold un unB
  rw [xor_V, fo29 _ a b, B_V, show (288230376151711744 : Int) = ((2 ^ 58 : Nat) : Int) from rfl, B_shr _ 58 a b, B_wrap, B_mul, fo32 n h0 h1, B_V]
  rfl
theorem un_mxI (n : Int) (h0 : 0 ≤ n) (h1 : n ≤ 18446744073709551615) : un (mx n) = n := by
  have h := mx_rng n
  rw [un_V _ h.1 h.2, mx_V n h0 h1, B_V, un_mx, V_B n h0 h1]
theorem mx_iff (a b : Int) (h0 : 0 ≤ a) (h1 : a ≤ 18446744073709551615) (k0 : 0 ≤ b) (k1 : b ≤ 18446744073709551615) : (mx a == mx b) = (a == b) := by
  by_cases h : a = b
  · subst h; simp
  · have h2 : ¬ mx a = mx b := fun e => h (by rw [← un_mxI a h0 h1, ← un_mxI b k0 k1, e])
    rw [beq_eq_false_iff_ne.2 h, beq_eq_false_iff_ne.2 h2]

/-- What is stirred of a key, by two words of the tape; a place. -/
def lin (a b k : Int) : Int := IntKind.u64.wrap (IntKind.u64.wrap (k * IntKind.u64.wrap (IntKind.u64.wrap (2 * a) + 1)) + b)
def plc (a b k s : Int) : Int := mx (lin a b k) % s
/-- A key's place in a table, whatever is asked. -/
def atI (f : Nat → Int) (t k s : Int) : Int := if isTree s = true then (if t = 0 then plc (f 0) (f 1) k s else if t = 1 then plc (f 2) (f 3) k s else 0) else 0
theorem atI_no (f : Nat → Int) (t k : Int) {s : Int} (h : isTree s = false) : atI f t k s = 0 := by unfold atI; rw [h]; rfl
theorem atI_0 (f : Nat → Int) (k : Int) {s : Int} (h : isTree s = true) : atI f 0 k s = plc (f 0) (f 1) k s := by unfold atI; rw [h]; rfl
theorem atI_1 (f : Nat → Int) (k : Int) {s : Int} (h : isTree s = true) : atI f 1 k s = plc (f 2) (f 3) k s := by unfold atI; rw [h]; rfl
theorem atI_off (f : Nat → Int) (t k s : Int) (h0 : t ≠ 0) (h1 : t ≠ 1) : atI f t k s = 0 := by
  unfold atI; rw [if_neg h0, if_neg h1]; simp
theorem plc_rng (a b k s : Int) (h : 1 ≤ s) : 0 ≤ plc a b k s ∧ plc a b k s < s := ⟨Int.emod_nonneg _ (by omega), Int.emod_lt_of_pos _ (by omega)⟩
/-- A place in a table twice as great. -/
theorem plc_two (a b k s : Int) (h : 1 ≤ s) : plc a b k (2 * s) = plc a b k s ∨ plc a b k (2 * s) = plc a b k s + s := by
  unfold plc
  obtain ⟨m, hm⟩ := Int.eq_ofNat_of_zero_le (mx_rng (lin a b k)).1
  obtain ⟨n, rfl⟩ := Int.eq_ofNat_of_zero_le (show 0 ≤ s by omega)
  rw [hm]
  have e : m % (n * 2) = m % n + n * (m / n % 2) := Nat.mod_mul
  have e1 : ((m : Int) % (2 * (n : Int))) = ((m % (n * 2) : Nat) : Int) := by rw [Int.natCast_emod, Int.natCast_mul, Int.mul_comm]; rfl
  have e2 : ((m : Int) % (n : Int)) = ((m % n : Nat) : Int) := (Int.natCast_emod m n).symm
  rw [e1, e2, e]
  rcases Nat.mod_two_eq_zero_or_one (m / n) with h2 | h2
  · rw [h2]; left; simp
  · rw [h2]; right; simp
theorem mod_add (x y : Int) : IntKind.u64.wrap (IntKind.u64.wrap x + y) = IntKind.u64.wrap (x + y) := by rw [IntKind.wrap_u64, IntKind.wrap_u64, IntKind.wrap_u64]; omega
theorem mod_mul (x y : Int) : IntKind.u64.wrap (x * IntKind.u64.wrap y) = IntKind.u64.wrap (x * y) := by
  rw [IntKind.wrap_u64, IntKind.wrap_u64, IntKind.wrap_u64, Int.mul_emod x (y % 18446744073709551616), Int.emod_emod_of_dvd _ (Int.dvd_refl _), ← Int.mul_emod]
theorem lin_eq (a b k : Int) : lin a b k = IntKind.u64.wrap (k * (2 * a + 1) + b) := by
  unfold lin; rw [mod_add (2 * a) 1, mod_mul, mod_add]
/-- A key more, and as much less of the word that is added. -/
theorem lin_more (a b k : Int) : lin a (IntKind.u64.wrap (IntKind.u64.wrap (b - IntKind.u64.wrap (2 * a)) - 1)) (IntKind.u64.wrap (k + 1)) = lin a b k := by
  rw [lin_eq, lin_eq]
  have e1 : IntKind.u64.wrap (IntKind.u64.wrap (b - IntKind.u64.wrap (2 * a)) - 1) = IntKind.u64.wrap (b - 2 * a - 1) := by
    rw [IntKind.wrap_u64, IntKind.wrap_u64, IntKind.wrap_u64, IntKind.wrap_u64]; omega
  rw [e1, Int.add_comm, mod_add, Int.add_comm (b - 2 * a - 1), Int.mul_comm (IntKind.u64.wrap (k + 1))]
  have e2 : ∀ x y : Int, IntKind.u64.wrap (x + y) = IntKind.u64.wrap (IntKind.u64.wrap x + y) := fun x y => (mod_add x y).symm
  rw [e2 ((2 * a + 1) * _), mod_mul, mod_add]
  congr 1
  rw [Int.mul_add, Int.mul_comm k]
  omega

/-- Four words in a row. -/
def H4 (f : Nat → Int) : Array Value := #[.int .u64 (f 0), .int .u64 (f 1), .int .u64 (f 2), .int .u64 (f 3)]
theorem lt4 {P : Nat → Prop} (h0 : P 0) (h1 : P 1) (h2 : P 2) (h3 : P 3) : ∀ k, k < 4 → P k := by
  intro k hk
  match k, hk with
  | 0, _ => exact h0
  | 1, _ => exact h1
  | 2, _ => exact h2
  | 3, _ => exact h3
theorem H4_at (f : Nat → Int) (k : Nat) (h : k < 4) : (H4 f)[k]? = some (.int .u64 (f k)) := by
  revert k; apply lt4 <;> rfl
theorem H4_size (f : Nat → Int) : (H4 f).size = 4 := rfl
def upto4 (k : Nat) (v z : Nat → Int) : Nat → Int := fun j => if j < k then v j else z j
theorem H4_step (k : Nat) (h : k < 4) (v z : Nat → Int) : (H4 (upto4 k v z)).setIfInBounds k (.int .u64 (v k)) = H4 (upto4 (k + 1) v z) := by
  revert k; apply lt4 <;> rfl
theorem H4_ext (f g : Nat → Int) (h : ∀ k, k < 4 → f k = g k) : H4 f = H4 g := by
  unfold H4
  rw [h 0 (by decide), h 1 (by decide), h 2 (by decide), h 3 (by decide)]
theorem H4_over (f v : Nat → Int) : ((((H4 f).setIfInBounds 0 (.int .u64 (v 0))).setIfInBounds 1 (.int .u64 (v 1))).setIfInBounds 2 (.int .u64 (v 2))).setIfInBounds 3 (.int .u64 (v 3)) = H4 v := rfl
/-- The words of a hash of n words. -/
def hW (n : Nat) (z : Nat → Int) : Nat → Int := fun j => if j < n then z j else 0
theorem hW_done (n : Nat) (z : Nat → Int) : H4 (upto4 (min 4 n) z fun _ => 0) = H4 (hW n z) := by
  apply H4_ext
  intro k hk
  unfold upto4 hW
  by_cases h : k < n
  · rw [if_pos (by omega), if_pos h]
  · rw [if_neg (by omega), if_neg h]
end Go.Proofs.Ytdfnnljfihlniaa
