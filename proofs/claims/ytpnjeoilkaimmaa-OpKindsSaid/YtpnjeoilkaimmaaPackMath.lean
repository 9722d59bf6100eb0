/- Plain facts on words that hold a text's bytes: digits to the base 256, a text's word, a word's text. No program is named here. -/
import Derived.WalkKit
namespace Go.Proofs.Ytpnjeoilkaimmaa

/-- The number whose first k digits to the base 256 are f's. -/
def pv (f : Nat → Nat) : Nat → Nat
  | 0 => 0
  | k + 1 => pv f k + f k * 256 ^ k
/-- Digit k of a number. -/
def dg (n k : Nat) : Nat := n / 256 ^ k % 256
theorem dg_lt (n k : Nat) : dg n k < 256 := Nat.mod_lt _ (by decide)
theorem p_pos (k : Nat) : 0 < 256 ^ k := Nat.pow_pos (by decide)
theorem pv_lt (f : Nat → Nat) : ∀ k, (∀ i, i < k → f i < 256) → pv f k < 256 ^ k
  | 0, _ => by simp [pv]
  | k + 1, hf => by
    have ih := pv_lt f k (fun i hi => hf i (by omega))
    have h1 : f k ≤ 255 := by have := hf k (by omega); omega
    have h2 := Nat.mul_le_mul_right (256 ^ k) h1
    rw [pv, Nat.pow_succ]; omega
theorem pv_ext (f g : Nat → Nat) : ∀ k, (∀ i, i < k → f i = g i) → pv f k = pv g k
  | 0, _ => rfl
  | k + 1, h => by rw [pv, pv, pv_ext f g k (fun i hi => h i (by omega)), h k (by omega)]
theorem pv_stay (f : Nat → Nat) (m : Nat) : ∀ d, (∀ i, m ≤ i → i < m + d → f i = 0) → pv f (m + d) = pv f m
  | 0, _ => rfl
  | d + 1, h => by
    have ih := pv_stay f m d (fun i h1 h2 => h i h1 (by omega))
    rw [← Nat.add_assoc, pv, ih, h (m + d) (by omega) (by omega)]; omega
theorem pv_cut (f : Nat → Nat) (m k : Nat) (hk : m ≤ k) (h : ∀ i, m ≤ i → i < k → f i = 0) : pv f k = pv f m := by
  have := pv_stay f m (k - m) (fun i h1 h2 => h i h1 (by omega))
  rwa [show m + (k - m) = k by omega] at this
theorem pv_mono (f : Nat → Nat) (m : Nat) : ∀ d, pv f m ≤ pv f (m + d)
  | 0 => Nat.le_refl _
  | d + 1 => by
    have ih := pv_mono f m d
    rw [← Nat.add_assoc, pv]; omega
theorem pv_ge (f : Nat → Nat) (k m : Nat) (hk : k < m) : f k * 256 ^ k ≤ pv f m := by
  have := pv_mono f (k + 1) (m - (k + 1))
  rw [show k + 1 + (m - (k + 1)) = m by omega, pv] at this
  omega
/-- The digits behind place k are those of the number's upper part. -/
theorem pv_join (f : Nat → Nat) (k : Nat) : ∀ d, pv f (k + d) = pv f k + pv (fun i => f (k + i)) d * 256 ^ k
  | 0 => by simp [pv]
  | d + 1 => by
    rw [← Nat.add_assoc, pv, pv_join f k d, pv, Nat.add_mul, Nat.mul_assoc, ← Nat.pow_add, Nat.add_comm d k]; omega
theorem dg_pv (f : Nat → Nat) (m k : Nat) (hf : ∀ i, i < m → f i < 256) (hk : k < m) : dg (pv f m) k = f k := by
  obtain ⟨d, rfl⟩ : ∃ d, m = k + (d + 1) := ⟨m - k - 1, by omega⟩
  have h1 := pv_lt f k (fun i hi => hf i (by omega))
  have h2 : pv (fun i => f (k + i)) (d + 1) = f k + pv (fun i => f (k + (1 + i))) d * 256 := by
    rw [Nat.add_comm d 1, pv_join]; simp [pv]
  unfold dg
  rw [pv_join, h2, Nat.add_mul_div_right _ _ (p_pos k), Nat.div_eq_of_lt h1, Nat.zero_add, Nat.add_mul_mod_self_right, Nat.mod_eq_of_lt (hf k (by omega))]
theorem pv_dg (n : Nat) : ∀ k, pv (dg n) k = n % 256 ^ k
  | 0 => by simp [pv, Nat.mod_one]
  | k + 1 => by
    rw [pv, pv_dg n k, dg, Nat.pow_succ, Nat.mod_mul, Nat.mul_comm (256 ^ k)]
/-- The first digit, from above, in which two numbers part says which is less. -/
theorem pv_less (f g : Nat → Nat) (i m : Nat) (hi : i < m) (hf : ∀ j, f j < 256) (h : ∀ j, i < j → j < m → f j = g j) (hl : f i < g i) : pv f m < pv g m := by
  obtain ⟨d, rfl⟩ : ∃ d, m = i + 1 + d := ⟨m - i - 1, by omega⟩
  have e : pv (fun j => f (i + 1 + j)) d = pv (fun j => g (i + 1 + j)) d := pv_ext _ _ d (fun j hj => h _ (by omega) (by omega))
  rw [pv_join f, pv_join g, e]
  have h1 := pv_lt f i (fun j _ => hf j)
  have h2 : (f i + 1) * 256 ^ i ≤ g i * 256 ^ i := Nat.mul_le_mul_right _ hl
  rw [Nat.add_mul, Nat.one_mul] at h2
  rw [pv, pv]; omega

/-- A text's bytes, noughts behind them. -/
def sb (s : ByteArray) (k : Nat) : Nat := (s.data.toList.getD k 0).toNat
theorem sb_lt (s : ByteArray) (k : Nat) : sb s k < 256 := UInt8.toNat_lt _
theorem len_size (s : ByteArray) : s.data.toList.length = s.size := Array.length_toList
theorem sb_past (s : ByteArray) (k : Nat) (h : s.size ≤ k) : sb s k = 0 := by
  unfold sb; rw [List.getD_eq_getElem?_getD, List.getElem?_eq_none (by rw [len_size]; exact h)]; rfl
theorem sb_at (s : ByteArray) (k : Nat) (h : k < s.size) : (s[k]'h).toNat = sb s k := by
  unfold sb; rw [List.getD_eq_getElem?_getD, List.getElem?_eq_getElem (by rw [len_size]; exact h)]; rfl
theorem sb_inj (s t : ByteArray) (hl : s.size = t.size) (h : ∀ k, k < s.size → sb s k = sb t k) : s = t := by
  apply ByteArray.ext
  apply Array.toList_inj.1
  apply List.ext_getElem
  · rw [len_size, len_size, hl]
  · intro k h1 h2
    rw [len_size] at h1 h2
    apply UInt8.toNat_inj.1
    have := h k h1
    unfold sb at this
    rwa [List.getD_eq_getElem?_getD, List.getD_eq_getElem?_getD, List.getElem?_eq_getElem (by rw [len_size]; exact h1), List.getElem?_eq_getElem (by rw [len_size]; exact h2)] at this

/-- A text's word: its bytes, the first one lowest, and how many there are on top. -/
def wd (s : ByteArray) : Nat := pv (sb s) 7 + s.size * 72057594037927936
/-- How many bytes a word says that it has. -/
def mn (n : Nat) : Nat := n / 72057594037927936
theorem mn_lt (n : Nat) (h : n < 18446744073709551616) : mn n < 256 := by unfold mn; omega
theorem mn_dg (n : Nat) (h : n < 18446744073709551616) : dg n 7 = mn n := by
  have := mn_lt n h
  unfold dg; rw [show 256 ^ 7 = 72057594037927936 from rfl]; exact Nat.mod_eq_of_lt this
/-- A word's text. -/
def tx (n : Nat) : ByteArray := ⟨((List.range (mn n)).map fun k => UInt8.ofNat (dg n k)).toArray⟩
/-- Is it a word of a text? -/
def rt (n : Nat) : Bool := decide (mn n ≤ 7) && decide (pv (dg n) 7 < 256 ^ mn n)
theorem rt_few {n : Nat} (h : rt n = true) : mn n ≤ 7 := by unfold rt at h; simp at h; exact h.1
theorem rt_many {n : Nat} (h : 7 < mn n) : rt n = false := by unfold rt; simp; omega
theorem rt_zero {n : Nat} (h : rt n = true) (k : Nat) (h1 : mn n ≤ k) (h2 : k < 7) : dg n k = 0 := by
  unfold rt at h; simp at h
  have h3 := pv_ge (dg n) k 7 h2
  have h4 : 256 ^ mn n ≤ 256 ^ k := Nat.pow_le_pow_right (by decide) h1
  rcases Nat.eq_zero_or_pos (dg n k) with h0 | h0
  · exact h0
  · have := Nat.mul_le_mul_right (256 ^ k) h0
    rw [Nat.one_mul] at this; omega
theorem rt_of {n : Nat} (hm : mn n ≤ 7) (h : ∀ k, mn n ≤ k → k < 7 → dg n k = 0) : rt n = true := by
  unfold rt
  rw [pv_cut (dg n) (mn n) 7 hm h]
  have := pv_lt (dg n) (mn n) (fun i _ => dg_lt n i)
  simp [hm, this]
theorem rt_not {n k : Nat} (h1 : mn n ≤ k) (h2 : k < 7) (h : dg n k ≠ 0) : rt n = false := by
  cases hr : rt n
  · rfl
  · exact absurd (rt_zero hr k h1 h2) h

theorem low_lt (s : ByteArray) : pv (sb s) 7 < 72057594037927936 := pv_lt (sb s) 7 (fun i _ => sb_lt s i)
theorem mn_wd (s : ByteArray) : mn (wd s) = s.size := by
  have := low_lt s
  unfold mn wd; omega
theorem wd_low (s : ByteArray) : wd s % 72057594037927936 = pv (sb s) 7 := by
  have := low_lt s
  unfold wd; omega
theorem wd_lt (s : ByteArray) (h : s.size ≤ 7) : wd s < 576460752303423488 := by
  have := low_lt s
  unfold wd; omega
theorem dg_wd (s : ByteArray) (k : Nat) (h : k < 7) : dg (wd s) k = sb s k := by
  rw [← dg_pv (sb s) 7 k (fun i _ => sb_lt s i) h, ← wd_low]
  unfold dg
  have e : (72057594037927936 : Nat) = 256 ^ k * 256 ^ (7 - k) := by
    rw [← Nat.pow_add, show k + (7 - k) = 7 by omega]
  rw [e, Nat.mod_mul_right_div_self]
  obtain ⟨d, hd⟩ : ∃ d, 7 - k = d + 1 := ⟨7 - k - 1, by omega⟩
  rw [hd, Nat.pow_succ, Nat.mod_mul_left_mod]
theorem rt_wd (s : ByteArray) (h : s.size ≤ 7) : rt (wd s) = true := by
  refine rt_of (by rw [mn_wd]; exact h) (fun k h1 h2 => ?_)
  rw [mn_wd] at h1
  rw [dg_wd s k h2, sb_past s k h1]
theorem tx_size (n : Nat) : (tx n).size = mn n := by simp [tx, ByteArray.size]
theorem sb_tx (n k : Nat) (h : k < mn n) : sb (tx n) k = dg n k := by
  have := dg_lt n k
  unfold sb tx
  simp [List.getD_eq_getElem?_getD, h, UInt8.toNat_ofNat', Nat.mod_eq_of_lt this]
theorem tx_wd (s : ByteArray) (h : s.size ≤ 7) : tx (wd s) = s := by
  refine sb_inj _ _ (by rw [tx_size, mn_wd]) (fun k hk => ?_)
  rw [tx_size, mn_wd] at hk
  rw [sb_tx _ _ (by rw [mn_wd]; exact hk), dg_wd s k (by omega)]
theorem wd_tx (n : Nat) (h : rt n = true) : wd (tx n) = n := by
  have hm := rt_few h
  have e : pv (sb (tx n)) 7 = pv (dg n) 7 := by
    refine pv_ext _ _ 7 (fun i hi => ?_)
    by_cases h1 : i < mn n
    · exact sb_tx n i h1
    · rw [sb_past _ _ (by rw [tx_size]; omega), rt_zero h i (by omega) hi]
  unfold wd
  rw [e, pv_dg, tx_size, show 256 ^ 7 = 72057594037927936 from rfl]
  unfold mn; omega
theorem wd_tx_iff (n : Nat) (hm : mn n ≤ 7) : (wd (tx n) = n) ↔ rt n = true := by
  constructor
  · intro h
    have := rt_wd (tx n) (by rw [tx_size]; exact hm)
    rwa [h] at this
  · exact wd_tx n
theorem wd_inj (s t : ByteArray) (hs : s.size ≤ 7) (ht : t.size ≤ 7) : wd s = wd t ↔ s = t := by
  constructor
  · intro h; rw [← tx_wd s hs, ← tx_wd t ht, h]
  · rintro rfl; rfl
theorem wd_less (s t : ByteArray) (i : Nat) (hl : s.size = t.size) (hi : i < 7) (h : ∀ j, i < j → j < 7 → sb s j = sb t j) (hlt : sb s i < sb t i) : wd s < wd t := by
  have := pv_less (sb s) (sb t) i 7 hi (sb_lt s) h hlt
  unfold wd; rw [hl]; omega
/-- The eight bytes that a text is laid into. -/
def ly (s : ByteArray) (k : Nat) : Nat := if k < 7 then sb s k else s.size
theorem pv_ly (s : ByteArray) : pv (ly s) 8 = wd s := by
  show pv (ly s) 7 + ly s 7 * 256 ^ 7 = wd s
  rw [pv_ext (ly s) (sb s) 7 (fun i hi => by unfold ly; rw [if_pos hi])]
  rfl
theorem pv_sb (s : ByteArray) (k : Nat) (h : s.size ≤ k) (hk : k ≤ 7) : pv (sb s) 7 = pv (sb s) k := by
  exact pv_cut (sb s) k 7 hk (fun i h1 _ => sb_past s i (by omega))
end Go.Proofs.Ytpnjeoilkaimmaa
