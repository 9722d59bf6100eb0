/- The walk of the first chapter's law on the least of many words: it returns true at every list of words, and nothing in memory changes. Conditions: the list's cells hold words. -/
import Derived.Test.YtciialffbbhapaaWalksTwo
namespace Go.Proofs.Ytciialffbbhapaa
open Go.RowKit Go.Shelf

/-- Place t holds the least of the first k words, and is the first that does. -/
def First (z : Nat → Int) (t k : Nat) : Prop := ∀ j, j < k → z t ≤ z j ∧ (j < t → z t < z j)
theorem First.one (z : Nat → Int) : First z 0 1 := fun j h => by
  have : j = 0 := by omega
  subst this; exact ⟨Int.le_refl _, fun h => absurd h (by omega)⟩
theorem First.new {z : Nat → Int} {t k : Nat} (h : First z t k) (hl : z k < z t) : First z k (k + 1) := fun j hj => by
  by_cases e : j = k
  · subst e; exact ⟨Int.le_refl _, fun h => absurd h (by omega)⟩
  · have := (h j (by omega)).1; exact ⟨by omega, fun _ => by omega⟩
theorem First.old {z : Nat → Int} {t k : Nat} (h : First z t k) (ht : t < k) (hl : ¬ z k < z t) : First z t (k + 1) := fun j hj => by
  by_cases e : j = k
  · subst e; exact ⟨by omega, fun h => absurd h (by omega)⟩
  · exact h j (by omega)
theorem me_self (x : Int) : me x x = 18446744073709551615 := by unfold me; rw [if_pos rfl]
theorem me_zero (x : Int) : me x 0 = mz x := rfl

theorem least_none (a : Option Addr) (cap : Nat) (w : World) :
    Calls Try.prog 10 #[.slice a 0 cap] w fun e w' => e = .returned (.bool true) ∧ w = w' := by
  go_enter Try.func10, Try.ntmps10
  go_wp2_with (go_at_call 11; refine (shown_any _).mono ?_; rintro e w' ⟨rfl, rfl⟩)
  go_ret
  exact ⟨rfl, rfl⟩
theorem least_many (a : Option Addr) (len cap : Nat) (w : World) (h : 200 < len) (hm : len ≤ 9223372036854775807) :
    Calls Try.prog 10 #[.slice a len cap] w fun e w' => e = .returned (.bool true) ∧ w = w' := by
  have h0 : ((len : Int) == 0) = false := by simp; omega
  go_enter Try.func10, Try.ntmps10
  go_wp2_with (go_at_call 11; refine (shown_any _).mono ?_; rintro e w' ⟨rfl, rfl⟩)
  go_ret
  exact ⟨rfl, rfl⟩

set_option maxHeartbeats 2000000 in
theorem least_some (b off len cap : Nat) (z : Nat → Int) (w : World) (h1 : 1 ≤ len) (h2 : len ≤ 200)
    (hc0 : ∀ j, j < len → w.cell? ⟨b, off + j, none⟩ = some (.int .u64 (z j))) (hz0 : ∀ j, j < len → 0 ≤ z j ∧ z j ≤ 18446744073709551615) :
    Calls Try.prog 10 #[.slice (some ⟨b, off, none⟩) len cap] w fun e w' => e = .returned (.bool true) ∧ w = w' := by
  have HC := Lib.hid hc0
  have HZ := Lib.hid hz0
  have c0 : w.cell? ⟨b, off, none⟩ = some (.int .u64 (z 0)) := hc0 0 (by omega)
  clear hc0 hz0
  have h0 : ((len : Int) == 0) = false := by simp; omega
  go_enter Try.func10, Try.ntmps10
  go_wp2_with (go_at_call 11; refine (shown_any _).mono ?_; rintro e w' ⟨rfl, rfl⟩)
  go_loop [4, 5, 6] (fun x y i => ∃ t k : Nat, t < k ∧ k ≤ len ∧ First z t k ∧ i = .int .i64 k ∧ x = .int .u64 (z t) ∧ y = .int .u64 t) (fun _ _ i => len - (intOf i).toNat)
  case atStart => exact ⟨0, 1, by decide, h1, First.one z, rfl, rfl, rfl⟩
  case round =>
    obtain ⟨t, k, ht, hk, HF, rfl, rfl, rfl⟩ := hrel
    by_cases hlt : k < len
    · have ck := HC.out k hlt
      obtain ⟨k0, k1⟩ := HZ.out k hlt
      obtain ⟨t0, t1⟩ := HZ.out t (by omega)
      by_cases hl : z k < z t
      · have e1 : pk (ml (z k) (z t)) (z k) (z t) = z k := by rw [pk_less _ _ _ _ k0 k1 t0 t1, if_pos hl]
        have e2 : pk (ml (z k) (z t)) k t = k := by rw [pk_less _ _ _ _ (by omega) (by omega) (by omega) (by omega), if_pos hl]
        have HN := First.new HF hl
        clear hl
        go_wp2_with (first
          | (go_at_call 16; refine (less_any _ _ _ k0 t0).mono ?_; rintro e w' ⟨rfl, rfl⟩)
          | (go_at_call 21; refine (pick_any _ _ _ _).mono ?_; rintro e w' ⟨rfl, rfl⟩))
        go_round
        case rel => exact ⟨k, k + 1, by omega, by omega, HN, by go_num, rfl, rfl⟩
        case measure => simp [intOf]; omega
      · have e1 : pk (ml (z k) (z t)) (z k) (z t) = z t := by rw [pk_less _ _ _ _ k0 k1 t0 t1, if_neg hl]
        have e2 : pk (ml (z k) (z t)) k t = t := by rw [pk_less _ _ _ _ (by omega) (by omega) (by omega) (by omega), if_neg hl]
        have HN := First.old HF ht hl
        clear hl
        go_wp2_with (first
          | (go_at_call 16; refine (less_any _ _ _ k0 t0).mono ?_; rintro e w' ⟨rfl, rfl⟩)
          | (go_at_call 21; refine (pick_any _ _ _ _).mono ?_; rintro e w' ⟨rfl, rfl⟩))
        go_round
        case rel => exact ⟨t, k + 1, by omega, by omega, HN, by go_num, rfl, rfl⟩
        case measure => simp [intOf]; omega
    · obtain rfl : len = k := by omega
      obtain ⟨t0, t1⟩ := HZ.out t (by omega)
      have ct := HC.out t (by omega)
      have e1 := me_self (z t)
      have e2 := me_zero (z t)
      go_wp2
      go_loop [8] (fun i => ∃ k : Nat, k ≤ len ∧ i = .int .i64 k) (fun i => len - (intOf i).toNat)
      case atStart => exact ⟨0, by omega, rfl⟩
      case round =>
        obtain ⟨k, hk, rfl⟩ := hrel
        by_cases hlt : k < len
        · have ck := HC.out k hlt
          obtain ⟨f1, f2⟩ := HF k hlt
          by_cases hkt : k < t
          · have f3 := f2 hkt
            have f4 : (z k == z t) = false := by simp; omega
            clear f2
            go_wp2
            go_round
            case rel => exact ⟨k + 1, by omega, by go_num⟩
            case measure => simp [intOf]; omega
          · clear f2
            go_wp2
            go_round
            case rel => exact ⟨k + 1, by omega, by go_num⟩
            case measure => simp [intOf]; omega
        · go_wp2_with (first
            | (go_at_call 12; refine (zero_any _ _ t0 t1).mono ?_; rintro e w' ⟨rfl, rfl⟩)
            | (go_at_call 14; refine (equal_any _ _ _ t0 t1 (by omega) (by omega)).mono ?_; rintro e w' ⟨rfl, rfl⟩))
          go_ret
          exact ⟨rfl, rfl⟩
end Go.Proofs.Ytciialffbbhapaa
