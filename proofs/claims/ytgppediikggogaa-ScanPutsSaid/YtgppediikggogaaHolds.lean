/- scan.holds: a mask whether a cell's word is n; of what was in memory nothing changes. Conditions: the words are words of 64 bits. -/
import Derived.Test.YtgppediikggogaaVar
namespace Go.Proofs.Ytgppediikggogaa
open Go.RowKit Go.ChangeShapes Go.WideShapes Go.ChangeAt

theorem index_cell (f : Nat → Int) (k : Nat) (h : k < 12) (w : World) : (Instr.index 30 (.agg (CA f)) (.int .i64 (k : Int))).run Try.prog w = .ok (.int .u64 (f k)) w := by
  have hp := part_word f k h w
  have hi : (0 : Int) ≤ k ∧ (k : Int) < (12 : Nat) := ⟨by omega, by omega⟩
  simp [Instr.index, run_underlying Try.underlying30, asIntOf, hi] at hp ⊢
  rw [if_pos h]
  exact hp
section
attribute [local go_sem] CA_at
set_option maxHeartbeats 1000000 in
theorem holds_any (key n : Int) (f : Nat → Int) (w : World) (h1 : -9223372036854775808 ≤ key) (h2 : key ≤ 9223372036854775807) (n0 : 0 ≤ n) (n1 : n ≤ 18446744073709551615) (hf : Wd f) :
    Calls Try.prog 38 #[.agg (CA f), .int .i64 key, .int .u64 n] w fun e w' => e = .returned (.int .u64 (msk (hw key n f 12))) ∧ w' = w.alloc (.cells (CA f) 30) := by
  obtain ⟨x, hx⟩ : ∃ x, x = IntKind.u64.wrap key := ⟨_, rfl⟩
  have hxr : 0 ≤ x ∧ x ≤ 18446744073709551615 := by rw [hx, IntKind.wrap_u64]; omega
  have HS := Lib.hid (fun k hk => hw_step key n f k hk x hx h1 h2)
  have hxx : IntKind.u64.wrap key = x := hx.symm
  have HR := Lib.hid (range_alloc_new w f 30)
  have HZ := Lib.hid (hw_zero key n f)
  have HF := Lib.hid hf
  clear hx hf h1 h2
  go_enter Try.func38, Try.ntmps38
  go_wp2_with (with_reducible refine wpList_load_cell rfl (.tmp 3) rfl w.heap.size 0 rfl f HR.out ?_)
  go_loopw [7, 11] (fun v7 v wr => ∃ k : Nat, k ≤ 12 ∧ v = .int .i64 k ∧ v7 = .int .u64 (msk (hw key n f k)) ∧ wr = w.alloc (.cells (CA f) 30)) (fun _ v _ => 12 - (intOf v).toNat)
  case atStart => exact ⟨0, by decide, rfl, by rw [HZ.out]; rfl, rfl⟩
  case round =>
    obtain ⟨k, hk, rfl, rfl, rfl⟩ := hrel
    by_cases hlt : k < 12
    · have e1 := me_mk (k : Int) x
      have e2 := me_mk (f k) n
      obtain ⟨f0, f1⟩ := HF.out k
      have hs := HS.out k hlt
      have hix := index_cell f k hlt
      obtain ⟨m, hm⟩ : ∃ m, msk (hw key n f k) = m := ⟨_, rfl⟩
      obtain ⟨m', hm'⟩ : ∃ m, msk (hw key n f (k + 1)) = m := ⟨_, rfl⟩
      have hb : bits .or .u64 m (bits .and .u64 (me (k : Int) x) (me (f k) n)) = m' := by rw [e1, e2, and_mk, ← hm, or_mk, hs, hm']
      rw [hm]
      have HM := Lib.hid hm'
      clear hs hm hm' e1 e2
      go_wp2_with (first | (go_at_call 36; refine (equal_any _ _ _ (by omega) (by omega) (by omega) (by omega)).mono ?_; rintro e w' ⟨rfl, rfl⟩))
      go_roundw
      case rel => exact ⟨k + 1, by omega, by go_num, by rw [HM.out], trivial⟩
      case measure => simp [intOf]; omega
    · obtain rfl : k = 12 := by omega
      go_wp2
      go_ret
      exact ⟨rfl, rfl⟩
end
theorem holds_ext (key n : Int) (f : Nat → Int) (w : World) (h1 : -9223372036854775808 ≤ key) (h2 : key ≤ 9223372036854775807) (n0 : 0 ≤ n) (n1 : n ≤ 18446744073709551615) (hf : Wd f) :
    Calls Try.prog 38 #[.agg (CA f), .int .i64 key, .int .u64 n] w fun e w' => e = .returned (.int .u64 (msk (hw key n f 12))) ∧ Ext w w' :=
  (holds_any key n f w h1 h2 n0 n1 hf).mono fun _ _ ⟨he, hw⟩ => ⟨he, hw ▸ (Ext.refl w).alloc _ _⟩
end Go.Proofs.Ytgppediikggogaa
