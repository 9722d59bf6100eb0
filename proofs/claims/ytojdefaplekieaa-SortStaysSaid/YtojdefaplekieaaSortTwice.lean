/- twice: whether a word is twice in a row: one answer or the other, and nothing in memory turns. -/
import Derived.Test.YtojdefaplekieaaSortLooks
namespace Go.Proofs.Ytojdefaplekieaa
open Go.RowKit Go.ChangeShapes Go.WideShapes Go.ChangeAt

theorem nums_drewN {k : IntKind} {w : World} {B : Nat} {a : Option Addr} {n : Nat} {z : Nat → Int} (h : Nums k w B a n z) (m : Nat) : Nums k (w.drewN m) B a n z := h
set_option maxHeartbeats 1000000 in
theorem twice_any (a : Option Addr) (n cap B : Nat) (z : Nat → Int) (w : World) (hn : n ≤ 1000000) (hz : Nums .u64 w B a n z) :
    Calls Try.prog 21 #[.slice a n cap] w fun e w' => (∃ b, e = .returned (.bool b)) ∧ Only nobody w w' := by
  have HZ := Lib.hid hz
  clear hz
  go_enter Try.func21, Try.ntmps21
  go_wp2_with fail
  go_loopw [3] (fun v wr => ∃ i : Nat, v = .int .i64 i ∧ i ≤ n ∧ ∃ k, wr = w.drewN k) (fun v _ => n - (intOf v).toNat)
  case atStart => exact ⟨0, rfl, by omega, 0, rfl⟩
  case round =>
    obtain ⟨i, rfl, hi, hwk⟩ := hrel
    have HW := Lib.hid hwk
    clear hwk
    by_cases hlt : i < n
    · obtain ⟨w9, h9⟩ : ∃ x, x = wr := ⟨_, rfl⟩
      subst h9
      go_wp2_with fail
      go_loopw [4] (fun v wr => ∃ j : Nat, v = .int .i64 j ∧ j ≤ i ∧ ∃ k, wr = w.drewN k) (fun v _ => i - (intOf v).toNat)
      case atStart => exact ⟨0, rfl, by omega, HW.out⟩
      case round =>
        obtain ⟨j, rfl, hj, hwk⟩ := hrel
        have HW2 := Lib.hid hwk
        by_cases hlt2 : j < i
        · obtain ⟨k, hk⟩ := hwk
          obtain ⟨b1, o1, rfl, _, c1⟩ := (nums_drewN HZ.out k).at hlt
          obtain ⟨b2, o2, he, _, c2⟩ := (nums_drewN HZ.out k).at (show j < n by omega)
          cases he
          rw [← hk] at c1 c2
          clear hk
          by_cases hq : z j = z i
          · have hqq : (z j == z i) = true := by simp [hq]
            go_wp2_with fail
            go_quiet (fail)
            go_wp2_with fail
            go_ret
            obtain ⟨k, hk⟩ := HW2.out
            exact ⟨⟨_, rfl⟩, by rw [hk]; exact ((Only.refl nobody w).drewN _).drewN _⟩
          · have hqq : (z j == z i) = false := by simp [hq]
            go_wp2_with fail
            go_quiet (fail)
            go_wp2_with fail
            go_roundw
            case rel =>
              obtain ⟨k, hk⟩ := HW2.out
              exact ⟨j + 1, by go_num, by omega, k + nq, by rw [hk]; simp [World.drewN, Nat.add_assoc]⟩
            case measure => simp [intOf]; omega
        · go_wp2_with fail
          go_roundw
          case rel => exact ⟨i + 1, by go_num, by omega, HW2.out⟩
          case measure => simp [intOf]; omega
    · go_wp2_with fail
      go_ret
      obtain ⟨k, hk⟩ := HW.out
      exact ⟨⟨_, rfl⟩, by rw [hk]; exact (Only.refl nobody w).drewN _⟩
end Go.Proofs.Ytojdefaplekieaa
