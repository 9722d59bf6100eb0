/- same: two slices of the same words are told to be the same; nothing in memory changes. -/
import Derived.Test.YtceoopkcpkbdaaaNetSort
import Derived.BigQuiet
import Derived.Deep.QuietTactic
import Derived.Lib.Hide
namespace Go.Proofs.Ytceoopkcpkbdaaa
open Go.RowKit Go.Shelf Go.ChangeShapes Go.WideShapes Go.ChangeAt

theorem nums_drewN {k : IntKind} {w : World} {B : Nat} {a : Option Addr} {n : Nat} {z : Nat → Int} (h : Nums k w B a n z) (m : Nat) : Nums k (w.drewN m) B a n z := h
set_option maxHeartbeats 1000000 in
theorem same_yes (a b : Option Addr) (n c d B C : Nat) (z : Nat → Int) (w : World) (hn : n ≤ 9223372036854775807) (ha : Nums .u64 w B a n z) (hb : Nums .u64 w C b n z) :
    Calls Try.prog 18 #[.slice a n c, .slice b n d] w fun e w' => e = .returned (.bool true) ∧ ∃ k, w' = w.drewN k := by
  have HA := Lib.hid ha
  have HB := Lib.hid hb
  clear ha hb
  go_enter Try.func18, Try.ntmps18
  go_wp2_with fail
  go_loopw [5] (fun v wr => ∃ i : Nat, v = .int .i64 i ∧ i ≤ n ∧ ∃ k, wr = w.drewN k) (fun v _ => n - (intOf v).toNat)
  case atStart => exact ⟨0, rfl, by omega, 0, rfl⟩
  case round =>
    obtain ⟨i, rfl, hle, hwk⟩ := hrel
    have HW := Lib.hid hwk
    by_cases hlt : i < n
    · obtain ⟨k, hk⟩ := hwk
      obtain ⟨b1, o1, rfl, _, c1⟩ := (nums_drewN HA.out k).at hlt
      obtain ⟨b2, o2, rfl, _, c2⟩ := (nums_drewN HB.out k).at hlt
      rw [← hk] at c1 c2
      clear hk
      go_wp2_with fail
      go_quiet (fail)
      go_wp2_with fail
      go_roundw
      case rel =>
        obtain ⟨k, hk⟩ := HW.out
        exact ⟨i + 1, by go_num, by omega, k + nq, by rw [hk]; simp [World.drewN, Nat.add_assoc]⟩
      case measure => simp [intOf]; omega
    · clear hwk
      go_wp2_with fail
      go_ret
      exact ⟨rfl, HW.out⟩
end Go.Proofs.Ytceoopkcpkbdaaa
