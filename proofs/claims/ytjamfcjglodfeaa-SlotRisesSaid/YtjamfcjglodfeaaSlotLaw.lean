/- The laws on slot: how an entry is told to the document's answer; the chapter's example. -/
import Derived.Below
import Derived.BigQuiet
import Derived.ChangeKeysEq
import Derived.ChangeSlices
import Derived.Deep.Cut
import Derived.Deep.Draws
import Derived.Deep.MidRow
import Derived.Deep.OwnRows
import Derived.Deep.QuietTactic
import Derived.Deep.WholeRow
import Derived.Laws.BitsAllLaws
import Derived.Laws.BytesArg
import Derived.Laws.NewBlocks
import Derived.Laws.StructEq
import Derived.Lib.Hide
import Derived.Lib.LazyBuf
import Derived.OpenShut
import Derived.OwnWalk
import Derived.ProofKit
import Derived.RowKit3
import Derived.SizedLaws
import Derived.WalkKit
import Derived.Test.YtjamfcjglodfeaaProg
import Derived.Test.YtjamfcjglodfeaaHeap
import Derived.Test.YtjamfcjglodfeaaSlot
import Derived.Test.YtjamfcjglodfeaaSlotMath
namespace Go.Proofs.Ytjamfcjglodfeaa
open Go.RowKit Go.ChangeShapes Go.WideShapes Go.ChangeAt

set_option maxHeartbeats 1000000 in
theorem as_slot (s : Sl) (w : World) : Calls Try.prog 15 #[.agg s.a] w fun e w' => e = .returned (.agg s.a) ∧ Below w.heap.size w w' := by
  obtain ⟨u, k, v, t, r, n, x⟩ := s
  unfold Sl.a
  go_enter Try.func15, Try.ntmps15
  go_wp2_with fail
  exact bodyPost_ret (v := .agg #[.bool u, .int .u64 k, .int .u64 v, .int .u64 t, .int .u64 r, .int .u64 n, .int .i64 x]) (by simp [results, Try.results15, go_sem]) rfl ⟨rfl, ((Below.refl _ w).alloc (Nat.le_refl _) _).alloc (by simp) _⟩
theorem enter_0 (W : World) : Calls Try.prog 11 #[.int .i64 0, .int .u64 7] W fun e w' => e = .returned (.tuple #[.int .u64 7, .int .u64 1]) ∧ w' = W :=
  slenter_any 0 7 W (by unfold I64; omega) (by unfold U64; omega)
theorem use_0 (W : World) : Calls Try.prog 13 #[.int .i64 0, .agg #[.bool true, .int .u64 0, .int .u64 0, .int .u64 0, .int .u64 7, .int .u64 1, .int .i64 0], .int .u64 9] W fun e w' => e = .returned (.tuple #[.int .u64 9, .int .u64 2]) ∧ Below W.heap.size W w' :=
  sluse_any 0 ⟨true, 0, 0, 0, 7, 1, 0⟩ 9 W (by unfold I64; omega) (by unfold U64; omega)
theorem enter_1 (W : World) : Calls Try.prog 11 #[.int .i64 1, .int .u64 7] W fun e w' => e = .returned (.tuple #[.int .u64 7, .int .u64 1]) ∧ w' = W :=
  slenter_any 1 7 W (by unfold I64; omega) (by unfold U64; omega)
theorem use_1 (W : World) : Calls Try.prog 13 #[.int .i64 1, .agg #[.bool true, .int .u64 0, .int .u64 0, .int .u64 0, .int .u64 7, .int .u64 1, .int .i64 0], .int .u64 9] W fun e w' => e = .returned (.tuple #[.int .u64 7, .int .u64 2]) ∧ Below W.heap.size W w' :=
  sluse_any 1 ⟨true, 0, 0, 0, 7, 1, 0⟩ 9 W (by unfold I64; omega) (by unfold U64; omega)
theorem enter_2 (W : World) : Calls Try.prog 11 #[.int .i64 2, .int .u64 7] W fun e w' => e = .returned (.tuple #[.int .u64 4294967303, .int .u64 1]) ∧ w' = W :=
  slenter_any 2 7 W (by unfold I64; omega) (by unfold U64; omega)
theorem use_2 (W : World) : Calls Try.prog 13 #[.int .i64 2, .agg #[.bool true, .int .u64 0, .int .u64 0, .int .u64 0, .int .u64 4294967303, .int .u64 1, .int .i64 0], .int .u64 9] W fun e w' => e = .returned (.tuple #[.int .u64 8589934601, .int .u64 2]) ∧ Below W.heap.size W w' :=
  sluse_any 2 ⟨true, 0, 0, 0, 4294967303, 1, 0⟩ 9 W (by unfold I64; omega) (by unfold U64; omega)
set_option maxHeartbeats 1000000 in
theorem slshown_any (w : World) : Calls Try.prog 8 #[] w fun e w' => e = .returned (.bool true) ∧ Below w.heap.size w w' := by
  go_enter Try.func8, Try.ntmps8
  go_wp2_with fail
  go_loopw [1] (fun v wr => ∃ k : Int, v = .int .i64 k ∧ 0 ≤ k ∧ k ≤ 3 ∧ Below w.heap.size w wr) (fun v _ => (3 - intOf v).toNat)
  case atStart => exact ⟨0, rfl, by omega, by omega, Below.refl _ _⟩
  case round =>
    obtain ⟨k, rfl, h0, h3, hB⟩ := hrel
    have HB := Lib.hid hB
    clear hB
    obtain rfl | rfl | rfl | rfl : k = 0 ∨ k = 1 ∨ k = 2 ∨ k = 3 := by omega
    · go_wp2_with fail
      refine (enter_0 _).mono ?_
      rintro e w4 ⟨rfl, rfl⟩
      go_wp2_with fail
      refine (use_0 _).mono ?_
      rintro e w5 ⟨rfl, hb⟩
      have HB5 := Lib.hid (HB.out.trans (hb.mono HB.out.size))
      clear hb
      go_wp2_with fail
      go_roundw
      case rel => exact ⟨1, rfl, by omega, by omega, HB5.out⟩
      case measure => simp [intOf]
    · go_wp2_with fail
      refine (enter_1 _).mono ?_
      rintro e w4 ⟨rfl, rfl⟩
      go_wp2_with fail
      refine (use_1 _).mono ?_
      rintro e w5 ⟨rfl, hb⟩
      have HB5 := Lib.hid (HB.out.trans (hb.mono HB.out.size))
      clear hb
      go_wp2_with fail
      go_roundw
      case rel => exact ⟨2, rfl, by omega, by omega, HB5.out⟩
      case measure => simp [intOf]
    · go_wp2_with fail
      refine (enter_2 _).mono ?_
      rintro e w4 ⟨rfl, rfl⟩
      go_wp2_with fail
      refine (use_2 _).mono ?_
      rintro e w5 ⟨rfl, hb⟩
      have HB5 := Lib.hid (HB.out.trans (hb.mono HB.out.size))
      clear hb
      go_wp2_with fail
      go_roundw
      case rel => exact ⟨3, rfl, by omega, by omega, HB5.out⟩
      case measure => simp [intOf]
    · go_wp2_with fail
      go_ret
      exact ⟨rfl, HB.out⟩
end Go.Proofs.Ytjamfcjglodfeaa
