/- The law SlotTimes, walked: for every entry and every two times it returns true, and nothing that was in memory changes. Conditions: words are of 64 bits, Next is an int. -/
import Derived.Below
import Derived.BigQuiet
import Derived.ChangeKeysEq
import Derived.ChangeSlices
import Derived.Deep.Cut
import Derived.Deep.Draws
import Derived.Deep.MidRow
import Derived.Deep.OwnRows
import Derived.Deep.QuietTactic
import Derived.Deep.WholeRow
import Derived.Laws.BitsAllLaws
import Derived.Laws.BytesArg
import Derived.Laws.NewBlocks
import Derived.Laws.StructEq
import Derived.Lib.Hide
import Derived.Lib.LazyBuf
import Derived.OpenShut
import Derived.OwnWalk
import Derived.ProofKit
import Derived.RowKit3
import Derived.SizedLaws
import Derived.WalkKit
import Derived.Test.YtjamfcjglodfeaaProg
import Derived.Test.YtjamfcjglodfeaaHeap
import Derived.Test.YtjamfcjglodfeaaPackMath
import Derived.Test.YtjamfcjglodfeaaSlot
import Derived.Test.YtjamfcjglodfeaaSlotLaw
import Derived.Test.YtjamfcjglodfeaaSlotMath
namespace Go.Proofs.Ytjamfcjglodfeaa
open Go.RowKit Go.ChangeShapes Go.WideShapes Go.ChangeAt

set_option maxHeartbeats 2000000 in
theorem times_ap (u : Bool) (k v t r n x a b mn mx : Int) (Y E : Bool) (w : World) (e1 : (if b < a then b else a) = mn) (e2 : (if a < b then b else a) = mx)
    (ha : decide (0 < a) = true) (hE : (E == decide (a ≤ b)) = true)
    (H1 : Hid (∀ W, Calls Try.prog 20 #[.agg #[.bool u, .int .u64 k, .int .u64 v, .int .u64 t, .int .u64 r, .int .u64 n, .int .i64 x], .int .u64 mn] W fun e w' => e = .returned (.bool false) ∧ Below W.heap.size W w'))
    (H2 : Hid (∀ W, Calls Try.prog 20 #[.agg #[.bool u, .int .u64 k, .int .u64 v, .int .u64 t, .int .u64 r, .int .u64 n, .int .i64 x], .int .u64 mx] W fun e w' => e = .returned (.bool Y) ∧ Below W.heap.size W w'))
    (H3 : Hid (∀ W, Calls Try.prog 20 #[.agg #[.bool u, .int .u64 k, .int .u64 v, .int .u64 0, .int .u64 r, .int .u64 n, .int .i64 x], .int .u64 a] W fun e w' => e = .returned (.bool false) ∧ Below W.heap.size W w'))
    (H4 : Hid (∀ W, Calls Try.prog 20 #[.agg #[.bool false, .int .u64 k, .int .u64 v, .int .u64 a, .int .u64 r, .int .u64 n, .int .i64 x], .int .u64 b] W fun e w' => e = .returned (.bool false) ∧ Below W.heap.size W w'))
    (H5 : Hid (∀ W, Calls Try.prog 20 #[.agg #[.bool true, .int .u64 k, .int .u64 v, .int .u64 a, .int .u64 r, .int .u64 n, .int .i64 x], .int .u64 b] W fun e w' => e = .returned (.bool E) ∧ Below W.heap.size W w')) :
    Calls Try.prog 7 #[.agg #[.bool u, .int .u64 k, .int .u64 v, .int .u64 t, .int .u64 r, .int .u64 n, .int .i64 x], .int .u64 a, .int .u64 b] w fun e w' => e = .returned (.bool true) ∧ Below w.heap.size w w' := by
  have HE := Lib.hid hE
  clear hE
  obtain ⟨p, hp⟩ : ∃ p, w.heap.size = p := ⟨_, rfl⟩
  obtain ⟨w2, hw2⟩ : ∃ w9, (w.alloc (.cells #[.bool u, .int .u64 k, .int .u64 v, .int .u64 t, .int .u64 r, .int .u64 n, .int .i64 x] 24)) = w9 := ⟨_, rfl⟩
  have hx0 : Box w2 (p) 24 #[.bool u, .int .u64 k, .int .u64 v, .int .u64 t, .int .u64 r, .int .u64 n, .int .i64 x] := by
    have h9 := (Box.new w 24 #[.bool u, .int .u64 k, .int .u64 v, .int .u64 t, .int .u64 r, .int .u64 n, .int .i64 x])
    try simp only [World.size_alloc] at h9
    simp only [hp, hw2] at h9
    exact h9
  have hB : Below w.heap.size w w2 := by
    have h9 := ((Below.refl w.heap.size w).alloc (by simp; try omega) (.cells #[.bool u, .int .u64 k, .int .u64 v, .int .u64 t, .int .u64 r, .int .u64 n, .int .i64 x] 24))
    rw [hw2] at h9
    exact h9
  have hS : w2.heap.size = p + 1 := by rw [← hw2]; simp [hp]
  have HX2 := Lib.hid hx0
  have HB2 := Lib.hid hB
  have HP := Lib.hid (Nat.le_of_eq hp)
  have HPP := Lib.hid hp
  have HW := Lib.hid hw2
  clear hx0 hB hS hp hw2
  go_enter Try.func7, Try.ntmps7
  go_upto_region 1 with fail
  simp only [HPP.out, HW.out]
  clear HPP HW
  go_wp2_with fail
  refine (slshown_any _).mono ?_
  rintro e w3 ⟨rfl, hb⟩
  have HX3 := Lib.hid (show Box w3 p 24 #[.bool u, .int .u64 k, .int .u64 v, .int .u64 t, .int .u64 r, .int .u64 n, .int .i64 x] from HX2.out.of (hb.block _ HX2.out.lt))
  have HB3 := Lib.hid (HB2.out.trans (hb.mono HB2.out.size))
  clear hb HX2 HB2
  have c0 : w3.cell? ⟨p, 0, none⟩ = some (.bool u) := HX3.out.cell 0
  have c1 : w3.cell? ⟨p, 1, none⟩ = some (.int .u64 k) := HX3.out.cell 1
  have c2 : w3.cell? ⟨p, 2, none⟩ = some (.int .u64 v) := HX3.out.cell 2
  have c3 : w3.cell? ⟨p, 3, none⟩ = some (.int .u64 t) := HX3.out.cell 3
  have c4 : w3.cell? ⟨p, 4, none⟩ = some (.int .u64 r) := HX3.out.cell 4
  have c5 : w3.cell? ⟨p, 5, none⟩ = some (.int .u64 n) := HX3.out.cell 5
  have c6 : w3.cell? ⟨p, 6, none⟩ = some (.int .i64 x) := HX3.out.cell 6
  go_wp2_with fail
  refine (H1.out _).mono ?_
  rintro e w4 ⟨rfl, hb⟩
  have HX4 := Lib.hid (show Box w4 p 24 #[.bool u, .int .u64 k, .int .u64 v, .int .u64 t, .int .u64 r, .int .u64 n, .int .i64 x] from HX3.out.of (hb.block _ HX3.out.lt))
  have HB4 := Lib.hid (HB3.out.trans (hb.mono HB3.out.size))
  clear hb HX3 HB3
  clear c0 c1 c2 c3 c4 c5 c6
  have c0 : w4.cell? ⟨p, 0, none⟩ = some (.bool u) := HX4.out.cell 0
  have c1 : w4.cell? ⟨p, 1, none⟩ = some (.int .u64 k) := HX4.out.cell 1
  have c2 : w4.cell? ⟨p, 2, none⟩ = some (.int .u64 v) := HX4.out.cell 2
  have c3 : w4.cell? ⟨p, 3, none⟩ = some (.int .u64 t) := HX4.out.cell 3
  have c4 : w4.cell? ⟨p, 4, none⟩ = some (.int .u64 r) := HX4.out.cell 4
  have c5 : w4.cell? ⟨p, 5, none⟩ = some (.int .u64 n) := HX4.out.cell 5
  have c6 : w4.cell? ⟨p, 6, none⟩ = some (.int .i64 x) := HX4.out.cell 6
  go_wp2_with fail
  refine (H2.out _).mono ?_
  rintro e w5 ⟨rfl, hb⟩
  have HX5 := Lib.hid (show Box w5 p 24 #[.bool u, .int .u64 k, .int .u64 v, .int .u64 t, .int .u64 r, .int .u64 n, .int .i64 x] from HX4.out.of (hb.block _ HX4.out.lt))
  have HB5 := Lib.hid (HB4.out.trans (hb.mono HB4.out.size))
  clear hb HX4 HB4
  clear c0 c1 c2 c3 c4 c5 c6
  clear e1 e2
  have c3 : w5.cell? ⟨p, 3, none⟩ = some (.int .u64 t) := HX5.out.cell 3
  have f3 := HX5.out.frozen 3
  go_upto_region 5 with fail
  obtain ⟨w6, hw6⟩ : ∃ w9, w5.setCell ⟨p, 3, none⟩ (.int .u64 0) = w9 := ⟨_, rfl⟩
  have HX6 := Lib.hid (show Box w6 p 24 #[.bool u, .int .u64 k, .int .u64 v, .int .u64 0, .int .u64 r, .int .u64 n, .int .i64 x] by rw [← hw6]; exact HX5.out.put 3 _)
  have HB6 := Lib.hid (show Below w.heap.size w w6 by rw [← hw6]; exact HB5.out.setCell (p := ⟨p, 3, none⟩) (by show w.heap.size ≤ p; exact HP.out) _)
  rw [hw6]
  clear c3 f3 hw6 HX5 HB5
  have c0 : w6.cell? ⟨p, 0, none⟩ = some (.bool u) := HX6.out.cell 0
  have c1 : w6.cell? ⟨p, 1, none⟩ = some (.int .u64 k) := HX6.out.cell 1
  have c2 : w6.cell? ⟨p, 2, none⟩ = some (.int .u64 v) := HX6.out.cell 2
  have c3 : w6.cell? ⟨p, 3, none⟩ = some (.int .u64 0) := HX6.out.cell 3
  have c4 : w6.cell? ⟨p, 4, none⟩ = some (.int .u64 r) := HX6.out.cell 4
  have c5 : w6.cell? ⟨p, 5, none⟩ = some (.int .u64 n) := HX6.out.cell 5
  have c6 : w6.cell? ⟨p, 6, none⟩ = some (.int .i64 x) := HX6.out.cell 6
  go_wp2_with fail
  refine (H3.out _).mono ?_
  rintro e w7 ⟨rfl, hb⟩
  have HX7 := Lib.hid (show Box w7 p 24 #[.bool u, .int .u64 k, .int .u64 v, .int .u64 0, .int .u64 r, .int .u64 n, .int .i64 x] from HX6.out.of (hb.block _ HX6.out.lt))
  have HB7 := Lib.hid (HB6.out.trans (hb.mono HB6.out.size))
  clear hb HX6 HB6
  clear c0 c1 c2 c3 c4 c5 c6
  have c3 : w7.cell? ⟨p, 3, none⟩ = some (.int .u64 0) := HX7.out.cell 3
  have f3 := HX7.out.frozen 3
  go_upto_region 7 with fail
  obtain ⟨w8, hw8⟩ : ∃ w9, w7.setCell ⟨p, 3, none⟩ (.int .u64 a) = w9 := ⟨_, rfl⟩
  have HX8 := Lib.hid (show Box w8 p 24 #[.bool u, .int .u64 k, .int .u64 v, .int .u64 a, .int .u64 r, .int .u64 n, .int .i64 x] by rw [← hw8]; exact HX7.out.put 3 _)
  have HB8 := Lib.hid (show Below w.heap.size w w8 by rw [← hw8]; exact HB7.out.setCell (p := ⟨p, 3, none⟩) (by show w.heap.size ≤ p; exact HP.out) _)
  rw [hw8]
  clear c3 f3 hw8 HX7 HB7
  have c0 : w8.cell? ⟨p, 0, none⟩ = some (.bool u) := HX8.out.cell 0
  have f0 := HX8.out.frozen 0
  go_upto_region 8 with fail
  obtain ⟨w9, hw9⟩ : ∃ w9, w8.setCell ⟨p, 0, none⟩ (.bool false) = w9 := ⟨_, rfl⟩
  have HX9 := Lib.hid (show Box w9 p 24 #[.bool false, .int .u64 k, .int .u64 v, .int .u64 a, .int .u64 r, .int .u64 n, .int .i64 x] by rw [← hw9]; exact HX8.out.put 0 _)
  have HB9 := Lib.hid (show Below w.heap.size w w9 by rw [← hw9]; exact HB8.out.setCell (p := ⟨p, 0, none⟩) (by show w.heap.size ≤ p; exact HP.out) _)
  rw [hw9]
  clear c0 f0 hw9 HX8 HB8
  have c0 : w9.cell? ⟨p, 0, none⟩ = some (.bool false) := HX9.out.cell 0
  have c1 : w9.cell? ⟨p, 1, none⟩ = some (.int .u64 k) := HX9.out.cell 1
  have c2 : w9.cell? ⟨p, 2, none⟩ = some (.int .u64 v) := HX9.out.cell 2
  have c3 : w9.cell? ⟨p, 3, none⟩ = some (.int .u64 a) := HX9.out.cell 3
  have c4 : w9.cell? ⟨p, 4, none⟩ = some (.int .u64 r) := HX9.out.cell 4
  have c5 : w9.cell? ⟨p, 5, none⟩ = some (.int .u64 n) := HX9.out.cell 5
  have c6 : w9.cell? ⟨p, 6, none⟩ = some (.int .i64 x) := HX9.out.cell 6
  go_wp2_with fail
  refine (H4.out _).mono ?_
  rintro e w10 ⟨rfl, hb⟩
  have HX10 := Lib.hid (show Box w10 p 24 #[.bool false, .int .u64 k, .int .u64 v, .int .u64 a, .int .u64 r, .int .u64 n, .int .i64 x] from HX9.out.of (hb.block _ HX9.out.lt))
  have HB10 := Lib.hid (HB9.out.trans (hb.mono HB9.out.size))
  clear hb HX9 HB9
  clear c0 c1 c2 c3 c4 c5 c6
  have c0 : w10.cell? ⟨p, 0, none⟩ = some (.bool false) := HX10.out.cell 0
  have f0 := HX10.out.frozen 0
  go_upto_region 10 with fail
  obtain ⟨w11, hw11⟩ : ∃ w9, w10.setCell ⟨p, 0, none⟩ (.bool true) = w9 := ⟨_, rfl⟩
  have HX11 := Lib.hid (show Box w11 p 24 #[.bool true, .int .u64 k, .int .u64 v, .int .u64 a, .int .u64 r, .int .u64 n, .int .i64 x] by rw [← hw11]; exact HX10.out.put 0 _)
  have HB11 := Lib.hid (show Below w.heap.size w w11 by rw [← hw11]; exact HB10.out.setCell (p := ⟨p, 0, none⟩) (by show w.heap.size ≤ p; exact HP.out) _)
  rw [hw11]
  clear c0 f0 hw11 HX10 HB10
  have c0 : w11.cell? ⟨p, 0, none⟩ = some (.bool true) := HX11.out.cell 0
  have c1 : w11.cell? ⟨p, 1, none⟩ = some (.int .u64 k) := HX11.out.cell 1
  have c2 : w11.cell? ⟨p, 2, none⟩ = some (.int .u64 v) := HX11.out.cell 2
  have c3 : w11.cell? ⟨p, 3, none⟩ = some (.int .u64 a) := HX11.out.cell 3
  have c4 : w11.cell? ⟨p, 4, none⟩ = some (.int .u64 r) := HX11.out.cell 4
  have c5 : w11.cell? ⟨p, 5, none⟩ = some (.int .u64 n) := HX11.out.cell 5
  have c6 : w11.cell? ⟨p, 6, none⟩ = some (.int .i64 x) := HX11.out.cell 6
  go_wp2_with fail
  refine (H5.out _).mono ?_
  rintro e w12 ⟨rfl, hb⟩
  have HX12 := Lib.hid (show Box w12 p 24 #[.bool true, .int .u64 k, .int .u64 v, .int .u64 a, .int .u64 r, .int .u64 n, .int .i64 x] from HX11.out.of (hb.block _ HX11.out.lt))
  have HB12 := Lib.hid (HB11.out.trans (hb.mono HB11.out.size))
  clear hb HX11 HB11
  clear c0 c1 c2 c3 c4 c5 c6
  have hE := HE.out
  go_wp2_with fail
  go_ret
  exact ⟨rfl, HB12.out⟩
set_option maxHeartbeats 2000000 in
theorem times_az (u : Bool) (k v t r n x b mn mx : Int) (Y E : Bool) (w : World) (e1 : (if b < 0 then b else 0) = mn) (e2 : (if 0 < b then b else 0) = mx)
    (hE : E = false)
    (H1 : Hid (∀ W, Calls Try.prog 20 #[.agg #[.bool u, .int .u64 k, .int .u64 v, .int .u64 t, .int .u64 r, .int .u64 n, .int .i64 x], .int .u64 mn] W fun e w' => e = .returned (.bool false) ∧ Below W.heap.size W w'))
    (H2 : Hid (∀ W, Calls Try.prog 20 #[.agg #[.bool u, .int .u64 k, .int .u64 v, .int .u64 t, .int .u64 r, .int .u64 n, .int .i64 x], .int .u64 mx] W fun e w' => e = .returned (.bool Y) ∧ Below W.heap.size W w'))
    (H3 : Hid (∀ W, Calls Try.prog 20 #[.agg #[.bool u, .int .u64 k, .int .u64 v, .int .u64 0, .int .u64 r, .int .u64 n, .int .i64 x], .int .u64 0] W fun e w' => e = .returned (.bool false) ∧ Below W.heap.size W w'))
    (H4 : Hid (∀ W, Calls Try.prog 20 #[.agg #[.bool false, .int .u64 k, .int .u64 v, .int .u64 0, .int .u64 r, .int .u64 n, .int .i64 x], .int .u64 b] W fun e w' => e = .returned (.bool false) ∧ Below W.heap.size W w'))
    (H5 : Hid (∀ W, Calls Try.prog 20 #[.agg #[.bool true, .int .u64 k, .int .u64 v, .int .u64 0, .int .u64 r, .int .u64 n, .int .i64 x], .int .u64 b] W fun e w' => e = .returned (.bool E) ∧ Below W.heap.size W w')) :
    Calls Try.prog 7 #[.agg #[.bool u, .int .u64 k, .int .u64 v, .int .u64 t, .int .u64 r, .int .u64 n, .int .i64 x], .int .u64 0, .int .u64 b] w fun e w' => e = .returned (.bool true) ∧ Below w.heap.size w w' := by
  have HE := Lib.hid hE
  clear hE
  obtain ⟨p, hp⟩ : ∃ p, w.heap.size = p := ⟨_, rfl⟩
  obtain ⟨w2, hw2⟩ : ∃ w9, (w.alloc (.cells #[.bool u, .int .u64 k, .int .u64 v, .int .u64 t, .int .u64 r, .int .u64 n, .int .i64 x] 24)) = w9 := ⟨_, rfl⟩
  have hx0 : Box w2 (p) 24 #[.bool u, .int .u64 k, .int .u64 v, .int .u64 t, .int .u64 r, .int .u64 n, .int .i64 x] := by
    have h9 := (Box.new w 24 #[.bool u, .int .u64 k, .int .u64 v, .int .u64 t, .int .u64 r, .int .u64 n, .int .i64 x])
    try simp only [World.size_alloc] at h9
    simp only [hp, hw2] at h9
    exact h9
  have hB : Below w.heap.size w w2 := by
    have h9 := ((Below.refl w.heap.size w).alloc (by simp; try omega) (.cells #[.bool u, .int .u64 k, .int .u64 v, .int .u64 t, .int .u64 r, .int .u64 n, .int .i64 x] 24))
    rw [hw2] at h9
    exact h9
  have hS : w2.heap.size = p + 1 := by rw [← hw2]; simp [hp]
  have HX2 := Lib.hid hx0
  have HB2 := Lib.hid hB
  have HP := Lib.hid (Nat.le_of_eq hp)
  have HPP := Lib.hid hp
  have HW := Lib.hid hw2
  clear hx0 hB hS hp hw2
  go_enter Try.func7, Try.ntmps7
  go_upto_region 1 with fail
  simp only [HPP.out, HW.out]
  clear HPP HW
  go_wp2_with fail
  refine (slshown_any _).mono ?_
  rintro e w3 ⟨rfl, hb⟩
  have HX3 := Lib.hid (show Box w3 p 24 #[.bool u, .int .u64 k, .int .u64 v, .int .u64 t, .int .u64 r, .int .u64 n, .int .i64 x] from HX2.out.of (hb.block _ HX2.out.lt))
  have HB3 := Lib.hid (HB2.out.trans (hb.mono HB2.out.size))
  clear hb HX2 HB2
  have c0 : w3.cell? ⟨p, 0, none⟩ = some (.bool u) := HX3.out.cell 0
  have c1 : w3.cell? ⟨p, 1, none⟩ = some (.int .u64 k) := HX3.out.cell 1
  have c2 : w3.cell? ⟨p, 2, none⟩ = some (.int .u64 v) := HX3.out.cell 2
  have c3 : w3.cell? ⟨p, 3, none⟩ = some (.int .u64 t) := HX3.out.cell 3
  have c4 : w3.cell? ⟨p, 4, none⟩ = some (.int .u64 r) := HX3.out.cell 4
  have c5 : w3.cell? ⟨p, 5, none⟩ = some (.int .u64 n) := HX3.out.cell 5
  have c6 : w3.cell? ⟨p, 6, none⟩ = some (.int .i64 x) := HX3.out.cell 6
  go_wp2_with fail
  refine (H1.out _).mono ?_
  rintro e w4 ⟨rfl, hb⟩
  have HX4 := Lib.hid (show Box w4 p 24 #[.bool u, .int .u64 k, .int .u64 v, .int .u64 t, .int .u64 r, .int .u64 n, .int .i64 x] from HX3.out.of (hb.block _ HX3.out.lt))
  have HB4 := Lib.hid (HB3.out.trans (hb.mono HB3.out.size))
  clear hb HX3 HB3
  clear c0 c1 c2 c3 c4 c5 c6
  have c0 : w4.cell? ⟨p, 0, none⟩ = some (.bool u) := HX4.out.cell 0
  have c1 : w4.cell? ⟨p, 1, none⟩ = some (.int .u64 k) := HX4.out.cell 1
  have c2 : w4.cell? ⟨p, 2, none⟩ = some (.int .u64 v) := HX4.out.cell 2
  have c3 : w4.cell? ⟨p, 3, none⟩ = some (.int .u64 t) := HX4.out.cell 3
  have c4 : w4.cell? ⟨p, 4, none⟩ = some (.int .u64 r) := HX4.out.cell 4
  have c5 : w4.cell? ⟨p, 5, none⟩ = some (.int .u64 n) := HX4.out.cell 5
  have c6 : w4.cell? ⟨p, 6, none⟩ = some (.int .i64 x) := HX4.out.cell 6
  go_wp2_with fail
  refine (H2.out _).mono ?_
  rintro e w5 ⟨rfl, hb⟩
  have HX5 := Lib.hid (show Box w5 p 24 #[.bool u, .int .u64 k, .int .u64 v, .int .u64 t, .int .u64 r, .int .u64 n, .int .i64 x] from HX4.out.of (hb.block _ HX4.out.lt))
  have HB5 := Lib.hid (HB4.out.trans (hb.mono HB4.out.size))
  clear hb HX4 HB4
  clear c0 c1 c2 c3 c4 c5 c6
  clear e1 e2
  have c3 : w5.cell? ⟨p, 3, none⟩ = some (.int .u64 t) := HX5.out.cell 3
  have f3 := HX5.out.frozen 3
  go_upto_region 5 with fail
  obtain ⟨w6, hw6⟩ : ∃ w9, w5.setCell ⟨p, 3, none⟩ (.int .u64 0) = w9 := ⟨_, rfl⟩
  have HX6 := Lib.hid (show Box w6 p 24 #[.bool u, .int .u64 k, .int .u64 v, .int .u64 0, .int .u64 r, .int .u64 n, .int .i64 x] by rw [← hw6]; exact HX5.out.put 3 _)
  have HB6 := Lib.hid (show Below w.heap.size w w6 by rw [← hw6]; exact HB5.out.setCell (p := ⟨p, 3, none⟩) (by show w.heap.size ≤ p; exact HP.out) _)
  rw [hw6]
  clear c3 f3 hw6 HX5 HB5
  have c0 : w6.cell? ⟨p, 0, none⟩ = some (.bool u) := HX6.out.cell 0
  have c1 : w6.cell? ⟨p, 1, none⟩ = some (.int .u64 k) := HX6.out.cell 1
  have c2 : w6.cell? ⟨p, 2, none⟩ = some (.int .u64 v) := HX6.out.cell 2
  have c3 : w6.cell? ⟨p, 3, none⟩ = some (.int .u64 0) := HX6.out.cell 3
  have c4 : w6.cell? ⟨p, 4, none⟩ = some (.int .u64 r) := HX6.out.cell 4
  have c5 : w6.cell? ⟨p, 5, none⟩ = some (.int .u64 n) := HX6.out.cell 5
  have c6 : w6.cell? ⟨p, 6, none⟩ = some (.int .i64 x) := HX6.out.cell 6
  go_wp2_with fail
  refine (H3.out _).mono ?_
  rintro e w7 ⟨rfl, hb⟩
  have HX7 := Lib.hid (show Box w7 p 24 #[.bool u, .int .u64 k, .int .u64 v, .int .u64 0, .int .u64 r, .int .u64 n, .int .i64 x] from HX6.out.of (hb.block _ HX6.out.lt))
  have HB7 := Lib.hid (HB6.out.trans (hb.mono HB6.out.size))
  clear hb HX6 HB6
  clear c0 c1 c2 c3 c4 c5 c6
  have c3 : w7.cell? ⟨p, 3, none⟩ = some (.int .u64 0) := HX7.out.cell 3
  have f3 := HX7.out.frozen 3
  go_upto_region 7 with fail
  obtain ⟨w8, hw8⟩ : ∃ w9, w7.setCell ⟨p, 3, none⟩ (.int .u64 0) = w9 := ⟨_, rfl⟩
  have HX8 := Lib.hid (show Box w8 p 24 #[.bool u, .int .u64 k, .int .u64 v, .int .u64 0, .int .u64 r, .int .u64 n, .int .i64 x] by rw [← hw8]; exact HX7.out.put 3 _)
  have HB8 := Lib.hid (show Below w.heap.size w w8 by rw [← hw8]; exact HB7.out.setCell (p := ⟨p, 3, none⟩) (by show w.heap.size ≤ p; exact HP.out) _)
  rw [hw8]
  clear c3 f3 hw8 HX7 HB7
  have c0 : w8.cell? ⟨p, 0, none⟩ = some (.bool u) := HX8.out.cell 0
  have f0 := HX8.out.frozen 0
  go_upto_region 8 with fail
  obtain ⟨w9, hw9⟩ : ∃ w9, w8.setCell ⟨p, 0, none⟩ (.bool false) = w9 := ⟨_, rfl⟩
  have HX9 := Lib.hid (show Box w9 p 24 #[.bool false, .int .u64 k, .int .u64 v, .int .u64 0, .int .u64 r, .int .u64 n, .int .i64 x] by rw [← hw9]; exact HX8.out.put 0 _)
  have HB9 := Lib.hid (show Below w.heap.size w w9 by rw [← hw9]; exact HB8.out.setCell (p := ⟨p, 0, none⟩) (by show w.heap.size ≤ p; exact HP.out) _)
  rw [hw9]
  clear c0 f0 hw9 HX8 HB8
  have c0 : w9.cell? ⟨p, 0, none⟩ = some (.bool false) := HX9.out.cell 0
  have c1 : w9.cell? ⟨p, 1, none⟩ = some (.int .u64 k) := HX9.out.cell 1
  have c2 : w9.cell? ⟨p, 2, none⟩ = some (.int .u64 v) := HX9.out.cell 2
  have c3 : w9.cell? ⟨p, 3, none⟩ = some (.int .u64 0) := HX9.out.cell 3
  have c4 : w9.cell? ⟨p, 4, none⟩ = some (.int .u64 r) := HX9.out.cell 4
  have c5 : w9.cell? ⟨p, 5, none⟩ = some (.int .u64 n) := HX9.out.cell 5
  have c6 : w9.cell? ⟨p, 6, none⟩ = some (.int .i64 x) := HX9.out.cell 6
  go_wp2_with fail
  refine (H4.out _).mono ?_
  rintro e w10 ⟨rfl, hb⟩
  have HX10 := Lib.hid (show Box w10 p 24 #[.bool false, .int .u64 k, .int .u64 v, .int .u64 0, .int .u64 r, .int .u64 n, .int .i64 x] from HX9.out.of (hb.block _ HX9.out.lt))
  have HB10 := Lib.hid (HB9.out.trans (hb.mono HB9.out.size))
  clear hb HX9 HB9
  clear c0 c1 c2 c3 c4 c5 c6
  have c0 : w10.cell? ⟨p, 0, none⟩ = some (.bool false) := HX10.out.cell 0
  have f0 := HX10.out.frozen 0
  go_upto_region 10 with fail
  obtain ⟨w11, hw11⟩ : ∃ w9, w10.setCell ⟨p, 0, none⟩ (.bool true) = w9 := ⟨_, rfl⟩
  have HX11 := Lib.hid (show Box w11 p 24 #[.bool true, .int .u64 k, .int .u64 v, .int .u64 0, .int .u64 r, .int .u64 n, .int .i64 x] by rw [← hw11]; exact HX10.out.put 0 _)
  have HB11 := Lib.hid (show Below w.heap.size w w11 by rw [← hw11]; exact HB10.out.setCell (p := ⟨p, 0, none⟩) (by show w.heap.size ≤ p; exact HP.out) _)
  rw [hw11]
  clear c0 f0 hw11 HX10 HB10
  have c0 : w11.cell? ⟨p, 0, none⟩ = some (.bool true) := HX11.out.cell 0
  have c1 : w11.cell? ⟨p, 1, none⟩ = some (.int .u64 k) := HX11.out.cell 1
  have c2 : w11.cell? ⟨p, 2, none⟩ = some (.int .u64 v) := HX11.out.cell 2
  have c3 : w11.cell? ⟨p, 3, none⟩ = some (.int .u64 0) := HX11.out.cell 3
  have c4 : w11.cell? ⟨p, 4, none⟩ = some (.int .u64 r) := HX11.out.cell 4
  have c5 : w11.cell? ⟨p, 5, none⟩ = some (.int .u64 n) := HX11.out.cell 5
  have c6 : w11.cell? ⟨p, 6, none⟩ = some (.int .i64 x) := HX11.out.cell 6
  go_wp2_with fail
  refine (H5.out _).mono ?_
  rintro e w12 ⟨rfl, hb⟩
  have HX12 := Lib.hid (show Box w12 p 24 #[.bool true, .int .u64 k, .int .u64 v, .int .u64 0, .int .u64 r, .int .u64 n, .int .i64 x] from HX11.out.of (hb.block _ HX11.out.lt))
  have HB12 := Lib.hid (HB11.out.trans (hb.mono HB11.out.size))
  clear hb HX11 HB11
  clear c0 c1 c2 c3 c4 c5 c6
  have hE := HE.out
  subst hE
  go_wp2_with fail
  go_ret
  exact ⟨rfl, HB12.out⟩
set_option maxHeartbeats 2000000 in
theorem times_bp (u : Bool) (k v t r n x a b mn mx : Int) (E : Bool) (w : World) (e1 : (if b < a then b else a) = mn) (e2 : (if a < b then b else a) = mx)
    (ha : decide (0 < a) = true) (hE : (E == decide (a ≤ b)) = true)
    (H1 : Hid (∀ W, Calls Try.prog 20 #[.agg #[.bool u, .int .u64 k, .int .u64 v, .int .u64 t, .int .u64 r, .int .u64 n, .int .i64 x], .int .u64 mn] W fun e w' => e = .returned (.bool true) ∧ Below W.heap.size W w'))
    (H2 : Hid (∀ W, Calls Try.prog 20 #[.agg #[.bool u, .int .u64 k, .int .u64 v, .int .u64 t, .int .u64 r, .int .u64 n, .int .i64 x], .int .u64 mx] W fun e w' => e = .returned (.bool true) ∧ Below W.heap.size W w'))
    (H3 : Hid (∀ W, Calls Try.prog 20 #[.agg #[.bool u, .int .u64 k, .int .u64 v, .int .u64 0, .int .u64 r, .int .u64 n, .int .i64 x], .int .u64 a] W fun e w' => e = .returned (.bool false) ∧ Below W.heap.size W w'))
    (H4 : Hid (∀ W, Calls Try.prog 20 #[.agg #[.bool false, .int .u64 k, .int .u64 v, .int .u64 a, .int .u64 r, .int .u64 n, .int .i64 x], .int .u64 b] W fun e w' => e = .returned (.bool false) ∧ Below W.heap.size W w'))
    (H5 : Hid (∀ W, Calls Try.prog 20 #[.agg #[.bool true, .int .u64 k, .int .u64 v, .int .u64 a, .int .u64 r, .int .u64 n, .int .i64 x], .int .u64 b] W fun e w' => e = .returned (.bool E) ∧ Below W.heap.size W w')) :
    Calls Try.prog 7 #[.agg #[.bool u, .int .u64 k, .int .u64 v, .int .u64 t, .int .u64 r, .int .u64 n, .int .i64 x], .int .u64 a, .int .u64 b] w fun e w' => e = .returned (.bool true) ∧ Below w.heap.size w w' := by
  have HE := Lib.hid hE
  clear hE
  obtain ⟨p, hp⟩ : ∃ p, w.heap.size = p := ⟨_, rfl⟩
  obtain ⟨w2, hw2⟩ : ∃ w9, (w.alloc (.cells #[.bool u, .int .u64 k, .int .u64 v, .int .u64 t, .int .u64 r, .int .u64 n, .int .i64 x] 24)) = w9 := ⟨_, rfl⟩
  have hx0 : Box w2 (p) 24 #[.bool u, .int .u64 k, .int .u64 v, .int .u64 t, .int .u64 r, .int .u64 n, .int .i64 x] := by
    have h9 := (Box.new w 24 #[.bool u, .int .u64 k, .int .u64 v, .int .u64 t, .int .u64 r, .int .u64 n, .int .i64 x])
    try simp only [World.size_alloc] at h9
    simp only [hp, hw2] at h9
    exact h9
  have hB : Below w.heap.size w w2 := by
    have h9 := ((Below.refl w.heap.size w).alloc (by simp; try omega) (.cells #[.bool u, .int .u64 k, .int .u64 v, .int .u64 t, .int .u64 r, .int .u64 n, .int .i64 x] 24))
    rw [hw2] at h9
    exact h9
  have hS : w2.heap.size = p + 1 := by rw [← hw2]; simp [hp]
  have HX2 := Lib.hid hx0
  have HB2 := Lib.hid hB
  have HP := Lib.hid (Nat.le_of_eq hp)
  have HPP := Lib.hid hp
  have HW := Lib.hid hw2
  clear hx0 hB hS hp hw2
  go_enter Try.func7, Try.ntmps7
  go_upto_region 1 with fail
  simp only [HPP.out, HW.out]
  clear HPP HW
  go_wp2_with fail
  refine (slshown_any _).mono ?_
  rintro e w3 ⟨rfl, hb⟩
  have HX3 := Lib.hid (show Box w3 p 24 #[.bool u, .int .u64 k, .int .u64 v, .int .u64 t, .int .u64 r, .int .u64 n, .int .i64 x] from HX2.out.of (hb.block _ HX2.out.lt))
  have HB3 := Lib.hid (HB2.out.trans (hb.mono HB2.out.size))
  clear hb HX2 HB2
  have c0 : w3.cell? ⟨p, 0, none⟩ = some (.bool u) := HX3.out.cell 0
  have c1 : w3.cell? ⟨p, 1, none⟩ = some (.int .u64 k) := HX3.out.cell 1
  have c2 : w3.cell? ⟨p, 2, none⟩ = some (.int .u64 v) := HX3.out.cell 2
  have c3 : w3.cell? ⟨p, 3, none⟩ = some (.int .u64 t) := HX3.out.cell 3
  have c4 : w3.cell? ⟨p, 4, none⟩ = some (.int .u64 r) := HX3.out.cell 4
  have c5 : w3.cell? ⟨p, 5, none⟩ = some (.int .u64 n) := HX3.out.cell 5
  have c6 : w3.cell? ⟨p, 6, none⟩ = some (.int .i64 x) := HX3.out.cell 6
  go_wp2_with fail
  refine (H1.out _).mono ?_
  rintro e w4 ⟨rfl, hb⟩
  have HX4 := Lib.hid (show Box w4 p 24 #[.bool u, .int .u64 k, .int .u64 v, .int .u64 t, .int .u64 r, .int .u64 n, .int .i64 x] from HX3.out.of (hb.block _ HX3.out.lt))
  have HB4 := Lib.hid (HB3.out.trans (hb.mono HB3.out.size))
  clear hb HX3 HB3
  clear c0 c1 c2 c3 c4 c5 c6
  have c0 : w4.cell? ⟨p, 0, none⟩ = some (.bool u) := HX4.out.cell 0
  have c1 : w4.cell? ⟨p, 1, none⟩ = some (.int .u64 k) := HX4.out.cell 1
  have c2 : w4.cell? ⟨p, 2, none⟩ = some (.int .u64 v) := HX4.out.cell 2
  have c3 : w4.cell? ⟨p, 3, none⟩ = some (.int .u64 t) := HX4.out.cell 3
  have c4 : w4.cell? ⟨p, 4, none⟩ = some (.int .u64 r) := HX4.out.cell 4
  have c5 : w4.cell? ⟨p, 5, none⟩ = some (.int .u64 n) := HX4.out.cell 5
  have c6 : w4.cell? ⟨p, 6, none⟩ = some (.int .i64 x) := HX4.out.cell 6
  go_wp2_with fail
  refine (H2.out _).mono ?_
  rintro e w5 ⟨rfl, hb⟩
  have HX5 := Lib.hid (show Box w5 p 24 #[.bool u, .int .u64 k, .int .u64 v, .int .u64 t, .int .u64 r, .int .u64 n, .int .i64 x] from HX4.out.of (hb.block _ HX4.out.lt))
  have HB5 := Lib.hid (HB4.out.trans (hb.mono HB4.out.size))
  clear hb HX4 HB4
  clear c0 c1 c2 c3 c4 c5 c6
  clear e1 e2
  have c3 : w5.cell? ⟨p, 3, none⟩ = some (.int .u64 t) := HX5.out.cell 3
  have f3 := HX5.out.frozen 3
  go_upto_region 5 with fail
  obtain ⟨w6, hw6⟩ : ∃ w9, w5.setCell ⟨p, 3, none⟩ (.int .u64 0) = w9 := ⟨_, rfl⟩
  have HX6 := Lib.hid (show Box w6 p 24 #[.bool u, .int .u64 k, .int .u64 v, .int .u64 0, .int .u64 r, .int .u64 n, .int .i64 x] by rw [← hw6]; exact HX5.out.put 3 _)
  have HB6 := Lib.hid (show Below w.heap.size w w6 by rw [← hw6]; exact HB5.out.setCell (p := ⟨p, 3, none⟩) (by show w.heap.size ≤ p; exact HP.out) _)
  rw [hw6]
  clear c3 f3 hw6 HX5 HB5
  have c0 : w6.cell? ⟨p, 0, none⟩ = some (.bool u) := HX6.out.cell 0
  have c1 : w6.cell? ⟨p, 1, none⟩ = some (.int .u64 k) := HX6.out.cell 1
  have c2 : w6.cell? ⟨p, 2, none⟩ = some (.int .u64 v) := HX6.out.cell 2
  have c3 : w6.cell? ⟨p, 3, none⟩ = some (.int .u64 0) := HX6.out.cell 3
  have c4 : w6.cell? ⟨p, 4, none⟩ = some (.int .u64 r) := HX6.out.cell 4
  have c5 : w6.cell? ⟨p, 5, none⟩ = some (.int .u64 n) := HX6.out.cell 5
  have c6 : w6.cell? ⟨p, 6, none⟩ = some (.int .i64 x) := HX6.out.cell 6
  go_wp2_with fail
  refine (H3.out _).mono ?_
  rintro e w7 ⟨rfl, hb⟩
  have HX7 := Lib.hid (show Box w7 p 24 #[.bool u, .int .u64 k, .int .u64 v, .int .u64 0, .int .u64 r, .int .u64 n, .int .i64 x] from HX6.out.of (hb.block _ HX6.out.lt))
  have HB7 := Lib.hid (HB6.out.trans (hb.mono HB6.out.size))
  clear hb HX6 HB6
  clear c0 c1 c2 c3 c4 c5 c6
  have c3 : w7.cell? ⟨p, 3, none⟩ = some (.int .u64 0) := HX7.out.cell 3
  have f3 := HX7.out.frozen 3
  go_upto_region 7 with fail
  obtain ⟨w8, hw8⟩ : ∃ w9, w7.setCell ⟨p, 3, none⟩ (.int .u64 a) = w9 := ⟨_, rfl⟩
  have HX8 := Lib.hid (show Box w8 p 24 #[.bool u, .int .u64 k, .int .u64 v, .int .u64 a, .int .u64 r, .int .u64 n, .int .i64 x] by rw [← hw8]; exact HX7.out.put 3 _)
  have HB8 := Lib.hid (show Below w.heap.size w w8 by rw [← hw8]; exact HB7.out.setCell (p := ⟨p, 3, none⟩) (by show w.heap.size ≤ p; exact HP.out) _)
  rw [hw8]
  clear c3 f3 hw8 HX7 HB7
  have c0 : w8.cell? ⟨p, 0, none⟩ = some (.bool u) := HX8.out.cell 0
  have f0 := HX8.out.frozen 0
  go_upto_region 8 with fail
  obtain ⟨w9, hw9⟩ : ∃ w9, w8.setCell ⟨p, 0, none⟩ (.bool false) = w9 := ⟨_, rfl⟩
  have HX9 := Lib.hid (show Box w9 p 24 #[.bool false, .int .u64 k, .int .u64 v, .int .u64 a, .int .u64 r, .int .u64 n, .int .i64 x] by rw [← hw9]; exact HX8.out.put 0 _)
  have HB9 := Lib.hid (show Below w.heap.size w w9 by rw [← hw9]; exact HB8.out.setCell (p := ⟨p, 0, none⟩) (by show w.heap.size ≤ p; exact HP.out) _)
  rw [hw9]
  clear c0 f0 hw9 HX8 HB8
  have c0 : w9.cell? ⟨p, 0, none⟩ = some (.bool false) := HX9.out.cell 0
  have c1 : w9.cell? ⟨p, 1, none⟩ = some (.int .u64 k) := HX9.out.cell 1
  have c2 : w9.cell? ⟨p, 2, none⟩ = some (.int .u64 v) := HX9.out.cell 2
  have c3 : w9.cell? ⟨p, 3, none⟩ = some (.int .u64 a) := HX9.out.cell 3
  have c4 : w9.cell? ⟨p, 4, none⟩ = some (.int .u64 r) := HX9.out.cell 4
  have c5 : w9.cell? ⟨p, 5, none⟩ = some (.int .u64 n) := HX9.out.cell 5
  have c6 : w9.cell? ⟨p, 6, none⟩ = some (.int .i64 x) := HX9.out.cell 6
  go_wp2_with fail
  refine (H4.out _).mono ?_
  rintro e w10 ⟨rfl, hb⟩
  have HX10 := Lib.hid (show Box w10 p 24 #[.bool false, .int .u64 k, .int .u64 v, .int .u64 a, .int .u64 r, .int .u64 n, .int .i64 x] from HX9.out.of (hb.block _ HX9.out.lt))
  have HB10 := Lib.hid (HB9.out.trans (hb.mono HB9.out.size))
  clear hb HX9 HB9
  clear c0 c1 c2 c3 c4 c5 c6
  have c0 : w10.cell? ⟨p, 0, none⟩ = some (.bool false) := HX10.out.cell 0
  have f0 := HX10.out.frozen 0
  go_upto_region 10 with fail
  obtain ⟨w11, hw11⟩ : ∃ w9, w10.setCell ⟨p, 0, none⟩ (.bool true) = w9 := ⟨_, rfl⟩
  have HX11 := Lib.hid (show Box w11 p 24 #[.bool true, .int .u64 k, .int .u64 v, .int .u64 a, .int .u64 r, .int .u64 n, .int .i64 x] by rw [← hw11]; exact HX10.out.put 0 _)
  have HB11 := Lib.hid (show Below w.heap.size w w11 by rw [← hw11]; exact HB10.out.setCell (p := ⟨p, 0, none⟩) (by show w.heap.size ≤ p; exact HP.out) _)
  rw [hw11]
  clear c0 f0 hw11 HX10 HB10
  have c0 : w11.cell? ⟨p, 0, none⟩ = some (.bool true) := HX11.out.cell 0
  have c1 : w11.cell? ⟨p, 1, none⟩ = some (.int .u64 k) := HX11.out.cell 1
  have c2 : w11.cell? ⟨p, 2, none⟩ = some (.int .u64 v) := HX11.out.cell 2
  have c3 : w11.cell? ⟨p, 3, none⟩ = some (.int .u64 a) := HX11.out.cell 3
  have c4 : w11.cell? ⟨p, 4, none⟩ = some (.int .u64 r) := HX11.out.cell 4
  have c5 : w11.cell? ⟨p, 5, none⟩ = some (.int .u64 n) := HX11.out.cell 5
  have c6 : w11.cell? ⟨p, 6, none⟩ = some (.int .i64 x) := HX11.out.cell 6
  go_wp2_with fail
  refine (H5.out _).mono ?_
  rintro e w12 ⟨rfl, hb⟩
  have HX12 := Lib.hid (show Box w12 p 24 #[.bool true, .int .u64 k, .int .u64 v, .int .u64 a, .int .u64 r, .int .u64 n, .int .i64 x] from HX11.out.of (hb.block _ HX11.out.lt))
  have HB12 := Lib.hid (HB11.out.trans (hb.mono HB11.out.size))
  clear hb HX11 HB11
  clear c0 c1 c2 c3 c4 c5 c6
  have hE := HE.out
  go_wp2_with fail
  go_ret
  exact ⟨rfl, HB12.out⟩
set_option maxHeartbeats 2000000 in
theorem times_bz (u : Bool) (k v t r n x b mn mx : Int) (E : Bool) (w : World) (e1 : (if b < 0 then b else 0) = mn) (e2 : (if 0 < b then b else 0) = mx)
    (hE : E = false)
    (H1 : Hid (∀ W, Calls Try.prog 20 #[.agg #[.bool u, .int .u64 k, .int .u64 v, .int .u64 t, .int .u64 r, .int .u64 n, .int .i64 x], .int .u64 mn] W fun e w' => e = .returned (.bool true) ∧ Below W.heap.size W w'))
    (H2 : Hid (∀ W, Calls Try.prog 20 #[.agg #[.bool u, .int .u64 k, .int .u64 v, .int .u64 t, .int .u64 r, .int .u64 n, .int .i64 x], .int .u64 mx] W fun e w' => e = .returned (.bool true) ∧ Below W.heap.size W w'))
    (H3 : Hid (∀ W, Calls Try.prog 20 #[.agg #[.bool u, .int .u64 k, .int .u64 v, .int .u64 0, .int .u64 r, .int .u64 n, .int .i64 x], .int .u64 0] W fun e w' => e = .returned (.bool false) ∧ Below W.heap.size W w'))
    (H4 : Hid (∀ W, Calls Try.prog 20 #[.agg #[.bool false, .int .u64 k, .int .u64 v, .int .u64 0, .int .u64 r, .int .u64 n, .int .i64 x], .int .u64 b] W fun e w' => e = .returned (.bool false) ∧ Below W.heap.size W w'))
    (H5 : Hid (∀ W, Calls Try.prog 20 #[.agg #[.bool true, .int .u64 k, .int .u64 v, .int .u64 0, .int .u64 r, .int .u64 n, .int .i64 x], .int .u64 b] W fun e w' => e = .returned (.bool E) ∧ Below W.heap.size W w')) :
    Calls Try.prog 7 #[.agg #[.bool u, .int .u64 k, .int .u64 v, .int .u64 t, .int .u64 r, .int .u64 n, .int .i64 x], .int .u64 0, .int .u64 b] w fun e w' => e = .returned (.bool true) ∧ Below w.heap.size w w' := by
  have HE := Lib.hid hE
  clear hE
  obtain ⟨p, hp⟩ : ∃ p, w.heap.size = p := ⟨_, rfl⟩
  obtain ⟨w2, hw2⟩ : ∃ w9, (w.alloc (.cells #[.bool u, .int .u64 k, .int .u64 v, .int .u64 t, .int .u64 r, .int .u64 n, .int .i64 x] 24)) = w9 := ⟨_, rfl⟩
  have hx0 : Box w2 (p) 24 #[.bool u, .int .u64 k, .int .u64 v, .int .u64 t, .int .u64 r, .int .u64 n, .int .i64 x] := by
    have h9 := (Box.new w 24 #[.bool u, .int .u64 k, .int .u64 v, .int .u64 t, .int .u64 r, .int .u64 n, .int .i64 x])
    try simp only [World.size_alloc] at h9
    simp only [hp, hw2] at h9
    exact h9
  have hB : Below w.heap.size w w2 := by
    have h9 := ((Below.refl w.heap.size w).alloc (by simp; try omega) (.cells #[.bool u, .int .u64 k, .int .u64 v, .int .u64 t, .int .u64 r, .int .u64 n, .int .i64 x] 24))
    rw [hw2] at h9
    exact h9
  have hS : w2.heap.size = p + 1 := by rw [← hw2]; simp [hp]
  have HX2 := Lib.hid hx0
  have HB2 := Lib.hid hB
  have HP := Lib.hid (Nat.le_of_eq hp)
  have HPP := Lib.hid hp
  have HW := Lib.hid hw2
  clear hx0 hB hS hp hw2
  go_enter Try.func7, Try.ntmps7
  go_upto_region 1 with fail
  simp only [HPP.out, HW.out]
  clear HPP HW
  go_wp2_with fail
  refine (slshown_any _).mono ?_
  rintro e w3 ⟨rfl, hb⟩
  have HX3 := Lib.hid (show Box w3 p 24 #[.bool u, .int .u64 k, .int .u64 v, .int .u64 t, .int .u64 r, .int .u64 n, .int .i64 x] from HX2.out.of (hb.block _ HX2.out.lt))
  have HB3 := Lib.hid (HB2.out.trans (hb.mono HB2.out.size))
  clear hb HX2 HB2
  have c0 : w3.cell? ⟨p, 0, none⟩ = some (.bool u) := HX3.out.cell 0
  have c1 : w3.cell? ⟨p, 1, none⟩ = some (.int .u64 k) := HX3.out.cell 1
  have c2 : w3.cell? ⟨p, 2, none⟩ = some (.int .u64 v) := HX3.out.cell 2
  have c3 : w3.cell? ⟨p, 3, none⟩ = some (.int .u64 t) := HX3.out.cell 3
  have c4 : w3.cell? ⟨p, 4, none⟩ = some (.int .u64 r) := HX3.out.cell 4
  have c5 : w3.cell? ⟨p, 5, none⟩ = some (.int .u64 n) := HX3.out.cell 5
  have c6 : w3.cell? ⟨p, 6, none⟩ = some (.int .i64 x) := HX3.out.cell 6
  go_wp2_with fail
  refine (H1.out _).mono ?_
  rintro e w4 ⟨rfl, hb⟩
  have HX4 := Lib.hid (show Box w4 p 24 #[.bool u, .int .u64 k, .int .u64 v, .int .u64 t, .int .u64 r, .int .u64 n, .int .i64 x] from HX3.out.of (hb.block _ HX3.out.lt))
  have HB4 := Lib.hid (HB3.out.trans (hb.mono HB3.out.size))
  clear hb HX3 HB3
  clear c0 c1 c2 c3 c4 c5 c6
  have c0 : w4.cell? ⟨p, 0, none⟩ = some (.bool u) := HX4.out.cell 0
  have c1 : w4.cell? ⟨p, 1, none⟩ = some (.int .u64 k) := HX4.out.cell 1
  have c2 : w4.cell? ⟨p, 2, none⟩ = some (.int .u64 v) := HX4.out.cell 2
  have c3 : w4.cell? ⟨p, 3, none⟩ = some (.int .u64 t) := HX4.out.cell 3
  have c4 : w4.cell? ⟨p, 4, none⟩ = some (.int .u64 r) := HX4.out.cell 4
  have c5 : w4.cell? ⟨p, 5, none⟩ = some (.int .u64 n) := HX4.out.cell 5
  have c6 : w4.cell? ⟨p, 6, none⟩ = some (.int .i64 x) := HX4.out.cell 6
  go_wp2_with fail
  refine (H2.out _).mono ?_
  rintro e w5 ⟨rfl, hb⟩
  have HX5 := Lib.hid (show Box w5 p 24 #[.bool u, .int .u64 k, .int .u64 v, .int .u64 t, .int .u64 r, .int .u64 n, .int .i64 x] from HX4.out.of (hb.block _ HX4.out.lt))
  have HB5 := Lib.hid (HB4.out.trans (hb.mono HB4.out.size))
  clear hb HX4 HB4
  clear c0 c1 c2 c3 c4 c5 c6
  clear e1 e2
  have c3 : w5.cell? ⟨p, 3, none⟩ = some (.int .u64 t) := HX5.out.cell 3
  have f3 := HX5.out.frozen 3
  go_upto_region 5 with fail
  obtain ⟨w6, hw6⟩ : ∃ w9, w5.setCell ⟨p, 3, none⟩ (.int .u64 0) = w9 := ⟨_, rfl⟩
  have HX6 := Lib.hid (show Box w6 p 24 #[.bool u, .int .u64 k, .int .u64 v, .int .u64 0, .int .u64 r, .int .u64 n, .int .i64 x] by rw [← hw6]; exact HX5.out.put 3 _)
  have HB6 := Lib.hid (show Below w.heap.size w w6 by rw [← hw6]; exact HB5.out.setCell (p := ⟨p, 3, none⟩) (by show w.heap.size ≤ p; exact HP.out) _)
  rw [hw6]
  clear c3 f3 hw6 HX5 HB5
  have c0 : w6.cell? ⟨p, 0, none⟩ = some (.bool u) := HX6.out.cell 0
  have c1 : w6.cell? ⟨p, 1, none⟩ = some (.int .u64 k) := HX6.out.cell 1
  have c2 : w6.cell? ⟨p, 2, none⟩ = some (.int .u64 v) := HX6.out.cell 2
  have c3 : w6.cell? ⟨p, 3, none⟩ = some (.int .u64 0) := HX6.out.cell 3
  have c4 : w6.cell? ⟨p, 4, none⟩ = some (.int .u64 r) := HX6.out.cell 4
  have c5 : w6.cell? ⟨p, 5, none⟩ = some (.int .u64 n) := HX6.out.cell 5
  have c6 : w6.cell? ⟨p, 6, none⟩ = some (.int .i64 x) := HX6.out.cell 6
  go_wp2_with fail
  refine (H3.out _).mono ?_
  rintro e w7 ⟨rfl, hb⟩
  have HX7 := Lib.hid (show Box w7 p 24 #[.bool u, .int .u64 k, .int .u64 v, .int .u64 0, .int .u64 r, .int .u64 n, .int .i64 x] from HX6.out.of (hb.block _ HX6.out.lt))
  have HB7 := Lib.hid (HB6.out.trans (hb.mono HB6.out.size))
  clear hb HX6 HB6
  clear c0 c1 c2 c3 c4 c5 c6
  have c3 : w7.cell? ⟨p, 3, none⟩ = some (.int .u64 0) := HX7.out.cell 3
  have f3 := HX7.out.frozen 3
  go_upto_region 7 with fail
  obtain ⟨w8, hw8⟩ : ∃ w9, w7.setCell ⟨p, 3, none⟩ (.int .u64 0) = w9 := ⟨_, rfl⟩
  have HX8 := Lib.hid (show Box w8 p 24 #[.bool u, .int .u64 k, .int .u64 v, .int .u64 0, .int .u64 r, .int .u64 n, .int .i64 x] by rw [← hw8]; exact HX7.out.put 3 _)
  have HB8 := Lib.hid (show Below w.heap.size w w8 by rw [← hw8]; exact HB7.out.setCell (p := ⟨p, 3, none⟩) (by show w.heap.size ≤ p; exact HP.out) _)
  rw [hw8]
  clear c3 f3 hw8 HX7 HB7
  have c0 : w8.cell? ⟨p, 0, none⟩ = some (.bool u) := HX8.out.cell 0
  have f0 := HX8.out.frozen 0
  go_upto_region 8 with fail
  obtain ⟨w9, hw9⟩ : ∃ w9, w8.setCell ⟨p, 0, none⟩ (.bool false) = w9 := ⟨_, rfl⟩
  have HX9 := Lib.hid (show Box w9 p 24 #[.bool false, .int .u64 k, .int .u64 v, .int .u64 0, .int .u64 r, .int .u64 n, .int .i64 x] by rw [← hw9]; exact HX8.out.put 0 _)
  have HB9 := Lib.hid (show Below w.heap.size w w9 by rw [← hw9]; exact HB8.out.setCell (p := ⟨p, 0, none⟩) (by show w.heap.size ≤ p; exact HP.out) _)
  rw [hw9]
  clear c0 f0 hw9 HX8 HB8
  have c0 : w9.cell? ⟨p, 0, none⟩ = some (.bool false) := HX9.out.cell 0
  have c1 : w9.cell? ⟨p, 1, none⟩ = some (.int .u64 k) := HX9.out.cell 1
  have c2 : w9.cell? ⟨p, 2, none⟩ = some (.int .u64 v) := HX9.out.cell 2
  have c3 : w9.cell? ⟨p, 3, none⟩ = some (.int .u64 0) := HX9.out.cell 3
  have c4 : w9.cell? ⟨p, 4, none⟩ = some (.int .u64 r) := HX9.out.cell 4
  have c5 : w9.cell? ⟨p, 5, none⟩ = some (.int .u64 n) := HX9.out.cell 5
  have c6 : w9.cell? ⟨p, 6, none⟩ = some (.int .i64 x) := HX9.out.cell 6
  go_wp2_with fail
  refine (H4.out _).mono ?_
  rintro e w10 ⟨rfl, hb⟩
  have HX10 := Lib.hid (show Box w10 p 24 #[.bool false, .int .u64 k, .int .u64 v, .int .u64 0, .int .u64 r, .int .u64 n, .int .i64 x] from HX9.out.of (hb.block _ HX9.out.lt))
  have HB10 := Lib.hid (HB9.out.trans (hb.mono HB9.out.size))
  clear hb HX9 HB9
  clear c0 c1 c2 c3 c4 c5 c6
  have c0 : w10.cell? ⟨p, 0, none⟩ = some (.bool false) := HX10.out.cell 0
  have f0 := HX10.out.frozen 0
  go_upto_region 10 with fail
  obtain ⟨w11, hw11⟩ : ∃ w9, w10.setCell ⟨p, 0, none⟩ (.bool true) = w9 := ⟨_, rfl⟩
  have HX11 := Lib.hid (show Box w11 p 24 #[.bool true, .int .u64 k, .int .u64 v, .int .u64 0, .int .u64 r, .int .u64 n, .int .i64 x] by rw [← hw11]; exact HX10.out.put 0 _)
  have HB11 := Lib.hid (show Below w.heap.size w w11 by rw [← hw11]; exact HB10.out.setCell (p := ⟨p, 0, none⟩) (by show w.heap.size ≤ p; exact HP.out) _)
  rw [hw11]
  clear c0 f0 hw11 HX10 HB10
  have c0 : w11.cell? ⟨p, 0, none⟩ = some (.bool true) := HX11.out.cell 0
  have c1 : w11.cell? ⟨p, 1, none⟩ = some (.int .u64 k) := HX11.out.cell 1
  have c2 : w11.cell? ⟨p, 2, none⟩ = some (.int .u64 v) := HX11.out.cell 2
  have c3 : w11.cell? ⟨p, 3, none⟩ = some (.int .u64 0) := HX11.out.cell 3
  have c4 : w11.cell? ⟨p, 4, none⟩ = some (.int .u64 r) := HX11.out.cell 4
  have c5 : w11.cell? ⟨p, 5, none⟩ = some (.int .u64 n) := HX11.out.cell 5
  have c6 : w11.cell? ⟨p, 6, none⟩ = some (.int .i64 x) := HX11.out.cell 6
  go_wp2_with fail
  refine (H5.out _).mono ?_
  rintro e w12 ⟨rfl, hb⟩
  have HX12 := Lib.hid (show Box w12 p 24 #[.bool true, .int .u64 k, .int .u64 v, .int .u64 0, .int .u64 r, .int .u64 n, .int .i64 x] from HX11.out.of (hb.block _ HX11.out.lt))
  have HB12 := Lib.hid (HB11.out.trans (hb.mono HB11.out.size))
  clear hb HX11 HB11
  clear c0 c1 c2 c3 c4 c5 c6
  have hE := HE.out
  subst hE
  go_wp2_with fail
  go_ret
  exact ⟨rfl, HB12.out⟩
theorem times_law (s : Sl) (a b : Int) (w : World) (hs : s.Ok) (ha : U64 a) :
    Calls Try.prog 7 #[.agg s.a, .int .u64 a, .int .u64 b] w fun e w' => e = .returned (.bool true) ∧ Below w.heap.size w w' := by
  have hex := fun (s : Sl) (now : Int) (hs : s.Ok) => Lib.hid (fun W => slexpired_any s now W hs)
  obtain ⟨u, k, v, t, r, n, x⟩ := s
  have ok2 : ∀ (u : Bool) (t : Int), U64 t → Sl.Ok ⟨u, k, v, t, r, n, x⟩ := fun u t ht => ⟨hs.k, hs.v, ht, hs.r, hs.n, hs.x⟩
  have z : U64 0 := by unfold U64; omega
  obtain ⟨mn, e1⟩ : ∃ m, (if b < a then b else a) = m := ⟨_, rfl⟩
  obtain ⟨mx, e2⟩ : ∃ m, (if a < b then b else a) = m := ⟨_, rfl⟩
  have hle : mn ≤ mx := by split at e1 <;> split at e2 <;> omega
  have q3 : ∀ a, exS u 0 a = false := fun a => by unfold exS; cases u <;> rfl
  have q4 : ∀ a b, exS false a b = false := fun a b => rfl
  have H1 := hex ⟨u, k, v, t, r, n, x⟩ mn hs
  have H2 := hex ⟨u, k, v, t, r, n, x⟩ mx hs
  have H3 := hex ⟨u, k, v, 0, r, n, x⟩ a (ok2 u 0 z)
  have H4 := hex ⟨false, k, v, a, r, n, x⟩ b (ok2 false a ha)
  have H5 := hex ⟨true, k, v, a, r, n, x⟩ b (ok2 true a ha)
  rw [show Sl.ex ⟨u, k, v, 0, r, n, x⟩ a = false from q3 a] at H3
  rw [show Sl.ex ⟨false, k, v, a, r, n, x⟩ b = false from rfl] at H4
  have hm : Sl.ex ⟨u, k, v, t, r, n, x⟩ mn = true → Sl.ex ⟨u, k, v, t, r, n, x⟩ mx = true := by
    show exS u t mn = true → exS u t mx = true
    unfold exS
    simp only [Bool.and_eq_true, decide_eq_true_eq]
    rintro ⟨h, h1⟩
    exact ⟨h, by omega⟩
  by_cases hz : a = 0
  · subst hz
    have h5 : Sl.ex ⟨true, k, v, 0, r, n, x⟩ b = false := rfl
    cases h1 : Sl.ex ⟨u, k, v, t, r, n, x⟩ mn
    · rw [h1] at H1
      exact times_az u k v t r n x b mn mx _ _ w e1 e2 h5 H1 H2 H3 H4 H5
    · rw [h1] at H1
      rw [hm h1] at H2
      exact times_bz u k v t r n x b mn mx _ w e1 e2 h5 H1 H2 H3 H4 H5
  · unfold U64 at ha
    have h0 : decide (0 < a) = true := by simp; omega
    have h5 : (Sl.ex ⟨true, k, v, a, r, n, x⟩ b == decide (a ≤ b)) = true := by
      show (exS true a b == _) = true
      have : (a != 0) = true := by simpa using hz
      unfold exS
      rw [this]
      simp
    cases h1 : Sl.ex ⟨u, k, v, t, r, n, x⟩ mn
    · rw [h1] at H1
      exact times_ap u k v t r n x a b mn mx _ _ w e1 e2 h0 h5 H1 H2 H3 H4 H5
    · rw [h1] at H1
      rw [hm h1] at H2
      exact times_bp u k v t r n x a b mn mx _ w e1 e2 h0 h5 H1 H2 H3 H4 H5
end Go.Proofs.Ytjamfcjglodfeaa
