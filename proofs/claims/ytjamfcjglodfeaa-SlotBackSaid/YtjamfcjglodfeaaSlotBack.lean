/- The law SlotBack, walked: for every entry and all words of a block it returns true, and nothing that was in memory changes. Conditions: words are of 64 bits, Next is an int. -/
import Derived.Below
import Derived.BigQuiet
import Derived.ChangeKeysEq
import Derived.ChangeSlices
import Derived.Deep.Cut
import Derived.Deep.Draws
import Derived.Deep.MidRow
import Derived.Deep.OwnRows
import Derived.Deep.Quiet
import Derived.Deep.QuietTactic
import Derived.Deep.WholeRow
import Derived.Laws.BitsAllLaws
import Derived.Laws.BytesArg
import Derived.Laws.NewBlocks
import Derived.Laws.StructEq
import Derived.Lib.Hide
import Derived.Lib.LazyBuf
import Derived.OpenShut
import Derived.OwnWalk
import Derived.ProofKit
import Derived.RowKit3
import Derived.SizedLaws
import Derived.WalkKit
import Derived.Test.YtjamfcjglodfeaaProg
import Derived.Test.YtjamfcjglodfeaaDataV
import Derived.Test.YtjamfcjglodfeaaGrow
import Derived.Test.YtjamfcjglodfeaaHeap
import Derived.Test.YtjamfcjglodfeaaSlot
import Derived.Test.YtjamfcjglodfeaaSlotData
import Derived.Test.YtjamfcjglodfeaaSlotLaw
import Derived.Test.YtjamfcjglodfeaaSlotMath
import Derived.Test.YtjamfcjglodfeaaSlotRead
namespace Go.Proofs.Ytjamfcjglodfeaa
open Go.RowKit Go.ChangeShapes Go.WideShapes Go.ChangeAt

set_option maxHeartbeats 2000000 in
theorem back_true_true (u1 : Bool) (k1 v1 t1 r1 n1 x1 : Int) (u4 : Bool) (k4 v4 t4 r4 n4 x4 : Int) (d f g : Nat → Int) (w : World)
    (R1 : Hid (∀ W, Calls Try.prog 16 #[.agg #[.bool u1, .int .u64 k1, .int .u64 v1, .int .u64 t1, .int .u64 r1, .int .u64 n1, .int .i64 x1]] W fun e w' => e = .returned (.bool true) ∧ Below W.heap.size W w'))
    (D1 : Hid (∀ W, Calls Try.prog 18 #[.agg #[.bool u1, .int .u64 k1, .int .u64 v1, .int .u64 t1, .int .u64 r1, .int .u64 n1, .int .i64 x1]] W fun e w' => e = .returned (.agg #[.int .u64 (f 0), .int .u64 (f 1), .int .u64 (f 2), .int .u64 (f 3), .int .u64 (f 4), .int .u64 (f 5), .int .u64 (f 6), .int .u64 (f 7)]) ∧ Below W.heap.size W w'))
    (E1 : Hid (∀ W, Calls Try.prog 9 #[.agg #[.int .u64 (f 0), .int .u64 (f 1), .int .u64 (f 2), .int .u64 (f 3), .int .u64 (f 4), .int .u64 (f 5), .int .u64 (f 6), .int .u64 (f 7)]] W fun e w' => e = .returned (.tuple #[.agg #[.bool u1, .int .u64 k1, .int .u64 v1, .int .u64 t1, .int .u64 r1, .int .u64 n1, .int .i64 x1], .int .i64 0]) ∧ Below W.heap.size W w'))
    (E2 : Hid (∀ W, Calls Try.prog 9 #[.agg #[.int .u64 (d 0), .int .u64 (d 1), .int .u64 (d 2), .int .u64 (d 3), .int .u64 (d 4), .int .u64 (d 5), .int .u64 (d 6), .int .u64 (d 7)]] W fun e w' => e = .returned (.tuple #[.agg #[.bool u4, .int .u64 k4, .int .u64 v4, .int .u64 t4, .int .u64 r4, .int .u64 n4, .int .i64 x4], .int .i64 0]) ∧ Below W.heap.size W w'))
    (Q1 : Hid (∀ W, (binOp .neq 24 (.agg #[.bool u1, .int .u64 k1, .int .u64 v1, .int .u64 t1, .int .u64 r1, .int .u64 n1, .int .i64 x1]) (.agg #[.bool u1, .int .u64 k1, .int .u64 v1, .int .u64 t1, .int .u64 r1, .int .u64 n1, .int .i64 x1])).run Try.prog W = .ok (.bool (false)) W))
    (R2 : Hid (∀ W, Calls Try.prog 16 #[.agg #[.bool u4, .int .u64 k4, .int .u64 v4, .int .u64 t4, .int .u64 r4, .int .u64 n4, .int .i64 x4]] W fun e w' => e = .returned (.bool true) ∧ Below W.heap.size W w'))
    (D2 : Hid (∀ W, Calls Try.prog 18 #[.agg #[.bool u4, .int .u64 k4, .int .u64 v4, .int .u64 t4, .int .u64 r4, .int .u64 n4, .int .i64 x4]] W fun e w' => e = .returned (.agg #[.int .u64 (g 0), .int .u64 (g 1), .int .u64 (g 2), .int .u64 (g 3), .int .u64 (g 4), .int .u64 (g 5), .int .u64 (g 6), .int .u64 (g 7)]) ∧ Below W.heap.size W w'))
    (Q2 : Hid (∀ W, (binOp .eql 26 (.agg #[.int .u64 (g 0), .int .u64 (g 1), .int .u64 (g 2), .int .u64 (g 3), .int .u64 (g 4), .int .u64 (g 5), .int .u64 (g 6), .int .u64 (g 7)]) (.agg #[.int .u64 (d 0), .int .u64 (d 1), .int .u64 (d 2), .int .u64 (d 3), .int .u64 (d 4), .int .u64 (d 5), .int .u64 (d 6), .int .u64 (d 7)])).run Try.prog W = .ok (.bool (true)) W)) :
    Calls Try.prog 4 #[.agg #[.bool u1, .int .u64 k1, .int .u64 v1, .int .u64 t1, .int .u64 r1, .int .u64 n1, .int .i64 x1], .agg #[.int .u64 (d 0), .int .u64 (d 1), .int .u64 (d 2), .int .u64 (d 3), .int .u64 (d 4), .int .u64 (d 5), .int .u64 (d 6), .int .u64 (d 7)]] w fun e w' => e = .returned (.bool true) ∧ Below w.heap.size w w' := by
  obtain ⟨p, hp⟩ : ∃ p, w.heap.size = p := ⟨_, rfl⟩
  obtain ⟨w2, hw2⟩ : ∃ w9, ((w.alloc (.cells #[.bool u1, .int .u64 k1, .int .u64 v1, .int .u64 t1, .int .u64 r1, .int .u64 n1, .int .i64 x1] 24)).alloc (.cells #[.int .u64 (d 0), .int .u64 (d 1), .int .u64 (d 2), .int .u64 (d 3), .int .u64 (d 4), .int .u64 (d 5), .int .u64 (d 6), .int .u64 (d 7)] 26)) = w9 := ⟨_, rfl⟩
  have hx0 : Box w2 (p) 24 #[.bool u1, .int .u64 k1, .int .u64 v1, .int .u64 t1, .int .u64 r1, .int .u64 n1, .int .i64 x1] := by
    have h9 := ((Box.new w 24 #[.bool u1, .int .u64 k1, .int .u64 v1, .int .u64 t1, .int .u64 r1, .int .u64 n1, .int .i64 x1])).alloc (.cells #[.int .u64 (d 0), .int .u64 (d 1), .int .u64 (d 2), .int .u64 (d 3), .int .u64 (d 4), .int .u64 (d 5), .int .u64 (d 6), .int .u64 (d 7)] 26)
    try simp only [World.size_alloc] at h9
    simp only [hp, hw2] at h9
    exact h9
  have hx1 : Box w2 (p + 1) 26 #[.int .u64 (d 0), .int .u64 (d 1), .int .u64 (d 2), .int .u64 (d 3), .int .u64 (d 4), .int .u64 (d 5), .int .u64 (d 6), .int .u64 (d 7)] := by
    have h9 := (Box.new (w.alloc (.cells #[.bool u1, .int .u64 k1, .int .u64 v1, .int .u64 t1, .int .u64 r1, .int .u64 n1, .int .i64 x1] 24)) 26 #[.int .u64 (d 0), .int .u64 (d 1), .int .u64 (d 2), .int .u64 (d 3), .int .u64 (d 4), .int .u64 (d 5), .int .u64 (d 6), .int .u64 (d 7)])
    try simp only [World.size_alloc] at h9
    simp only [hp, hw2] at h9
    exact h9
  have hB : Below w.heap.size w w2 := by
    have h9 := (((Below.refl w.heap.size w).alloc (by simp; try omega) (.cells #[.bool u1, .int .u64 k1, .int .u64 v1, .int .u64 t1, .int .u64 r1, .int .u64 n1, .int .i64 x1] 24)).alloc (by simp; try omega) (.cells #[.int .u64 (d 0), .int .u64 (d 1), .int .u64 (d 2), .int .u64 (d 3), .int .u64 (d 4), .int .u64 (d 5), .int .u64 (d 6), .int .u64 (d 7)] 26))
    rw [hw2] at h9
    exact h9
  have hS : w2.heap.size = p + 2 := by rw [← hw2]; simp [hp]
  have HX_a2 := Lib.hid hx0
  have HX_d2 := Lib.hid hx1
  have HB2 := Lib.hid hB
  have HPP := Lib.hid hp
  have HW := Lib.hid hw2
  clear hx0 hx1 hB hS hp hw2
  go_enter Try.func4, Try.ntmps4
  go_upto_region 1 with fail
  simp only [HPP.out, HW.out]
  clear HPP HW
  go_wp2_with fail
  refine (slshown_any _).mono ?_
  rintro e w3 ⟨rfl, hb⟩
  have HX_a3 := Lib.hid (show Box w3 p 24 #[.bool u1, .int .u64 k1, .int .u64 v1, .int .u64 t1, .int .u64 r1, .int .u64 n1, .int .i64 x1] from HX_a2.out.of (hb.block _ HX_a2.out.lt))
  have HX_d3 := Lib.hid (show Box w3 (p + 1) 26 #[.int .u64 (d 0), .int .u64 (d 1), .int .u64 (d 2), .int .u64 (d 3), .int .u64 (d 4), .int .u64 (d 5), .int .u64 (d 6), .int .u64 (d 7)] from HX_d2.out.of (hb.block _ HX_d2.out.lt))
  clear HX_a2 HX_d2
  have HB3 := Lib.hid (HB2.out.trans (hb.mono HB2.out.size))
  clear hb HB2
  have c_a0 : w3.cell? ⟨p, 0, none⟩ = some (.bool u1) := HX_a3.out.cell 0
  have c_a1 : w3.cell? ⟨p, 1, none⟩ = some (.int .u64 k1) := HX_a3.out.cell 1
  have c_a2 : w3.cell? ⟨p, 2, none⟩ = some (.int .u64 v1) := HX_a3.out.cell 2
  have c_a3 : w3.cell? ⟨p, 3, none⟩ = some (.int .u64 t1) := HX_a3.out.cell 3
  have c_a4 : w3.cell? ⟨p, 4, none⟩ = some (.int .u64 r1) := HX_a3.out.cell 4
  have c_a5 : w3.cell? ⟨p, 5, none⟩ = some (.int .u64 n1) := HX_a3.out.cell 5
  have c_a6 : w3.cell? ⟨p, 6, none⟩ = some (.int .i64 x1) := HX_a3.out.cell 6
  go_wp2_with fail
  refine (D1.out _).mono ?_
  rintro e w4 ⟨rfl, hb⟩
  have HX_a4 := Lib.hid (show Box w4 p 24 #[.bool u1, .int .u64 k1, .int .u64 v1, .int .u64 t1, .int .u64 r1, .int .u64 n1, .int .i64 x1] from HX_a3.out.of (hb.block _ HX_a3.out.lt))
  have HX_d4 := Lib.hid (show Box w4 (p + 1) 26 #[.int .u64 (d 0), .int .u64 (d 1), .int .u64 (d 2), .int .u64 (d 3), .int .u64 (d 4), .int .u64 (d 5), .int .u64 (d 6), .int .u64 (d 7)] from HX_d3.out.of (hb.block _ HX_d3.out.lt))
  clear HX_a3 HX_d3
  have HB4 := Lib.hid (HB3.out.trans (hb.mono HB3.out.size))
  clear hb HB3
  clear c_a0 c_a1 c_a2 c_a3 c_a4 c_a5 c_a6
  go_wp2_with fail
  refine (E1.out _).mono ?_
  rintro e w5 ⟨rfl, hb⟩
  have HX_a5 := Lib.hid (show Box w5 p 24 #[.bool u1, .int .u64 k1, .int .u64 v1, .int .u64 t1, .int .u64 r1, .int .u64 n1, .int .i64 x1] from HX_a4.out.of (hb.block _ HX_a4.out.lt))
  have HX_d5 := Lib.hid (show Box w5 (p + 1) 26 #[.int .u64 (d 0), .int .u64 (d 1), .int .u64 (d 2), .int .u64 (d 3), .int .u64 (d 4), .int .u64 (d 5), .int .u64 (d 6), .int .u64 (d 7)] from HX_d4.out.of (hb.block _ HX_d4.out.lt))
  clear HX_a4 HX_d4
  have HB5 := Lib.hid (HB4.out.trans (hb.mono HB4.out.size))
  clear hb HB4
  go_upto_region 3 with (fail)
  obtain ⟨q1, hq⟩ : ∃ q9, w5.heap.size = q9 := ⟨_, rfl⟩
  obtain ⟨w6, hw9⟩ : ∃ w9, w5.alloc (.cells #[.bool u1, .int .u64 k1, .int .u64 v1, .int .u64 t1, .int .u64 r1, .int .u64 n1, .int .i64 x1] 24) = w9 := ⟨_, rfl⟩
  have HX_a6 := Lib.hid (show Box w6 p 24 #[.bool u1, .int .u64 k1, .int .u64 v1, .int .u64 t1, .int .u64 r1, .int .u64 n1, .int .i64 x1] by rw [← hw9]; exact HX_a5.out.alloc _)
  have HX_d6 := Lib.hid (show Box w6 (p + 1) 26 #[.int .u64 (d 0), .int .u64 (d 1), .int .u64 (d 2), .int .u64 (d 3), .int .u64 (d 4), .int .u64 (d 5), .int .u64 (d 6), .int .u64 (d 7)] by rw [← hw9]; exact HX_d5.out.alloc _)
  have HX_x6 := Lib.hid (show Box w6 q1 24 #[.bool u1, .int .u64 k1, .int .u64 v1, .int .u64 t1, .int .u64 r1, .int .u64 n1, .int .i64 x1] by rw [← hw9, ← hq]; exact Box.new w5 _ _)
  have HB6 := Lib.hid (show Below w.heap.size w w6 by rw [← hw9]; exact HB5.out.alloc HB5.out.size _)
  have HS_x := Lib.hid (show w.heap.size ≤ q1 by rw [← hq]; exact HB5.out.size)
  simp only [hw9, hq]
  clear hq hw9 HB5 HX_a5 HX_d5
  have c_d0 : w6.cell? ⟨p + 1, 0, none⟩ = some (.int .u64 (d 0)) := HX_d6.out.cell 0
  have c_d1 : w6.cell? ⟨p + 1, 1, none⟩ = some (.int .u64 (d 1)) := HX_d6.out.cell 1
  have c_d2 : w6.cell? ⟨p + 1, 2, none⟩ = some (.int .u64 (d 2)) := HX_d6.out.cell 2
  have c_d3 : w6.cell? ⟨p + 1, 3, none⟩ = some (.int .u64 (d 3)) := HX_d6.out.cell 3
  have c_d4 : w6.cell? ⟨p + 1, 4, none⟩ = some (.int .u64 (d 4)) := HX_d6.out.cell 4
  have c_d5 : w6.cell? ⟨p + 1, 5, none⟩ = some (.int .u64 (d 5)) := HX_d6.out.cell 5
  have c_d6 : w6.cell? ⟨p + 1, 6, none⟩ = some (.int .u64 (d 6)) := HX_d6.out.cell 6
  have c_d7 : w6.cell? ⟨p + 1, 7, none⟩ = some (.int .u64 (d 7)) := HX_d6.out.cell 7
  go_wp2_with fail
  refine (E2.out _).mono ?_
  rintro e w7 ⟨rfl, hb⟩
  have HX_a7 := Lib.hid (show Box w7 p 24 #[.bool u1, .int .u64 k1, .int .u64 v1, .int .u64 t1, .int .u64 r1, .int .u64 n1, .int .i64 x1] from HX_a6.out.of (hb.block _ HX_a6.out.lt))
  have HX_d7 := Lib.hid (show Box w7 (p + 1) 26 #[.int .u64 (d 0), .int .u64 (d 1), .int .u64 (d 2), .int .u64 (d 3), .int .u64 (d 4), .int .u64 (d 5), .int .u64 (d 6), .int .u64 (d 7)] from HX_d6.out.of (hb.block _ HX_d6.out.lt))
  have HX_x7 := Lib.hid (show Box w7 q1 24 #[.bool u1, .int .u64 k1, .int .u64 v1, .int .u64 t1, .int .u64 r1, .int .u64 n1, .int .i64 x1] from HX_x6.out.of (hb.block _ HX_x6.out.lt))
  clear HX_a6 HX_d6 HX_x6
  have HB7 := Lib.hid (HB6.out.trans (hb.mono HB6.out.size))
  clear hb HB6
  clear c_d0 c_d1 c_d2 c_d3 c_d4 c_d5 c_d6 c_d7
  go_upto_region 4 with (fail)
  obtain ⟨q2, hq⟩ : ∃ q9, w7.heap.size = q9 := ⟨_, rfl⟩
  obtain ⟨w8, hw9⟩ : ∃ w9, w7.alloc (.cells #[.bool u4, .int .u64 k4, .int .u64 v4, .int .u64 t4, .int .u64 r4, .int .u64 n4, .int .i64 x4] 24) = w9 := ⟨_, rfl⟩
  have HX_a8 := Lib.hid (show Box w8 p 24 #[.bool u1, .int .u64 k1, .int .u64 v1, .int .u64 t1, .int .u64 r1, .int .u64 n1, .int .i64 x1] by rw [← hw9]; exact HX_a7.out.alloc _)
  have HX_d8 := Lib.hid (show Box w8 (p + 1) 26 #[.int .u64 (d 0), .int .u64 (d 1), .int .u64 (d 2), .int .u64 (d 3), .int .u64 (d 4), .int .u64 (d 5), .int .u64 (d 6), .int .u64 (d 7)] by rw [← hw9]; exact HX_d7.out.alloc _)
  have HX_x8 := Lib.hid (show Box w8 q1 24 #[.bool u1, .int .u64 k1, .int .u64 v1, .int .u64 t1, .int .u64 r1, .int .u64 n1, .int .i64 x1] by rw [← hw9]; exact HX_x7.out.alloc _)
  have HX_y8 := Lib.hid (show Box w8 q2 24 #[.bool u4, .int .u64 k4, .int .u64 v4, .int .u64 t4, .int .u64 r4, .int .u64 n4, .int .i64 x4] by rw [← hw9, ← hq]; exact Box.new w7 _ _)
  have HB8 := Lib.hid (show Below w.heap.size w w8 by rw [← hw9]; exact HB7.out.alloc HB7.out.size _)
  have HS_y := Lib.hid (show w.heap.size ≤ q2 by rw [← hq]; exact HB7.out.size)
  simp only [hw9, hq]
  clear hq hw9 HB7 HX_a7 HX_d7 HX_x7
  have c_a0 : w8.cell? ⟨p, 0, none⟩ = some (.bool u1) := HX_a8.out.cell 0
  have c_a1 : w8.cell? ⟨p, 1, none⟩ = some (.int .u64 k1) := HX_a8.out.cell 1
  have c_a2 : w8.cell? ⟨p, 2, none⟩ = some (.int .u64 v1) := HX_a8.out.cell 2
  have c_a3 : w8.cell? ⟨p, 3, none⟩ = some (.int .u64 t1) := HX_a8.out.cell 3
  have c_a4 : w8.cell? ⟨p, 4, none⟩ = some (.int .u64 r1) := HX_a8.out.cell 4
  have c_a5 : w8.cell? ⟨p, 5, none⟩ = some (.int .u64 n1) := HX_a8.out.cell 5
  have c_a6 : w8.cell? ⟨p, 6, none⟩ = some (.int .i64 x1) := HX_a8.out.cell 6
  go_wp2_with fail
  refine (R1.out _).mono ?_
  rintro e w9 ⟨rfl, hb⟩
  have HX_a9 := Lib.hid (show Box w9 p 24 #[.bool u1, .int .u64 k1, .int .u64 v1, .int .u64 t1, .int .u64 r1, .int .u64 n1, .int .i64 x1] from HX_a8.out.of (hb.block _ HX_a8.out.lt))
  have HX_d9 := Lib.hid (show Box w9 (p + 1) 26 #[.int .u64 (d 0), .int .u64 (d 1), .int .u64 (d 2), .int .u64 (d 3), .int .u64 (d 4), .int .u64 (d 5), .int .u64 (d 6), .int .u64 (d 7)] from HX_d8.out.of (hb.block _ HX_d8.out.lt))
  have HX_x9 := Lib.hid (show Box w9 q1 24 #[.bool u1, .int .u64 k1, .int .u64 v1, .int .u64 t1, .int .u64 r1, .int .u64 n1, .int .i64 x1] from HX_x8.out.of (hb.block _ HX_x8.out.lt))
  have HX_y9 := Lib.hid (show Box w9 q2 24 #[.bool u4, .int .u64 k4, .int .u64 v4, .int .u64 t4, .int .u64 r4, .int .u64 n4, .int .i64 x4] from HX_y8.out.of (hb.block _ HX_y8.out.lt))
  clear HX_a8 HX_d8 HX_x8 HX_y8
  have HB9 := Lib.hid (HB8.out.trans (hb.mono HB8.out.size))
  clear hb HB8
  clear c_a0 c_a1 c_a2 c_a3 c_a4 c_a5 c_a6
  have hq1 := Q1.out
  have c_a0 : w9.cell? ⟨p, 0, none⟩ = some (.bool u1) := HX_a9.out.cell 0
  have c_a1 : w9.cell? ⟨p, 1, none⟩ = some (.int .u64 k1) := HX_a9.out.cell 1
  have c_a2 : w9.cell? ⟨p, 2, none⟩ = some (.int .u64 v1) := HX_a9.out.cell 2
  have c_a3 : w9.cell? ⟨p, 3, none⟩ = some (.int .u64 t1) := HX_a9.out.cell 3
  have c_a4 : w9.cell? ⟨p, 4, none⟩ = some (.int .u64 r1) := HX_a9.out.cell 4
  have c_a5 : w9.cell? ⟨p, 5, none⟩ = some (.int .u64 n1) := HX_a9.out.cell 5
  have c_a6 : w9.cell? ⟨p, 6, none⟩ = some (.int .i64 x1) := HX_a9.out.cell 6
  have c_x0 : w9.cell? ⟨q1, 0, none⟩ = some (.bool u1) := HX_x9.out.cell 0
  have c_x1 : w9.cell? ⟨q1, 1, none⟩ = some (.int .u64 k1) := HX_x9.out.cell 1
  have c_x2 : w9.cell? ⟨q1, 2, none⟩ = some (.int .u64 v1) := HX_x9.out.cell 2
  have c_x3 : w9.cell? ⟨q1, 3, none⟩ = some (.int .u64 t1) := HX_x9.out.cell 3
  have c_x4 : w9.cell? ⟨q1, 4, none⟩ = some (.int .u64 r1) := HX_x9.out.cell 4
  have c_x5 : w9.cell? ⟨q1, 5, none⟩ = some (.int .u64 n1) := HX_x9.out.cell 5
  have c_x6 : w9.cell? ⟨q1, 6, none⟩ = some (.int .i64 x1) := HX_x9.out.cell 6
  go_wp2_with fail
  refine (R1.out _).mono ?_
  rintro e w10 ⟨rfl, hb⟩
  have HX_a10 := Lib.hid (show Box w10 p 24 #[.bool u1, .int .u64 k1, .int .u64 v1, .int .u64 t1, .int .u64 r1, .int .u64 n1, .int .i64 x1] from HX_a9.out.of (hb.block _ HX_a9.out.lt))
  have HX_d10 := Lib.hid (show Box w10 (p + 1) 26 #[.int .u64 (d 0), .int .u64 (d 1), .int .u64 (d 2), .int .u64 (d 3), .int .u64 (d 4), .int .u64 (d 5), .int .u64 (d 6), .int .u64 (d 7)] from HX_d9.out.of (hb.block _ HX_d9.out.lt))
  have HX_x10 := Lib.hid (show Box w10 q1 24 #[.bool u1, .int .u64 k1, .int .u64 v1, .int .u64 t1, .int .u64 r1, .int .u64 n1, .int .i64 x1] from HX_x9.out.of (hb.block _ HX_x9.out.lt))
  have HX_y10 := Lib.hid (show Box w10 q2 24 #[.bool u4, .int .u64 k4, .int .u64 v4, .int .u64 t4, .int .u64 r4, .int .u64 n4, .int .i64 x4] from HX_y9.out.of (hb.block _ HX_y9.out.lt))
  clear HX_a9 HX_d9 HX_x9 HX_y9
  have HB10 := Lib.hid (HB9.out.trans (hb.mono HB9.out.size))
  clear hb HB9
  clear c_a0 c_a1 c_a2 c_a3 c_a4 c_a5 c_a6
  clear c_x0 c_x1 c_x2 c_x3 c_x4 c_x5 c_x6
  have hq2 := Q2.out
  go_upto_region 6 with fail
  have c_y0 := Gr.cell (show w10.cell? ⟨q2, 0, none⟩ = some (.bool u4) from HX_y10.out.cell 0)
  have c_y1 := Gr.cell (show w10.cell? ⟨q2, 1, none⟩ = some (.int .u64 k4) from HX_y10.out.cell 1)
  have c_y2 := Gr.cell (show w10.cell? ⟨q2, 2, none⟩ = some (.int .u64 v4) from HX_y10.out.cell 2)
  have c_y3 := Gr.cell (show w10.cell? ⟨q2, 3, none⟩ = some (.int .u64 t4) from HX_y10.out.cell 3)
  have c_y4 := Gr.cell (show w10.cell? ⟨q2, 4, none⟩ = some (.int .u64 r4) from HX_y10.out.cell 4)
  have c_y5 := Gr.cell (show w10.cell? ⟨q2, 5, none⟩ = some (.int .u64 n4) from HX_y10.out.cell 5)
  have c_y6 := Gr.cell (show w10.cell? ⟨q2, 6, none⟩ = some (.int .i64 x4) from HX_y10.out.cell 6)
  have c_d0 := Gr.cell (show w10.cell? ⟨p + 1, 0, none⟩ = some (.int .u64 (d 0)) from HX_d10.out.cell 0)
  have c_d1 := Gr.cell (show w10.cell? ⟨p + 1, 1, none⟩ = some (.int .u64 (d 1)) from HX_d10.out.cell 1)
  have c_d2 := Gr.cell (show w10.cell? ⟨p + 1, 2, none⟩ = some (.int .u64 (d 2)) from HX_d10.out.cell 2)
  have c_d3 := Gr.cell (show w10.cell? ⟨p + 1, 3, none⟩ = some (.int .u64 (d 3)) from HX_d10.out.cell 3)
  have c_d4 := Gr.cell (show w10.cell? ⟨p + 1, 4, none⟩ = some (.int .u64 (d 4)) from HX_d10.out.cell 4)
  have c_d5 := Gr.cell (show w10.cell? ⟨p + 1, 5, none⟩ = some (.int .u64 (d 5)) from HX_d10.out.cell 5)
  have c_d6 := Gr.cell (show w10.cell? ⟨p + 1, 6, none⟩ = some (.int .u64 (d 6)) from HX_d10.out.cell 6)
  have c_d7 := Gr.cell (show w10.cell? ⟨p + 1, 7, none⟩ = some (.int .u64 (d 7)) from HX_d10.out.cell 7)
  refine wp_region_grow (by kernel_rfl) (by kernel_rfl) ?_
  repeat (go_big_quiet_step (first | (go_at_call 16; exact Gr.blw (R2.out _)) | (go_at_call 18; exact Gr.blw (D2.out _))))
  refine wpQuiet_nil ?_
  intro w12 hw12
  obtain ⟨G, hG⟩ := hw12
  subst hG
  obtain ⟨w11, hw9⟩ : ∃ w9, G.w' = w9 := ⟨_, rfl⟩
  have ho9 : Only nobody w10 w11 := by rw [← hw9]; exact G.ok
  rw [hw9]
  have HX_a11 := Lib.hid (show Box w11 p 24 #[.bool u1, .int .u64 k1, .int .u64 v1, .int .u64 t1, .int .u64 r1, .int .u64 n1, .int .i64 x1] from HX_a10.out.only ho9 (not_nobody _))
  have HX_d11 := Lib.hid (show Box w11 (p + 1) 26 #[.int .u64 (d 0), .int .u64 (d 1), .int .u64 (d 2), .int .u64 (d 3), .int .u64 (d 4), .int .u64 (d 5), .int .u64 (d 6), .int .u64 (d 7)] from HX_d10.out.only ho9 (not_nobody _))
  have HX_x11 := Lib.hid (show Box w11 q1 24 #[.bool u1, .int .u64 k1, .int .u64 v1, .int .u64 t1, .int .u64 r1, .int .u64 n1, .int .i64 x1] from HX_x10.out.only ho9 (not_nobody _))
  have HX_y11 := Lib.hid (show Box w11 q2 24 #[.bool u4, .int .u64 k4, .int .u64 v4, .int .u64 t4, .int .u64 r4, .int .u64 n4, .int .i64 x4] from HX_y10.out.only ho9 (not_nobody _))
  clear HX_a10 HX_d10 HX_x10 HX_y10
  have HB11 := Lib.hid (HB10.out.trans (ho9.none.mono HB10.out.size))
  clear c_y0 c_y1 c_y2 c_y3 c_y4 c_y5 c_y6
  clear c_d0 c_d1 c_d2 c_d3 c_d4 c_d5 c_d6 c_d7
  clear ho9 hw9 HB10 G
  go_wp2_with fail
  go_ret
  exact ⟨rfl, HB11.out⟩
set_option maxHeartbeats 2000000 in
theorem back_true_false (u1 : Bool) (k1 v1 t1 r1 n1 x1 : Int) (d f : Nat → Int) (w : World)
    (R1 : Hid (∀ W, Calls Try.prog 16 #[.agg #[.bool u1, .int .u64 k1, .int .u64 v1, .int .u64 t1, .int .u64 r1, .int .u64 n1, .int .i64 x1]] W fun e w' => e = .returned (.bool true) ∧ Below W.heap.size W w'))
    (D1 : Hid (∀ W, Calls Try.prog 18 #[.agg #[.bool u1, .int .u64 k1, .int .u64 v1, .int .u64 t1, .int .u64 r1, .int .u64 n1, .int .i64 x1]] W fun e w' => e = .returned (.agg #[.int .u64 (f 0), .int .u64 (f 1), .int .u64 (f 2), .int .u64 (f 3), .int .u64 (f 4), .int .u64 (f 5), .int .u64 (f 6), .int .u64 (f 7)]) ∧ Below W.heap.size W w'))
    (E1 : Hid (∀ W, Calls Try.prog 9 #[.agg #[.int .u64 (f 0), .int .u64 (f 1), .int .u64 (f 2), .int .u64 (f 3), .int .u64 (f 4), .int .u64 (f 5), .int .u64 (f 6), .int .u64 (f 7)]] W fun e w' => e = .returned (.tuple #[.agg #[.bool u1, .int .u64 k1, .int .u64 v1, .int .u64 t1, .int .u64 r1, .int .u64 n1, .int .i64 x1], .int .i64 0]) ∧ Below W.heap.size W w'))
    (E2 : Hid (∀ W, Calls Try.prog 9 #[.agg #[.int .u64 (d 0), .int .u64 (d 1), .int .u64 (d 2), .int .u64 (d 3), .int .u64 (d 4), .int .u64 (d 5), .int .u64 (d 6), .int .u64 (d 7)]] W fun e w' => e = .returned (.tuple #[.agg #[.bool false, .int .u64 0, .int .u64 0, .int .u64 0, .int .u64 0, .int .u64 0, .int .i64 0], .int .i64 3]) ∧ Below W.heap.size W w'))
    (Q1 : Hid (∀ W, (binOp .neq 24 (.agg #[.bool u1, .int .u64 k1, .int .u64 v1, .int .u64 t1, .int .u64 r1, .int .u64 n1, .int .i64 x1]) (.agg #[.bool u1, .int .u64 k1, .int .u64 v1, .int .u64 t1, .int .u64 r1, .int .u64 n1, .int .i64 x1])).run Try.prog W = .ok (.bool (false)) W))
    (Q2 : Hid (∀ W, (binOp .eql 24 (.agg #[.bool false, .int .u64 0, .int .u64 0, .int .u64 0, .int .u64 0, .int .u64 0, .int .i64 0]) (.agg #[.bool false, .int .u64 0, .int .u64 0, .int .u64 0, .int .u64 0, .int .u64 0, .int .i64 0])).run Try.prog W = .ok (.bool (true)) W)) :
    Calls Try.prog 4 #[.agg #[.bool u1, .int .u64 k1, .int .u64 v1, .int .u64 t1, .int .u64 r1, .int .u64 n1, .int .i64 x1], .agg #[.int .u64 (d 0), .int .u64 (d 1), .int .u64 (d 2), .int .u64 (d 3), .int .u64 (d 4), .int .u64 (d 5), .int .u64 (d 6), .int .u64 (d 7)]] w fun e w' => e = .returned (.bool true) ∧ Below w.heap.size w w' := by
  obtain ⟨p, hp⟩ : ∃ p, w.heap.size = p := ⟨_, rfl⟩
  obtain ⟨w2, hw2⟩ : ∃ w9, ((w.alloc (.cells #[.bool u1, .int .u64 k1, .int .u64 v1, .int .u64 t1, .int .u64 r1, .int .u64 n1, .int .i64 x1] 24)).alloc (.cells #[.int .u64 (d 0), .int .u64 (d 1), .int .u64 (d 2), .int .u64 (d 3), .int .u64 (d 4), .int .u64 (d 5), .int .u64 (d 6), .int .u64 (d 7)] 26)) = w9 := ⟨_, rfl⟩
  have hx0 : Box w2 (p) 24 #[.bool u1, .int .u64 k1, .int .u64 v1, .int .u64 t1, .int .u64 r1, .int .u64 n1, .int .i64 x1] := by
    have h9 := ((Box.new w 24 #[.bool u1, .int .u64 k1, .int .u64 v1, .int .u64 t1, .int .u64 r1, .int .u64 n1, .int .i64 x1])).alloc (.cells #[.int .u64 (d 0), .int .u64 (d 1), .int .u64 (d 2), .int .u64 (d 3), .int .u64 (d 4), .int .u64 (d 5), .int .u64 (d 6), .int .u64 (d 7)] 26)
    try simp only [World.size_alloc] at h9
    simp only [hp, hw2] at h9
    exact h9
  have hx1 : Box w2 (p + 1) 26 #[.int .u64 (d 0), .int .u64 (d 1), .int .u64 (d 2), .int .u64 (d 3), .int .u64 (d 4), .int .u64 (d 5), .int .u64 (d 6), .int .u64 (d 7)] := by
    have h9 := (Box.new (w.alloc (.cells #[.bool u1, .int .u64 k1, .int .u64 v1, .int .u64 t1, .int .u64 r1, .int .u64 n1, .int .i64 x1] 24)) 26 #[.int .u64 (d 0), .int .u64 (d 1), .int .u64 (d 2), .int .u64 (d 3), .int .u64 (d 4), .int .u64 (d 5), .int .u64 (d 6), .int .u64 (d 7)])
    try simp only [World.size_alloc] at h9
    simp only [hp, hw2] at h9
    exact h9
  have hB : Below w.heap.size w w2 := by
    have h9 := (((Below.refl w.heap.size w).alloc (by simp; try omega) (.cells #[.bool u1, .int .u64 k1, .int .u64 v1, .int .u64 t1, .int .u64 r1, .int .u64 n1, .int .i64 x1] 24)).alloc (by simp; try omega) (.cells #[.int .u64 (d 0), .int .u64 (d 1), .int .u64 (d 2), .int .u64 (d 3), .int .u64 (d 4), .int .u64 (d 5), .int .u64 (d 6), .int .u64 (d 7)] 26))
    rw [hw2] at h9
    exact h9
  have hS : w2.heap.size = p + 2 := by rw [← hw2]; simp [hp]
  have HX_a2 := Lib.hid hx0
  have HX_d2 := Lib.hid hx1
  have HB2 := Lib.hid hB
  have HPP := Lib.hid hp
  have HW := Lib.hid hw2
  clear hx0 hx1 hB hS hp hw2
  go_enter Try.func4, Try.ntmps4
  go_upto_region 1 with fail
  simp only [HPP.out, HW.out]
  clear HPP HW
  go_wp2_with fail
  refine (slshown_any _).mono ?_
  rintro e w3 ⟨rfl, hb⟩
  have HX_a3 := Lib.hid (show Box w3 p 24 #[.bool u1, .int .u64 k1, .int .u64 v1, .int .u64 t1, .int .u64 r1, .int .u64 n1, .int .i64 x1] from HX_a2.out.of (hb.block _ HX_a2.out.lt))
  have HX_d3 := Lib.hid (show Box w3 (p + 1) 26 #[.int .u64 (d 0), .int .u64 (d 1), .int .u64 (d 2), .int .u64 (d 3), .int .u64 (d 4), .int .u64 (d 5), .int .u64 (d 6), .int .u64 (d 7)] from HX_d2.out.of (hb.block _ HX_d2.out.lt))
  clear HX_a2 HX_d2
  have HB3 := Lib.hid (HB2.out.trans (hb.mono HB2.out.size))
  clear hb HB2
  have c_a0 : w3.cell? ⟨p, 0, none⟩ = some (.bool u1) := HX_a3.out.cell 0
  have c_a1 : w3.cell? ⟨p, 1, none⟩ = some (.int .u64 k1) := HX_a3.out.cell 1
  have c_a2 : w3.cell? ⟨p, 2, none⟩ = some (.int .u64 v1) := HX_a3.out.cell 2
  have c_a3 : w3.cell? ⟨p, 3, none⟩ = some (.int .u64 t1) := HX_a3.out.cell 3
  have c_a4 : w3.cell? ⟨p, 4, none⟩ = some (.int .u64 r1) := HX_a3.out.cell 4
  have c_a5 : w3.cell? ⟨p, 5, none⟩ = some (.int .u64 n1) := HX_a3.out.cell 5
  have c_a6 : w3.cell? ⟨p, 6, none⟩ = some (.int .i64 x1) := HX_a3.out.cell 6
  go_wp2_with fail
  refine (D1.out _).mono ?_
  rintro e w4 ⟨rfl, hb⟩
  have HX_a4 := Lib.hid (show Box w4 p 24 #[.bool u1, .int .u64 k1, .int .u64 v1, .int .u64 t1, .int .u64 r1, .int .u64 n1, .int .i64 x1] from HX_a3.out.of (hb.block _ HX_a3.out.lt))
  have HX_d4 := Lib.hid (show Box w4 (p + 1) 26 #[.int .u64 (d 0), .int .u64 (d 1), .int .u64 (d 2), .int .u64 (d 3), .int .u64 (d 4), .int .u64 (d 5), .int .u64 (d 6), .int .u64 (d 7)] from HX_d3.out.of (hb.block _ HX_d3.out.lt))
  clear HX_a3 HX_d3
  have HB4 := Lib.hid (HB3.out.trans (hb.mono HB3.out.size))
  clear hb HB3
  clear c_a0 c_a1 c_a2 c_a3 c_a4 c_a5 c_a6
  go_wp2_with fail
  refine (E1.out _).mono ?_
  rintro e w5 ⟨rfl, hb⟩
  have HX_a5 := Lib.hid (show Box w5 p 24 #[.bool u1, .int .u64 k1, .int .u64 v1, .int .u64 t1, .int .u64 r1, .int .u64 n1, .int .i64 x1] from HX_a4.out.of (hb.block _ HX_a4.out.lt))
  have HX_d5 := Lib.hid (show Box w5 (p + 1) 26 #[.int .u64 (d 0), .int .u64 (d 1), .int .u64 (d 2), .int .u64 (d 3), .int .u64 (d 4), .int .u64 (d 5), .int .u64 (d 6), .int .u64 (d 7)] from HX_d4.out.of (hb.block _ HX_d4.out.lt))
  clear HX_a4 HX_d4
  have HB5 := Lib.hid (HB4.out.trans (hb.mono HB4.out.size))
  clear hb HB4
  go_upto_region 3 with (fail)
  obtain ⟨q1, hq⟩ : ∃ q9, w5.heap.size = q9 := ⟨_, rfl⟩
  obtain ⟨w6, hw9⟩ : ∃ w9, w5.alloc (.cells #[.bool u1, .int .u64 k1, .int .u64 v1, .int .u64 t1, .int .u64 r1, .int .u64 n1, .int .i64 x1] 24) = w9 := ⟨_, rfl⟩
  have HX_a6 := Lib.hid (show Box w6 p 24 #[.bool u1, .int .u64 k1, .int .u64 v1, .int .u64 t1, .int .u64 r1, .int .u64 n1, .int .i64 x1] by rw [← hw9]; exact HX_a5.out.alloc _)
  have HX_d6 := Lib.hid (show Box w6 (p + 1) 26 #[.int .u64 (d 0), .int .u64 (d 1), .int .u64 (d 2), .int .u64 (d 3), .int .u64 (d 4), .int .u64 (d 5), .int .u64 (d 6), .int .u64 (d 7)] by rw [← hw9]; exact HX_d5.out.alloc _)
  have HX_x6 := Lib.hid (show Box w6 q1 24 #[.bool u1, .int .u64 k1, .int .u64 v1, .int .u64 t1, .int .u64 r1, .int .u64 n1, .int .i64 x1] by rw [← hw9, ← hq]; exact Box.new w5 _ _)
  have HB6 := Lib.hid (show Below w.heap.size w w6 by rw [← hw9]; exact HB5.out.alloc HB5.out.size _)
  have HS_x := Lib.hid (show w.heap.size ≤ q1 by rw [← hq]; exact HB5.out.size)
  simp only [hw9, hq]
  clear hq hw9 HB5 HX_a5 HX_d5
  have c_d0 : w6.cell? ⟨p + 1, 0, none⟩ = some (.int .u64 (d 0)) := HX_d6.out.cell 0
  have c_d1 : w6.cell? ⟨p + 1, 1, none⟩ = some (.int .u64 (d 1)) := HX_d6.out.cell 1
  have c_d2 : w6.cell? ⟨p + 1, 2, none⟩ = some (.int .u64 (d 2)) := HX_d6.out.cell 2
  have c_d3 : w6.cell? ⟨p + 1, 3, none⟩ = some (.int .u64 (d 3)) := HX_d6.out.cell 3
  have c_d4 : w6.cell? ⟨p + 1, 4, none⟩ = some (.int .u64 (d 4)) := HX_d6.out.cell 4
  have c_d5 : w6.cell? ⟨p + 1, 5, none⟩ = some (.int .u64 (d 5)) := HX_d6.out.cell 5
  have c_d6 : w6.cell? ⟨p + 1, 6, none⟩ = some (.int .u64 (d 6)) := HX_d6.out.cell 6
  have c_d7 : w6.cell? ⟨p + 1, 7, none⟩ = some (.int .u64 (d 7)) := HX_d6.out.cell 7
  go_wp2_with fail
  refine (E2.out _).mono ?_
  rintro e w7 ⟨rfl, hb⟩
  have HX_a7 := Lib.hid (show Box w7 p 24 #[.bool u1, .int .u64 k1, .int .u64 v1, .int .u64 t1, .int .u64 r1, .int .u64 n1, .int .i64 x1] from HX_a6.out.of (hb.block _ HX_a6.out.lt))
  have HX_d7 := Lib.hid (show Box w7 (p + 1) 26 #[.int .u64 (d 0), .int .u64 (d 1), .int .u64 (d 2), .int .u64 (d 3), .int .u64 (d 4), .int .u64 (d 5), .int .u64 (d 6), .int .u64 (d 7)] from HX_d6.out.of (hb.block _ HX_d6.out.lt))
  have HX_x7 := Lib.hid (show Box w7 q1 24 #[.bool u1, .int .u64 k1, .int .u64 v1, .int .u64 t1, .int .u64 r1, .int .u64 n1, .int .i64 x1] from HX_x6.out.of (hb.block _ HX_x6.out.lt))
  clear HX_a6 HX_d6 HX_x6
  have HB7 := Lib.hid (HB6.out.trans (hb.mono HB6.out.size))
  clear hb HB6
  clear c_d0 c_d1 c_d2 c_d3 c_d4 c_d5 c_d6 c_d7
  go_upto_region 4 with (fail)
  obtain ⟨q2, hq⟩ : ∃ q9, w7.heap.size = q9 := ⟨_, rfl⟩
  obtain ⟨w8, hw9⟩ : ∃ w9, w7.alloc (.cells #[.bool false, .int .u64 0, .int .u64 0, .int .u64 0, .int .u64 0, .int .u64 0, .int .i64 0] 24) = w9 := ⟨_, rfl⟩
  have HX_a8 := Lib.hid (show Box w8 p 24 #[.bool u1, .int .u64 k1, .int .u64 v1, .int .u64 t1, .int .u64 r1, .int .u64 n1, .int .i64 x1] by rw [← hw9]; exact HX_a7.out.alloc _)
  have HX_d8 := Lib.hid (show Box w8 (p + 1) 26 #[.int .u64 (d 0), .int .u64 (d 1), .int .u64 (d 2), .int .u64 (d 3), .int .u64 (d 4), .int .u64 (d 5), .int .u64 (d 6), .int .u64 (d 7)] by rw [← hw9]; exact HX_d7.out.alloc _)
  have HX_x8 := Lib.hid (show Box w8 q1 24 #[.bool u1, .int .u64 k1, .int .u64 v1, .int .u64 t1, .int .u64 r1, .int .u64 n1, .int .i64 x1] by rw [← hw9]; exact HX_x7.out.alloc _)
  have HX_y8 := Lib.hid (show Box w8 q2 24 #[.bool false, .int .u64 0, .int .u64 0, .int .u64 0, .int .u64 0, .int .u64 0, .int .i64 0] by rw [← hw9, ← hq]; exact Box.new w7 _ _)
  have HB8 := Lib.hid (show Below w.heap.size w w8 by rw [← hw9]; exact HB7.out.alloc HB7.out.size _)
  have HS_y := Lib.hid (show w.heap.size ≤ q2 by rw [← hq]; exact HB7.out.size)
  simp only [hw9, hq]
  clear hq hw9 HB7 HX_a7 HX_d7 HX_x7
  have c_a0 : w8.cell? ⟨p, 0, none⟩ = some (.bool u1) := HX_a8.out.cell 0
  have c_a1 : w8.cell? ⟨p, 1, none⟩ = some (.int .u64 k1) := HX_a8.out.cell 1
  have c_a2 : w8.cell? ⟨p, 2, none⟩ = some (.int .u64 v1) := HX_a8.out.cell 2
  have c_a3 : w8.cell? ⟨p, 3, none⟩ = some (.int .u64 t1) := HX_a8.out.cell 3
  have c_a4 : w8.cell? ⟨p, 4, none⟩ = some (.int .u64 r1) := HX_a8.out.cell 4
  have c_a5 : w8.cell? ⟨p, 5, none⟩ = some (.int .u64 n1) := HX_a8.out.cell 5
  have c_a6 : w8.cell? ⟨p, 6, none⟩ = some (.int .i64 x1) := HX_a8.out.cell 6
  go_wp2_with fail
  refine (R1.out _).mono ?_
  rintro e w9 ⟨rfl, hb⟩
  have HX_a9 := Lib.hid (show Box w9 p 24 #[.bool u1, .int .u64 k1, .int .u64 v1, .int .u64 t1, .int .u64 r1, .int .u64 n1, .int .i64 x1] from HX_a8.out.of (hb.block _ HX_a8.out.lt))
  have HX_d9 := Lib.hid (show Box w9 (p + 1) 26 #[.int .u64 (d 0), .int .u64 (d 1), .int .u64 (d 2), .int .u64 (d 3), .int .u64 (d 4), .int .u64 (d 5), .int .u64 (d 6), .int .u64 (d 7)] from HX_d8.out.of (hb.block _ HX_d8.out.lt))
  have HX_x9 := Lib.hid (show Box w9 q1 24 #[.bool u1, .int .u64 k1, .int .u64 v1, .int .u64 t1, .int .u64 r1, .int .u64 n1, .int .i64 x1] from HX_x8.out.of (hb.block _ HX_x8.out.lt))
  have HX_y9 := Lib.hid (show Box w9 q2 24 #[.bool false, .int .u64 0, .int .u64 0, .int .u64 0, .int .u64 0, .int .u64 0, .int .i64 0] from HX_y8.out.of (hb.block _ HX_y8.out.lt))
  clear HX_a8 HX_d8 HX_x8 HX_y8
  have HB9 := Lib.hid (HB8.out.trans (hb.mono HB8.out.size))
  clear hb HB8
  clear c_a0 c_a1 c_a2 c_a3 c_a4 c_a5 c_a6
  have hq1 := Q1.out
  have c_a0 : w9.cell? ⟨p, 0, none⟩ = some (.bool u1) := HX_a9.out.cell 0
  have c_a1 : w9.cell? ⟨p, 1, none⟩ = some (.int .u64 k1) := HX_a9.out.cell 1
  have c_a2 : w9.cell? ⟨p, 2, none⟩ = some (.int .u64 v1) := HX_a9.out.cell 2
  have c_a3 : w9.cell? ⟨p, 3, none⟩ = some (.int .u64 t1) := HX_a9.out.cell 3
  have c_a4 : w9.cell? ⟨p, 4, none⟩ = some (.int .u64 r1) := HX_a9.out.cell 4
  have c_a5 : w9.cell? ⟨p, 5, none⟩ = some (.int .u64 n1) := HX_a9.out.cell 5
  have c_a6 : w9.cell? ⟨p, 6, none⟩ = some (.int .i64 x1) := HX_a9.out.cell 6
  have c_x0 : w9.cell? ⟨q1, 0, none⟩ = some (.bool u1) := HX_x9.out.cell 0
  have c_x1 : w9.cell? ⟨q1, 1, none⟩ = some (.int .u64 k1) := HX_x9.out.cell 1
  have c_x2 : w9.cell? ⟨q1, 2, none⟩ = some (.int .u64 v1) := HX_x9.out.cell 2
  have c_x3 : w9.cell? ⟨q1, 3, none⟩ = some (.int .u64 t1) := HX_x9.out.cell 3
  have c_x4 : w9.cell? ⟨q1, 4, none⟩ = some (.int .u64 r1) := HX_x9.out.cell 4
  have c_x5 : w9.cell? ⟨q1, 5, none⟩ = some (.int .u64 n1) := HX_x9.out.cell 5
  have c_x6 : w9.cell? ⟨q1, 6, none⟩ = some (.int .i64 x1) := HX_x9.out.cell 6
  go_wp2_with fail
  refine (R1.out _).mono ?_
  rintro e w10 ⟨rfl, hb⟩
  have HX_a10 := Lib.hid (show Box w10 p 24 #[.bool u1, .int .u64 k1, .int .u64 v1, .int .u64 t1, .int .u64 r1, .int .u64 n1, .int .i64 x1] from HX_a9.out.of (hb.block _ HX_a9.out.lt))
  have HX_d10 := Lib.hid (show Box w10 (p + 1) 26 #[.int .u64 (d 0), .int .u64 (d 1), .int .u64 (d 2), .int .u64 (d 3), .int .u64 (d 4), .int .u64 (d 5), .int .u64 (d 6), .int .u64 (d 7)] from HX_d9.out.of (hb.block _ HX_d9.out.lt))
  have HX_x10 := Lib.hid (show Box w10 q1 24 #[.bool u1, .int .u64 k1, .int .u64 v1, .int .u64 t1, .int .u64 r1, .int .u64 n1, .int .i64 x1] from HX_x9.out.of (hb.block _ HX_x9.out.lt))
  have HX_y10 := Lib.hid (show Box w10 q2 24 #[.bool false, .int .u64 0, .int .u64 0, .int .u64 0, .int .u64 0, .int .u64 0, .int .i64 0] from HX_y9.out.of (hb.block _ HX_y9.out.lt))
  clear HX_a9 HX_d9 HX_x9 HX_y9
  have HB10 := Lib.hid (HB9.out.trans (hb.mono HB9.out.size))
  clear hb HB9
  clear c_a0 c_a1 c_a2 c_a3 c_a4 c_a5 c_a6
  clear c_x0 c_x1 c_x2 c_x3 c_x4 c_x5 c_x6
  have hq2 := Q2.out
  go_upto_region 6 with fail
  have c_y0 := Gr.cell (show w10.cell? ⟨q2, 0, none⟩ = some (.bool false) from HX_y10.out.cell 0)
  have c_y1 := Gr.cell (show w10.cell? ⟨q2, 1, none⟩ = some (.int .u64 0) from HX_y10.out.cell 1)
  have c_y2 := Gr.cell (show w10.cell? ⟨q2, 2, none⟩ = some (.int .u64 0) from HX_y10.out.cell 2)
  have c_y3 := Gr.cell (show w10.cell? ⟨q2, 3, none⟩ = some (.int .u64 0) from HX_y10.out.cell 3)
  have c_y4 := Gr.cell (show w10.cell? ⟨q2, 4, none⟩ = some (.int .u64 0) from HX_y10.out.cell 4)
  have c_y5 := Gr.cell (show w10.cell? ⟨q2, 5, none⟩ = some (.int .u64 0) from HX_y10.out.cell 5)
  have c_y6 := Gr.cell (show w10.cell? ⟨q2, 6, none⟩ = some (.int .i64 0) from HX_y10.out.cell 6)
  refine wp_region_grow (by kernel_rfl) (by kernel_rfl) ?_
  repeat (go_big_quiet_step (first | (go_at_call 16; exact Gr.blw (R1.out _))))
  refine wpQuiet_nil ?_
  intro w12 hw12
  obtain ⟨G, hG⟩ := hw12
  subst hG
  obtain ⟨w11, hw9⟩ : ∃ w9, G.w' = w9 := ⟨_, rfl⟩
  have ho9 : Only nobody w10 w11 := by rw [← hw9]; exact G.ok
  rw [hw9]
  have HX_a11 := Lib.hid (show Box w11 p 24 #[.bool u1, .int .u64 k1, .int .u64 v1, .int .u64 t1, .int .u64 r1, .int .u64 n1, .int .i64 x1] from HX_a10.out.only ho9 (not_nobody _))
  have HX_d11 := Lib.hid (show Box w11 (p + 1) 26 #[.int .u64 (d 0), .int .u64 (d 1), .int .u64 (d 2), .int .u64 (d 3), .int .u64 (d 4), .int .u64 (d 5), .int .u64 (d 6), .int .u64 (d 7)] from HX_d10.out.only ho9 (not_nobody _))
  have HX_x11 := Lib.hid (show Box w11 q1 24 #[.bool u1, .int .u64 k1, .int .u64 v1, .int .u64 t1, .int .u64 r1, .int .u64 n1, .int .i64 x1] from HX_x10.out.only ho9 (not_nobody _))
  have HX_y11 := Lib.hid (show Box w11 q2 24 #[.bool false, .int .u64 0, .int .u64 0, .int .u64 0, .int .u64 0, .int .u64 0, .int .i64 0] from HX_y10.out.only ho9 (not_nobody _))
  clear HX_a10 HX_d10 HX_x10 HX_y10
  have HB11 := Lib.hid (HB10.out.trans (ho9.none.mono HB10.out.size))
  clear c_y0 c_y1 c_y2 c_y3 c_y4 c_y5 c_y6
  clear ho9 hw9 HB10 G
  go_wp2_with fail
  go_ret
  exact ⟨rfl, HB11.out⟩
set_option maxHeartbeats 2000000 in
theorem back_false_true (u1 : Bool) (k1 v1 t1 r1 n1 x1 : Int) (u3 : Bool) (k3 v3 t3 r3 n3 x3 e3 : Int) (u4 : Bool) (k4 v4 t4 r4 n4 x4 : Int) (d g : Nat → Int) (w : World)
    (R1 : Hid (∀ W, Calls Try.prog 16 #[.agg #[.bool u1, .int .u64 k1, .int .u64 v1, .int .u64 t1, .int .u64 r1, .int .u64 n1, .int .i64 x1]] W fun e w' => e = .returned (.bool false) ∧ Below W.heap.size W w'))
    (D1 : Hid (∀ W, Calls Try.prog 18 #[.agg #[.bool u1, .int .u64 k1, .int .u64 v1, .int .u64 t1, .int .u64 r1, .int .u64 n1, .int .i64 x1]] W fun e w' => e = .returned (.agg #[.int .u64 0, .int .u64 0, .int .u64 0, .int .u64 0, .int .u64 0, .int .u64 0, .int .u64 0, .int .u64 0]) ∧ Below W.heap.size W w'))
    (E1 : Hid (∀ W, Calls Try.prog 9 #[.agg #[.int .u64 0, .int .u64 0, .int .u64 0, .int .u64 0, .int .u64 0, .int .u64 0, .int .u64 0, .int .u64 0]] W fun e w' => e = .returned (.tuple #[.agg #[.bool u3, .int .u64 k3, .int .u64 v3, .int .u64 t3, .int .u64 r3, .int .u64 n3, .int .i64 x3], .int .i64 e3]) ∧ Below W.heap.size W w'))
    (E2 : Hid (∀ W, Calls Try.prog 9 #[.agg #[.int .u64 (d 0), .int .u64 (d 1), .int .u64 (d 2), .int .u64 (d 3), .int .u64 (d 4), .int .u64 (d 5), .int .u64 (d 6), .int .u64 (d 7)]] W fun e w' => e = .returned (.tuple #[.agg #[.bool u4, .int .u64 k4, .int .u64 v4, .int .u64 t4, .int .u64 r4, .int .u64 n4, .int .i64 x4], .int .i64 0]) ∧ Below W.heap.size W w'))
    (Q1 : Hid (∀ W, (binOp .neq 26 (.agg #[.int .u64 0, .int .u64 0, .int .u64 0, .int .u64 0, .int .u64 0, .int .u64 0, .int .u64 0, .int .u64 0]) (.agg #[.int .u64 0, .int .u64 0, .int .u64 0, .int .u64 0, .int .u64 0, .int .u64 0, .int .u64 0, .int .u64 0])).run Try.prog W = .ok (.bool (false)) W))
    (R2 : Hid (∀ W, Calls Try.prog 16 #[.agg #[.bool u4, .int .u64 k4, .int .u64 v4, .int .u64 t4, .int .u64 r4, .int .u64 n4, .int .i64 x4]] W fun e w' => e = .returned (.bool true) ∧ Below W.heap.size W w'))
    (D2 : Hid (∀ W, Calls Try.prog 18 #[.agg #[.bool u4, .int .u64 k4, .int .u64 v4, .int .u64 t4, .int .u64 r4, .int .u64 n4, .int .i64 x4]] W fun e w' => e = .returned (.agg #[.int .u64 (g 0), .int .u64 (g 1), .int .u64 (g 2), .int .u64 (g 3), .int .u64 (g 4), .int .u64 (g 5), .int .u64 (g 6), .int .u64 (g 7)]) ∧ Below W.heap.size W w'))
    (Q2 : Hid (∀ W, (binOp .eql 26 (.agg #[.int .u64 (g 0), .int .u64 (g 1), .int .u64 (g 2), .int .u64 (g 3), .int .u64 (g 4), .int .u64 (g 5), .int .u64 (g 6), .int .u64 (g 7)]) (.agg #[.int .u64 (d 0), .int .u64 (d 1), .int .u64 (d 2), .int .u64 (d 3), .int .u64 (d 4), .int .u64 (d 5), .int .u64 (d 6), .int .u64 (d 7)])).run Try.prog W = .ok (.bool (true)) W)) :
    Calls Try.prog 4 #[.agg #[.bool u1, .int .u64 k1, .int .u64 v1, .int .u64 t1, .int .u64 r1, .int .u64 n1, .int .i64 x1], .agg #[.int .u64 (d 0), .int .u64 (d 1), .int .u64 (d 2), .int .u64 (d 3), .int .u64 (d 4), .int .u64 (d 5), .int .u64 (d 6), .int .u64 (d 7)]] w fun e w' => e = .returned (.bool true) ∧ Below w.heap.size w w' := by
  obtain ⟨p, hp⟩ : ∃ p, w.heap.size = p := ⟨_, rfl⟩
  obtain ⟨w2, hw2⟩ : ∃ w9, ((w.alloc (.cells #[.bool u1, .int .u64 k1, .int .u64 v1, .int .u64 t1, .int .u64 r1, .int .u64 n1, .int .i64 x1] 24)).alloc (.cells #[.int .u64 (d 0), .int .u64 (d 1), .int .u64 (d 2), .int .u64 (d 3), .int .u64 (d 4), .int .u64 (d 5), .int .u64 (d 6), .int .u64 (d 7)] 26)) = w9 := ⟨_, rfl⟩
  have hx0 : Box w2 (p) 24 #[.bool u1, .int .u64 k1, .int .u64 v1, .int .u64 t1, .int .u64 r1, .int .u64 n1, .int .i64 x1] := by
    have h9 := ((Box.new w 24 #[.bool u1, .int .u64 k1, .int .u64 v1, .int .u64 t1, .int .u64 r1, .int .u64 n1, .int .i64 x1])).alloc (.cells #[.int .u64 (d 0), .int .u64 (d 1), .int .u64 (d 2), .int .u64 (d 3), .int .u64 (d 4), .int .u64 (d 5), .int .u64 (d 6), .int .u64 (d 7)] 26)
    try simp only [World.size_alloc] at h9
    simp only [hp, hw2] at h9
    exact h9
  have hx1 : Box w2 (p + 1) 26 #[.int .u64 (d 0), .int .u64 (d 1), .int .u64 (d 2), .int .u64 (d 3), .int .u64 (d 4), .int .u64 (d 5), .int .u64 (d 6), .int .u64 (d 7)] := by
    have h9 := (Box.new (w.alloc (.cells #[.bool u1, .int .u64 k1, .int .u64 v1, .int .u64 t1, .int .u64 r1, .int .u64 n1, .int .i64 x1] 24)) 26 #[.int .u64 (d 0), .int .u64 (d 1), .int .u64 (d 2), .int .u64 (d 3), .int .u64 (d 4), .int .u64 (d 5), .int .u64 (d 6), .int .u64 (d 7)])
    try simp only [World.size_alloc] at h9
    simp only [hp, hw2] at h9
    exact h9
  have hB : Below w.heap.size w w2 := by
    have h9 := (((Below.refl w.heap.size w).alloc (by simp; try omega) (.cells #[.bool u1, .int .u64 k1, .int .u64 v1, .int .u64 t1, .int .u64 r1, .int .u64 n1, .int .i64 x1] 24)).alloc (by simp; try omega) (.cells #[.int .u64 (d 0), .int .u64 (d 1), .int .u64 (d 2), .int .u64 (d 3), .int .u64 (d 4), .int .u64 (d 5), .int .u64 (d 6), .int .u64 (d 7)] 26))
    rw [hw2] at h9
    exact h9
  have hS : w2.heap.size = p + 2 := by rw [← hw2]; simp [hp]
  have HX_a2 := Lib.hid hx0
  have HX_d2 := Lib.hid hx1
  have HB2 := Lib.hid hB
  have HPP := Lib.hid hp
  have HW := Lib.hid hw2
  clear hx0 hx1 hB hS hp hw2
  go_enter Try.func4, Try.ntmps4
  go_upto_region 1 with fail
  simp only [HPP.out, HW.out]
  clear HPP HW
  go_wp2_with fail
  refine (slshown_any _).mono ?_
  rintro e w3 ⟨rfl, hb⟩
  have HX_a3 := Lib.hid (show Box w3 p 24 #[.bool u1, .int .u64 k1, .int .u64 v1, .int .u64 t1, .int .u64 r1, .int .u64 n1, .int .i64 x1] from HX_a2.out.of (hb.block _ HX_a2.out.lt))
  have HX_d3 := Lib.hid (show Box w3 (p + 1) 26 #[.int .u64 (d 0), .int .u64 (d 1), .int .u64 (d 2), .int .u64 (d 3), .int .u64 (d 4), .int .u64 (d 5), .int .u64 (d 6), .int .u64 (d 7)] from HX_d2.out.of (hb.block _ HX_d2.out.lt))
  clear HX_a2 HX_d2
  have HB3 := Lib.hid (HB2.out.trans (hb.mono HB2.out.size))
  clear hb HB2
  have c_a0 : w3.cell? ⟨p, 0, none⟩ = some (.bool u1) := HX_a3.out.cell 0
  have c_a1 : w3.cell? ⟨p, 1, none⟩ = some (.int .u64 k1) := HX_a3.out.cell 1
  have c_a2 : w3.cell? ⟨p, 2, none⟩ = some (.int .u64 v1) := HX_a3.out.cell 2
  have c_a3 : w3.cell? ⟨p, 3, none⟩ = some (.int .u64 t1) := HX_a3.out.cell 3
  have c_a4 : w3.cell? ⟨p, 4, none⟩ = some (.int .u64 r1) := HX_a3.out.cell 4
  have c_a5 : w3.cell? ⟨p, 5, none⟩ = some (.int .u64 n1) := HX_a3.out.cell 5
  have c_a6 : w3.cell? ⟨p, 6, none⟩ = some (.int .i64 x1) := HX_a3.out.cell 6
  go_wp2_with fail
  refine (D1.out _).mono ?_
  rintro e w4 ⟨rfl, hb⟩
  have HX_a4 := Lib.hid (show Box w4 p 24 #[.bool u1, .int .u64 k1, .int .u64 v1, .int .u64 t1, .int .u64 r1, .int .u64 n1, .int .i64 x1] from HX_a3.out.of (hb.block _ HX_a3.out.lt))
  have HX_d4 := Lib.hid (show Box w4 (p + 1) 26 #[.int .u64 (d 0), .int .u64 (d 1), .int .u64 (d 2), .int .u64 (d 3), .int .u64 (d 4), .int .u64 (d 5), .int .u64 (d 6), .int .u64 (d 7)] from HX_d3.out.of (hb.block _ HX_d3.out.lt))
  clear HX_a3 HX_d3
  have HB4 := Lib.hid (HB3.out.trans (hb.mono HB3.out.size))
  clear hb HB3
  clear c_a0 c_a1 c_a2 c_a3 c_a4 c_a5 c_a6
  go_wp2_with fail
  refine (E1.out _).mono ?_
  rintro e w5 ⟨rfl, hb⟩
  have HX_a5 := Lib.hid (show Box w5 p 24 #[.bool u1, .int .u64 k1, .int .u64 v1, .int .u64 t1, .int .u64 r1, .int .u64 n1, .int .i64 x1] from HX_a4.out.of (hb.block _ HX_a4.out.lt))
  have HX_d5 := Lib.hid (show Box w5 (p + 1) 26 #[.int .u64 (d 0), .int .u64 (d 1), .int .u64 (d 2), .int .u64 (d 3), .int .u64 (d 4), .int .u64 (d 5), .int .u64 (d 6), .int .u64 (d 7)] from HX_d4.out.of (hb.block _ HX_d4.out.lt))
  clear HX_a4 HX_d4
  have HB5 := Lib.hid (HB4.out.trans (hb.mono HB4.out.size))
  clear hb HB4
  go_upto_region 3 with (fail)
  obtain ⟨q1, hq⟩ : ∃ q9, w5.heap.size = q9 := ⟨_, rfl⟩
  obtain ⟨w6, hw9⟩ : ∃ w9, w5.alloc (.cells #[.bool u3, .int .u64 k3, .int .u64 v3, .int .u64 t3, .int .u64 r3, .int .u64 n3, .int .i64 x3] 24) = w9 := ⟨_, rfl⟩
  have HX_a6 := Lib.hid (show Box w6 p 24 #[.bool u1, .int .u64 k1, .int .u64 v1, .int .u64 t1, .int .u64 r1, .int .u64 n1, .int .i64 x1] by rw [← hw9]; exact HX_a5.out.alloc _)
  have HX_d6 := Lib.hid (show Box w6 (p + 1) 26 #[.int .u64 (d 0), .int .u64 (d 1), .int .u64 (d 2), .int .u64 (d 3), .int .u64 (d 4), .int .u64 (d 5), .int .u64 (d 6), .int .u64 (d 7)] by rw [← hw9]; exact HX_d5.out.alloc _)
  have HX_x6 := Lib.hid (show Box w6 q1 24 #[.bool u3, .int .u64 k3, .int .u64 v3, .int .u64 t3, .int .u64 r3, .int .u64 n3, .int .i64 x3] by rw [← hw9, ← hq]; exact Box.new w5 _ _)
  have HB6 := Lib.hid (show Below w.heap.size w w6 by rw [← hw9]; exact HB5.out.alloc HB5.out.size _)
  have HS_x := Lib.hid (show w.heap.size ≤ q1 by rw [← hq]; exact HB5.out.size)
  simp only [hw9, hq]
  clear hq hw9 HB5 HX_a5 HX_d5
  have c_d0 : w6.cell? ⟨p + 1, 0, none⟩ = some (.int .u64 (d 0)) := HX_d6.out.cell 0
  have c_d1 : w6.cell? ⟨p + 1, 1, none⟩ = some (.int .u64 (d 1)) := HX_d6.out.cell 1
  have c_d2 : w6.cell? ⟨p + 1, 2, none⟩ = some (.int .u64 (d 2)) := HX_d6.out.cell 2
  have c_d3 : w6.cell? ⟨p + 1, 3, none⟩ = some (.int .u64 (d 3)) := HX_d6.out.cell 3
  have c_d4 : w6.cell? ⟨p + 1, 4, none⟩ = some (.int .u64 (d 4)) := HX_d6.out.cell 4
  have c_d5 : w6.cell? ⟨p + 1, 5, none⟩ = some (.int .u64 (d 5)) := HX_d6.out.cell 5
  have c_d6 : w6.cell? ⟨p + 1, 6, none⟩ = some (.int .u64 (d 6)) := HX_d6.out.cell 6
  have c_d7 : w6.cell? ⟨p + 1, 7, none⟩ = some (.int .u64 (d 7)) := HX_d6.out.cell 7
  go_wp2_with fail
  refine (E2.out _).mono ?_
  rintro e w7 ⟨rfl, hb⟩
  have HX_a7 := Lib.hid (show Box w7 p 24 #[.bool u1, .int .u64 k1, .int .u64 v1, .int .u64 t1, .int .u64 r1, .int .u64 n1, .int .i64 x1] from HX_a6.out.of (hb.block _ HX_a6.out.lt))
  have HX_d7 := Lib.hid (show Box w7 (p + 1) 26 #[.int .u64 (d 0), .int .u64 (d 1), .int .u64 (d 2), .int .u64 (d 3), .int .u64 (d 4), .int .u64 (d 5), .int .u64 (d 6), .int .u64 (d 7)] from HX_d6.out.of (hb.block _ HX_d6.out.lt))
  have HX_x7 := Lib.hid (show Box w7 q1 24 #[.bool u3, .int .u64 k3, .int .u64 v3, .int .u64 t3, .int .u64 r3, .int .u64 n3, .int .i64 x3] from HX_x6.out.of (hb.block _ HX_x6.out.lt))
  clear HX_a6 HX_d6 HX_x6
  have HB7 := Lib.hid (HB6.out.trans (hb.mono HB6.out.size))
  clear hb HB6
  clear c_d0 c_d1 c_d2 c_d3 c_d4 c_d5 c_d6 c_d7
  go_upto_region 4 with (fail)
  obtain ⟨q2, hq⟩ : ∃ q9, w7.heap.size = q9 := ⟨_, rfl⟩
  obtain ⟨w8, hw9⟩ : ∃ w9, w7.alloc (.cells #[.bool u4, .int .u64 k4, .int .u64 v4, .int .u64 t4, .int .u64 r4, .int .u64 n4, .int .i64 x4] 24) = w9 := ⟨_, rfl⟩
  have HX_a8 := Lib.hid (show Box w8 p 24 #[.bool u1, .int .u64 k1, .int .u64 v1, .int .u64 t1, .int .u64 r1, .int .u64 n1, .int .i64 x1] by rw [← hw9]; exact HX_a7.out.alloc _)
  have HX_d8 := Lib.hid (show Box w8 (p + 1) 26 #[.int .u64 (d 0), .int .u64 (d 1), .int .u64 (d 2), .int .u64 (d 3), .int .u64 (d 4), .int .u64 (d 5), .int .u64 (d 6), .int .u64 (d 7)] by rw [← hw9]; exact HX_d7.out.alloc _)
  have HX_x8 := Lib.hid (show Box w8 q1 24 #[.bool u3, .int .u64 k3, .int .u64 v3, .int .u64 t3, .int .u64 r3, .int .u64 n3, .int .i64 x3] by rw [← hw9]; exact HX_x7.out.alloc _)
  have HX_y8 := Lib.hid (show Box w8 q2 24 #[.bool u4, .int .u64 k4, .int .u64 v4, .int .u64 t4, .int .u64 r4, .int .u64 n4, .int .i64 x4] by rw [← hw9, ← hq]; exact Box.new w7 _ _)
  have HB8 := Lib.hid (show Below w.heap.size w w8 by rw [← hw9]; exact HB7.out.alloc HB7.out.size _)
  have HS_y := Lib.hid (show w.heap.size ≤ q2 by rw [← hq]; exact HB7.out.size)
  simp only [hw9, hq]
  clear hq hw9 HB7 HX_a7 HX_d7 HX_x7
  have c_a0 : w8.cell? ⟨p, 0, none⟩ = some (.bool u1) := HX_a8.out.cell 0
  have c_a1 : w8.cell? ⟨p, 1, none⟩ = some (.int .u64 k1) := HX_a8.out.cell 1
  have c_a2 : w8.cell? ⟨p, 2, none⟩ = some (.int .u64 v1) := HX_a8.out.cell 2
  have c_a3 : w8.cell? ⟨p, 3, none⟩ = some (.int .u64 t1) := HX_a8.out.cell 3
  have c_a4 : w8.cell? ⟨p, 4, none⟩ = some (.int .u64 r1) := HX_a8.out.cell 4
  have c_a5 : w8.cell? ⟨p, 5, none⟩ = some (.int .u64 n1) := HX_a8.out.cell 5
  have c_a6 : w8.cell? ⟨p, 6, none⟩ = some (.int .i64 x1) := HX_a8.out.cell 6
  go_wp2_with fail
  refine (R1.out _).mono ?_
  rintro e w9 ⟨rfl, hb⟩
  have HX_a9 := Lib.hid (show Box w9 p 24 #[.bool u1, .int .u64 k1, .int .u64 v1, .int .u64 t1, .int .u64 r1, .int .u64 n1, .int .i64 x1] from HX_a8.out.of (hb.block _ HX_a8.out.lt))
  have HX_d9 := Lib.hid (show Box w9 (p + 1) 26 #[.int .u64 (d 0), .int .u64 (d 1), .int .u64 (d 2), .int .u64 (d 3), .int .u64 (d 4), .int .u64 (d 5), .int .u64 (d 6), .int .u64 (d 7)] from HX_d8.out.of (hb.block _ HX_d8.out.lt))
  have HX_x9 := Lib.hid (show Box w9 q1 24 #[.bool u3, .int .u64 k3, .int .u64 v3, .int .u64 t3, .int .u64 r3, .int .u64 n3, .int .i64 x3] from HX_x8.out.of (hb.block _ HX_x8.out.lt))
  have HX_y9 := Lib.hid (show Box w9 q2 24 #[.bool u4, .int .u64 k4, .int .u64 v4, .int .u64 t4, .int .u64 r4, .int .u64 n4, .int .i64 x4] from HX_y8.out.of (hb.block _ HX_y8.out.lt))
  clear HX_a8 HX_d8 HX_x8 HX_y8
  have HB9 := Lib.hid (HB8.out.trans (hb.mono HB8.out.size))
  clear hb HB8
  clear c_a0 c_a1 c_a2 c_a3 c_a4 c_a5 c_a6
  have hq1 := Q1.out
  have c_a0 : w9.cell? ⟨p, 0, none⟩ = some (.bool u1) := HX_a9.out.cell 0
  have c_a1 : w9.cell? ⟨p, 1, none⟩ = some (.int .u64 k1) := HX_a9.out.cell 1
  have c_a2 : w9.cell? ⟨p, 2, none⟩ = some (.int .u64 v1) := HX_a9.out.cell 2
  have c_a3 : w9.cell? ⟨p, 3, none⟩ = some (.int .u64 t1) := HX_a9.out.cell 3
  have c_a4 : w9.cell? ⟨p, 4, none⟩ = some (.int .u64 r1) := HX_a9.out.cell 4
  have c_a5 : w9.cell? ⟨p, 5, none⟩ = some (.int .u64 n1) := HX_a9.out.cell 5
  have c_a6 : w9.cell? ⟨p, 6, none⟩ = some (.int .i64 x1) := HX_a9.out.cell 6
  go_wp2_with fail
  refine (R1.out _).mono ?_
  rintro e w10 ⟨rfl, hb⟩
  have HX_a10 := Lib.hid (show Box w10 p 24 #[.bool u1, .int .u64 k1, .int .u64 v1, .int .u64 t1, .int .u64 r1, .int .u64 n1, .int .i64 x1] from HX_a9.out.of (hb.block _ HX_a9.out.lt))
  have HX_d10 := Lib.hid (show Box w10 (p + 1) 26 #[.int .u64 (d 0), .int .u64 (d 1), .int .u64 (d 2), .int .u64 (d 3), .int .u64 (d 4), .int .u64 (d 5), .int .u64 (d 6), .int .u64 (d 7)] from HX_d9.out.of (hb.block _ HX_d9.out.lt))
  have HX_x10 := Lib.hid (show Box w10 q1 24 #[.bool u3, .int .u64 k3, .int .u64 v3, .int .u64 t3, .int .u64 r3, .int .u64 n3, .int .i64 x3] from HX_x9.out.of (hb.block _ HX_x9.out.lt))
  have HX_y10 := Lib.hid (show Box w10 q2 24 #[.bool u4, .int .u64 k4, .int .u64 v4, .int .u64 t4, .int .u64 r4, .int .u64 n4, .int .i64 x4] from HX_y9.out.of (hb.block _ HX_y9.out.lt))
  clear HX_a9 HX_d9 HX_x9 HX_y9
  have HB10 := Lib.hid (HB9.out.trans (hb.mono HB9.out.size))
  clear hb HB9
  clear c_a0 c_a1 c_a2 c_a3 c_a4 c_a5 c_a6
  have c_a0 : w10.cell? ⟨p, 0, none⟩ = some (.bool u1) := HX_a10.out.cell 0
  have c_a1 : w10.cell? ⟨p, 1, none⟩ = some (.int .u64 k1) := HX_a10.out.cell 1
  have c_a2 : w10.cell? ⟨p, 2, none⟩ = some (.int .u64 v1) := HX_a10.out.cell 2
  have c_a3 : w10.cell? ⟨p, 3, none⟩ = some (.int .u64 t1) := HX_a10.out.cell 3
  have c_a4 : w10.cell? ⟨p, 4, none⟩ = some (.int .u64 r1) := HX_a10.out.cell 4
  have c_a5 : w10.cell? ⟨p, 5, none⟩ = some (.int .u64 n1) := HX_a10.out.cell 5
  have c_a6 : w10.cell? ⟨p, 6, none⟩ = some (.int .i64 x1) := HX_a10.out.cell 6
  go_wp2_with fail
  refine (D1.out _).mono ?_
  rintro e w11 ⟨rfl, hb⟩
  have HX_a11 := Lib.hid (show Box w11 p 24 #[.bool u1, .int .u64 k1, .int .u64 v1, .int .u64 t1, .int .u64 r1, .int .u64 n1, .int .i64 x1] from HX_a10.out.of (hb.block _ HX_a10.out.lt))
  have HX_d11 := Lib.hid (show Box w11 (p + 1) 26 #[.int .u64 (d 0), .int .u64 (d 1), .int .u64 (d 2), .int .u64 (d 3), .int .u64 (d 4), .int .u64 (d 5), .int .u64 (d 6), .int .u64 (d 7)] from HX_d10.out.of (hb.block _ HX_d10.out.lt))
  have HX_x11 := Lib.hid (show Box w11 q1 24 #[.bool u3, .int .u64 k3, .int .u64 v3, .int .u64 t3, .int .u64 r3, .int .u64 n3, .int .i64 x3] from HX_x10.out.of (hb.block _ HX_x10.out.lt))
  have HX_y11 := Lib.hid (show Box w11 q2 24 #[.bool u4, .int .u64 k4, .int .u64 v4, .int .u64 t4, .int .u64 r4, .int .u64 n4, .int .i64 x4] from HX_y10.out.of (hb.block _ HX_y10.out.lt))
  clear HX_a10 HX_d10 HX_x10 HX_y10
  have HB11 := Lib.hid (HB10.out.trans (hb.mono HB10.out.size))
  clear hb HB10
  clear c_a0 c_a1 c_a2 c_a3 c_a4 c_a5 c_a6
  have hq2 := Q2.out
  go_upto_region 6 with fail
  have c_y0 := Gr.cell (show w11.cell? ⟨q2, 0, none⟩ = some (.bool u4) from HX_y11.out.cell 0)
  have c_y1 := Gr.cell (show w11.cell? ⟨q2, 1, none⟩ = some (.int .u64 k4) from HX_y11.out.cell 1)
  have c_y2 := Gr.cell (show w11.cell? ⟨q2, 2, none⟩ = some (.int .u64 v4) from HX_y11.out.cell 2)
  have c_y3 := Gr.cell (show w11.cell? ⟨q2, 3, none⟩ = some (.int .u64 t4) from HX_y11.out.cell 3)
  have c_y4 := Gr.cell (show w11.cell? ⟨q2, 4, none⟩ = some (.int .u64 r4) from HX_y11.out.cell 4)
  have c_y5 := Gr.cell (show w11.cell? ⟨q2, 5, none⟩ = some (.int .u64 n4) from HX_y11.out.cell 5)
  have c_y6 := Gr.cell (show w11.cell? ⟨q2, 6, none⟩ = some (.int .i64 x4) from HX_y11.out.cell 6)
  have c_d0 := Gr.cell (show w11.cell? ⟨p + 1, 0, none⟩ = some (.int .u64 (d 0)) from HX_d11.out.cell 0)
  have c_d1 := Gr.cell (show w11.cell? ⟨p + 1, 1, none⟩ = some (.int .u64 (d 1)) from HX_d11.out.cell 1)
  have c_d2 := Gr.cell (show w11.cell? ⟨p + 1, 2, none⟩ = some (.int .u64 (d 2)) from HX_d11.out.cell 2)
  have c_d3 := Gr.cell (show w11.cell? ⟨p + 1, 3, none⟩ = some (.int .u64 (d 3)) from HX_d11.out.cell 3)
  have c_d4 := Gr.cell (show w11.cell? ⟨p + 1, 4, none⟩ = some (.int .u64 (d 4)) from HX_d11.out.cell 4)
  have c_d5 := Gr.cell (show w11.cell? ⟨p + 1, 5, none⟩ = some (.int .u64 (d 5)) from HX_d11.out.cell 5)
  have c_d6 := Gr.cell (show w11.cell? ⟨p + 1, 6, none⟩ = some (.int .u64 (d 6)) from HX_d11.out.cell 6)
  have c_d7 := Gr.cell (show w11.cell? ⟨p + 1, 7, none⟩ = some (.int .u64 (d 7)) from HX_d11.out.cell 7)
  refine wp_region_grow (by kernel_rfl) (by kernel_rfl) ?_
  repeat (go_big_quiet_step (first | (go_at_call 16; exact Gr.blw (R2.out _)) | (go_at_call 18; exact Gr.blw (D2.out _))))
  refine wpQuiet_nil ?_
  intro w12 hw12
  obtain ⟨G, hG⟩ := hw12
  subst hG
  obtain ⟨w12, hw9⟩ : ∃ w9, G.w' = w9 := ⟨_, rfl⟩
  have ho9 : Only nobody w11 w12 := by rw [← hw9]; exact G.ok
  rw [hw9]
  have HX_a12 := Lib.hid (show Box w12 p 24 #[.bool u1, .int .u64 k1, .int .u64 v1, .int .u64 t1, .int .u64 r1, .int .u64 n1, .int .i64 x1] from HX_a11.out.only ho9 (not_nobody _))
  have HX_d12 := Lib.hid (show Box w12 (p + 1) 26 #[.int .u64 (d 0), .int .u64 (d 1), .int .u64 (d 2), .int .u64 (d 3), .int .u64 (d 4), .int .u64 (d 5), .int .u64 (d 6), .int .u64 (d 7)] from HX_d11.out.only ho9 (not_nobody _))
  have HX_x12 := Lib.hid (show Box w12 q1 24 #[.bool u3, .int .u64 k3, .int .u64 v3, .int .u64 t3, .int .u64 r3, .int .u64 n3, .int .i64 x3] from HX_x11.out.only ho9 (not_nobody _))
  have HX_y12 := Lib.hid (show Box w12 q2 24 #[.bool u4, .int .u64 k4, .int .u64 v4, .int .u64 t4, .int .u64 r4, .int .u64 n4, .int .i64 x4] from HX_y11.out.only ho9 (not_nobody _))
  clear HX_a11 HX_d11 HX_x11 HX_y11
  have HB12 := Lib.hid (HB11.out.trans (ho9.none.mono HB11.out.size))
  clear c_y0 c_y1 c_y2 c_y3 c_y4 c_y5 c_y6
  clear c_d0 c_d1 c_d2 c_d3 c_d4 c_d5 c_d6 c_d7
  clear ho9 hw9 HB11 G
  go_wp2_with fail
  go_ret
  exact ⟨rfl, HB12.out⟩
set_option maxHeartbeats 2000000 in
theorem back_false_false (u1 : Bool) (k1 v1 t1 r1 n1 x1 : Int) (u3 : Bool) (k3 v3 t3 r3 n3 x3 e3 : Int) (d : Nat → Int) (w : World)
    (R1 : Hid (∀ W, Calls Try.prog 16 #[.agg #[.bool u1, .int .u64 k1, .int .u64 v1, .int .u64 t1, .int .u64 r1, .int .u64 n1, .int .i64 x1]] W fun e w' => e = .returned (.bool false) ∧ Below W.heap.size W w'))
    (D1 : Hid (∀ W, Calls Try.prog 18 #[.agg #[.bool u1, .int .u64 k1, .int .u64 v1, .int .u64 t1, .int .u64 r1, .int .u64 n1, .int .i64 x1]] W fun e w' => e = .returned (.agg #[.int .u64 0, .int .u64 0, .int .u64 0, .int .u64 0, .int .u64 0, .int .u64 0, .int .u64 0, .int .u64 0]) ∧ Below W.heap.size W w'))
    (E1 : Hid (∀ W, Calls Try.prog 9 #[.agg #[.int .u64 0, .int .u64 0, .int .u64 0, .int .u64 0, .int .u64 0, .int .u64 0, .int .u64 0, .int .u64 0]] W fun e w' => e = .returned (.tuple #[.agg #[.bool u3, .int .u64 k3, .int .u64 v3, .int .u64 t3, .int .u64 r3, .int .u64 n3, .int .i64 x3], .int .i64 e3]) ∧ Below W.heap.size W w'))
    (E2 : Hid (∀ W, Calls Try.prog 9 #[.agg #[.int .u64 (d 0), .int .u64 (d 1), .int .u64 (d 2), .int .u64 (d 3), .int .u64 (d 4), .int .u64 (d 5), .int .u64 (d 6), .int .u64 (d 7)]] W fun e w' => e = .returned (.tuple #[.agg #[.bool false, .int .u64 0, .int .u64 0, .int .u64 0, .int .u64 0, .int .u64 0, .int .i64 0], .int .i64 3]) ∧ Below W.heap.size W w'))
    (Q1 : Hid (∀ W, (binOp .neq 26 (.agg #[.int .u64 0, .int .u64 0, .int .u64 0, .int .u64 0, .int .u64 0, .int .u64 0, .int .u64 0, .int .u64 0]) (.agg #[.int .u64 0, .int .u64 0, .int .u64 0, .int .u64 0, .int .u64 0, .int .u64 0, .int .u64 0, .int .u64 0])).run Try.prog W = .ok (.bool (false)) W))
    (Q2 : Hid (∀ W, (binOp .eql 24 (.agg #[.bool false, .int .u64 0, .int .u64 0, .int .u64 0, .int .u64 0, .int .u64 0, .int .i64 0]) (.agg #[.bool false, .int .u64 0, .int .u64 0, .int .u64 0, .int .u64 0, .int .u64 0, .int .i64 0])).run Try.prog W = .ok (.bool (true)) W)) :
    Calls Try.prog 4 #[.agg #[.bool u1, .int .u64 k1, .int .u64 v1, .int .u64 t1, .int .u64 r1, .int .u64 n1, .int .i64 x1], .agg #[.int .u64 (d 0), .int .u64 (d 1), .int .u64 (d 2), .int .u64 (d 3), .int .u64 (d 4), .int .u64 (d 5), .int .u64 (d 6), .int .u64 (d 7)]] w fun e w' => e = .returned (.bool true) ∧ Below w.heap.size w w' := by
  obtain ⟨p, hp⟩ : ∃ p, w.heap.size = p := ⟨_, rfl⟩
  obtain ⟨w2, hw2⟩ : ∃ w9, ((w.alloc (.cells #[.bool u1, .int .u64 k1, .int .u64 v1, .int .u64 t1, .int .u64 r1, .int .u64 n1, .int .i64 x1] 24)).alloc (.cells #[.int .u64 (d 0), .int .u64 (d 1), .int .u64 (d 2), .int .u64 (d 3), .int .u64 (d 4), .int .u64 (d 5), .int .u64 (d 6), .int .u64 (d 7)] 26)) = w9 := ⟨_, rfl⟩
  have hx0 : Box w2 (p) 24 #[.bool u1, .int .u64 k1, .int .u64 v1, .int .u64 t1, .int .u64 r1, .int .u64 n1, .int .i64 x1] := by
    have h9 := ((Box.new w 24 #[.bool u1, .int .u64 k1, .int .u64 v1, .int .u64 t1, .int .u64 r1, .int .u64 n1, .int .i64 x1])).alloc (.cells #[.int .u64 (d 0), .int .u64 (d 1), .int .u64 (d 2), .int .u64 (d 3), .int .u64 (d 4), .int .u64 (d 5), .int .u64 (d 6), .int .u64 (d 7)] 26)
    try simp only [World.size_alloc] at h9
    simp only [hp, hw2] at h9
    exact h9
  have hx1 : Box w2 (p + 1) 26 #[.int .u64 (d 0), .int .u64 (d 1), .int .u64 (d 2), .int .u64 (d 3), .int .u64 (d 4), .int .u64 (d 5), .int .u64 (d 6), .int .u64 (d 7)] := by
    have h9 := (Box.new (w.alloc (.cells #[.bool u1, .int .u64 k1, .int .u64 v1, .int .u64 t1, .int .u64 r1, .int .u64 n1, .int .i64 x1] 24)) 26 #[.int .u64 (d 0), .int .u64 (d 1), .int .u64 (d 2), .int .u64 (d 3), .int .u64 (d 4), .int .u64 (d 5), .int .u64 (d 6), .int .u64 (d 7)])
    try simp only [World.size_alloc] at h9
    simp only [hp, hw2] at h9
    exact h9
  have hB : Below w.heap.size w w2 := by
    have h9 := (((Below.refl w.heap.size w).alloc (by simp; try omega) (.cells #[.bool u1, .int .u64 k1, .int .u64 v1, .int .u64 t1, .int .u64 r1, .int .u64 n1, .int .i64 x1] 24)).alloc (by simp; try omega) (.cells #[.int .u64 (d 0), .int .u64 (d 1), .int .u64 (d 2), .int .u64 (d 3), .int .u64 (d 4), .int .u64 (d 5), .int .u64 (d 6), .int .u64 (d 7)] 26))
    rw [hw2] at h9
    exact h9
  have hS : w2.heap.size = p + 2 := by rw [← hw2]; simp [hp]
  have HX_a2 := Lib.hid hx0
  have HX_d2 := Lib.hid hx1
  have HB2 := Lib.hid hB
  have HPP := Lib.hid hp
  have HW := Lib.hid hw2
  clear hx0 hx1 hB hS hp hw2
  go_enter Try.func4, Try.ntmps4
  go_upto_region 1 with fail
  simp only [HPP.out, HW.out]
  clear HPP HW
  go_wp2_with fail
  refine (slshown_any _).mono ?_
  rintro e w3 ⟨rfl, hb⟩
  have HX_a3 := Lib.hid (show Box w3 p 24 #[.bool u1, .int .u64 k1, .int .u64 v1, .int .u64 t1, .int .u64 r1, .int .u64 n1, .int .i64 x1] from HX_a2.out.of (hb.block _ HX_a2.out.lt))
  have HX_d3 := Lib.hid (show Box w3 (p + 1) 26 #[.int .u64 (d 0), .int .u64 (d 1), .int .u64 (d 2), .int .u64 (d 3), .int .u64 (d 4), .int .u64 (d 5), .int .u64 (d 6), .int .u64 (d 7)] from HX_d2.out.of (hb.block _ HX_d2.out.lt))
  clear HX_a2 HX_d2
  have HB3 := Lib.hid (HB2.out.trans (hb.mono HB2.out.size))
  clear hb HB2
  have c_a0 : w3.cell? ⟨p, 0, none⟩ = some (.bool u1) := HX_a3.out.cell 0
  have c_a1 : w3.cell? ⟨p, 1, none⟩ = some (.int .u64 k1) := HX_a3.out.cell 1
  have c_a2 : w3.cell? ⟨p, 2, none⟩ = some (.int .u64 v1) := HX_a3.out.cell 2
  have c_a3 : w3.cell? ⟨p, 3, none⟩ = some (.int .u64 t1) := HX_a3.out.cell 3
  have c_a4 : w3.cell? ⟨p, 4, none⟩ = some (.int .u64 r1) := HX_a3.out.cell 4
  have c_a5 : w3.cell? ⟨p, 5, none⟩ = some (.int .u64 n1) := HX_a3.out.cell 5
  have c_a6 : w3.cell? ⟨p, 6, none⟩ = some (.int .i64 x1) := HX_a3.out.cell 6
  go_wp2_with fail
  refine (D1.out _).mono ?_
  rintro e w4 ⟨rfl, hb⟩
  have HX_a4 := Lib.hid (show Box w4 p 24 #[.bool u1, .int .u64 k1, .int .u64 v1, .int .u64 t1, .int .u64 r1, .int .u64 n1, .int .i64 x1] from HX_a3.out.of (hb.block _ HX_a3.out.lt))
  have HX_d4 := Lib.hid (show Box w4 (p + 1) 26 #[.int .u64 (d 0), .int .u64 (d 1), .int .u64 (d 2), .int .u64 (d 3), .int .u64 (d 4), .int .u64 (d 5), .int .u64 (d 6), .int .u64 (d 7)] from HX_d3.out.of (hb.block _ HX_d3.out.lt))
  clear HX_a3 HX_d3
  have HB4 := Lib.hid (HB3.out.trans (hb.mono HB3.out.size))
  clear hb HB3
  clear c_a0 c_a1 c_a2 c_a3 c_a4 c_a5 c_a6
  go_wp2_with fail
  refine (E1.out _).mono ?_
  rintro e w5 ⟨rfl, hb⟩
  have HX_a5 := Lib.hid (show Box w5 p 24 #[.bool u1, .int .u64 k1, .int .u64 v1, .int .u64 t1, .int .u64 r1, .int .u64 n1, .int .i64 x1] from HX_a4.out.of (hb.block _ HX_a4.out.lt))
  have HX_d5 := Lib.hid (show Box w5 (p + 1) 26 #[.int .u64 (d 0), .int .u64 (d 1), .int .u64 (d 2), .int .u64 (d 3), .int .u64 (d 4), .int .u64 (d 5), .int .u64 (d 6), .int .u64 (d 7)] from HX_d4.out.of (hb.block _ HX_d4.out.lt))
  clear HX_a4 HX_d4
  have HB5 := Lib.hid (HB4.out.trans (hb.mono HB4.out.size))
  clear hb HB4
  go_upto_region 3 with (fail)
  obtain ⟨q1, hq⟩ : ∃ q9, w5.heap.size = q9 := ⟨_, rfl⟩
  obtain ⟨w6, hw9⟩ : ∃ w9, w5.alloc (.cells #[.bool u3, .int .u64 k3, .int .u64 v3, .int .u64 t3, .int .u64 r3, .int .u64 n3, .int .i64 x3] 24) = w9 := ⟨_, rfl⟩
  have HX_a6 := Lib.hid (show Box w6 p 24 #[.bool u1, .int .u64 k1, .int .u64 v1, .int .u64 t1, .int .u64 r1, .int .u64 n1, .int .i64 x1] by rw [← hw9]; exact HX_a5.out.alloc _)
  have HX_d6 := Lib.hid (show Box w6 (p + 1) 26 #[.int .u64 (d 0), .int .u64 (d 1), .int .u64 (d 2), .int .u64 (d 3), .int .u64 (d 4), .int .u64 (d 5), .int .u64 (d 6), .int .u64 (d 7)] by rw [← hw9]; exact HX_d5.out.alloc _)
  have HX_x6 := Lib.hid (show Box w6 q1 24 #[.bool u3, .int .u64 k3, .int .u64 v3, .int .u64 t3, .int .u64 r3, .int .u64 n3, .int .i64 x3] by rw [← hw9, ← hq]; exact Box.new w5 _ _)
  have HB6 := Lib.hid (show Below w.heap.size w w6 by rw [← hw9]; exact HB5.out.alloc HB5.out.size _)
  have HS_x := Lib.hid (show w.heap.size ≤ q1 by rw [← hq]; exact HB5.out.size)
  simp only [hw9, hq]
  clear hq hw9 HB5 HX_a5 HX_d5
  have c_d0 : w6.cell? ⟨p + 1, 0, none⟩ = some (.int .u64 (d 0)) := HX_d6.out.cell 0
  have c_d1 : w6.cell? ⟨p + 1, 1, none⟩ = some (.int .u64 (d 1)) := HX_d6.out.cell 1
  have c_d2 : w6.cell? ⟨p + 1, 2, none⟩ = some (.int .u64 (d 2)) := HX_d6.out.cell 2
  have c_d3 : w6.cell? ⟨p + 1, 3, none⟩ = some (.int .u64 (d 3)) := HX_d6.out.cell 3
  have c_d4 : w6.cell? ⟨p + 1, 4, none⟩ = some (.int .u64 (d 4)) := HX_d6.out.cell 4
  have c_d5 : w6.cell? ⟨p + 1, 5, none⟩ = some (.int .u64 (d 5)) := HX_d6.out.cell 5
  have c_d6 : w6.cell? ⟨p + 1, 6, none⟩ = some (.int .u64 (d 6)) := HX_d6.out.cell 6
  have c_d7 : w6.cell? ⟨p + 1, 7, none⟩ = some (.int .u64 (d 7)) := HX_d6.out.cell 7
  go_wp2_with fail
  refine (E2.out _).mono ?_
  rintro e w7 ⟨rfl, hb⟩
  have HX_a7 := Lib.hid (show Box w7 p 24 #[.bool u1, .int .u64 k1, .int .u64 v1, .int .u64 t1, .int .u64 r1, .int .u64 n1, .int .i64 x1] from HX_a6.out.of (hb.block _ HX_a6.out.lt))
  have HX_d7 := Lib.hid (show Box w7 (p + 1) 26 #[.int .u64 (d 0), .int .u64 (d 1), .int .u64 (d 2), .int .u64 (d 3), .int .u64 (d 4), .int .u64 (d 5), .int .u64 (d 6), .int .u64 (d 7)] from HX_d6.out.of (hb.block _ HX_d6.out.lt))
  have HX_x7 := Lib.hid (show Box w7 q1 24 #[.bool u3, .int .u64 k3, .int .u64 v3, .int .u64 t3, .int .u64 r3, .int .u64 n3, .int .i64 x3] from HX_x6.out.of (hb.block _ HX_x6.out.lt))
  clear HX_a6 HX_d6 HX_x6
  have HB7 := Lib.hid (HB6.out.trans (hb.mono HB6.out.size))
  clear hb HB6
  clear c_d0 c_d1 c_d2 c_d3 c_d4 c_d5 c_d6 c_d7
  go_upto_region 4 with (fail)
  obtain ⟨q2, hq⟩ : ∃ q9, w7.heap.size = q9 := ⟨_, rfl⟩
  obtain ⟨w8, hw9⟩ : ∃ w9, w7.alloc (.cells #[.bool false, .int .u64 0, .int .u64 0, .int .u64 0, .int .u64 0, .int .u64 0, .int .i64 0] 24) = w9 := ⟨_, rfl⟩
  have HX_a8 := Lib.hid (show Box w8 p 24 #[.bool u1, .int .u64 k1, .int .u64 v1, .int .u64 t1, .int .u64 r1, .int .u64 n1, .int .i64 x1] by rw [← hw9]; exact HX_a7.out.alloc _)
  have HX_d8 := Lib.hid (show Box w8 (p + 1) 26 #[.int .u64 (d 0), .int .u64 (d 1), .int .u64 (d 2), .int .u64 (d 3), .int .u64 (d 4), .int .u64 (d 5), .int .u64 (d 6), .int .u64 (d 7)] by rw [← hw9]; exact HX_d7.out.alloc _)
  have HX_x8 := Lib.hid (show Box w8 q1 24 #[.bool u3, .int .u64 k3, .int .u64 v3, .int .u64 t3, .int .u64 r3, .int .u64 n3, .int .i64 x3] by rw [← hw9]; exact HX_x7.out.alloc _)
  have HX_y8 := Lib.hid (show Box w8 q2 24 #[.bool false, .int .u64 0, .int .u64 0, .int .u64 0, .int .u64 0, .int .u64 0, .int .i64 0] by rw [← hw9, ← hq]; exact Box.new w7 _ _)
  have HB8 := Lib.hid (show Below w.heap.size w w8 by rw [← hw9]; exact HB7.out.alloc HB7.out.size _)
  have HS_y := Lib.hid (show w.heap.size ≤ q2 by rw [← hq]; exact HB7.out.size)
  simp only [hw9, hq]
  clear hq hw9 HB7 HX_a7 HX_d7 HX_x7
  have c_a0 : w8.cell? ⟨p, 0, none⟩ = some (.bool u1) := HX_a8.out.cell 0
  have c_a1 : w8.cell? ⟨p, 1, none⟩ = some (.int .u64 k1) := HX_a8.out.cell 1
  have c_a2 : w8.cell? ⟨p, 2, none⟩ = some (.int .u64 v1) := HX_a8.out.cell 2
  have c_a3 : w8.cell? ⟨p, 3, none⟩ = some (.int .u64 t1) := HX_a8.out.cell 3
  have c_a4 : w8.cell? ⟨p, 4, none⟩ = some (.int .u64 r1) := HX_a8.out.cell 4
  have c_a5 : w8.cell? ⟨p, 5, none⟩ = some (.int .u64 n1) := HX_a8.out.cell 5
  have c_a6 : w8.cell? ⟨p, 6, none⟩ = some (.int .i64 x1) := HX_a8.out.cell 6
  go_wp2_with fail
  refine (R1.out _).mono ?_
  rintro e w9 ⟨rfl, hb⟩
  have HX_a9 := Lib.hid (show Box w9 p 24 #[.bool u1, .int .u64 k1, .int .u64 v1, .int .u64 t1, .int .u64 r1, .int .u64 n1, .int .i64 x1] from HX_a8.out.of (hb.block _ HX_a8.out.lt))
  have HX_d9 := Lib.hid (show Box w9 (p + 1) 26 #[.int .u64 (d 0), .int .u64 (d 1), .int .u64 (d 2), .int .u64 (d 3), .int .u64 (d 4), .int .u64 (d 5), .int .u64 (d 6), .int .u64 (d 7)] from HX_d8.out.of (hb.block _ HX_d8.out.lt))
  have HX_x9 := Lib.hid (show Box w9 q1 24 #[.bool u3, .int .u64 k3, .int .u64 v3, .int .u64 t3, .int .u64 r3, .int .u64 n3, .int .i64 x3] from HX_x8.out.of (hb.block _ HX_x8.out.lt))
  have HX_y9 := Lib.hid (show Box w9 q2 24 #[.bool false, .int .u64 0, .int .u64 0, .int .u64 0, .int .u64 0, .int .u64 0, .int .i64 0] from HX_y8.out.of (hb.block _ HX_y8.out.lt))
  clear HX_a8 HX_d8 HX_x8 HX_y8
  have HB9 := Lib.hid (HB8.out.trans (hb.mono HB8.out.size))
  clear hb HB8
  clear c_a0 c_a1 c_a2 c_a3 c_a4 c_a5 c_a6
  have hq1 := Q1.out
  have c_a0 : w9.cell? ⟨p, 0, none⟩ = some (.bool u1) := HX_a9.out.cell 0
  have c_a1 : w9.cell? ⟨p, 1, none⟩ = some (.int .u64 k1) := HX_a9.out.cell 1
  have c_a2 : w9.cell? ⟨p, 2, none⟩ = some (.int .u64 v1) := HX_a9.out.cell 2
  have c_a3 : w9.cell? ⟨p, 3, none⟩ = some (.int .u64 t1) := HX_a9.out.cell 3
  have c_a4 : w9.cell? ⟨p, 4, none⟩ = some (.int .u64 r1) := HX_a9.out.cell 4
  have c_a5 : w9.cell? ⟨p, 5, none⟩ = some (.int .u64 n1) := HX_a9.out.cell 5
  have c_a6 : w9.cell? ⟨p, 6, none⟩ = some (.int .i64 x1) := HX_a9.out.cell 6
  go_wp2_with fail
  refine (R1.out _).mono ?_
  rintro e w10 ⟨rfl, hb⟩
  have HX_a10 := Lib.hid (show Box w10 p 24 #[.bool u1, .int .u64 k1, .int .u64 v1, .int .u64 t1, .int .u64 r1, .int .u64 n1, .int .i64 x1] from HX_a9.out.of (hb.block _ HX_a9.out.lt))
  have HX_d10 := Lib.hid (show Box w10 (p + 1) 26 #[.int .u64 (d 0), .int .u64 (d 1), .int .u64 (d 2), .int .u64 (d 3), .int .u64 (d 4), .int .u64 (d 5), .int .u64 (d 6), .int .u64 (d 7)] from HX_d9.out.of (hb.block _ HX_d9.out.lt))
  have HX_x10 := Lib.hid (show Box w10 q1 24 #[.bool u3, .int .u64 k3, .int .u64 v3, .int .u64 t3, .int .u64 r3, .int .u64 n3, .int .i64 x3] from HX_x9.out.of (hb.block _ HX_x9.out.lt))
  have HX_y10 := Lib.hid (show Box w10 q2 24 #[.bool false, .int .u64 0, .int .u64 0, .int .u64 0, .int .u64 0, .int .u64 0, .int .i64 0] from HX_y9.out.of (hb.block _ HX_y9.out.lt))
  clear HX_a9 HX_d9 HX_x9 HX_y9
  have HB10 := Lib.hid (HB9.out.trans (hb.mono HB9.out.size))
  clear hb HB9
  clear c_a0 c_a1 c_a2 c_a3 c_a4 c_a5 c_a6
  have c_a0 : w10.cell? ⟨p, 0, none⟩ = some (.bool u1) := HX_a10.out.cell 0
  have c_a1 : w10.cell? ⟨p, 1, none⟩ = some (.int .u64 k1) := HX_a10.out.cell 1
  have c_a2 : w10.cell? ⟨p, 2, none⟩ = some (.int .u64 v1) := HX_a10.out.cell 2
  have c_a3 : w10.cell? ⟨p, 3, none⟩ = some (.int .u64 t1) := HX_a10.out.cell 3
  have c_a4 : w10.cell? ⟨p, 4, none⟩ = some (.int .u64 r1) := HX_a10.out.cell 4
  have c_a5 : w10.cell? ⟨p, 5, none⟩ = some (.int .u64 n1) := HX_a10.out.cell 5
  have c_a6 : w10.cell? ⟨p, 6, none⟩ = some (.int .i64 x1) := HX_a10.out.cell 6
  go_wp2_with fail
  refine (D1.out _).mono ?_
  rintro e w11 ⟨rfl, hb⟩
  have HX_a11 := Lib.hid (show Box w11 p 24 #[.bool u1, .int .u64 k1, .int .u64 v1, .int .u64 t1, .int .u64 r1, .int .u64 n1, .int .i64 x1] from HX_a10.out.of (hb.block _ HX_a10.out.lt))
  have HX_d11 := Lib.hid (show Box w11 (p + 1) 26 #[.int .u64 (d 0), .int .u64 (d 1), .int .u64 (d 2), .int .u64 (d 3), .int .u64 (d 4), .int .u64 (d 5), .int .u64 (d 6), .int .u64 (d 7)] from HX_d10.out.of (hb.block _ HX_d10.out.lt))
  have HX_x11 := Lib.hid (show Box w11 q1 24 #[.bool u3, .int .u64 k3, .int .u64 v3, .int .u64 t3, .int .u64 r3, .int .u64 n3, .int .i64 x3] from HX_x10.out.of (hb.block _ HX_x10.out.lt))
  have HX_y11 := Lib.hid (show Box w11 q2 24 #[.bool false, .int .u64 0, .int .u64 0, .int .u64 0, .int .u64 0, .int .u64 0, .int .i64 0] from HX_y10.out.of (hb.block _ HX_y10.out.lt))
  clear HX_a10 HX_d10 HX_x10 HX_y10
  have HB11 := Lib.hid (HB10.out.trans (hb.mono HB10.out.size))
  clear hb HB10
  clear c_a0 c_a1 c_a2 c_a3 c_a4 c_a5 c_a6
  have hq2 := Q2.out
  go_upto_region 6 with fail
  have c_y0 := Gr.cell (show w11.cell? ⟨q2, 0, none⟩ = some (.bool false) from HX_y11.out.cell 0)
  have c_y1 := Gr.cell (show w11.cell? ⟨q2, 1, none⟩ = some (.int .u64 0) from HX_y11.out.cell 1)
  have c_y2 := Gr.cell (show w11.cell? ⟨q2, 2, none⟩ = some (.int .u64 0) from HX_y11.out.cell 2)
  have c_y3 := Gr.cell (show w11.cell? ⟨q2, 3, none⟩ = some (.int .u64 0) from HX_y11.out.cell 3)
  have c_y4 := Gr.cell (show w11.cell? ⟨q2, 4, none⟩ = some (.int .u64 0) from HX_y11.out.cell 4)
  have c_y5 := Gr.cell (show w11.cell? ⟨q2, 5, none⟩ = some (.int .u64 0) from HX_y11.out.cell 5)
  have c_y6 := Gr.cell (show w11.cell? ⟨q2, 6, none⟩ = some (.int .i64 0) from HX_y11.out.cell 6)
  refine wp_region_grow (by kernel_rfl) (by kernel_rfl) ?_
  repeat (go_big_quiet_step (first | (go_at_call 16; exact Gr.blw (R1.out _))))
  refine wpQuiet_nil ?_
  intro w12 hw12
  obtain ⟨G, hG⟩ := hw12
  subst hG
  obtain ⟨w12, hw9⟩ : ∃ w9, G.w' = w9 := ⟨_, rfl⟩
  have ho9 : Only nobody w11 w12 := by rw [← hw9]; exact G.ok
  rw [hw9]
  have HX_a12 := Lib.hid (show Box w12 p 24 #[.bool u1, .int .u64 k1, .int .u64 v1, .int .u64 t1, .int .u64 r1, .int .u64 n1, .int .i64 x1] from HX_a11.out.only ho9 (not_nobody _))
  have HX_d12 := Lib.hid (show Box w12 (p + 1) 26 #[.int .u64 (d 0), .int .u64 (d 1), .int .u64 (d 2), .int .u64 (d 3), .int .u64 (d 4), .int .u64 (d 5), .int .u64 (d 6), .int .u64 (d 7)] from HX_d11.out.only ho9 (not_nobody _))
  have HX_x12 := Lib.hid (show Box w12 q1 24 #[.bool u3, .int .u64 k3, .int .u64 v3, .int .u64 t3, .int .u64 r3, .int .u64 n3, .int .i64 x3] from HX_x11.out.only ho9 (not_nobody _))
  have HX_y12 := Lib.hid (show Box w12 q2 24 #[.bool false, .int .u64 0, .int .u64 0, .int .u64 0, .int .u64 0, .int .u64 0, .int .i64 0] from HX_y11.out.only ho9 (not_nobody _))
  clear HX_a11 HX_d11 HX_x11 HX_y11
  have HB12 := Lib.hid (HB11.out.trans (ho9.none.mono HB11.out.size))
  clear c_y0 c_y1 c_y2 c_y3 c_y4 c_y5 c_y6
  clear ho9 hw9 HB11 G
  go_wp2_with fail
  go_ret
  exact ⟨rfl, HB12.out⟩
theorem back_law (s : Sl) (d : Nat → Int) (w : World) (hs : s.Ok) (hd : ∀ i, i < 8 → U64 (d i)) :
    Calls Try.prog 4 #[.agg s.a, .agg (DA d)] w fun e w' => e = .returned (.bool true) ∧ Below w.heap.size w w' := by
  have D1 := Lib.hid (fun W => sldata_any s W hs)
  have R1 := Lib.hid (fun W => slright_any s W hs)
  have hu := dat_u s hs
  have E1 := Lib.hid (fun W => slread_any s.dat W hu)
  have E2 := Lib.hid (fun W => slread_any d W hd)
  have E0 := Lib.hid (fun W => slread_any (fun _ => 0) W (fun _ _ => by unfold U64; omega))
  have Q0 : ∀ W, (binOp .neq 26 (.agg (DA fun _ => 0)) (.agg (DA fun _ => 0))).run Try.prog W = .ok (.bool false) W := fun W => by
    rw [neq_data, deq_self]; rfl
  have Q9 : ∀ W, (binOp .eql 24 (.agg noS.a) (.agg noS.a)).run Try.prog W = .ok (.bool true) W := fun W => by
    rw [eql_slot, sleq_self]
  have QS : ∀ W, (binOp .neq 24 (.agg s.a) (.agg s.a)).run Try.prog W = .ok (.bool false) W := fun W => by
    rw [neq_slot, sleq_self]; rfl
  cases h1 : s.right
  · have hz : s.dat = fun _ => 0 := funext fun i => dtS_no h1 i
    rw [h1] at R1
    rw [hz] at D1
    obtain ⟨u1, k1, v1, t1, r1, n1, x1⟩ := s
    obtain ⟨z, hz3⟩ : ∃ z, reS (fun _ => 0) = z := ⟨_, rfl⟩
    rw [hz3] at E0
    obtain ⟨u3, k3, v3, t3, r3, n3, x3⟩ := z
    cases h2 : isS d
    · rw [show reS d = noS by unfold reS; rw [h2]; rfl, show reE d = 3 by unfold reE; rw [h2]; rfl] at E2
      exact back_false_false u1 k1 v1 t1 r1 n1 x1 u3 k3 v3 t3 r3 n3 x3 _ d w R1 D1 E0 E2 (Lib.hid Q0) (Lib.hid Q9)
    · have hr := read_right hd h2
      have hok := rdS_ok hd
      have R2 := Lib.hid (fun W => slright_any (rdS d) W hok)
      have D2 := Lib.hid (fun W => sldata_any (rdS d) W hok)
      have Q2 := fun W => eql_data (rdS d).dat d W
      rw [show deq (rdS d).dat d = true from (deq_iff _ _).2 hr.2] at Q2
      rw [hr.1] at R2
      rw [show reS d = rdS d by unfold reS; rw [h2]; rfl, show reE d = 0 by unfold reE; rw [h2]; rfl] at E2
      generalize rdS d = y at R2 D2 Q2 E2
      obtain ⟨u4, k4, v4, t4, r4, n4, x4⟩ := y
      exact back_false_true u1 k1 v1 t1 r1 n1 x1 u3 k3 v3 t3 r3 n3 x3 _ u4 k4 v4 t4 r4 n4 x4 d _ w R1 D1 E0 E2 (Lib.hid Q0) R2 D2 (Lib.hid Q2)
  · have hb := read_dat s hs h1
    rw [h1] at R1
    rw [show reS s.dat = s by unfold reS; rw [hb.1, hb.2]; rfl, show reE s.dat = 0 by unfold reE; rw [hb.1]; rfl] at E1
    obtain ⟨u1, k1, v1, t1, r1, n1, x1⟩ := s
    cases h2 : isS d
    · rw [show reS d = noS by unfold reS; rw [h2]; rfl, show reE d = 3 by unfold reE; rw [h2]; rfl] at E2
      exact back_true_false u1 k1 v1 t1 r1 n1 x1 d _ w R1 D1 E1 E2 (Lib.hid QS) (Lib.hid Q9)
    · have hr := read_right hd h2
      have hok := rdS_ok hd
      have R2 := Lib.hid (fun W => slright_any (rdS d) W hok)
      have D2 := Lib.hid (fun W => sldata_any (rdS d) W hok)
      have Q2 := fun W => eql_data (rdS d).dat d W
      rw [show deq (rdS d).dat d = true from (deq_iff _ _).2 hr.2] at Q2
      rw [hr.1] at R2
      rw [show reS d = rdS d by unfold reS; rw [h2]; rfl, show reE d = 0 by unfold reE; rw [h2]; rfl] at E2
      generalize rdS d = y at R2 D2 Q2 E2
      obtain ⟨u4, k4, v4, t4, r4, n4, x4⟩ := y
      exact back_true_true u1 k1 v1 t1 r1 n1 x1 u4 k4 v4 t4 r4 n4 x4 d _ _ w R1 D1 E1 E2 (Lib.hid QS) R2 D2 (Lib.hid Q2)
end Go.Proofs.Ytjamfcjglodfeaa
