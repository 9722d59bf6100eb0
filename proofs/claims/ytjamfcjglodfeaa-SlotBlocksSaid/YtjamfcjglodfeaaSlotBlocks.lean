/- The law SlotBlocks, walked: for every entry, all words of a block, every policy and time it returns true, and nothing that was in memory changes. Conditions: words are of 64 bits, Next and a policy are ints. -/
import Derived.Below
import Derived.BigQuiet
import Derived.ChangeKeysEq
import Derived.ChangeSlices
import Derived.Deep.Cut
import Derived.Deep.Draws
import Derived.Deep.MidRow
import Derived.Deep.OwnRows
import Derived.Deep.Quiet
import Derived.Deep.QuietTactic
import Derived.Deep.RegionHeld
import Derived.Deep.WholeRow
import Derived.Laws.AppendOwn
import Derived.Laws.BitsAllLaws
import Derived.Laws.BytesArg
import Derived.Laws.NewBlocks
import Derived.Laws.StructEq
import Derived.Lib.Hide
import Derived.Lib.LazyBuf
import Derived.OpenShut
import Derived.OwnWalk
import Derived.ProofKit
import Derived.RowKit3
import Derived.SizedLaws
import Derived.WalkKit
import Derived.Test.YtjamfcjglodfeaaProg
import Derived.Test.YtjamfcjglodfeaaCell
import Derived.Test.YtjamfcjglodfeaaDataV
import Derived.Test.YtjamfcjglodfeaaGrow
import Derived.Test.YtjamfcjglodfeaaHeap
import Derived.Test.YtjamfcjglodfeaaHeld
import Derived.Test.YtjamfcjglodfeaaSlot
import Derived.Test.YtjamfcjglodfeaaSlotData
import Derived.Test.YtjamfcjglodfeaaSlotDataRef
import Derived.Test.YtjamfcjglodfeaaSlotLaw
import Derived.Test.YtjamfcjglodfeaaSlotMath
import Derived.Test.YtjamfcjglodfeaaSlotRead
import Derived.Test.YtjamfcjglodfeaaSlotReadRef
import Derived.Test.YtjamfcjglodfeaaSlotRef
namespace Go.Proofs.Ytjamfcjglodfeaa
open Go.RowKit Go.ChangeShapes Go.WideShapes Go.ChangeAt

set_option maxHeartbeats 8000000 in
theorem blocks_of (u1 : Bool) (k1 v1 t1 r1 n1 x1 : Int) (u4 : Bool) (k4 v4 t4 r4 n4 x4 : Int) (d f : Nat → Int) (q now E er eu ur uu : Int) (R X : Bool) (w : World)
    (E1 : Hid (∀ W, Calls Try.prog 9 #[.agg #[.int .u64 (d 0), .int .u64 (d 1), .int .u64 (d 2), .int .u64 (d 3), .int .u64 (d 4), .int .u64 (d 5), .int .u64 (d 6), .int .u64 (d 7)]] W fun e w' => e = .returned (.tuple #[.agg #[.bool u4, .int .u64 k4, .int .u64 v4, .int .u64 t4, .int .u64 r4, .int .u64 n4, .int .i64 x4], .int .i64 E]) ∧ Below W.heap.size W w'))
    (E2 : Hid (∀ W, Calls Try.prog 10 #[.agg #[.int .u64 (d 0), .int .u64 (d 1), .int .u64 (d 2), .int .u64 (d 3), .int .u64 (d 4), .int .u64 (d 5), .int .u64 (d 6), .int .u64 (d 7)]] W fun e w' => e = .returned (.tuple #[.agg #[.bool u4, .int .u64 k4, .int .u64 v4, .int .u64 t4, .int .u64 r4, .int .u64 n4, .int .i64 x4], .int .i64 E]) ∧ Below W.heap.size W w'))
    (N1 : Hid (∀ W, Calls Try.prog 11 #[.int .i64 q, .int .u64 now] W fun e w' => e = .returned (.tuple #[.int .u64 er, .int .u64 eu]) ∧ Below W.heap.size W w'))
    (N2 : Hid (∀ W, Calls Try.prog 12 #[.int .i64 q, .int .u64 now] W fun e w' => e = .returned (.tuple #[.int .u64 er, .int .u64 eu]) ∧ Below W.heap.size W w'))
    (U1 : Hid (∀ W, Calls Try.prog 13 #[.int .i64 q, .agg #[.bool u1, .int .u64 k1, .int .u64 v1, .int .u64 t1, .int .u64 r1, .int .u64 n1, .int .i64 x1], .int .u64 now] W fun e w' => e = .returned (.tuple #[.int .u64 ur, .int .u64 uu]) ∧ Below W.heap.size W w'))
    (U2 : Hid (∀ W, Calls Try.prog 14 #[.int .i64 q, .agg #[.bool u1, .int .u64 k1, .int .u64 v1, .int .u64 t1, .int .u64 r1, .int .u64 n1, .int .i64 x1], .int .u64 now] W fun e w' => e = .returned (.tuple #[.int .u64 ur, .int .u64 uu]) ∧ Below W.heap.size W w'))
    (A1 : Hid (∀ W, Calls Try.prog 15 #[.agg #[.bool u1, .int .u64 k1, .int .u64 v1, .int .u64 t1, .int .u64 r1, .int .u64 n1, .int .i64 x1]] W fun e w' => e = .returned (.agg #[.bool u1, .int .u64 k1, .int .u64 v1, .int .u64 t1, .int .u64 r1, .int .u64 n1, .int .i64 x1]) ∧ Below W.heap.size W w'))
    (A4 : Hid (∀ W, Calls Try.prog 15 #[.agg #[.bool u4, .int .u64 k4, .int .u64 v4, .int .u64 t4, .int .u64 r4, .int .u64 n4, .int .i64 x4]] W fun e w' => e = .returned (.agg #[.bool u4, .int .u64 k4, .int .u64 v4, .int .u64 t4, .int .u64 r4, .int .u64 n4, .int .i64 x4]) ∧ Below W.heap.size W w'))
    (R1 : Hid (∀ W, Calls Try.prog 16 #[.agg #[.bool u1, .int .u64 k1, .int .u64 v1, .int .u64 t1, .int .u64 r1, .int .u64 n1, .int .i64 x1]] W fun e w' => e = .returned (.bool R) ∧ Below W.heap.size W w'))
    (R2 : Hid (∀ W, Calls Try.prog 17 #[.agg #[.bool u1, .int .u64 k1, .int .u64 v1, .int .u64 t1, .int .u64 r1, .int .u64 n1, .int .i64 x1]] W fun e w' => e = .returned (.bool R) ∧ Below W.heap.size W w'))
    (D1 : Hid (∀ W, Calls Try.prog 18 #[.agg #[.bool u1, .int .u64 k1, .int .u64 v1, .int .u64 t1, .int .u64 r1, .int .u64 n1, .int .i64 x1]] W fun e w' => e = .returned (.agg #[.int .u64 (f 0), .int .u64 (f 1), .int .u64 (f 2), .int .u64 (f 3), .int .u64 (f 4), .int .u64 (f 5), .int .u64 (f 6), .int .u64 (f 7)]) ∧ Below W.heap.size W w'))
    (D2 : Hid (∀ W, Calls Try.prog 19 #[.agg #[.bool u1, .int .u64 k1, .int .u64 v1, .int .u64 t1, .int .u64 r1, .int .u64 n1, .int .i64 x1]] W fun e w' => e = .returned (.agg #[.int .u64 (f 0), .int .u64 (f 1), .int .u64 (f 2), .int .u64 (f 3), .int .u64 (f 4), .int .u64 (f 5), .int .u64 (f 6), .int .u64 (f 7)]) ∧ Below W.heap.size W w'))
    (X1 : Hid (∀ W, Calls Try.prog 20 #[.agg #[.bool u1, .int .u64 k1, .int .u64 v1, .int .u64 t1, .int .u64 r1, .int .u64 n1, .int .i64 x1], .int .u64 now] W fun e w' => e = .returned (.bool X) ∧ Below W.heap.size W w'))
    (X2 : Hid (∀ W, Calls Try.prog 21 #[.agg #[.bool u1, .int .u64 k1, .int .u64 v1, .int .u64 t1, .int .u64 r1, .int .u64 n1, .int .i64 x1], .int .u64 now] W fun e w' => e = .returned (.bool X) ∧ Below W.heap.size W w'))
    (Q1 : Hid (∀ W, (binOp .eql 26 (.agg #[.int .u64 (f 0), .int .u64 (f 1), .int .u64 (f 2), .int .u64 (f 3), .int .u64 (f 4), .int .u64 (f 5), .int .u64 (f 6), .int .u64 (f 7)]) (.agg #[.int .u64 (f 0), .int .u64 (f 1), .int .u64 (f 2), .int .u64 (f 3), .int .u64 (f 4), .int .u64 (f 5), .int .u64 (f 6), .int .u64 (f 7)])).run Try.prog W = .ok (.bool (true)) W))
    (Q2 : Hid (∀ W, (binOp .eql 31 (.agg #[.bool u4, .int .u64 k4, .int .u64 v4, .int .u64 t4, .int .u64 r4, .int .u64 n4, .int .i64 x4]) (.agg #[.bool u4, .int .u64 k4, .int .u64 v4, .int .u64 t4, .int .u64 r4, .int .u64 n4, .int .i64 x4])).run Try.prog W = .ok (.bool (true)) W)) :
    Calls Try.prog 3 #[.agg #[.bool u1, .int .u64 k1, .int .u64 v1, .int .u64 t1, .int .u64 r1, .int .u64 n1, .int .i64 x1], .agg #[.int .u64 (d 0), .int .u64 (d 1), .int .u64 (d 2), .int .u64 (d 3), .int .u64 (d 4), .int .u64 (d 5), .int .u64 (d 6), .int .u64 (d 7)], .int .i64 q, .int .u64 now] w fun e w' => e = .returned (.bool true) ∧ Below w.heap.size w w' := by
  obtain ⟨p, hp⟩ : ∃ p, w.heap.size = p := ⟨_, rfl⟩
  obtain ⟨w2, hw2⟩ : ∃ w9, ((w.alloc (.cells #[.bool u1, .int .u64 k1, .int .u64 v1, .int .u64 t1, .int .u64 r1, .int .u64 n1, .int .i64 x1] 24)).alloc (.cells #[.int .u64 (d 0), .int .u64 (d 1), .int .u64 (d 2), .int .u64 (d 3), .int .u64 (d 4), .int .u64 (d 5), .int .u64 (d 6), .int .u64 (d 7)] 26)) = w9 := ⟨_, rfl⟩
  have hx0 : Box w2 (p) 24 #[.bool u1, .int .u64 k1, .int .u64 v1, .int .u64 t1, .int .u64 r1, .int .u64 n1, .int .i64 x1] := by
    have h9 := ((Box.new w 24 #[.bool u1, .int .u64 k1, .int .u64 v1, .int .u64 t1, .int .u64 r1, .int .u64 n1, .int .i64 x1])).alloc (.cells #[.int .u64 (d 0), .int .u64 (d 1), .int .u64 (d 2), .int .u64 (d 3), .int .u64 (d 4), .int .u64 (d 5), .int .u64 (d 6), .int .u64 (d 7)] 26)
    try simp only [World.size_alloc] at h9
    simp only [hp, hw2] at h9
    exact h9
  have hx1 : Box w2 (p + 1) 26 #[.int .u64 (d 0), .int .u64 (d 1), .int .u64 (d 2), .int .u64 (d 3), .int .u64 (d 4), .int .u64 (d 5), .int .u64 (d 6), .int .u64 (d 7)] := by
    have h9 := (Box.new (w.alloc (.cells #[.bool u1, .int .u64 k1, .int .u64 v1, .int .u64 t1, .int .u64 r1, .int .u64 n1, .int .i64 x1] 24)) 26 #[.int .u64 (d 0), .int .u64 (d 1), .int .u64 (d 2), .int .u64 (d 3), .int .u64 (d 4), .int .u64 (d 5), .int .u64 (d 6), .int .u64 (d 7)])
    try simp only [World.size_alloc] at h9
    simp only [hp, hw2] at h9
    exact h9
  have hB : Below w.heap.size w w2 := by
    have h9 := (((Below.refl w.heap.size w).alloc (by simp; try omega) (.cells #[.bool u1, .int .u64 k1, .int .u64 v1, .int .u64 t1, .int .u64 r1, .int .u64 n1, .int .i64 x1] 24)).alloc (by simp; try omega) (.cells #[.int .u64 (d 0), .int .u64 (d 1), .int .u64 (d 2), .int .u64 (d 3), .int .u64 (d 4), .int .u64 (d 5), .int .u64 (d 6), .int .u64 (d 7)] 26))
    rw [hw2] at h9
    exact h9
  have hS : w2.heap.size = p + 2 := by rw [← hw2]; simp [hp]
  have HX_a2 := Lib.hid hx0
  have HX_d2 := Lib.hid hx1
  have HB2 := Lib.hid hB
  have HPP := Lib.hid hp
  have HW := Lib.hid hw2
  clear hx0 hx1 hB hS hp hw2
  go_enter Try.func3, Try.ntmps3
  go_upto_region 1 with fail
  simp only [HPP.out, HW.out]
  clear HPP HW
  go_wp2_with fail
  refine (slshown_any _).mono ?_
  rintro e w3 ⟨rfl, hb⟩
  have HX_a3 := Lib.hid (show Box w3 p 24 #[.bool u1, .int .u64 k1, .int .u64 v1, .int .u64 t1, .int .u64 r1, .int .u64 n1, .int .i64 x1] from HX_a2.out.of (hb.block _ HX_a2.out.lt))
  have HX_d3 := Lib.hid (show Box w3 (p + 1) 26 #[.int .u64 (d 0), .int .u64 (d 1), .int .u64 (d 2), .int .u64 (d 3), .int .u64 (d 4), .int .u64 (d 5), .int .u64 (d 6), .int .u64 (d 7)] from HX_d2.out.of (hb.block _ HX_d2.out.lt))
  clear HX_a2 HX_d2
  have HB3 := Lib.hid (HB2.out.trans (hb.mono HB2.out.size))
  clear hb HB2
  have c_d0 : w3.cell? ⟨p + 1, 0, none⟩ = some (.int .u64 (d 0)) := HX_d3.out.cell 0
  have c_d1 : w3.cell? ⟨p + 1, 1, none⟩ = some (.int .u64 (d 1)) := HX_d3.out.cell 1
  have c_d2 : w3.cell? ⟨p + 1, 2, none⟩ = some (.int .u64 (d 2)) := HX_d3.out.cell 2
  have c_d3 : w3.cell? ⟨p + 1, 3, none⟩ = some (.int .u64 (d 3)) := HX_d3.out.cell 3
  have c_d4 : w3.cell? ⟨p + 1, 4, none⟩ = some (.int .u64 (d 4)) := HX_d3.out.cell 4
  have c_d5 : w3.cell? ⟨p + 1, 5, none⟩ = some (.int .u64 (d 5)) := HX_d3.out.cell 5
  have c_d6 : w3.cell? ⟨p + 1, 6, none⟩ = some (.int .u64 (d 6)) := HX_d3.out.cell 6
  have c_d7 : w3.cell? ⟨p + 1, 7, none⟩ = some (.int .u64 (d 7)) := HX_d3.out.cell 7
  go_wp2_with fail
  refine (E1.out _).mono ?_
  rintro e w4 ⟨rfl, hb⟩
  have HX_a4 := Lib.hid (show Box w4 p 24 #[.bool u1, .int .u64 k1, .int .u64 v1, .int .u64 t1, .int .u64 r1, .int .u64 n1, .int .i64 x1] from HX_a3.out.of (hb.block _ HX_a3.out.lt))
  have HX_d4 := Lib.hid (show Box w4 (p + 1) 26 #[.int .u64 (d 0), .int .u64 (d 1), .int .u64 (d 2), .int .u64 (d 3), .int .u64 (d 4), .int .u64 (d 5), .int .u64 (d 6), .int .u64 (d 7)] from HX_d3.out.of (hb.block _ HX_d3.out.lt))
  clear HX_a3 HX_d3
  have HB4 := Lib.hid (HB3.out.trans (hb.mono HB3.out.size))
  clear hb HB3
  clear c_d0 c_d1 c_d2 c_d3 c_d4 c_d5 c_d6 c_d7
  go_upto_region 3 with (fail)
  obtain ⟨q1, hq⟩ : ∃ q9, w4.heap.size = q9 := ⟨_, rfl⟩
  obtain ⟨w5, hw9⟩ : ∃ w9, w4.alloc (.cells #[.bool u4, .int .u64 k4, .int .u64 v4, .int .u64 t4, .int .u64 r4, .int .u64 n4, .int .i64 x4] 24) = w9 := ⟨_, rfl⟩
  have HX_a5 := Lib.hid (show Box w5 p 24 #[.bool u1, .int .u64 k1, .int .u64 v1, .int .u64 t1, .int .u64 r1, .int .u64 n1, .int .i64 x1] by rw [← hw9]; exact HX_a4.out.alloc _)
  have HX_d5 := Lib.hid (show Box w5 (p + 1) 26 #[.int .u64 (d 0), .int .u64 (d 1), .int .u64 (d 2), .int .u64 (d 3), .int .u64 (d 4), .int .u64 (d 5), .int .u64 (d 6), .int .u64 (d 7)] by rw [← hw9]; exact HX_d4.out.alloc _)
  have HX_x5 := Lib.hid (show Box w5 q1 24 #[.bool u4, .int .u64 k4, .int .u64 v4, .int .u64 t4, .int .u64 r4, .int .u64 n4, .int .i64 x4] by rw [← hw9, ← hq]; exact Box.new w4 _ _)
  have HB5 := Lib.hid (show Below w.heap.size w w5 by rw [← hw9]; exact HB4.out.alloc HB4.out.size _)
  have HS_x := Lib.hid (show w.heap.size ≤ q1 by rw [← hq]; exact HB4.out.size)
  simp only [hw9, hq]
  clear hq hw9 HB4 HX_a4 HX_d4
  have c_d0 : w5.cell? ⟨p + 1, 0, none⟩ = some (.int .u64 (d 0)) := HX_d5.out.cell 0
  have c_d1 : w5.cell? ⟨p + 1, 1, none⟩ = some (.int .u64 (d 1)) := HX_d5.out.cell 1
  have c_d2 : w5.cell? ⟨p + 1, 2, none⟩ = some (.int .u64 (d 2)) := HX_d5.out.cell 2
  have c_d3 : w5.cell? ⟨p + 1, 3, none⟩ = some (.int .u64 (d 3)) := HX_d5.out.cell 3
  have c_d4 : w5.cell? ⟨p + 1, 4, none⟩ = some (.int .u64 (d 4)) := HX_d5.out.cell 4
  have c_d5 : w5.cell? ⟨p + 1, 5, none⟩ = some (.int .u64 (d 5)) := HX_d5.out.cell 5
  have c_d6 : w5.cell? ⟨p + 1, 6, none⟩ = some (.int .u64 (d 6)) := HX_d5.out.cell 6
  have c_d7 : w5.cell? ⟨p + 1, 7, none⟩ = some (.int .u64 (d 7)) := HX_d5.out.cell 7
  go_wp2_with fail
  refine (E2.out _).mono ?_
  rintro e w6 ⟨rfl, hb⟩
  have HX_a6 := Lib.hid (show Box w6 p 24 #[.bool u1, .int .u64 k1, .int .u64 v1, .int .u64 t1, .int .u64 r1, .int .u64 n1, .int .i64 x1] from HX_a5.out.of (hb.block _ HX_a5.out.lt))
  have HX_d6 := Lib.hid (show Box w6 (p + 1) 26 #[.int .u64 (d 0), .int .u64 (d 1), .int .u64 (d 2), .int .u64 (d 3), .int .u64 (d 4), .int .u64 (d 5), .int .u64 (d 6), .int .u64 (d 7)] from HX_d5.out.of (hb.block _ HX_d5.out.lt))
  have HX_x6 := Lib.hid (show Box w6 q1 24 #[.bool u4, .int .u64 k4, .int .u64 v4, .int .u64 t4, .int .u64 r4, .int .u64 n4, .int .i64 x4] from HX_x5.out.of (hb.block _ HX_x5.out.lt))
  clear HX_a5 HX_d5 HX_x5
  have HB6 := Lib.hid (HB5.out.trans (hb.mono HB5.out.size))
  clear hb HB5
  clear c_d0 c_d1 c_d2 c_d3 c_d4 c_d5 c_d6 c_d7
  go_upto_region 4 with (fail)
  obtain ⟨q2, hq⟩ : ∃ q9, w6.heap.size = q9 := ⟨_, rfl⟩
  obtain ⟨w7, hw9⟩ : ∃ w9, w6.alloc (.cells #[.bool u4, .int .u64 k4, .int .u64 v4, .int .u64 t4, .int .u64 r4, .int .u64 n4, .int .i64 x4] 31) = w9 := ⟨_, rfl⟩
  have HX_a7 := Lib.hid (show Box w7 p 24 #[.bool u1, .int .u64 k1, .int .u64 v1, .int .u64 t1, .int .u64 r1, .int .u64 n1, .int .i64 x1] by rw [← hw9]; exact HX_a6.out.alloc _)
  have HX_d7 := Lib.hid (show Box w7 (p + 1) 26 #[.int .u64 (d 0), .int .u64 (d 1), .int .u64 (d 2), .int .u64 (d 3), .int .u64 (d 4), .int .u64 (d 5), .int .u64 (d 6), .int .u64 (d 7)] by rw [← hw9]; exact HX_d6.out.alloc _)
  have HX_x7 := Lib.hid (show Box w7 q1 24 #[.bool u4, .int .u64 k4, .int .u64 v4, .int .u64 t4, .int .u64 r4, .int .u64 n4, .int .i64 x4] by rw [← hw9]; exact HX_x6.out.alloc _)
  have HX_y7 := Lib.hid (show Box w7 q2 31 #[.bool u4, .int .u64 k4, .int .u64 v4, .int .u64 t4, .int .u64 r4, .int .u64 n4, .int .i64 x4] by rw [← hw9, ← hq]; exact Box.new w6 _ _)
  have HB7 := Lib.hid (show Below w.heap.size w w7 by rw [← hw9]; exact HB6.out.alloc HB6.out.size _)
  have HS_y := Lib.hid (show w.heap.size ≤ q2 by rw [← hq]; exact HB6.out.size)
  simp only [hw9, hq]
  clear hq hw9 HB6 HX_a6 HX_d6 HX_x6
  go_wp2_with fail
  refine (N1.out _).mono ?_
  rintro e w8 ⟨rfl, hb⟩
  have HX_a8 := Lib.hid (show Box w8 p 24 #[.bool u1, .int .u64 k1, .int .u64 v1, .int .u64 t1, .int .u64 r1, .int .u64 n1, .int .i64 x1] from HX_a7.out.of (hb.block _ HX_a7.out.lt))
  have HX_d8 := Lib.hid (show Box w8 (p + 1) 26 #[.int .u64 (d 0), .int .u64 (d 1), .int .u64 (d 2), .int .u64 (d 3), .int .u64 (d 4), .int .u64 (d 5), .int .u64 (d 6), .int .u64 (d 7)] from HX_d7.out.of (hb.block _ HX_d7.out.lt))
  have HX_x8 := Lib.hid (show Box w8 q1 24 #[.bool u4, .int .u64 k4, .int .u64 v4, .int .u64 t4, .int .u64 r4, .int .u64 n4, .int .i64 x4] from HX_x7.out.of (hb.block _ HX_x7.out.lt))
  have HX_y8 := Lib.hid (show Box w8 q2 31 #[.bool u4, .int .u64 k4, .int .u64 v4, .int .u64 t4, .int .u64 r4, .int .u64 n4, .int .i64 x4] from HX_y7.out.of (hb.block _ HX_y7.out.lt))
  clear HX_a7 HX_d7 HX_x7 HX_y7
  have HB8 := Lib.hid (HB7.out.trans (hb.mono HB7.out.size))
  clear hb HB7
  go_wp2_with fail
  refine (N2.out _).mono ?_
  rintro e w9 ⟨rfl, hb⟩
  have HX_a9 := Lib.hid (show Box w9 p 24 #[.bool u1, .int .u64 k1, .int .u64 v1, .int .u64 t1, .int .u64 r1, .int .u64 n1, .int .i64 x1] from HX_a8.out.of (hb.block _ HX_a8.out.lt))
  have HX_d9 := Lib.hid (show Box w9 (p + 1) 26 #[.int .u64 (d 0), .int .u64 (d 1), .int .u64 (d 2), .int .u64 (d 3), .int .u64 (d 4), .int .u64 (d 5), .int .u64 (d 6), .int .u64 (d 7)] from HX_d8.out.of (hb.block _ HX_d8.out.lt))
  have HX_x9 := Lib.hid (show Box w9 q1 24 #[.bool u4, .int .u64 k4, .int .u64 v4, .int .u64 t4, .int .u64 r4, .int .u64 n4, .int .i64 x4] from HX_x8.out.of (hb.block _ HX_x8.out.lt))
  have HX_y9 := Lib.hid (show Box w9 q2 31 #[.bool u4, .int .u64 k4, .int .u64 v4, .int .u64 t4, .int .u64 r4, .int .u64 n4, .int .i64 x4] from HX_y8.out.of (hb.block _ HX_y8.out.lt))
  clear HX_a8 HX_d8 HX_x8 HX_y8
  have HB9 := Lib.hid (HB8.out.trans (hb.mono HB8.out.size))
  clear hb HB8
  have c_a0 : w9.cell? ⟨p, 0, none⟩ = some (.bool u1) := HX_a9.out.cell 0
  have c_a1 : w9.cell? ⟨p, 1, none⟩ = some (.int .u64 k1) := HX_a9.out.cell 1
  have c_a2 : w9.cell? ⟨p, 2, none⟩ = some (.int .u64 v1) := HX_a9.out.cell 2
  have c_a3 : w9.cell? ⟨p, 3, none⟩ = some (.int .u64 t1) := HX_a9.out.cell 3
  have c_a4 : w9.cell? ⟨p, 4, none⟩ = some (.int .u64 r1) := HX_a9.out.cell 4
  have c_a5 : w9.cell? ⟨p, 5, none⟩ = some (.int .u64 n1) := HX_a9.out.cell 5
  have c_a6 : w9.cell? ⟨p, 6, none⟩ = some (.int .i64 x1) := HX_a9.out.cell 6
  go_wp2_with fail
  refine (U1.out _).mono ?_
  rintro e w10 ⟨rfl, hb⟩
  have HX_a10 := Lib.hid (show Box w10 p 24 #[.bool u1, .int .u64 k1, .int .u64 v1, .int .u64 t1, .int .u64 r1, .int .u64 n1, .int .i64 x1] from HX_a9.out.of (hb.block _ HX_a9.out.lt))
  have HX_d10 := Lib.hid (show Box w10 (p + 1) 26 #[.int .u64 (d 0), .int .u64 (d 1), .int .u64 (d 2), .int .u64 (d 3), .int .u64 (d 4), .int .u64 (d 5), .int .u64 (d 6), .int .u64 (d 7)] from HX_d9.out.of (hb.block _ HX_d9.out.lt))
  have HX_x10 := Lib.hid (show Box w10 q1 24 #[.bool u4, .int .u64 k4, .int .u64 v4, .int .u64 t4, .int .u64 r4, .int .u64 n4, .int .i64 x4] from HX_x9.out.of (hb.block _ HX_x9.out.lt))
  have HX_y10 := Lib.hid (show Box w10 q2 31 #[.bool u4, .int .u64 k4, .int .u64 v4, .int .u64 t4, .int .u64 r4, .int .u64 n4, .int .i64 x4] from HX_y9.out.of (hb.block _ HX_y9.out.lt))
  clear HX_a9 HX_d9 HX_x9 HX_y9
  have HB10 := Lib.hid (HB9.out.trans (hb.mono HB9.out.size))
  clear hb HB9
  clear c_a0 c_a1 c_a2 c_a3 c_a4 c_a5 c_a6
  have c_a0 : w10.cell? ⟨p, 0, none⟩ = some (.bool u1) := HX_a10.out.cell 0
  have c_a1 : w10.cell? ⟨p, 1, none⟩ = some (.int .u64 k1) := HX_a10.out.cell 1
  have c_a2 : w10.cell? ⟨p, 2, none⟩ = some (.int .u64 v1) := HX_a10.out.cell 2
  have c_a3 : w10.cell? ⟨p, 3, none⟩ = some (.int .u64 t1) := HX_a10.out.cell 3
  have c_a4 : w10.cell? ⟨p, 4, none⟩ = some (.int .u64 r1) := HX_a10.out.cell 4
  have c_a5 : w10.cell? ⟨p, 5, none⟩ = some (.int .u64 n1) := HX_a10.out.cell 5
  have c_a6 : w10.cell? ⟨p, 6, none⟩ = some (.int .i64 x1) := HX_a10.out.cell 6
  go_wp2_with fail
  refine (A1.out _).mono ?_
  rintro e w11 ⟨rfl, hb⟩
  have HX_a11 := Lib.hid (show Box w11 p 24 #[.bool u1, .int .u64 k1, .int .u64 v1, .int .u64 t1, .int .u64 r1, .int .u64 n1, .int .i64 x1] from HX_a10.out.of (hb.block _ HX_a10.out.lt))
  have HX_d11 := Lib.hid (show Box w11 (p + 1) 26 #[.int .u64 (d 0), .int .u64 (d 1), .int .u64 (d 2), .int .u64 (d 3), .int .u64 (d 4), .int .u64 (d 5), .int .u64 (d 6), .int .u64 (d 7)] from HX_d10.out.of (hb.block _ HX_d10.out.lt))
  have HX_x11 := Lib.hid (show Box w11 q1 24 #[.bool u4, .int .u64 k4, .int .u64 v4, .int .u64 t4, .int .u64 r4, .int .u64 n4, .int .i64 x4] from HX_x10.out.of (hb.block _ HX_x10.out.lt))
  have HX_y11 := Lib.hid (show Box w11 q2 31 #[.bool u4, .int .u64 k4, .int .u64 v4, .int .u64 t4, .int .u64 r4, .int .u64 n4, .int .i64 x4] from HX_y10.out.of (hb.block _ HX_y10.out.lt))
  clear HX_a10 HX_d10 HX_x10 HX_y10
  have HB11 := Lib.hid (HB10.out.trans (hb.mono HB10.out.size))
  clear hb HB10
  clear c_a0 c_a1 c_a2 c_a3 c_a4 c_a5 c_a6
  go_wp2_with fail
  refine (U2.out _).mono ?_
  rintro e w12 ⟨rfl, hb⟩
  have HX_a12 := Lib.hid (show Box w12 p 24 #[.bool u1, .int .u64 k1, .int .u64 v1, .int .u64 t1, .int .u64 r1, .int .u64 n1, .int .i64 x1] from HX_a11.out.of (hb.block _ HX_a11.out.lt))
  have HX_d12 := Lib.hid (show Box w12 (p + 1) 26 #[.int .u64 (d 0), .int .u64 (d 1), .int .u64 (d 2), .int .u64 (d 3), .int .u64 (d 4), .int .u64 (d 5), .int .u64 (d 6), .int .u64 (d 7)] from HX_d11.out.of (hb.block _ HX_d11.out.lt))
  have HX_x12 := Lib.hid (show Box w12 q1 24 #[.bool u4, .int .u64 k4, .int .u64 v4, .int .u64 t4, .int .u64 r4, .int .u64 n4, .int .i64 x4] from HX_x11.out.of (hb.block _ HX_x11.out.lt))
  have HX_y12 := Lib.hid (show Box w12 q2 31 #[.bool u4, .int .u64 k4, .int .u64 v4, .int .u64 t4, .int .u64 r4, .int .u64 n4, .int .i64 x4] from HX_y11.out.of (hb.block _ HX_y11.out.lt))
  clear HX_a11 HX_d11 HX_x11 HX_y11
  have HB12 := Lib.hid (HB11.out.trans (hb.mono HB11.out.size))
  clear hb HB11
  go_upto_region 8 with fail
  refine held_s (S := fun w' => Box w' p 24 #[.bool u1, .int .u64 k1, .int .u64 v1, .int .u64 t1, .int .u64 r1, .int .u64 n1, .int .i64 x1] ∧ Box w' q1 24 #[.bool u4, .int .u64 k4, .int .u64 v4, .int .u64 t4, .int .u64 r4, .int .u64 n4, .int .i64 x4] ∧ Box w' q2 31 #[.bool u4, .int .u64 k4, .int .u64 v4, .int .u64 t4, .int .u64 r4, .int .u64 n4, .int .i64 x4] ∧ Below w.heap.size w w') 59 rfl (by kernel_rfl) ⟨HX_a12.out.drewN 1, HX_x12.out.drewN 1, HX_y12.out.drewN 1, HB12.out.trans ((Below.refl _ _).drew)⟩ (fun hHeld => ?_)
  clear HX_a12 HX_x12 HX_y12 HX_d12 HB12
  simp only [Array.replicate_succ, Array.replicate_zero, List.push_toArray, List.nil_append, List.cons_append]
  generalize w12.drew = w13 at *
  refine wpAnyH_take (i := 0) (oi := ⟨some 60, _, _, _, _, _⟩) (v := (.bool true)) rfl (by kernel_rfl) (by kernel_rfl) (by kernel_rfl) (fun _ _ _ h => h) (Or.inl ⟨by rfl, fun w' hw => by go_simp⟩) hHeld ?_
  try simp only [Act.put, List.setIfInBounds_toArray, List.set_cons_zero, List.set_cons_succ]
  refine wpAnyH_take (i := 1) (oi := ⟨some 61, _, _, _, _, _⟩) (v := (.bool true)) rfl (by kernel_rfl) (by kernel_rfl) (by kernel_rfl) (fun _ _ _ h => h) (Or.inl ⟨by rfl, fun w' hw => by go_simp⟩) hHeld ?_
  try simp only [Act.put, List.setIfInBounds_toArray, List.set_cons_zero, List.set_cons_succ]
  refine wpAnyH_take (i := 2) (oi := ⟨some 62, _, _, _, _, _⟩) (v := (.agg #[.bool u1, .int .u64 k1, .int .u64 v1, .int .u64 t1, .int .u64 r1, .int .u64 n1, .int .i64 x1])) rfl (by kernel_rfl) (by kernel_rfl) (by kernel_rfl) (fun _ _ _ h => h) (Or.inl ⟨by rfl, fun w' hw => by (have y0 := hw.1.cell 0; have y1 := hw.1.cell 1; have y2 := hw.1.cell 2; have y3 := hw.1.cell 3; have y4 := hw.1.cell 4; have y5 := hw.1.cell 5; have y6 := hw.1.cell 6; go_simp)⟩) hHeld ?_
  try simp only [Act.put, List.setIfInBounds_toArray, List.set_cons_zero, List.set_cons_succ]
  refine wpAnyH_take (i := 4) (oi := ⟨some 64, _, _, _, _, _⟩) (v := (.agg #[.bool u1, .int .u64 k1, .int .u64 v1, .int .u64 t1, .int .u64 r1, .int .u64 n1, .int .i64 x1])) rfl (by kernel_rfl) (by kernel_rfl) (by kernel_rfl) (fun _ _ _ h => h) (Or.inl ⟨by rfl, fun w' hw => by (have y0 := hw.1.cell 0; have y1 := hw.1.cell 1; have y2 := hw.1.cell 2; have y3 := hw.1.cell 3; have y4 := hw.1.cell 4; have y5 := hw.1.cell 5; have y6 := hw.1.cell 6; go_simp)⟩) hHeld ?_
  try simp only [Act.put, List.setIfInBounds_toArray, List.set_cons_zero, List.set_cons_succ]
  refine one_ready 3 rfl (by kernel_rfl) (fun K9 hK => ?_)
  go_simp
  refine (R1.out _).mono ?_
  rintro e w14 ⟨rfl, hb14⟩
  refine hK.out _ _ ⟨hHeld.1.of (hb14.block _ hHeld.1.lt), hHeld.2.1.of (hb14.block _ hHeld.2.1.lt), hHeld.2.2.1.of (hb14.block _ hHeld.2.2.1.lt), hHeld.2.2.2.trans (hb14.mono hHeld.2.2.2.size)⟩ (fun hHeld => ?_)
  clear hK K9 hb14
  try simp only [List.setIfInBounds_toArray, List.set_cons_zero, List.set_cons_succ]
  refine one_ready 5 rfl (by kernel_rfl) (fun K9 hK => ?_)
  go_simp
  refine (A1.out _).mono ?_
  rintro e w15 ⟨rfl, hb15⟩
  refine hK.out _ _ ⟨hHeld.1.of (hb15.block _ hHeld.1.lt), hHeld.2.1.of (hb15.block _ hHeld.2.1.lt), hHeld.2.2.1.of (hb15.block _ hHeld.2.2.1.lt), hHeld.2.2.2.trans (hb15.mono hHeld.2.2.2.size)⟩ (fun hHeld => ?_)
  clear hK K9 hb15
  try simp only [List.setIfInBounds_toArray, List.set_cons_zero, List.set_cons_succ]
  refine one_ready 6 rfl (by kernel_rfl) (fun K9 hK => ?_)
  go_simp
  refine (R2.out _).mono ?_
  rintro e w16 ⟨rfl, hb16⟩
  refine hK.out _ _ ⟨hHeld.1.of (hb16.block _ hHeld.1.lt), hHeld.2.1.of (hb16.block _ hHeld.2.1.lt), hHeld.2.2.1.of (hb16.block _ hHeld.2.2.1.lt), hHeld.2.2.2.trans (hb16.mono hHeld.2.2.2.size)⟩ (fun hHeld => ?_)
  clear hK K9 hb16
  try simp only [List.setIfInBounds_toArray, List.set_cons_zero, List.set_cons_succ]
  refine wpAnyH_take (i := 7) (oi := ⟨some 67, _, _, _, _, _⟩) (v := (.bool true)) rfl (by kernel_rfl) (by kernel_rfl) (by kernel_rfl) (fun _ _ _ h => h) (Or.inl ⟨by rfl, fun w' hw => by go_simp⟩) hHeld ?_
  try simp only [Act.put, List.setIfInBounds_toArray, List.set_cons_zero, List.set_cons_succ]
  refine wpAnyH_take (i := 8) (oi := ⟨some 68, _, _, _, _, _⟩) (v := (.bool true)) rfl (by kernel_rfl) (by kernel_rfl) (by kernel_rfl) (fun _ _ _ h => h) (Or.inl ⟨by rfl, fun w' hw => by go_simp⟩) hHeld ?_
  try simp only [Act.put, List.setIfInBounds_toArray, List.set_cons_zero, List.set_cons_succ]
  refine wpAnyH_take (i := 9) (oi := ⟨some 69, _, _, _, _, _⟩) (v := (.bool true)) rfl (by kernel_rfl) (by kernel_rfl) (by kernel_rfl) (fun _ _ _ h => h) (Or.inl ⟨by rfl, fun w' hw => by go_simp⟩) hHeld ?_
  try simp only [Act.put, List.setIfInBounds_toArray, List.set_cons_zero, List.set_cons_succ]
  refine wpAnyH_take (i := 10) (oi := ⟨some 70, _, _, _, _, _⟩) (v := (.agg #[.bool u1, .int .u64 k1, .int .u64 v1, .int .u64 t1, .int .u64 r1, .int .u64 n1, .int .i64 x1])) rfl (by kernel_rfl) (by kernel_rfl) (by kernel_rfl) (fun _ _ _ h => h) (Or.inl ⟨by rfl, fun w' hw => by (have y0 := hw.1.cell 0; have y1 := hw.1.cell 1; have y2 := hw.1.cell 2; have y3 := hw.1.cell 3; have y4 := hw.1.cell 4; have y5 := hw.1.cell 5; have y6 := hw.1.cell 6; go_simp)⟩) hHeld ?_
  try simp only [Act.put, List.setIfInBounds_toArray, List.set_cons_zero, List.set_cons_succ]
  refine wpAnyH_take (i := 12) (oi := ⟨some 72, _, _, _, _, _⟩) (v := (.agg #[.bool u1, .int .u64 k1, .int .u64 v1, .int .u64 t1, .int .u64 r1, .int .u64 n1, .int .i64 x1])) rfl (by kernel_rfl) (by kernel_rfl) (by kernel_rfl) (fun _ _ _ h => h) (Or.inl ⟨by rfl, fun w' hw => by (have y0 := hw.1.cell 0; have y1 := hw.1.cell 1; have y2 := hw.1.cell 2; have y3 := hw.1.cell 3; have y4 := hw.1.cell 4; have y5 := hw.1.cell 5; have y6 := hw.1.cell 6; go_simp)⟩) hHeld ?_
  try simp only [Act.put, List.setIfInBounds_toArray, List.set_cons_zero, List.set_cons_succ]
  refine one_ready 11 rfl (by kernel_rfl) (fun K9 hK => ?_)
  go_simp
  refine (D1.out _).mono ?_
  rintro e w17 ⟨rfl, hb17⟩
  refine hK.out _ _ ⟨hHeld.1.of (hb17.block _ hHeld.1.lt), hHeld.2.1.of (hb17.block _ hHeld.2.1.lt), hHeld.2.2.1.of (hb17.block _ hHeld.2.2.1.lt), hHeld.2.2.2.trans (hb17.mono hHeld.2.2.2.size)⟩ (fun hHeld => ?_)
  clear hK K9 hb17
  try simp only [List.setIfInBounds_toArray, List.set_cons_zero, List.set_cons_succ]
  refine one_ready 13 rfl (by kernel_rfl) (fun K9 hK => ?_)
  go_simp
  refine (A1.out _).mono ?_
  rintro e w18 ⟨rfl, hb18⟩
  refine hK.out _ _ ⟨hHeld.1.of (hb18.block _ hHeld.1.lt), hHeld.2.1.of (hb18.block _ hHeld.2.1.lt), hHeld.2.2.1.of (hb18.block _ hHeld.2.2.1.lt), hHeld.2.2.2.trans (hb18.mono hHeld.2.2.2.size)⟩ (fun hHeld => ?_)
  clear hK K9 hb18
  try simp only [List.setIfInBounds_toArray, List.set_cons_zero, List.set_cons_succ]
  refine one_ready 14 rfl (by kernel_rfl) (fun K9 hK => ?_)
  go_simp
  refine (D2.out _).mono ?_
  rintro e w19 ⟨rfl, hb19⟩
  refine hK.out _ _ ⟨hHeld.1.of (hb19.block _ hHeld.1.lt), hHeld.2.1.of (hb19.block _ hHeld.2.1.lt), hHeld.2.2.1.of (hb19.block _ hHeld.2.2.1.lt), hHeld.2.2.2.trans (hb19.mono hHeld.2.2.2.size)⟩ (fun hHeld => ?_)
  clear hK K9 hb19
  try simp only [List.setIfInBounds_toArray, List.set_cons_zero, List.set_cons_succ]
  refine wpAnyH_take (i := 15) (oi := ⟨some 75, _, _, _, _, _⟩) (v := (.bool true)) rfl (by kernel_rfl) (by kernel_rfl) (by kernel_rfl) (fun _ _ _ h => h) (Or.inl ⟨by rfl, fun w' hw => by (have hq := Q1.out; go_simp)⟩) hHeld ?_
  try simp only [Act.put, List.setIfInBounds_toArray, List.set_cons_zero, List.set_cons_succ]
  refine wpAnyH_take (i := 16) (oi := ⟨some 76, _, _, _, _, _⟩) (v := (.bool true)) rfl (by kernel_rfl) (by kernel_rfl) (by kernel_rfl) (fun _ _ _ h => h) (Or.inl ⟨by rfl, fun w' hw => by go_simp⟩) hHeld ?_
  try simp only [Act.put, List.setIfInBounds_toArray, List.set_cons_zero, List.set_cons_succ]
  refine wpAnyH_take (i := 17) (oi := ⟨some 77, _, _, _, _, _⟩) (v := (.bool true)) rfl (by kernel_rfl) (by kernel_rfl) (by kernel_rfl) (fun _ _ _ h => h) (Or.inl ⟨by rfl, fun w' hw => by go_simp⟩) hHeld ?_
  try simp only [Act.put, List.setIfInBounds_toArray, List.set_cons_zero, List.set_cons_succ]
  refine wpAnyH_take (i := 18) (oi := ⟨some 78, _, _, _, _, _⟩) (v := (.agg #[.bool u4, .int .u64 k4, .int .u64 v4, .int .u64 t4, .int .u64 r4, .int .u64 n4, .int .i64 x4])) rfl (by kernel_rfl) (by kernel_rfl) (by kernel_rfl) (fun _ _ _ h => h) (Or.inl ⟨by rfl, fun w' hw => by (have y0 := hw.2.1.cell 0; have y1 := hw.2.1.cell 1; have y2 := hw.2.1.cell 2; have y3 := hw.2.1.cell 3; have y4 := hw.2.1.cell 4; have y5 := hw.2.1.cell 5; have y6 := hw.2.1.cell 6; go_simp)⟩) hHeld ?_
  try simp only [Act.put, List.setIfInBounds_toArray, List.set_cons_zero, List.set_cons_succ]
  refine wpAnyH_take (i := 20) (oi := ⟨some 80, _, _, _, _, _⟩) (v := (.agg #[.bool u4, .int .u64 k4, .int .u64 v4, .int .u64 t4, .int .u64 r4, .int .u64 n4, .int .i64 x4])) rfl (by kernel_rfl) (by kernel_rfl) (by kernel_rfl) (fun _ _ _ h => h) (Or.inl ⟨by rfl, fun w' hw => by (have y0 := hw.2.2.1.cell 0; have y1 := hw.2.2.1.cell 1; have y2 := hw.2.2.1.cell 2; have y3 := hw.2.2.1.cell 3; have y4 := hw.2.2.1.cell 4; have y5 := hw.2.2.1.cell 5; have y6 := hw.2.2.1.cell 6; go_simp)⟩) hHeld ?_
  try simp only [Act.put, List.setIfInBounds_toArray, List.set_cons_zero, List.set_cons_succ]
  refine one_ready 19 rfl (by kernel_rfl) (fun K9 hK => ?_)
  go_simp
  refine (A4.out _).mono ?_
  rintro e w20 ⟨rfl, hb20⟩
  refine hK.out _ _ ⟨hHeld.1.of (hb20.block _ hHeld.1.lt), hHeld.2.1.of (hb20.block _ hHeld.2.1.lt), hHeld.2.2.1.of (hb20.block _ hHeld.2.2.1.lt), hHeld.2.2.2.trans (hb20.mono hHeld.2.2.2.size)⟩ (fun hHeld => ?_)
  clear hK K9 hb20
  try simp only [List.setIfInBounds_toArray, List.set_cons_zero, List.set_cons_succ]
  refine wpAnyH_take (i := 21) (oi := ⟨some 81, _, _, _, _, _⟩) (v := (.bool true)) rfl (by kernel_rfl) (by kernel_rfl) (by kernel_rfl) (fun _ _ _ h => h) (Or.inl ⟨by rfl, fun w' hw => by (have hq := Q2.out; go_simp)⟩) hHeld ?_
  try simp only [Act.put, List.setIfInBounds_toArray, List.set_cons_zero, List.set_cons_succ]
  refine wpAnyH_take (i := 22) (oi := ⟨some 82, _, _, _, _, _⟩) (v := (.bool true)) rfl (by kernel_rfl) (by kernel_rfl) (by kernel_rfl) (fun _ _ _ h => h) (Or.inl ⟨by rfl, fun w' hw => by go_simp⟩) hHeld ?_
  try simp only [Act.put, List.setIfInBounds_toArray, List.set_cons_zero, List.set_cons_succ]
  refine wpAnyH_take (i := 23) (oi := ⟨some 83, _, _, _, _, _⟩) (v := (.bool true)) rfl (by kernel_rfl) (by kernel_rfl) (by kernel_rfl) (fun _ _ _ h => h) (Or.inl ⟨by rfl, fun w' hw => by go_simp⟩) hHeld ?_
  try simp only [Act.put, List.setIfInBounds_toArray, List.set_cons_zero, List.set_cons_succ]
  refine wpAnyH_take (i := 24) (oi := ⟨some 84, _, _, _, _, _⟩) (v := (.int .i64 E)) rfl (by kernel_rfl) (by kernel_rfl) (by kernel_rfl) (fun _ _ _ h => h) (Or.inl ⟨by rfl, fun w' hw => by go_simp⟩) hHeld ?_
  try simp only [Act.put, List.setIfInBounds_toArray, List.set_cons_zero, List.set_cons_succ]
  refine wpAnyH_take (i := 25) (oi := ⟨some 85, _, _, _, _, _⟩) (v := (.int .i64 E)) rfl (by kernel_rfl) (by kernel_rfl) (by kernel_rfl) (fun _ _ _ h => h) (Or.inl ⟨by rfl, fun w' hw => by go_simp⟩) hHeld ?_
  try simp only [Act.put, List.setIfInBounds_toArray, List.set_cons_zero, List.set_cons_succ]
  refine wpAnyH_take (i := 26) (oi := ⟨some 86, _, _, _, _, _⟩) (v := (.bool true)) rfl (by kernel_rfl) (by kernel_rfl) (by kernel_rfl) (fun _ _ _ h => h) (Or.inl ⟨by rfl, fun w' hw => by go_simp⟩) hHeld ?_
  try simp only [Act.put, List.setIfInBounds_toArray, List.set_cons_zero, List.set_cons_succ]
  refine wpAnyH_take (i := 27) (oi := ⟨some 87, _, _, _, _, _⟩) (v := (.bool true)) rfl (by kernel_rfl) (by kernel_rfl) (by kernel_rfl) (fun _ _ _ h => h) (Or.inl ⟨by rfl, fun w' hw => by go_simp⟩) hHeld ?_
  try simp only [Act.put, List.setIfInBounds_toArray, List.set_cons_zero, List.set_cons_succ]
  refine wpAnyH_take (i := 28) (oi := ⟨some 88, _, _, _, _, _⟩) (v := (.bool true)) rfl (by kernel_rfl) (by kernel_rfl) (by kernel_rfl) (fun _ _ _ h => h) (Or.inl ⟨by rfl, fun w' hw => by go_simp⟩) hHeld ?_
  try simp only [Act.put, List.setIfInBounds_toArray, List.set_cons_zero, List.set_cons_succ]
  refine wpAnyH_take (i := 29) (oi := ⟨some 89, _, _, _, _, _⟩) (v := (.agg #[.bool u1, .int .u64 k1, .int .u64 v1, .int .u64 t1, .int .u64 r1, .int .u64 n1, .int .i64 x1])) rfl (by kernel_rfl) (by kernel_rfl) (by kernel_rfl) (fun _ _ _ h => h) (Or.inl ⟨by rfl, fun w' hw => by (have y0 := hw.1.cell 0; have y1 := hw.1.cell 1; have y2 := hw.1.cell 2; have y3 := hw.1.cell 3; have y4 := hw.1.cell 4; have y5 := hw.1.cell 5; have y6 := hw.1.cell 6; go_simp)⟩) hHeld ?_
  try simp only [Act.put, List.setIfInBounds_toArray, List.set_cons_zero, List.set_cons_succ]
  refine wpAnyH_take (i := 30) (oi := ⟨some 90, _, _, _, _, _⟩) (v := (.int .u64 now)) rfl (by kernel_rfl) (by kernel_rfl) (by kernel_rfl) (fun _ _ _ h => h) (Or.inl ⟨by rfl, fun w' hw => by go_simp⟩) hHeld ?_
  try simp only [Act.put, List.setIfInBounds_toArray, List.set_cons_zero, List.set_cons_succ]
  refine wpAnyH_take (i := 32) (oi := ⟨some 92, _, _, _, _, _⟩) (v := (.agg #[.bool u1, .int .u64 k1, .int .u64 v1, .int .u64 t1, .int .u64 r1, .int .u64 n1, .int .i64 x1])) rfl (by kernel_rfl) (by kernel_rfl) (by kernel_rfl) (fun _ _ _ h => h) (Or.inl ⟨by rfl, fun w' hw => by (have y0 := hw.1.cell 0; have y1 := hw.1.cell 1; have y2 := hw.1.cell 2; have y3 := hw.1.cell 3; have y4 := hw.1.cell 4; have y5 := hw.1.cell 5; have y6 := hw.1.cell 6; go_simp)⟩) hHeld ?_
  try simp only [Act.put, List.setIfInBounds_toArray, List.set_cons_zero, List.set_cons_succ]
  refine wpAnyH_take (i := 34) (oi := ⟨some 94, _, _, _, _, _⟩) (v := (.int .u64 now)) rfl (by kernel_rfl) (by kernel_rfl) (by kernel_rfl) (fun _ _ _ h => h) (Or.inl ⟨by rfl, fun w' hw => by go_simp⟩) hHeld ?_
  try simp only [Act.put, List.setIfInBounds_toArray, List.set_cons_zero, List.set_cons_succ]
  refine one_ready 31 rfl (by kernel_rfl) (fun K9 hK => ?_)
  go_simp
  refine (X1.out _).mono ?_
  rintro e w21 ⟨rfl, hb21⟩
  refine hK.out _ _ ⟨hHeld.1.of (hb21.block _ hHeld.1.lt), hHeld.2.1.of (hb21.block _ hHeld.2.1.lt), hHeld.2.2.1.of (hb21.block _ hHeld.2.2.1.lt), hHeld.2.2.2.trans (hb21.mono hHeld.2.2.2.size)⟩ (fun hHeld => ?_)
  clear hK K9 hb21
  try simp only [List.setIfInBounds_toArray, List.set_cons_zero, List.set_cons_succ]
  refine one_ready 33 rfl (by kernel_rfl) (fun K9 hK => ?_)
  go_simp
  refine (A1.out _).mono ?_
  rintro e w22 ⟨rfl, hb22⟩
  refine hK.out _ _ ⟨hHeld.1.of (hb22.block _ hHeld.1.lt), hHeld.2.1.of (hb22.block _ hHeld.2.1.lt), hHeld.2.2.1.of (hb22.block _ hHeld.2.2.1.lt), hHeld.2.2.2.trans (hb22.mono hHeld.2.2.2.size)⟩ (fun hHeld => ?_)
  clear hK K9 hb22
  try simp only [List.setIfInBounds_toArray, List.set_cons_zero, List.set_cons_succ]
  refine one_ready 35 rfl (by kernel_rfl) (fun K9 hK => ?_)
  go_simp
  refine (X2.out _).mono ?_
  rintro e w23 ⟨rfl, hb23⟩
  refine hK.out _ _ ⟨hHeld.1.of (hb23.block _ hHeld.1.lt), hHeld.2.1.of (hb23.block _ hHeld.2.1.lt), hHeld.2.2.1.of (hb23.block _ hHeld.2.2.1.lt), hHeld.2.2.2.trans (hb23.mono hHeld.2.2.2.size)⟩ (fun hHeld => ?_)
  clear hK K9 hb23
  try simp only [List.setIfInBounds_toArray, List.set_cons_zero, List.set_cons_succ]
  refine wpAnyH_take (i := 36) (oi := ⟨some 96, _, _, _, _, _⟩) (v := (.bool true)) rfl (by kernel_rfl) (by kernel_rfl) (by kernel_rfl) (fun _ _ _ h => h) (Or.inl ⟨by rfl, fun w' hw => by go_simp⟩) hHeld ?_
  try simp only [Act.put, List.setIfInBounds_toArray, List.set_cons_zero, List.set_cons_succ]
  refine wpAnyH_take (i := 37) (oi := ⟨some 97, _, _, _, _, _⟩) (v := (.bool true)) rfl (by kernel_rfl) (by kernel_rfl) (by kernel_rfl) (fun _ _ _ h => h) (Or.inl ⟨by rfl, fun w' hw => by go_simp⟩) hHeld ?_
  try simp only [Act.put, List.setIfInBounds_toArray, List.set_cons_zero, List.set_cons_succ]
  refine wpAnyH_take (i := 38) (oi := ⟨some 98, _, _, _, _, _⟩) (v := (.bool true)) rfl (by kernel_rfl) (by kernel_rfl) (by kernel_rfl) (fun _ _ _ h => h) (Or.inl ⟨by rfl, fun w' hw => by go_simp⟩) hHeld ?_
  try simp only [Act.put, List.setIfInBounds_toArray, List.set_cons_zero, List.set_cons_succ]
  refine wpAnyH_take (i := 39) (oi := ⟨some 99, _, _, _, _, _⟩) (v := (.int .u64 er)) rfl (by kernel_rfl) (by kernel_rfl) (by kernel_rfl) (fun _ _ _ h => h) (Or.inl ⟨by rfl, fun w' hw => by go_simp⟩) hHeld ?_
  try simp only [Act.put, List.setIfInBounds_toArray, List.set_cons_zero, List.set_cons_succ]
  refine wpAnyH_take (i := 40) (oi := ⟨some 100, _, _, _, _, _⟩) (v := (.int .u64 er)) rfl (by kernel_rfl) (by kernel_rfl) (by kernel_rfl) (fun _ _ _ h => h) (Or.inl ⟨by rfl, fun w' hw => by go_simp⟩) hHeld ?_
  try simp only [Act.put, List.setIfInBounds_toArray, List.set_cons_zero, List.set_cons_succ]
  refine wpAnyH_take (i := 41) (oi := ⟨some 101, _, _, _, _, _⟩) (v := (.bool true)) rfl (by kernel_rfl) (by kernel_rfl) (by kernel_rfl) (fun _ _ _ h => h) (Or.inl ⟨by rfl, fun w' hw => by go_simp⟩) hHeld ?_
  try simp only [Act.put, List.setIfInBounds_toArray, List.set_cons_zero, List.set_cons_succ]
  refine wpAnyH_take (i := 42) (oi := ⟨some 102, _, _, _, _, _⟩) (v := (.bool true)) rfl (by kernel_rfl) (by kernel_rfl) (by kernel_rfl) (fun _ _ _ h => h) (Or.inl ⟨by rfl, fun w' hw => by go_simp⟩) hHeld ?_
  try simp only [Act.put, List.setIfInBounds_toArray, List.set_cons_zero, List.set_cons_succ]
  refine wpAnyH_take (i := 43) (oi := ⟨some 103, _, _, _, _, _⟩) (v := (.bool true)) rfl (by kernel_rfl) (by kernel_rfl) (by kernel_rfl) (fun _ _ _ h => h) (Or.inl ⟨by rfl, fun w' hw => by go_simp⟩) hHeld ?_
  try simp only [Act.put, List.setIfInBounds_toArray, List.set_cons_zero, List.set_cons_succ]
  refine wpAnyH_take (i := 44) (oi := ⟨some 104, _, _, _, _, _⟩) (v := (.int .u64 eu)) rfl (by kernel_rfl) (by kernel_rfl) (by kernel_rfl) (fun _ _ _ h => h) (Or.inl ⟨by rfl, fun w' hw => by go_simp⟩) hHeld ?_
  try simp only [Act.put, List.setIfInBounds_toArray, List.set_cons_zero, List.set_cons_succ]
  refine wpAnyH_take (i := 45) (oi := ⟨some 105, _, _, _, _, _⟩) (v := (.int .u64 eu)) rfl (by kernel_rfl) (by kernel_rfl) (by kernel_rfl) (fun _ _ _ h => h) (Or.inl ⟨by rfl, fun w' hw => by go_simp⟩) hHeld ?_
  try simp only [Act.put, List.setIfInBounds_toArray, List.set_cons_zero, List.set_cons_succ]
  refine wpAnyH_take (i := 46) (oi := ⟨some 106, _, _, _, _, _⟩) (v := (.bool true)) rfl (by kernel_rfl) (by kernel_rfl) (by kernel_rfl) (fun _ _ _ h => h) (Or.inl ⟨by rfl, fun w' hw => by go_simp⟩) hHeld ?_
  try simp only [Act.put, List.setIfInBounds_toArray, List.set_cons_zero, List.set_cons_succ]
  refine wpAnyH_take (i := 47) (oi := ⟨some 107, _, _, _, _, _⟩) (v := (.bool true)) rfl (by kernel_rfl) (by kernel_rfl) (by kernel_rfl) (fun _ _ _ h => h) (Or.inl ⟨by rfl, fun w' hw => by go_simp⟩) hHeld ?_
  try simp only [Act.put, List.setIfInBounds_toArray, List.set_cons_zero, List.set_cons_succ]
  refine wpAnyH_take (i := 48) (oi := ⟨some 108, _, _, _, _, _⟩) (v := (.bool true)) rfl (by kernel_rfl) (by kernel_rfl) (by kernel_rfl) (fun _ _ _ h => h) (Or.inl ⟨by rfl, fun w' hw => by go_simp⟩) hHeld ?_
  try simp only [Act.put, List.setIfInBounds_toArray, List.set_cons_zero, List.set_cons_succ]
  refine wpAnyH_take (i := 49) (oi := ⟨some 109, _, _, _, _, _⟩) (v := (.int .u64 ur)) rfl (by kernel_rfl) (by kernel_rfl) (by kernel_rfl) (fun _ _ _ h => h) (Or.inl ⟨by rfl, fun w' hw => by go_simp⟩) hHeld ?_
  try simp only [Act.put, List.setIfInBounds_toArray, List.set_cons_zero, List.set_cons_succ]
  refine wpAnyH_take (i := 50) (oi := ⟨some 110, _, _, _, _, _⟩) (v := (.int .u64 ur)) rfl (by kernel_rfl) (by kernel_rfl) (by kernel_rfl) (fun _ _ _ h => h) (Or.inl ⟨by rfl, fun w' hw => by go_simp⟩) hHeld ?_
  try simp only [Act.put, List.setIfInBounds_toArray, List.set_cons_zero, List.set_cons_succ]
  refine wpAnyH_take (i := 51) (oi := ⟨some 111, _, _, _, _, _⟩) (v := (.bool true)) rfl (by kernel_rfl) (by kernel_rfl) (by kernel_rfl) (fun _ _ _ h => h) (Or.inl ⟨by rfl, fun w' hw => by go_simp⟩) hHeld ?_
  try simp only [Act.put, List.setIfInBounds_toArray, List.set_cons_zero, List.set_cons_succ]
  refine wpAnyH_take (i := 52) (oi := ⟨some 112, _, _, _, _, _⟩) (v := (.bool true)) rfl (by kernel_rfl) (by kernel_rfl) (by kernel_rfl) (fun _ _ _ h => h) (Or.inl ⟨by rfl, fun w' hw => by go_simp⟩) hHeld ?_
  try simp only [Act.put, List.setIfInBounds_toArray, List.set_cons_zero, List.set_cons_succ]
  refine wpAnyH_take (i := 53) (oi := ⟨some 113, _, _, _, _, _⟩) (v := (.bool true)) rfl (by kernel_rfl) (by kernel_rfl) (by kernel_rfl) (fun _ _ _ h => h) (Or.inl ⟨by rfl, fun w' hw => by go_simp⟩) hHeld ?_
  try simp only [Act.put, List.setIfInBounds_toArray, List.set_cons_zero, List.set_cons_succ]
  refine wpAnyH_take (i := 54) (oi := ⟨some 114, _, _, _, _, _⟩) (v := (.int .u64 uu)) rfl (by kernel_rfl) (by kernel_rfl) (by kernel_rfl) (fun _ _ _ h => h) (Or.inl ⟨by rfl, fun w' hw => by go_simp⟩) hHeld ?_
  try simp only [Act.put, List.setIfInBounds_toArray, List.set_cons_zero, List.set_cons_succ]
  refine wpAnyH_take (i := 55) (oi := ⟨some 115, _, _, _, _, _⟩) (v := (.int .u64 uu)) rfl (by kernel_rfl) (by kernel_rfl) (by kernel_rfl) (fun _ _ _ h => h) (Or.inl ⟨by rfl, fun w' hw => by go_simp⟩) hHeld ?_
  try simp only [Act.put, List.setIfInBounds_toArray, List.set_cons_zero, List.set_cons_succ]
  refine wpAnyH_take (i := 56) (oi := ⟨some 116, _, _, _, _, _⟩) (v := (.bool true)) rfl (by kernel_rfl) (by kernel_rfl) (by kernel_rfl) (fun _ _ _ h => h) (Or.inl ⟨by rfl, fun w' hw => by go_simp⟩) hHeld ?_
  try simp only [Act.put, List.setIfInBounds_toArray, List.set_cons_zero, List.set_cons_succ]
  refine wpAnyH_take (i := 57) (oi := ⟨some 117, _, _, _, _, _⟩) (v := (.bool true)) rfl (by kernel_rfl) (by kernel_rfl) (by kernel_rfl) (fun _ _ _ h => h) (Or.inl ⟨by rfl, fun w' hw => by go_simp⟩) hHeld ?_
  try simp only [Act.put, List.setIfInBounds_toArray, List.set_cons_zero, List.set_cons_succ]
  refine wpAnyH_take (i := 58) (oi := ⟨some 8, _, _, _, _, _⟩) (v := (.bool true)) rfl (by kernel_rfl) (by kernel_rfl) (by kernel_rfl) (fun _ _ _ h => h) (Or.inl ⟨by rfl, fun w' hw => by go_simp⟩) hHeld ?_
  try simp only [Act.put, List.setIfInBounds_toArray, List.set_cons_zero, List.set_cons_succ]
  refine wpAnyH_done (by kernel_rfl) ?_ _
  have HBL := Lib.hid hHeld.2.2.2
  clear hHeld
  go_wp2_with fail
  go_ret
  exact ⟨rfl, HBL.out⟩
theorem blocks_law (s : Sl) (d : Nat → Int) (q now : Int) (w : World) (hs : s.Ok) (hd : ∀ i, i < 8 → U64 (d i)) (hq : I64 q) (hn : U64 now) :
    Calls Try.prog 3 #[.agg s.a, .agg (DA d), .int .i64 q, .int .u64 now] w fun e w' => e = .returned (.bool true) ∧ Below w.heap.size w w' := by
  have E1 := Lib.hid (fun W => slread_any d W hd)
  have E2 := Lib.hid (fun W => rslread_any d W hd)
  have n1 : ∀ W, Calls Try.prog 11 #[.int .i64 q, .int .u64 now] W fun e w' => e = .returned (.tuple #[.int .u64 (enR q now), .int .u64 (enU q)]) ∧ Below W.heap.size W w' := fun W => (slenter_any q now W hq hn).mono fun e w' h => ⟨h.1, by rw [h.2]; exact Below.refl _ _⟩
  have N1 := Lib.hid n1
  have n2 : ∀ W, Calls Try.prog 12 #[.int .i64 q, .int .u64 now] W fun e w' => e = .returned (.tuple #[.int .u64 (enR q now), .int .u64 (enU q)]) ∧ Below W.heap.size W w' := fun W => (rslenter_any q now W hq hn).mono fun e w' h => ⟨h.1, by rw [h.2]; exact Below.refl _ _⟩
  have N2 := Lib.hid n2
  have U1 := Lib.hid (fun W => sluse_any q s now W hq hn)
  have U2 := Lib.hid (fun W => rsluse_any q s now W hq hn)
  have A1 := Lib.hid (fun W => as_slot s W)
  have A4 := Lib.hid (fun W => as_slot (reS d) W)
  have R1 := Lib.hid (fun W => slright_any s W hs)
  have R2 := Lib.hid (fun W => rslright_any s W hs)
  have D1 := Lib.hid (fun W => sldata_any s W hs)
  have D2 := Lib.hid (fun W => rsldata_any s W hs)
  have X1 := Lib.hid (fun W => slexpired_any s now W hs)
  have X2 := Lib.hid (fun W => rslexpired_any s now W hs)
  have Q1 : ∀ W, (binOp .eql 26 (.agg (DA s.dat)) (.agg (DA s.dat))).run Try.prog W = .ok (.bool true) W := fun W => by
    rw [eql_data, deq_self]
  have Q2 : ∀ W, (binOp .eql 31 (.agg (reS d).a) (.agg (reS d).a)).run Try.prog W = .ok (.bool true) W := fun W => by
    rw [eql_rslot, sleq_self]
  generalize reS d = y at *
  obtain ⟨u1, k1, v1, t1, r1, n1, x1⟩ := s
  obtain ⟨u4, k4, v4, t4, r4, n4, x4⟩ := y
  exact blocks_of u1 k1 v1 t1 r1 n1 x1 u4 k4 v4 t4 r4 n4 x4 d _ q now _ _ _ _ _ _ _ w E1 E2 N1 N2 U1 U2 A1 A4 R1 R2 D1 D2 X1 X2 (Lib.hid Q1) (Lib.hid Q2)
end Go.Proofs.Ytjamfcjglodfeaa
