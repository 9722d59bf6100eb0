/- The law SlotOnce, walked: for every two entries it returns true, and nothing that was in memory changes. Conditions: words are of 64 bits, Next is an int. -/
import Derived.Below
import Derived.BigQuiet
import Derived.ChangeKeysEq
import Derived.ChangeSlices
import Derived.Deep.Cut
import Derived.Deep.Draws
import Derived.Deep.MidRow
import Derived.Deep.OwnRows
import Derived.Deep.Quiet
import Derived.Deep.QuietTactic
import Derived.Deep.WholeRow
import Derived.Laws.BitsAllLaws
import Derived.Laws.BytesArg
import Derived.Laws.NewBlocks
import Derived.Laws.StructEq
import Derived.Lib.Hide
import Derived.Lib.LazyBuf
import Derived.OpenShut
import Derived.OwnWalk
import Derived.ProofKit
import Derived.RowKit3
import Derived.SizedLaws
import Derived.WalkKit
import Derived.Test.YtjamfcjglodfeaaProg
import Derived.Test.YtjamfcjglodfeaaDataV
import Derived.Test.YtjamfcjglodfeaaGrow
import Derived.Test.YtjamfcjglodfeaaHeap
import Derived.Test.YtjamfcjglodfeaaSlot
import Derived.Test.YtjamfcjglodfeaaSlotData
import Derived.Test.YtjamfcjglodfeaaSlotLaw
import Derived.Test.YtjamfcjglodfeaaSlotMath
namespace Go.Proofs.Ytjamfcjglodfeaa
open Go.RowKit Go.ChangeShapes Go.WideShapes Go.ChangeAt

set_option maxHeartbeats 2000000 in
theorem once_n (u1 : Bool) (k1 v1 t1 r1 n1 x1 : Int) (u2 : Bool) (k2 v2 t2 r2 n2 x2 : Int) (f g : Nat → Int) (w : World)
    (R1 : Hid (∀ W, Calls Try.prog 16 #[.agg #[.bool u1, .int .u64 k1, .int .u64 v1, .int .u64 t1, .int .u64 r1, .int .u64 n1, .int .i64 x1]] W fun e w' => e = .returned (.bool false) ∧ Below W.heap.size W w'))
    (D1 : Hid (∀ W, Calls Try.prog 18 #[.agg #[.bool u1, .int .u64 k1, .int .u64 v1, .int .u64 t1, .int .u64 r1, .int .u64 n1, .int .i64 x1]] W fun e w' => e = .returned (.agg #[.int .u64 (f 0), .int .u64 (f 1), .int .u64 (f 2), .int .u64 (f 3), .int .u64 (f 4), .int .u64 (f 5), .int .u64 (f 6), .int .u64 (f 7)]) ∧ Below W.heap.size W w'))
    (D2 : Hid (∀ W, Calls Try.prog 18 #[.agg #[.bool u2, .int .u64 k2, .int .u64 v2, .int .u64 t2, .int .u64 r2, .int .u64 n2, .int .i64 x2]] W fun e w' => e = .returned (.agg #[.int .u64 (g 0), .int .u64 (g 1), .int .u64 (g 2), .int .u64 (g 3), .int .u64 (g 4), .int .u64 (g 5), .int .u64 (g 6), .int .u64 (g 7)]) ∧ Below W.heap.size W w'))
    (Q3 : Hid (∀ W, (binOp .eql 26 (.agg #[.int .u64 (f 0), .int .u64 (f 1), .int .u64 (f 2), .int .u64 (f 3), .int .u64 (f 4), .int .u64 (f 5), .int .u64 (f 6), .int .u64 (f 7)]) (.agg #[.int .u64 0, .int .u64 0, .int .u64 0, .int .u64 0, .int .u64 0, .int .u64 0, .int .u64 0, .int .u64 0])).run Try.prog W = .ok (.bool (true)) W)) :
    Calls Try.prog 6 #[.agg #[.bool u1, .int .u64 k1, .int .u64 v1, .int .u64 t1, .int .u64 r1, .int .u64 n1, .int .i64 x1], .agg #[.bool u2, .int .u64 k2, .int .u64 v2, .int .u64 t2, .int .u64 r2, .int .u64 n2, .int .i64 x2]] w fun e w' => e = .returned (.bool true) ∧ Below w.heap.size w w' := by
  obtain ⟨p, hp⟩ : ∃ p, w.heap.size = p := ⟨_, rfl⟩
  obtain ⟨w2, hw2⟩ : ∃ w9, ((w.alloc (.cells #[.bool u1, .int .u64 k1, .int .u64 v1, .int .u64 t1, .int .u64 r1, .int .u64 n1, .int .i64 x1] 24)).alloc (.cells #[.bool u2, .int .u64 k2, .int .u64 v2, .int .u64 t2, .int .u64 r2, .int .u64 n2, .int .i64 x2] 24)) = w9 := ⟨_, rfl⟩
  have hx0 : Box w2 (p) 24 #[.bool u1, .int .u64 k1, .int .u64 v1, .int .u64 t1, .int .u64 r1, .int .u64 n1, .int .i64 x1] := by
    have h9 := ((Box.new w 24 #[.bool u1, .int .u64 k1, .int .u64 v1, .int .u64 t1, .int .u64 r1, .int .u64 n1, .int .i64 x1])).alloc (.cells #[.bool u2, .int .u64 k2, .int .u64 v2, .int .u64 t2, .int .u64 r2, .int .u64 n2, .int .i64 x2] 24)
    try simp only [World.size_alloc] at h9
    simp only [hp, hw2] at h9
    exact h9
  have hx1 : Box w2 (p + 1) 24 #[.bool u2, .int .u64 k2, .int .u64 v2, .int .u64 t2, .int .u64 r2, .int .u64 n2, .int .i64 x2] := by
    have h9 := (Box.new (w.alloc (.cells #[.bool u1, .int .u64 k1, .int .u64 v1, .int .u64 t1, .int .u64 r1, .int .u64 n1, .int .i64 x1] 24)) 24 #[.bool u2, .int .u64 k2, .int .u64 v2, .int .u64 t2, .int .u64 r2, .int .u64 n2, .int .i64 x2])
    try simp only [World.size_alloc] at h9
    simp only [hp, hw2] at h9
    exact h9
  have hB : Below w.heap.size w w2 := by
    have h9 := (((Below.refl w.heap.size w).alloc (by simp; try omega) (.cells #[.bool u1, .int .u64 k1, .int .u64 v1, .int .u64 t1, .int .u64 r1, .int .u64 n1, .int .i64 x1] 24)).alloc (by simp; try omega) (.cells #[.bool u2, .int .u64 k2, .int .u64 v2, .int .u64 t2, .int .u64 r2, .int .u64 n2, .int .i64 x2] 24))
    rw [hw2] at h9
    exact h9
  have hS : w2.heap.size = p + 2 := by rw [← hw2]; simp [hp]
  have HX_a2 := Lib.hid hx0
  have HX_b2 := Lib.hid hx1
  have HB2 := Lib.hid hB
  have HPP := Lib.hid hp
  have HW := Lib.hid hw2
  clear hx0 hx1 hB hS hp hw2
  go_enter Try.func6, Try.ntmps6
  go_upto_region 1 with fail
  simp only [HPP.out, HW.out]
  clear HPP HW
  go_wp2_with fail
  refine (slshown_any _).mono ?_
  rintro e w3 ⟨rfl, hb⟩
  have HX_a3 := Lib.hid (show Box w3 p 24 #[.bool u1, .int .u64 k1, .int .u64 v1, .int .u64 t1, .int .u64 r1, .int .u64 n1, .int .i64 x1] from HX_a2.out.of (hb.block _ HX_a2.out.lt))
  have HX_b3 := Lib.hid (show Box w3 (p + 1) 24 #[.bool u2, .int .u64 k2, .int .u64 v2, .int .u64 t2, .int .u64 r2, .int .u64 n2, .int .i64 x2] from HX_b2.out.of (hb.block _ HX_b2.out.lt))
  clear HX_a2 HX_b2
  have HB3 := Lib.hid (HB2.out.trans (hb.mono HB2.out.size))
  clear hb HB2
  have c_a0 : w3.cell? ⟨p, 0, none⟩ = some (.bool u1) := HX_a3.out.cell 0
  have c_a1 : w3.cell? ⟨p, 1, none⟩ = some (.int .u64 k1) := HX_a3.out.cell 1
  have c_a2 : w3.cell? ⟨p, 2, none⟩ = some (.int .u64 v1) := HX_a3.out.cell 2
  have c_a3 : w3.cell? ⟨p, 3, none⟩ = some (.int .u64 t1) := HX_a3.out.cell 3
  have c_a4 : w3.cell? ⟨p, 4, none⟩ = some (.int .u64 r1) := HX_a3.out.cell 4
  have c_a5 : w3.cell? ⟨p, 5, none⟩ = some (.int .u64 n1) := HX_a3.out.cell 5
  have c_a6 : w3.cell? ⟨p, 6, none⟩ = some (.int .i64 x1) := HX_a3.out.cell 6
  go_wp2_with fail
  refine (D1.out _).mono ?_
  rintro e w4 ⟨rfl, hb⟩
  have HX_a4 := Lib.hid (show Box w4 p 24 #[.bool u1, .int .u64 k1, .int .u64 v1, .int .u64 t1, .int .u64 r1, .int .u64 n1, .int .i64 x1] from HX_a3.out.of (hb.block _ HX_a3.out.lt))
  have HX_b4 := Lib.hid (show Box w4 (p + 1) 24 #[.bool u2, .int .u64 k2, .int .u64 v2, .int .u64 t2, .int .u64 r2, .int .u64 n2, .int .i64 x2] from HX_b3.out.of (hb.block _ HX_b3.out.lt))
  clear HX_a3 HX_b3
  have HB4 := Lib.hid (HB3.out.trans (hb.mono HB3.out.size))
  clear hb HB3
  clear c_a0 c_a1 c_a2 c_a3 c_a4 c_a5 c_a6
  go_upto_region 3 with (fail)
  obtain ⟨q1, hq⟩ : ∃ q9, w4.heap.size = q9 := ⟨_, rfl⟩
  obtain ⟨w5, hw9⟩ : ∃ w9, w4.alloc (.cells #[.int .u64 (f 0), .int .u64 (f 1), .int .u64 (f 2), .int .u64 (f 3), .int .u64 (f 4), .int .u64 (f 5), .int .u64 (f 6), .int .u64 (f 7)] 26) = w9 := ⟨_, rfl⟩
  have HX_a5 := Lib.hid (show Box w5 p 24 #[.bool u1, .int .u64 k1, .int .u64 v1, .int .u64 t1, .int .u64 r1, .int .u64 n1, .int .i64 x1] by rw [← hw9]; exact HX_a4.out.alloc _)
  have HX_b5 := Lib.hid (show Box w5 (p + 1) 24 #[.bool u2, .int .u64 k2, .int .u64 v2, .int .u64 t2, .int .u64 r2, .int .u64 n2, .int .i64 x2] by rw [← hw9]; exact HX_b4.out.alloc _)
  have HX_x5 := Lib.hid (show Box w5 q1 26 #[.int .u64 (f 0), .int .u64 (f 1), .int .u64 (f 2), .int .u64 (f 3), .int .u64 (f 4), .int .u64 (f 5), .int .u64 (f 6), .int .u64 (f 7)] by rw [← hw9, ← hq]; exact Box.new w4 _ _)
  have HB5 := Lib.hid (show Below w.heap.size w w5 by rw [← hw9]; exact HB4.out.alloc HB4.out.size _)
  have HS_x := Lib.hid (show w.heap.size ≤ q1 by rw [← hq]; exact HB4.out.size)
  simp only [hw9, hq]
  clear hq hw9 HB4 HX_a4 HX_b4
  have c_b0 : w5.cell? ⟨p + 1, 0, none⟩ = some (.bool u2) := HX_b5.out.cell 0
  have c_b1 : w5.cell? ⟨p + 1, 1, none⟩ = some (.int .u64 k2) := HX_b5.out.cell 1
  have c_b2 : w5.cell? ⟨p + 1, 2, none⟩ = some (.int .u64 v2) := HX_b5.out.cell 2
  have c_b3 : w5.cell? ⟨p + 1, 3, none⟩ = some (.int .u64 t2) := HX_b5.out.cell 3
  have c_b4 : w5.cell? ⟨p + 1, 4, none⟩ = some (.int .u64 r2) := HX_b5.out.cell 4
  have c_b5 : w5.cell? ⟨p + 1, 5, none⟩ = some (.int .u64 n2) := HX_b5.out.cell 5
  have c_b6 : w5.cell? ⟨p + 1, 6, none⟩ = some (.int .i64 x2) := HX_b5.out.cell 6
  go_wp2_with fail
  refine (D2.out _).mono ?_
  rintro e w6 ⟨rfl, hb⟩
  have HX_a6 := Lib.hid (show Box w6 p 24 #[.bool u1, .int .u64 k1, .int .u64 v1, .int .u64 t1, .int .u64 r1, .int .u64 n1, .int .i64 x1] from HX_a5.out.of (hb.block _ HX_a5.out.lt))
  have HX_b6 := Lib.hid (show Box w6 (p + 1) 24 #[.bool u2, .int .u64 k2, .int .u64 v2, .int .u64 t2, .int .u64 r2, .int .u64 n2, .int .i64 x2] from HX_b5.out.of (hb.block _ HX_b5.out.lt))
  have HX_x6 := Lib.hid (show Box w6 q1 26 #[.int .u64 (f 0), .int .u64 (f 1), .int .u64 (f 2), .int .u64 (f 3), .int .u64 (f 4), .int .u64 (f 5), .int .u64 (f 6), .int .u64 (f 7)] from HX_x5.out.of (hb.block _ HX_x5.out.lt))
  clear HX_a5 HX_b5 HX_x5
  have HB6 := Lib.hid (HB5.out.trans (hb.mono HB5.out.size))
  clear hb HB5
  clear c_b0 c_b1 c_b2 c_b3 c_b4 c_b5 c_b6
  go_upto_region 4 with (fail)
  obtain ⟨q2, hq⟩ : ∃ q9, w6.heap.size = q9 := ⟨_, rfl⟩
  obtain ⟨w7, hw9⟩ : ∃ w9, w6.alloc (.cells #[.int .u64 (g 0), .int .u64 (g 1), .int .u64 (g 2), .int .u64 (g 3), .int .u64 (g 4), .int .u64 (g 5), .int .u64 (g 6), .int .u64 (g 7)] 26) = w9 := ⟨_, rfl⟩
  have HX_a7 := Lib.hid (show Box w7 p 24 #[.bool u1, .int .u64 k1, .int .u64 v1, .int .u64 t1, .int .u64 r1, .int .u64 n1, .int .i64 x1] by rw [← hw9]; exact HX_a6.out.alloc _)
  have HX_b7 := Lib.hid (show Box w7 (p + 1) 24 #[.bool u2, .int .u64 k2, .int .u64 v2, .int .u64 t2, .int .u64 r2, .int .u64 n2, .int .i64 x2] by rw [← hw9]; exact HX_b6.out.alloc _)
  have HX_x7 := Lib.hid (show Box w7 q1 26 #[.int .u64 (f 0), .int .u64 (f 1), .int .u64 (f 2), .int .u64 (f 3), .int .u64 (f 4), .int .u64 (f 5), .int .u64 (f 6), .int .u64 (f 7)] by rw [← hw9]; exact HX_x6.out.alloc _)
  have HX_y7 := Lib.hid (show Box w7 q2 26 #[.int .u64 (g 0), .int .u64 (g 1), .int .u64 (g 2), .int .u64 (g 3), .int .u64 (g 4), .int .u64 (g 5), .int .u64 (g 6), .int .u64 (g 7)] by rw [← hw9, ← hq]; exact Box.new w6 _ _)
  have HB7 := Lib.hid (show Below w.heap.size w w7 by rw [← hw9]; exact HB6.out.alloc HB6.out.size _)
  have HS_y := Lib.hid (show w.heap.size ≤ q2 by rw [← hq]; exact HB6.out.size)
  simp only [hw9, hq]
  clear hq hw9 HB6 HX_a6 HX_b6 HX_x6
  go_upto_region 4 with fail
  have c_a0 := Gr.cell (show w7.cell? ⟨p, 0, none⟩ = some (.bool u1) from HX_a7.out.cell 0)
  have c_a1 := Gr.cell (show w7.cell? ⟨p, 1, none⟩ = some (.int .u64 k1) from HX_a7.out.cell 1)
  have c_a2 := Gr.cell (show w7.cell? ⟨p, 2, none⟩ = some (.int .u64 v1) from HX_a7.out.cell 2)
  have c_a3 := Gr.cell (show w7.cell? ⟨p, 3, none⟩ = some (.int .u64 t1) from HX_a7.out.cell 3)
  have c_a4 := Gr.cell (show w7.cell? ⟨p, 4, none⟩ = some (.int .u64 r1) from HX_a7.out.cell 4)
  have c_a5 := Gr.cell (show w7.cell? ⟨p, 5, none⟩ = some (.int .u64 n1) from HX_a7.out.cell 5)
  have c_a6 := Gr.cell (show w7.cell? ⟨p, 6, none⟩ = some (.int .i64 x1) from HX_a7.out.cell 6)
  refine wp_region_grow (by kernel_rfl) (by kernel_rfl) ?_
  repeat (go_big_quiet_step (first | (go_at_call 16; exact Gr.blw (R1.out _))))
  refine wpQuiet_nil ?_
  intro w12 hw12
  obtain ⟨G, hG⟩ := hw12
  subst hG
  obtain ⟨w8, hw9⟩ : ∃ w9, G.w' = w9 := ⟨_, rfl⟩
  have ho9 : Only nobody w7 w8 := by rw [← hw9]; exact G.ok
  rw [hw9]
  have HX_a8 := Lib.hid (show Box w8 p 24 #[.bool u1, .int .u64 k1, .int .u64 v1, .int .u64 t1, .int .u64 r1, .int .u64 n1, .int .i64 x1] from HX_a7.out.only ho9 (not_nobody _))
  have HX_b8 := Lib.hid (show Box w8 (p + 1) 24 #[.bool u2, .int .u64 k2, .int .u64 v2, .int .u64 t2, .int .u64 r2, .int .u64 n2, .int .i64 x2] from HX_b7.out.only ho9 (not_nobody _))
  have HX_x8 := Lib.hid (show Box w8 q1 26 #[.int .u64 (f 0), .int .u64 (f 1), .int .u64 (f 2), .int .u64 (f 3), .int .u64 (f 4), .int .u64 (f 5), .int .u64 (f 6), .int .u64 (f 7)] from HX_x7.out.only ho9 (not_nobody _))
  have HX_y8 := Lib.hid (show Box w8 q2 26 #[.int .u64 (g 0), .int .u64 (g 1), .int .u64 (g 2), .int .u64 (g 3), .int .u64 (g 4), .int .u64 (g 5), .int .u64 (g 6), .int .u64 (g 7)] from HX_y7.out.only ho9 (not_nobody _))
  clear HX_a7 HX_b7 HX_x7 HX_y7
  have HB8 := Lib.hid (HB7.out.trans (ho9.none.mono HB7.out.size))
  clear c_a0 c_a1 c_a2 c_a3 c_a4 c_a5 c_a6
  clear ho9 hw9 HB7 G
  have c_a0 : w8.cell? ⟨p, 0, none⟩ = some (.bool u1) := HX_a8.out.cell 0
  have c_a1 : w8.cell? ⟨p, 1, none⟩ = some (.int .u64 k1) := HX_a8.out.cell 1
  have c_a2 : w8.cell? ⟨p, 2, none⟩ = some (.int .u64 v1) := HX_a8.out.cell 2
  have c_a3 : w8.cell? ⟨p, 3, none⟩ = some (.int .u64 t1) := HX_a8.out.cell 3
  have c_a4 : w8.cell? ⟨p, 4, none⟩ = some (.int .u64 r1) := HX_a8.out.cell 4
  have c_a5 : w8.cell? ⟨p, 5, none⟩ = some (.int .u64 n1) := HX_a8.out.cell 5
  have c_a6 : w8.cell? ⟨p, 6, none⟩ = some (.int .i64 x1) := HX_a8.out.cell 6
  go_wp2_with fail
  refine (R1.out _).mono ?_
  rintro e w9 ⟨rfl, hb⟩
  have HX_a9 := Lib.hid (show Box w9 p 24 #[.bool u1, .int .u64 k1, .int .u64 v1, .int .u64 t1, .int .u64 r1, .int .u64 n1, .int .i64 x1] from HX_a8.out.of (hb.block _ HX_a8.out.lt))
  have HX_b9 := Lib.hid (show Box w9 (p + 1) 24 #[.bool u2, .int .u64 k2, .int .u64 v2, .int .u64 t2, .int .u64 r2, .int .u64 n2, .int .i64 x2] from HX_b8.out.of (hb.block _ HX_b8.out.lt))
  have HX_x9 := Lib.hid (show Box w9 q1 26 #[.int .u64 (f 0), .int .u64 (f 1), .int .u64 (f 2), .int .u64 (f 3), .int .u64 (f 4), .int .u64 (f 5), .int .u64 (f 6), .int .u64 (f 7)] from HX_x8.out.of (hb.block _ HX_x8.out.lt))
  have HX_y9 := Lib.hid (show Box w9 q2 26 #[.int .u64 (g 0), .int .u64 (g 1), .int .u64 (g 2), .int .u64 (g 3), .int .u64 (g 4), .int .u64 (g 5), .int .u64 (g 6), .int .u64 (g 7)] from HX_y8.out.of (hb.block _ HX_y8.out.lt))
  clear HX_a8 HX_b8 HX_x8 HX_y8
  have HB9 := Lib.hid (HB8.out.trans (hb.mono HB8.out.size))
  clear hb HB8
  clear c_a0 c_a1 c_a2 c_a3 c_a4 c_a5 c_a6
  have c_x0 : w9.cell? ⟨q1, 0, none⟩ = some (.int .u64 (f 0)) := HX_x9.out.cell 0
  have c_x1 : w9.cell? ⟨q1, 1, none⟩ = some (.int .u64 (f 1)) := HX_x9.out.cell 1
  have c_x2 : w9.cell? ⟨q1, 2, none⟩ = some (.int .u64 (f 2)) := HX_x9.out.cell 2
  have c_x3 : w9.cell? ⟨q1, 3, none⟩ = some (.int .u64 (f 3)) := HX_x9.out.cell 3
  have c_x4 : w9.cell? ⟨q1, 4, none⟩ = some (.int .u64 (f 4)) := HX_x9.out.cell 4
  have c_x5 : w9.cell? ⟨q1, 5, none⟩ = some (.int .u64 (f 5)) := HX_x9.out.cell 5
  have c_x6 : w9.cell? ⟨q1, 6, none⟩ = some (.int .u64 (f 6)) := HX_x9.out.cell 6
  have c_x7 : w9.cell? ⟨q1, 7, none⟩ = some (.int .u64 (f 7)) := HX_x9.out.cell 7
  have hq3 := Q3.out
  go_wp2_with fail
  go_ret
  exact ⟨rfl, HB9.out⟩
set_option maxHeartbeats 2000000 in
theorem once_tf (k1 v1 t1 r1 n1 x1 : Int) (u2 : Bool) (k2 v2 t2 r2 n2 x2 : Int) (f g : Nat → Int) (w : World)
    (R1 : Hid (∀ W, Calls Try.prog 16 #[.agg #[.bool true, .int .u64 k1, .int .u64 v1, .int .u64 t1, .int .u64 r1, .int .u64 n1, .int .i64 x1]] W fun e w' => e = .returned (.bool true) ∧ Below W.heap.size W w'))
    (R2 : Hid (∀ W, Calls Try.prog 16 #[.agg #[.bool u2, .int .u64 k2, .int .u64 v2, .int .u64 t2, .int .u64 r2, .int .u64 n2, .int .i64 x2]] W fun e w' => e = .returned (.bool false) ∧ Below W.heap.size W w'))
    (D1 : Hid (∀ W, Calls Try.prog 18 #[.agg #[.bool true, .int .u64 k1, .int .u64 v1, .int .u64 t1, .int .u64 r1, .int .u64 n1, .int .i64 x1]] W fun e w' => e = .returned (.agg #[.int .u64 1, .int .u64 (f 1), .int .u64 (f 2), .int .u64 (f 3), .int .u64 (f 4), .int .u64 (f 5), .int .u64 0, .int .u64 0]) ∧ Below W.heap.size W w'))
    (D2 : Hid (∀ W, Calls Try.prog 18 #[.agg #[.bool u2, .int .u64 k2, .int .u64 v2, .int .u64 t2, .int .u64 r2, .int .u64 n2, .int .i64 x2]] W fun e w' => e = .returned (.agg #[.int .u64 (g 0), .int .u64 (g 1), .int .u64 (g 2), .int .u64 (g 3), .int .u64 (g 4), .int .u64 (g 5), .int .u64 (g 6), .int .u64 (g 7)]) ∧ Below W.heap.size W w')) :
    Calls Try.prog 6 #[.agg #[.bool true, .int .u64 k1, .int .u64 v1, .int .u64 t1, .int .u64 r1, .int .u64 n1, .int .i64 x1], .agg #[.bool u2, .int .u64 k2, .int .u64 v2, .int .u64 t2, .int .u64 r2, .int .u64 n2, .int .i64 x2]] w fun e w' => e = .returned (.bool true) ∧ Below w.heap.size w w' := by
  obtain ⟨p, hp⟩ : ∃ p, w.heap.size = p := ⟨_, rfl⟩
  obtain ⟨w2, hw2⟩ : ∃ w9, ((w.alloc (.cells #[.bool true, .int .u64 k1, .int .u64 v1, .int .u64 t1, .int .u64 r1, .int .u64 n1, .int .i64 x1] 24)).alloc (.cells #[.bool u2, .int .u64 k2, .int .u64 v2, .int .u64 t2, .int .u64 r2, .int .u64 n2, .int .i64 x2] 24)) = w9 := ⟨_, rfl⟩
  have hx0 : Box w2 (p) 24 #[.bool true, .int .u64 k1, .int .u64 v1, .int .u64 t1, .int .u64 r1, .int .u64 n1, .int .i64 x1] := by
    have h9 := ((Box.new w 24 #[.bool true, .int .u64 k1, .int .u64 v1, .int .u64 t1, .int .u64 r1, .int .u64 n1, .int .i64 x1])).alloc (.cells #[.bool u2, .int .u64 k2, .int .u64 v2, .int .u64 t2, .int .u64 r2, .int .u64 n2, .int .i64 x2] 24)
    try simp only [World.size_alloc] at h9
    simp only [hp, hw2] at h9
    exact h9
  have hx1 : Box w2 (p + 1) 24 #[.bool u2, .int .u64 k2, .int .u64 v2, .int .u64 t2, .int .u64 r2, .int .u64 n2, .int .i64 x2] := by
    have h9 := (Box.new (w.alloc (.cells #[.bool true, .int .u64 k1, .int .u64 v1, .int .u64 t1, .int .u64 r1, .int .u64 n1, .int .i64 x1] 24)) 24 #[.bool u2, .int .u64 k2, .int .u64 v2, .int .u64 t2, .int .u64 r2, .int .u64 n2, .int .i64 x2])
    try simp only [World.size_alloc] at h9
    simp only [hp, hw2] at h9
    exact h9
  have hB : Below w.heap.size w w2 := by
    have h9 := (((Below.refl w.heap.size w).alloc (by simp; try omega) (.cells #[.bool true, .int .u64 k1, .int .u64 v1, .int .u64 t1, .int .u64 r1, .int .u64 n1, .int .i64 x1] 24)).alloc (by simp; try omega) (.cells #[.bool u2, .int .u64 k2, .int .u64 v2, .int .u64 t2, .int .u64 r2, .int .u64 n2, .int .i64 x2] 24))
    rw [hw2] at h9
    exact h9
  have hS : w2.heap.size = p + 2 := by rw [← hw2]; simp [hp]
  have HX_a2 := Lib.hid hx0
  have HX_b2 := Lib.hid hx1
  have HB2 := Lib.hid hB
  have HPP := Lib.hid hp
  have HW := Lib.hid hw2
  clear hx0 hx1 hB hS hp hw2
  go_enter Try.func6, Try.ntmps6
  go_upto_region 1 with fail
  simp only [HPP.out, HW.out]
  clear HPP HW
  go_wp2_with fail
  refine (slshown_any _).mono ?_
  rintro e w3 ⟨rfl, hb⟩
  have HX_a3 := Lib.hid (show Box w3 p 24 #[.bool true, .int .u64 k1, .int .u64 v1, .int .u64 t1, .int .u64 r1, .int .u64 n1, .int .i64 x1] from HX_a2.out.of (hb.block _ HX_a2.out.lt))
  have HX_b3 := Lib.hid (show Box w3 (p + 1) 24 #[.bool u2, .int .u64 k2, .int .u64 v2, .int .u64 t2, .int .u64 r2, .int .u64 n2, .int .i64 x2] from HX_b2.out.of (hb.block _ HX_b2.out.lt))
  clear HX_a2 HX_b2
  have HB3 := Lib.hid (HB2.out.trans (hb.mono HB2.out.size))
  clear hb HB2
  have c_a0 : w3.cell? ⟨p, 0, none⟩ = some (.bool true) := HX_a3.out.cell 0
  have c_a1 : w3.cell? ⟨p, 1, none⟩ = some (.int .u64 k1) := HX_a3.out.cell 1
  have c_a2 : w3.cell? ⟨p, 2, none⟩ = some (.int .u64 v1) := HX_a3.out.cell 2
  have c_a3 : w3.cell? ⟨p, 3, none⟩ = some (.int .u64 t1) := HX_a3.out.cell 3
  have c_a4 : w3.cell? ⟨p, 4, none⟩ = some (.int .u64 r1) := HX_a3.out.cell 4
  have c_a5 : w3.cell? ⟨p, 5, none⟩ = some (.int .u64 n1) := HX_a3.out.cell 5
  have c_a6 : w3.cell? ⟨p, 6, none⟩ = some (.int .i64 x1) := HX_a3.out.cell 6
  go_wp2_with fail
  refine (D1.out _).mono ?_
  rintro e w4 ⟨rfl, hb⟩
  have HX_a4 := Lib.hid (show Box w4 p 24 #[.bool true, .int .u64 k1, .int .u64 v1, .int .u64 t1, .int .u64 r1, .int .u64 n1, .int .i64 x1] from HX_a3.out.of (hb.block _ HX_a3.out.lt))
  have HX_b4 := Lib.hid (show Box w4 (p + 1) 24 #[.bool u2, .int .u64 k2, .int .u64 v2, .int .u64 t2, .int .u64 r2, .int .u64 n2, .int .i64 x2] from HX_b3.out.of (hb.block _ HX_b3.out.lt))
  clear HX_a3 HX_b3
  have HB4 := Lib.hid (HB3.out.trans (hb.mono HB3.out.size))
  clear hb HB3
  clear c_a0 c_a1 c_a2 c_a3 c_a4 c_a5 c_a6
  go_upto_region 3 with (fail)
  obtain ⟨q1, hq⟩ : ∃ q9, w4.heap.size = q9 := ⟨_, rfl⟩
  obtain ⟨w5, hw9⟩ : ∃ w9, w4.alloc (.cells #[.int .u64 1, .int .u64 (f 1), .int .u64 (f 2), .int .u64 (f 3), .int .u64 (f 4), .int .u64 (f 5), .int .u64 0, .int .u64 0] 26) = w9 := ⟨_, rfl⟩
  have HX_a5 := Lib.hid (show Box w5 p 24 #[.bool true, .int .u64 k1, .int .u64 v1, .int .u64 t1, .int .u64 r1, .int .u64 n1, .int .i64 x1] by rw [← hw9]; exact HX_a4.out.alloc _)
  have HX_b5 := Lib.hid (show Box w5 (p + 1) 24 #[.bool u2, .int .u64 k2, .int .u64 v2, .int .u64 t2, .int .u64 r2, .int .u64 n2, .int .i64 x2] by rw [← hw9]; exact HX_b4.out.alloc _)
  have HX_x5 := Lib.hid (show Box w5 q1 26 #[.int .u64 1, .int .u64 (f 1), .int .u64 (f 2), .int .u64 (f 3), .int .u64 (f 4), .int .u64 (f 5), .int .u64 0, .int .u64 0] by rw [← hw9, ← hq]; exact Box.new w4 _ _)
  have HB5 := Lib.hid (show Below w.heap.size w w5 by rw [← hw9]; exact HB4.out.alloc HB4.out.size _)
  have HS_x := Lib.hid (show w.heap.size ≤ q1 by rw [← hq]; exact HB4.out.size)
  simp only [hw9, hq]
  clear hq hw9 HB4 HX_a4 HX_b4
  have c_b0 : w5.cell? ⟨p + 1, 0, none⟩ = some (.bool u2) := HX_b5.out.cell 0
  have c_b1 : w5.cell? ⟨p + 1, 1, none⟩ = some (.int .u64 k2) := HX_b5.out.cell 1
  have c_b2 : w5.cell? ⟨p + 1, 2, none⟩ = some (.int .u64 v2) := HX_b5.out.cell 2
  have c_b3 : w5.cell? ⟨p + 1, 3, none⟩ = some (.int .u64 t2) := HX_b5.out.cell 3
  have c_b4 : w5.cell? ⟨p + 1, 4, none⟩ = some (.int .u64 r2) := HX_b5.out.cell 4
  have c_b5 : w5.cell? ⟨p + 1, 5, none⟩ = some (.int .u64 n2) := HX_b5.out.cell 5
  have c_b6 : w5.cell? ⟨p + 1, 6, none⟩ = some (.int .i64 x2) := HX_b5.out.cell 6
  go_wp2_with fail
  refine (D2.out _).mono ?_
  rintro e w6 ⟨rfl, hb⟩
  have HX_a6 := Lib.hid (show Box w6 p 24 #[.bool true, .int .u64 k1, .int .u64 v1, .int .u64 t1, .int .u64 r1, .int .u64 n1, .int .i64 x1] from HX_a5.out.of (hb.block _ HX_a5.out.lt))
  have HX_b6 := Lib.hid (show Box w6 (p + 1) 24 #[.bool u2, .int .u64 k2, .int .u64 v2, .int .u64 t2, .int .u64 r2, .int .u64 n2, .int .i64 x2] from HX_b5.out.of (hb.block _ HX_b5.out.lt))
  have HX_x6 := Lib.hid (show Box w6 q1 26 #[.int .u64 1, .int .u64 (f 1), .int .u64 (f 2), .int .u64 (f 3), .int .u64 (f 4), .int .u64 (f 5), .int .u64 0, .int .u64 0] from HX_x5.out.of (hb.block _ HX_x5.out.lt))
  clear HX_a5 HX_b5 HX_x5
  have HB6 := Lib.hid (HB5.out.trans (hb.mono HB5.out.size))
  clear hb HB5
  clear c_b0 c_b1 c_b2 c_b3 c_b4 c_b5 c_b6
  go_upto_region 4 with (fail)
  obtain ⟨q2, hq⟩ : ∃ q9, w6.heap.size = q9 := ⟨_, rfl⟩
  obtain ⟨w7, hw9⟩ : ∃ w9, w6.alloc (.cells #[.int .u64 (g 0), .int .u64 (g 1), .int .u64 (g 2), .int .u64 (g 3), .int .u64 (g 4), .int .u64 (g 5), .int .u64 (g 6), .int .u64 (g 7)] 26) = w9 := ⟨_, rfl⟩
  have HX_a7 := Lib.hid (show Box w7 p 24 #[.bool true, .int .u64 k1, .int .u64 v1, .int .u64 t1, .int .u64 r1, .int .u64 n1, .int .i64 x1] by rw [← hw9]; exact HX_a6.out.alloc _)
  have HX_b7 := Lib.hid (show Box w7 (p + 1) 24 #[.bool u2, .int .u64 k2, .int .u64 v2, .int .u64 t2, .int .u64 r2, .int .u64 n2, .int .i64 x2] by rw [← hw9]; exact HX_b6.out.alloc _)
  have HX_x7 := Lib.hid (show Box w7 q1 26 #[.int .u64 1, .int .u64 (f 1), .int .u64 (f 2), .int .u64 (f 3), .int .u64 (f 4), .int .u64 (f 5), .int .u64 0, .int .u64 0] by rw [← hw9]; exact HX_x6.out.alloc _)
  have HX_y7 := Lib.hid (show Box w7 q2 26 #[.int .u64 (g 0), .int .u64 (g 1), .int .u64 (g 2), .int .u64 (g 3), .int .u64 (g 4), .int .u64 (g 5), .int .u64 (g 6), .int .u64 (g 7)] by rw [← hw9, ← hq]; exact Box.new w6 _ _)
  have HB7 := Lib.hid (show Below w.heap.size w w7 by rw [← hw9]; exact HB6.out.alloc HB6.out.size _)
  have HS_y := Lib.hid (show w.heap.size ≤ q2 by rw [← hq]; exact HB6.out.size)
  simp only [hw9, hq]
  clear hq hw9 HB6 HX_a6 HX_b6 HX_x6
  go_upto_region 4 with fail
  have c_a0 := Gr.cell (show w7.cell? ⟨p, 0, none⟩ = some (.bool true) from HX_a7.out.cell 0)
  have c_a1 := Gr.cell (show w7.cell? ⟨p, 1, none⟩ = some (.int .u64 k1) from HX_a7.out.cell 1)
  have c_a2 := Gr.cell (show w7.cell? ⟨p, 2, none⟩ = some (.int .u64 v1) from HX_a7.out.cell 2)
  have c_a3 := Gr.cell (show w7.cell? ⟨p, 3, none⟩ = some (.int .u64 t1) from HX_a7.out.cell 3)
  have c_a4 := Gr.cell (show w7.cell? ⟨p, 4, none⟩ = some (.int .u64 r1) from HX_a7.out.cell 4)
  have c_a5 := Gr.cell (show w7.cell? ⟨p, 5, none⟩ = some (.int .u64 n1) from HX_a7.out.cell 5)
  have c_a6 := Gr.cell (show w7.cell? ⟨p, 6, none⟩ = some (.int .i64 x1) from HX_a7.out.cell 6)
  have c_b0 := Gr.cell (show w7.cell? ⟨p + 1, 0, none⟩ = some (.bool u2) from HX_b7.out.cell 0)
  have c_b1 := Gr.cell (show w7.cell? ⟨p + 1, 1, none⟩ = some (.int .u64 k2) from HX_b7.out.cell 1)
  have c_b2 := Gr.cell (show w7.cell? ⟨p + 1, 2, none⟩ = some (.int .u64 v2) from HX_b7.out.cell 2)
  have c_b3 := Gr.cell (show w7.cell? ⟨p + 1, 3, none⟩ = some (.int .u64 t2) from HX_b7.out.cell 3)
  have c_b4 := Gr.cell (show w7.cell? ⟨p + 1, 4, none⟩ = some (.int .u64 r2) from HX_b7.out.cell 4)
  have c_b5 := Gr.cell (show w7.cell? ⟨p + 1, 5, none⟩ = some (.int .u64 n2) from HX_b7.out.cell 5)
  have c_b6 := Gr.cell (show w7.cell? ⟨p + 1, 6, none⟩ = some (.int .i64 x2) from HX_b7.out.cell 6)
  refine wp_region_grow (by kernel_rfl) (by kernel_rfl) ?_
  repeat (go_big_quiet_step (first | (go_at_call 16; first | with_reducible exact Gr.blw (R1.out _) | with_reducible exact Gr.blw (R2.out _))))
  refine wpQuiet_nil ?_
  intro w12 hw12
  obtain ⟨G, hG⟩ := hw12
  subst hG
  obtain ⟨w8, hw9⟩ : ∃ w9, G.w' = w9 := ⟨_, rfl⟩
  have ho9 : Only nobody w7 w8 := by rw [← hw9]; exact G.ok
  rw [hw9]
  have HX_a8 := Lib.hid (show Box w8 p 24 #[.bool true, .int .u64 k1, .int .u64 v1, .int .u64 t1, .int .u64 r1, .int .u64 n1, .int .i64 x1] from HX_a7.out.only ho9 (not_nobody _))
  have HX_b8 := Lib.hid (show Box w8 (p + 1) 24 #[.bool u2, .int .u64 k2, .int .u64 v2, .int .u64 t2, .int .u64 r2, .int .u64 n2, .int .i64 x2] from HX_b7.out.only ho9 (not_nobody _))
  have HX_x8 := Lib.hid (show Box w8 q1 26 #[.int .u64 1, .int .u64 (f 1), .int .u64 (f 2), .int .u64 (f 3), .int .u64 (f 4), .int .u64 (f 5), .int .u64 0, .int .u64 0] from HX_x7.out.only ho9 (not_nobody _))
  have HX_y8 := Lib.hid (show Box w8 q2 26 #[.int .u64 (g 0), .int .u64 (g 1), .int .u64 (g 2), .int .u64 (g 3), .int .u64 (g 4), .int .u64 (g 5), .int .u64 (g 6), .int .u64 (g 7)] from HX_y7.out.only ho9 (not_nobody _))
  clear HX_a7 HX_b7 HX_x7 HX_y7
  have HB8 := Lib.hid (HB7.out.trans (ho9.none.mono HB7.out.size))
  clear c_a0 c_a1 c_a2 c_a3 c_a4 c_a5 c_a6
  clear c_b0 c_b1 c_b2 c_b3 c_b4 c_b5 c_b6
  clear ho9 hw9 HB7 G
  have c_a0 : w8.cell? ⟨p, 0, none⟩ = some (.bool true) := HX_a8.out.cell 0
  have c_a1 : w8.cell? ⟨p, 1, none⟩ = some (.int .u64 k1) := HX_a8.out.cell 1
  have c_a2 : w8.cell? ⟨p, 2, none⟩ = some (.int .u64 v1) := HX_a8.out.cell 2
  have c_a3 : w8.cell? ⟨p, 3, none⟩ = some (.int .u64 t1) := HX_a8.out.cell 3
  have c_a4 : w8.cell? ⟨p, 4, none⟩ = some (.int .u64 r1) := HX_a8.out.cell 4
  have c_a5 : w8.cell? ⟨p, 5, none⟩ = some (.int .u64 n1) := HX_a8.out.cell 5
  have c_a6 : w8.cell? ⟨p, 6, none⟩ = some (.int .i64 x1) := HX_a8.out.cell 6
  go_wp2_with fail
  refine (R1.out _).mono ?_
  rintro e w9 ⟨rfl, hb⟩
  have HX_a9 := Lib.hid (show Box w9 p 24 #[.bool true, .int .u64 k1, .int .u64 v1, .int .u64 t1, .int .u64 r1, .int .u64 n1, .int .i64 x1] from HX_a8.out.of (hb.block _ HX_a8.out.lt))
  have HX_b9 := Lib.hid (show Box w9 (p + 1) 24 #[.bool u2, .int .u64 k2, .int .u64 v2, .int .u64 t2, .int .u64 r2, .int .u64 n2, .int .i64 x2] from HX_b8.out.of (hb.block _ HX_b8.out.lt))
  have HX_x9 := Lib.hid (show Box w9 q1 26 #[.int .u64 1, .int .u64 (f 1), .int .u64 (f 2), .int .u64 (f 3), .int .u64 (f 4), .int .u64 (f 5), .int .u64 0, .int .u64 0] from HX_x8.out.of (hb.block _ HX_x8.out.lt))
  have HX_y9 := Lib.hid (show Box w9 q2 26 #[.int .u64 (g 0), .int .u64 (g 1), .int .u64 (g 2), .int .u64 (g 3), .int .u64 (g 4), .int .u64 (g 5), .int .u64 (g 6), .int .u64 (g 7)] from HX_y8.out.of (hb.block _ HX_y8.out.lt))
  clear HX_a8 HX_b8 HX_x8 HX_y8
  have HB9 := Lib.hid (HB8.out.trans (hb.mono HB8.out.size))
  clear hb HB8
  clear c_a0 c_a1 c_a2 c_a3 c_a4 c_a5 c_a6
  have c_a0 : w9.cell? ⟨p, 0, none⟩ = some (.bool true) := HX_a9.out.cell 0
  have c_a1 : w9.cell? ⟨p, 1, none⟩ = some (.int .u64 k1) := HX_a9.out.cell 1
  have c_a2 : w9.cell? ⟨p, 2, none⟩ = some (.int .u64 v1) := HX_a9.out.cell 2
  have c_a3 : w9.cell? ⟨p, 3, none⟩ = some (.int .u64 t1) := HX_a9.out.cell 3
  have c_a4 : w9.cell? ⟨p, 4, none⟩ = some (.int .u64 r1) := HX_a9.out.cell 4
  have c_a5 : w9.cell? ⟨p, 5, none⟩ = some (.int .u64 n1) := HX_a9.out.cell 5
  have c_a6 : w9.cell? ⟨p, 6, none⟩ = some (.int .i64 x1) := HX_a9.out.cell 6
  have c_x0 : w9.cell? ⟨q1, 0, none⟩ = some (.int .u64 1) := HX_x9.out.cell 0
  have c_x1 : w9.cell? ⟨q1, 1, none⟩ = some (.int .u64 (f 1)) := HX_x9.out.cell 1
  have c_x2 : w9.cell? ⟨q1, 2, none⟩ = some (.int .u64 (f 2)) := HX_x9.out.cell 2
  have c_x3 : w9.cell? ⟨q1, 3, none⟩ = some (.int .u64 (f 3)) := HX_x9.out.cell 3
  have c_x4 : w9.cell? ⟨q1, 4, none⟩ = some (.int .u64 (f 4)) := HX_x9.out.cell 4
  have c_x5 : w9.cell? ⟨q1, 5, none⟩ = some (.int .u64 (f 5)) := HX_x9.out.cell 5
  have c_x6 : w9.cell? ⟨q1, 6, none⟩ = some (.int .u64 0) := HX_x9.out.cell 6
  have c_x7 : w9.cell? ⟨q1, 7, none⟩ = some (.int .u64 0) := HX_x9.out.cell 7
  go_wp2_with fail
  go_ret
  exact ⟨rfl, HB9.out⟩
set_option maxHeartbeats 2000000 in
theorem once_tt (k1 v1 t1 r1 n1 x1 : Int) (u2 : Bool) (k2 v2 t2 r2 n2 x2 : Int) (f g : Nat → Int) (B : Bool) (w : World)
    (R1 : Hid (∀ W, Calls Try.prog 16 #[.agg #[.bool true, .int .u64 k1, .int .u64 v1, .int .u64 t1, .int .u64 r1, .int .u64 n1, .int .i64 x1]] W fun e w' => e = .returned (.bool true) ∧ Below W.heap.size W w'))
    (R2 : Hid (∀ W, Calls Try.prog 16 #[.agg #[.bool u2, .int .u64 k2, .int .u64 v2, .int .u64 t2, .int .u64 r2, .int .u64 n2, .int .i64 x2]] W fun e w' => e = .returned (.bool true) ∧ Below W.heap.size W w'))
    (D1 : Hid (∀ W, Calls Try.prog 18 #[.agg #[.bool true, .int .u64 k1, .int .u64 v1, .int .u64 t1, .int .u64 r1, .int .u64 n1, .int .i64 x1]] W fun e w' => e = .returned (.agg #[.int .u64 1, .int .u64 (f 1), .int .u64 (f 2), .int .u64 (f 3), .int .u64 (f 4), .int .u64 (f 5), .int .u64 0, .int .u64 0]) ∧ Below W.heap.size W w'))
    (D2 : Hid (∀ W, Calls Try.prog 18 #[.agg #[.bool u2, .int .u64 k2, .int .u64 v2, .int .u64 t2, .int .u64 r2, .int .u64 n2, .int .i64 x2]] W fun e w' => e = .returned (.agg #[.int .u64 (g 0), .int .u64 (g 1), .int .u64 (g 2), .int .u64 (g 3), .int .u64 (g 4), .int .u64 (g 5), .int .u64 (g 6), .int .u64 (g 7)]) ∧ Below W.heap.size W w'))
    (Q1 : Hid (∀ W, (binOp .eql 26 (.agg #[.int .u64 1, .int .u64 (f 1), .int .u64 (f 2), .int .u64 (f 3), .int .u64 (f 4), .int .u64 (f 5), .int .u64 0, .int .u64 0]) (.agg #[.int .u64 (g 0), .int .u64 (g 1), .int .u64 (g 2), .int .u64 (g 3), .int .u64 (g 4), .int .u64 (g 5), .int .u64 (g 6), .int .u64 (g 7)])).run Try.prog W = .ok (.bool (B)) W))
    (Q2 : Hid (∀ W, (binOp .eql 24 (.agg #[.bool true, .int .u64 k1, .int .u64 v1, .int .u64 t1, .int .u64 r1, .int .u64 n1, .int .i64 x1]) (.agg #[.bool u2, .int .u64 k2, .int .u64 v2, .int .u64 t2, .int .u64 r2, .int .u64 n2, .int .i64 x2])).run Try.prog W = .ok (.bool (B)) W)) :
    Calls Try.prog 6 #[.agg #[.bool true, .int .u64 k1, .int .u64 v1, .int .u64 t1, .int .u64 r1, .int .u64 n1, .int .i64 x1], .agg #[.bool u2, .int .u64 k2, .int .u64 v2, .int .u64 t2, .int .u64 r2, .int .u64 n2, .int .i64 x2]] w fun e w' => e = .returned (.bool true) ∧ Below w.heap.size w w' := by
  obtain ⟨p, hp⟩ : ∃ p, w.heap.size = p := ⟨_, rfl⟩
  obtain ⟨w2, hw2⟩ : ∃ w9, ((w.alloc (.cells #[.bool true, .int .u64 k1, .int .u64 v1, .int .u64 t1, .int .u64 r1, .int .u64 n1, .int .i64 x1] 24)).alloc (.cells #[.bool u2, .int .u64 k2, .int .u64 v2, .int .u64 t2, .int .u64 r2, .int .u64 n2, .int .i64 x2] 24)) = w9 := ⟨_, rfl⟩
  have hx0 : Box w2 (p) 24 #[.bool true, .int .u64 k1, .int .u64 v1, .int .u64 t1, .int .u64 r1, .int .u64 n1, .int .i64 x1] := by
    have h9 := ((Box.new w 24 #[.bool true, .int .u64 k1, .int .u64 v1, .int .u64 t1, .int .u64 r1, .int .u64 n1, .int .i64 x1])).alloc (.cells #[.bool u2, .int .u64 k2, .int .u64 v2, .int .u64 t2, .int .u64 r2, .int .u64 n2, .int .i64 x2] 24)
    try simp only [World.size_alloc] at h9
    simp only [hp, hw2] at h9
    exact h9
  have hx1 : Box w2 (p + 1) 24 #[.bool u2, .int .u64 k2, .int .u64 v2, .int .u64 t2, .int .u64 r2, .int .u64 n2, .int .i64 x2] := by
    have h9 := (Box.new (w.alloc (.cells #[.bool true, .int .u64 k1, .int .u64 v1, .int .u64 t1, .int .u64 r1, .int .u64 n1, .int .i64 x1] 24)) 24 #[.bool u2, .int .u64 k2, .int .u64 v2, .int .u64 t2, .int .u64 r2, .int .u64 n2, .int .i64 x2])
    try simp only [World.size_alloc] at h9
    simp only [hp, hw2] at h9
    exact h9
  have hB : Below w.heap.size w w2 := by
    have h9 := (((Below.refl w.heap.size w).alloc (by simp; try omega) (.cells #[.bool true, .int .u64 k1, .int .u64 v1, .int .u64 t1, .int .u64 r1, .int .u64 n1, .int .i64 x1] 24)).alloc (by simp; try omega) (.cells #[.bool u2, .int .u64 k2, .int .u64 v2, .int .u64 t2, .int .u64 r2, .int .u64 n2, .int .i64 x2] 24))
    rw [hw2] at h9
    exact h9
  have hS : w2.heap.size = p + 2 := by rw [← hw2]; simp [hp]
  have HX_a2 := Lib.hid hx0
  have HX_b2 := Lib.hid hx1
  have HB2 := Lib.hid hB
  have HPP := Lib.hid hp
  have HW := Lib.hid hw2
  clear hx0 hx1 hB hS hp hw2
  go_enter Try.func6, Try.ntmps6
  go_upto_region 1 with fail
  simp only [HPP.out, HW.out]
  clear HPP HW
  go_wp2_with fail
  refine (slshown_any _).mono ?_
  rintro e w3 ⟨rfl, hb⟩
  have HX_a3 := Lib.hid (show Box w3 p 24 #[.bool true, .int .u64 k1, .int .u64 v1, .int .u64 t1, .int .u64 r1, .int .u64 n1, .int .i64 x1] from HX_a2.out.of (hb.block _ HX_a2.out.lt))
  have HX_b3 := Lib.hid (show Box w3 (p + 1) 24 #[.bool u2, .int .u64 k2, .int .u64 v2, .int .u64 t2, .int .u64 r2, .int .u64 n2, .int .i64 x2] from HX_b2.out.of (hb.block _ HX_b2.out.lt))
  clear HX_a2 HX_b2
  have HB3 := Lib.hid (HB2.out.trans (hb.mono HB2.out.size))
  clear hb HB2
  have c_a0 : w3.cell? ⟨p, 0, none⟩ = some (.bool true) := HX_a3.out.cell 0
  have c_a1 : w3.cell? ⟨p, 1, none⟩ = some (.int .u64 k1) := HX_a3.out.cell 1
  have c_a2 : w3.cell? ⟨p, 2, none⟩ = some (.int .u64 v1) := HX_a3.out.cell 2
  have c_a3 : w3.cell? ⟨p, 3, none⟩ = some (.int .u64 t1) := HX_a3.out.cell 3
  have c_a4 : w3.cell? ⟨p, 4, none⟩ = some (.int .u64 r1) := HX_a3.out.cell 4
  have c_a5 : w3.cell? ⟨p, 5, none⟩ = some (.int .u64 n1) := HX_a3.out.cell 5
  have c_a6 : w3.cell? ⟨p, 6, none⟩ = some (.int .i64 x1) := HX_a3.out.cell 6
  go_wp2_with fail
  refine (D1.out _).mono ?_
  rintro e w4 ⟨rfl, hb⟩
  have HX_a4 := Lib.hid (show Box w4 p 24 #[.bool true, .int .u64 k1, .int .u64 v1, .int .u64 t1, .int .u64 r1, .int .u64 n1, .int .i64 x1] from HX_a3.out.of (hb.block _ HX_a3.out.lt))
  have HX_b4 := Lib.hid (show Box w4 (p + 1) 24 #[.bool u2, .int .u64 k2, .int .u64 v2, .int .u64 t2, .int .u64 r2, .int .u64 n2, .int .i64 x2] from HX_b3.out.of (hb.block _ HX_b3.out.lt))
  clear HX_a3 HX_b3
  have HB4 := Lib.hid (HB3.out.trans (hb.mono HB3.out.size))
  clear hb HB3
  clear c_a0 c_a1 c_a2 c_a3 c_a4 c_a5 c_a6
  go_upto_region 3 with (fail)
  obtain ⟨q1, hq⟩ : ∃ q9, w4.heap.size = q9 := ⟨_, rfl⟩
  obtain ⟨w5, hw9⟩ : ∃ w9, w4.alloc (.cells #[.int .u64 1, .int .u64 (f 1), .int .u64 (f 2), .int .u64 (f 3), .int .u64 (f 4), .int .u64 (f 5), .int .u64 0, .int .u64 0] 26) = w9 := ⟨_, rfl⟩
  have HX_a5 := Lib.hid (show Box w5 p 24 #[.bool true, .int .u64 k1, .int .u64 v1, .int .u64 t1, .int .u64 r1, .int .u64 n1, .int .i64 x1] by rw [← hw9]; exact HX_a4.out.alloc _)
  have HX_b5 := Lib.hid (show Box w5 (p + 1) 24 #[.bool u2, .int .u64 k2, .int .u64 v2, .int .u64 t2, .int .u64 r2, .int .u64 n2, .int .i64 x2] by rw [← hw9]; exact HX_b4.out.alloc _)
  have HX_x5 := Lib.hid (show Box w5 q1 26 #[.int .u64 1, .int .u64 (f 1), .int .u64 (f 2), .int .u64 (f 3), .int .u64 (f 4), .int .u64 (f 5), .int .u64 0, .int .u64 0] by rw [← hw9, ← hq]; exact Box.new w4 _ _)
  have HB5 := Lib.hid (show Below w.heap.size w w5 by rw [← hw9]; exact HB4.out.alloc HB4.out.size _)
  have HS_x := Lib.hid (show w.heap.size ≤ q1 by rw [← hq]; exact HB4.out.size)
  simp only [hw9, hq]
  clear hq hw9 HB4 HX_a4 HX_b4
  have c_b0 : w5.cell? ⟨p + 1, 0, none⟩ = some (.bool u2) := HX_b5.out.cell 0
  have c_b1 : w5.cell? ⟨p + 1, 1, none⟩ = some (.int .u64 k2) := HX_b5.out.cell 1
  have c_b2 : w5.cell? ⟨p + 1, 2, none⟩ = some (.int .u64 v2) := HX_b5.out.cell 2
  have c_b3 : w5.cell? ⟨p + 1, 3, none⟩ = some (.int .u64 t2) := HX_b5.out.cell 3
  have c_b4 : w5.cell? ⟨p + 1, 4, none⟩ = some (.int .u64 r2) := HX_b5.out.cell 4
  have c_b5 : w5.cell? ⟨p + 1, 5, none⟩ = some (.int .u64 n2) := HX_b5.out.cell 5
  have c_b6 : w5.cell? ⟨p + 1, 6, none⟩ = some (.int .i64 x2) := HX_b5.out.cell 6
  go_wp2_with fail
  refine (D2.out _).mono ?_
  rintro e w6 ⟨rfl, hb⟩
  have HX_a6 := Lib.hid (show Box w6 p 24 #[.bool true, .int .u64 k1, .int .u64 v1, .int .u64 t1, .int .u64 r1, .int .u64 n1, .int .i64 x1] from HX_a5.out.of (hb.block _ HX_a5.out.lt))
  have HX_b6 := Lib.hid (show Box w6 (p + 1) 24 #[.bool u2, .int .u64 k2, .int .u64 v2, .int .u64 t2, .int .u64 r2, .int .u64 n2, .int .i64 x2] from HX_b5.out.of (hb.block _ HX_b5.out.lt))
  have HX_x6 := Lib.hid (show Box w6 q1 26 #[.int .u64 1, .int .u64 (f 1), .int .u64 (f 2), .int .u64 (f 3), .int .u64 (f 4), .int .u64 (f 5), .int .u64 0, .int .u64 0] from HX_x5.out.of (hb.block _ HX_x5.out.lt))
  clear HX_a5 HX_b5 HX_x5
  have HB6 := Lib.hid (HB5.out.trans (hb.mono HB5.out.size))
  clear hb HB5
  clear c_b0 c_b1 c_b2 c_b3 c_b4 c_b5 c_b6
  go_upto_region 4 with (fail)
  obtain ⟨q2, hq⟩ : ∃ q9, w6.heap.size = q9 := ⟨_, rfl⟩
  obtain ⟨w7, hw9⟩ : ∃ w9, w6.alloc (.cells #[.int .u64 (g 0), .int .u64 (g 1), .int .u64 (g 2), .int .u64 (g 3), .int .u64 (g 4), .int .u64 (g 5), .int .u64 (g 6), .int .u64 (g 7)] 26) = w9 := ⟨_, rfl⟩
  have HX_a7 := Lib.hid (show Box w7 p 24 #[.bool true, .int .u64 k1, .int .u64 v1, .int .u64 t1, .int .u64 r1, .int .u64 n1, .int .i64 x1] by rw [← hw9]; exact HX_a6.out.alloc _)
  have HX_b7 := Lib.hid (show Box w7 (p + 1) 24 #[.bool u2, .int .u64 k2, .int .u64 v2, .int .u64 t2, .int .u64 r2, .int .u64 n2, .int .i64 x2] by rw [← hw9]; exact HX_b6.out.alloc _)
  have HX_x7 := Lib.hid (show Box w7 q1 26 #[.int .u64 1, .int .u64 (f 1), .int .u64 (f 2), .int .u64 (f 3), .int .u64 (f 4), .int .u64 (f 5), .int .u64 0, .int .u64 0] by rw [← hw9]; exact HX_x6.out.alloc _)
  have HX_y7 := Lib.hid (show Box w7 q2 26 #[.int .u64 (g 0), .int .u64 (g 1), .int .u64 (g 2), .int .u64 (g 3), .int .u64 (g 4), .int .u64 (g 5), .int .u64 (g 6), .int .u64 (g 7)] by rw [← hw9, ← hq]; exact Box.new w6 _ _)
  have HB7 := Lib.hid (show Below w.heap.size w w7 by rw [← hw9]; exact HB6.out.alloc HB6.out.size _)
  have HS_y := Lib.hid (show w.heap.size ≤ q2 by rw [← hq]; exact HB6.out.size)
  simp only [hw9, hq]
  clear hq hw9 HB6 HX_a6 HX_b6 HX_x6
  have hq1 := Q1.out
  have hq2 := Q2.out
  clear Q1 Q2
  cases B
  · go_upto_region 4 with fail
    have c_a0 := Gr.cell (show w7.cell? ⟨p, 0, none⟩ = some (.bool true) from HX_a7.out.cell 0)
    have c_a1 := Gr.cell (show w7.cell? ⟨p, 1, none⟩ = some (.int .u64 k1) from HX_a7.out.cell 1)
    have c_a2 := Gr.cell (show w7.cell? ⟨p, 2, none⟩ = some (.int .u64 v1) from HX_a7.out.cell 2)
    have c_a3 := Gr.cell (show w7.cell? ⟨p, 3, none⟩ = some (.int .u64 t1) from HX_a7.out.cell 3)
    have c_a4 := Gr.cell (show w7.cell? ⟨p, 4, none⟩ = some (.int .u64 r1) from HX_a7.out.cell 4)
    have c_a5 := Gr.cell (show w7.cell? ⟨p, 5, none⟩ = some (.int .u64 n1) from HX_a7.out.cell 5)
    have c_a6 := Gr.cell (show w7.cell? ⟨p, 6, none⟩ = some (.int .i64 x1) from HX_a7.out.cell 6)
    have c_b0 := Gr.cell (show w7.cell? ⟨p + 1, 0, none⟩ = some (.bool u2) from HX_b7.out.cell 0)
    have c_b1 := Gr.cell (show w7.cell? ⟨p + 1, 1, none⟩ = some (.int .u64 k2) from HX_b7.out.cell 1)
    have c_b2 := Gr.cell (show w7.cell? ⟨p + 1, 2, none⟩ = some (.int .u64 v2) from HX_b7.out.cell 2)
    have c_b3 := Gr.cell (show w7.cell? ⟨p + 1, 3, none⟩ = some (.int .u64 t2) from HX_b7.out.cell 3)
    have c_b4 := Gr.cell (show w7.cell? ⟨p + 1, 4, none⟩ = some (.int .u64 r2) from HX_b7.out.cell 4)
    have c_b5 := Gr.cell (show w7.cell? ⟨p + 1, 5, none⟩ = some (.int .u64 n2) from HX_b7.out.cell 5)
    have c_b6 := Gr.cell (show w7.cell? ⟨p + 1, 6, none⟩ = some (.int .i64 x2) from HX_b7.out.cell 6)
    have c_x0 := Gr.cell (show w7.cell? ⟨q1, 0, none⟩ = some (.int .u64 1) from HX_x7.out.cell 0)
    have c_x1 := Gr.cell (show w7.cell? ⟨q1, 1, none⟩ = some (.int .u64 (f 1)) from HX_x7.out.cell 1)
    have c_x2 := Gr.cell (show w7.cell? ⟨q1, 2, none⟩ = some (.int .u64 (f 2)) from HX_x7.out.cell 2)
    have c_x3 := Gr.cell (show w7.cell? ⟨q1, 3, none⟩ = some (.int .u64 (f 3)) from HX_x7.out.cell 3)
    have c_x4 := Gr.cell (show w7.cell? ⟨q1, 4, none⟩ = some (.int .u64 (f 4)) from HX_x7.out.cell 4)
    have c_x5 := Gr.cell (show w7.cell? ⟨q1, 5, none⟩ = some (.int .u64 (f 5)) from HX_x7.out.cell 5)
    have c_x6 := Gr.cell (show w7.cell? ⟨q1, 6, none⟩ = some (.int .u64 0) from HX_x7.out.cell 6)
    have c_x7 := Gr.cell (show w7.cell? ⟨q1, 7, none⟩ = some (.int .u64 0) from HX_x7.out.cell 7)
    have c_y0 := Gr.cell (show w7.cell? ⟨q2, 0, none⟩ = some (.int .u64 (g 0)) from HX_y7.out.cell 0)
    have c_y1 := Gr.cell (show w7.cell? ⟨q2, 1, none⟩ = some (.int .u64 (g 1)) from HX_y7.out.cell 1)
    have c_y2 := Gr.cell (show w7.cell? ⟨q2, 2, none⟩ = some (.int .u64 (g 2)) from HX_y7.out.cell 2)
    have c_y3 := Gr.cell (show w7.cell? ⟨q2, 3, none⟩ = some (.int .u64 (g 3)) from HX_y7.out.cell 3)
    have c_y4 := Gr.cell (show w7.cell? ⟨q2, 4, none⟩ = some (.int .u64 (g 4)) from HX_y7.out.cell 4)
    have c_y5 := Gr.cell (show w7.cell? ⟨q2, 5, none⟩ = some (.int .u64 (g 5)) from HX_y7.out.cell 5)
    have c_y6 := Gr.cell (show w7.cell? ⟨q2, 6, none⟩ = some (.int .u64 (g 6)) from HX_y7.out.cell 6)
    have c_y7 := Gr.cell (show w7.cell? ⟨q2, 7, none⟩ = some (.int .u64 (g 7)) from HX_y7.out.cell 7)
    refine wp_region_grow (by kernel_rfl) (by kernel_rfl) ?_
    repeat (go_big_quiet_step (first | (go_at_call 16; first | with_reducible exact Gr.blw (R1.out _) | with_reducible exact Gr.blw (R2.out _))))
    refine wpQuiet_nil ?_
    intro w12 hw12
    obtain ⟨G, hG⟩ := hw12
    subst hG
    obtain ⟨w8, hw9⟩ : ∃ w9, G.w' = w9 := ⟨_, rfl⟩
    have ho9 : Only nobody w7 w8 := by rw [← hw9]; exact G.ok
    rw [hw9]
    have HX_a8 := Lib.hid (show Box w8 p 24 #[.bool true, .int .u64 k1, .int .u64 v1, .int .u64 t1, .int .u64 r1, .int .u64 n1, .int .i64 x1] from HX_a7.out.only ho9 (not_nobody _))
    have HX_b8 := Lib.hid (show Box w8 (p + 1) 24 #[.bool u2, .int .u64 k2, .int .u64 v2, .int .u64 t2, .int .u64 r2, .int .u64 n2, .int .i64 x2] from HX_b7.out.only ho9 (not_nobody _))
    have HX_x8 := Lib.hid (show Box w8 q1 26 #[.int .u64 1, .int .u64 (f 1), .int .u64 (f 2), .int .u64 (f 3), .int .u64 (f 4), .int .u64 (f 5), .int .u64 0, .int .u64 0] from HX_x7.out.only ho9 (not_nobody _))
    have HX_y8 := Lib.hid (show Box w8 q2 26 #[.int .u64 (g 0), .int .u64 (g 1), .int .u64 (g 2), .int .u64 (g 3), .int .u64 (g 4), .int .u64 (g 5), .int .u64 (g 6), .int .u64 (g 7)] from HX_y7.out.only ho9 (not_nobody _))
    clear HX_a7 HX_b7 HX_x7 HX_y7
    have HB8 := Lib.hid (HB7.out.trans (ho9.none.mono HB7.out.size))
    clear c_a0 c_a1 c_a2 c_a3 c_a4 c_a5 c_a6
    clear c_b0 c_b1 c_b2 c_b3 c_b4 c_b5 c_b6
    clear c_x0 c_x1 c_x2 c_x3 c_x4 c_x5 c_x6 c_x7
    clear c_y0 c_y1 c_y2 c_y3 c_y4 c_y5 c_y6 c_y7
    clear ho9 hw9 HB7 G
    clear hq1 hq2
    have c_a0 : w8.cell? ⟨p, 0, none⟩ = some (.bool true) := HX_a8.out.cell 0
    have c_a1 : w8.cell? ⟨p, 1, none⟩ = some (.int .u64 k1) := HX_a8.out.cell 1
    have c_a2 : w8.cell? ⟨p, 2, none⟩ = some (.int .u64 v1) := HX_a8.out.cell 2
    have c_a3 : w8.cell? ⟨p, 3, none⟩ = some (.int .u64 t1) := HX_a8.out.cell 3
    have c_a4 : w8.cell? ⟨p, 4, none⟩ = some (.int .u64 r1) := HX_a8.out.cell 4
    have c_a5 : w8.cell? ⟨p, 5, none⟩ = some (.int .u64 n1) := HX_a8.out.cell 5
    have c_a6 : w8.cell? ⟨p, 6, none⟩ = some (.int .i64 x1) := HX_a8.out.cell 6
    go_wp2_with fail
    refine (R1.out _).mono ?_
    rintro e w9 ⟨rfl, hb⟩
    have HX_a9 := Lib.hid (show Box w9 p 24 #[.bool true, .int .u64 k1, .int .u64 v1, .int .u64 t1, .int .u64 r1, .int .u64 n1, .int .i64 x1] from HX_a8.out.of (hb.block _ HX_a8.out.lt))
    have HX_b9 := Lib.hid (show Box w9 (p + 1) 24 #[.bool u2, .int .u64 k2, .int .u64 v2, .int .u64 t2, .int .u64 r2, .int .u64 n2, .int .i64 x2] from HX_b8.out.of (hb.block _ HX_b8.out.lt))
    have HX_x9 := Lib.hid (show Box w9 q1 26 #[.int .u64 1, .int .u64 (f 1), .int .u64 (f 2), .int .u64 (f 3), .int .u64 (f 4), .int .u64 (f 5), .int .u64 0, .int .u64 0] from HX_x8.out.of (hb.block _ HX_x8.out.lt))
    have HX_y9 := Lib.hid (show Box w9 q2 26 #[.int .u64 (g 0), .int .u64 (g 1), .int .u64 (g 2), .int .u64 (g 3), .int .u64 (g 4), .int .u64 (g 5), .int .u64 (g 6), .int .u64 (g 7)] from HX_y8.out.of (hb.block _ HX_y8.out.lt))
    clear HX_a8 HX_b8 HX_x8 HX_y8
    have HB9 := Lib.hid (HB8.out.trans (hb.mono HB8.out.size))
    clear hb HB8
    clear c_a0 c_a1 c_a2 c_a3 c_a4 c_a5 c_a6
    have c_a0 : w9.cell? ⟨p, 0, none⟩ = some (.bool true) := HX_a9.out.cell 0
    have c_a1 : w9.cell? ⟨p, 1, none⟩ = some (.int .u64 k1) := HX_a9.out.cell 1
    have c_a2 : w9.cell? ⟨p, 2, none⟩ = some (.int .u64 v1) := HX_a9.out.cell 2
    have c_a3 : w9.cell? ⟨p, 3, none⟩ = some (.int .u64 t1) := HX_a9.out.cell 3
    have c_a4 : w9.cell? ⟨p, 4, none⟩ = some (.int .u64 r1) := HX_a9.out.cell 4
    have c_a5 : w9.cell? ⟨p, 5, none⟩ = some (.int .u64 n1) := HX_a9.out.cell 5
    have c_a6 : w9.cell? ⟨p, 6, none⟩ = some (.int .i64 x1) := HX_a9.out.cell 6
    have c_x0 : w9.cell? ⟨q1, 0, none⟩ = some (.int .u64 1) := HX_x9.out.cell 0
    have c_x1 : w9.cell? ⟨q1, 1, none⟩ = some (.int .u64 (f 1)) := HX_x9.out.cell 1
    have c_x2 : w9.cell? ⟨q1, 2, none⟩ = some (.int .u64 (f 2)) := HX_x9.out.cell 2
    have c_x3 : w9.cell? ⟨q1, 3, none⟩ = some (.int .u64 (f 3)) := HX_x9.out.cell 3
    have c_x4 : w9.cell? ⟨q1, 4, none⟩ = some (.int .u64 (f 4)) := HX_x9.out.cell 4
    have c_x5 : w9.cell? ⟨q1, 5, none⟩ = some (.int .u64 (f 5)) := HX_x9.out.cell 5
    have c_x6 : w9.cell? ⟨q1, 6, none⟩ = some (.int .u64 0) := HX_x9.out.cell 6
    have c_x7 : w9.cell? ⟨q1, 7, none⟩ = some (.int .u64 0) := HX_x9.out.cell 7
    go_wp2_with fail
    go_ret
    exact ⟨rfl, HB9.out⟩
  · go_upto_region 4 with fail
    have c_a0 := Gr.cell (show w7.cell? ⟨p, 0, none⟩ = some (.bool true) from HX_a7.out.cell 0)
    have c_a1 := Gr.cell (show w7.cell? ⟨p, 1, none⟩ = some (.int .u64 k1) from HX_a7.out.cell 1)
    have c_a2 := Gr.cell (show w7.cell? ⟨p, 2, none⟩ = some (.int .u64 v1) from HX_a7.out.cell 2)
    have c_a3 := Gr.cell (show w7.cell? ⟨p, 3, none⟩ = some (.int .u64 t1) from HX_a7.out.cell 3)
    have c_a4 := Gr.cell (show w7.cell? ⟨p, 4, none⟩ = some (.int .u64 r1) from HX_a7.out.cell 4)
    have c_a5 := Gr.cell (show w7.cell? ⟨p, 5, none⟩ = some (.int .u64 n1) from HX_a7.out.cell 5)
    have c_a6 := Gr.cell (show w7.cell? ⟨p, 6, none⟩ = some (.int .i64 x1) from HX_a7.out.cell 6)
    have c_b0 := Gr.cell (show w7.cell? ⟨p + 1, 0, none⟩ = some (.bool u2) from HX_b7.out.cell 0)
    have c_b1 := Gr.cell (show w7.cell? ⟨p + 1, 1, none⟩ = some (.int .u64 k2) from HX_b7.out.cell 1)
    have c_b2 := Gr.cell (show w7.cell? ⟨p + 1, 2, none⟩ = some (.int .u64 v2) from HX_b7.out.cell 2)
    have c_b3 := Gr.cell (show w7.cell? ⟨p + 1, 3, none⟩ = some (.int .u64 t2) from HX_b7.out.cell 3)
    have c_b4 := Gr.cell (show w7.cell? ⟨p + 1, 4, none⟩ = some (.int .u64 r2) from HX_b7.out.cell 4)
    have c_b5 := Gr.cell (show w7.cell? ⟨p + 1, 5, none⟩ = some (.int .u64 n2) from HX_b7.out.cell 5)
    have c_b6 := Gr.cell (show w7.cell? ⟨p + 1, 6, none⟩ = some (.int .i64 x2) from HX_b7.out.cell 6)
    have c_x0 := Gr.cell (show w7.cell? ⟨q1, 0, none⟩ = some (.int .u64 1) from HX_x7.out.cell 0)
    have c_x1 := Gr.cell (show w7.cell? ⟨q1, 1, none⟩ = some (.int .u64 (f 1)) from HX_x7.out.cell 1)
    have c_x2 := Gr.cell (show w7.cell? ⟨q1, 2, none⟩ = some (.int .u64 (f 2)) from HX_x7.out.cell 2)
    have c_x3 := Gr.cell (show w7.cell? ⟨q1, 3, none⟩ = some (.int .u64 (f 3)) from HX_x7.out.cell 3)
    have c_x4 := Gr.cell (show w7.cell? ⟨q1, 4, none⟩ = some (.int .u64 (f 4)) from HX_x7.out.cell 4)
    have c_x5 := Gr.cell (show w7.cell? ⟨q1, 5, none⟩ = some (.int .u64 (f 5)) from HX_x7.out.cell 5)
    have c_x6 := Gr.cell (show w7.cell? ⟨q1, 6, none⟩ = some (.int .u64 0) from HX_x7.out.cell 6)
    have c_x7 := Gr.cell (show w7.cell? ⟨q1, 7, none⟩ = some (.int .u64 0) from HX_x7.out.cell 7)
    have c_y0 := Gr.cell (show w7.cell? ⟨q2, 0, none⟩ = some (.int .u64 (g 0)) from HX_y7.out.cell 0)
    have c_y1 := Gr.cell (show w7.cell? ⟨q2, 1, none⟩ = some (.int .u64 (g 1)) from HX_y7.out.cell 1)
    have c_y2 := Gr.cell (show w7.cell? ⟨q2, 2, none⟩ = some (.int .u64 (g 2)) from HX_y7.out.cell 2)
    have c_y3 := Gr.cell (show w7.cell? ⟨q2, 3, none⟩ = some (.int .u64 (g 3)) from HX_y7.out.cell 3)
    have c_y4 := Gr.cell (show w7.cell? ⟨q2, 4, none⟩ = some (.int .u64 (g 4)) from HX_y7.out.cell 4)
    have c_y5 := Gr.cell (show w7.cell? ⟨q2, 5, none⟩ = some (.int .u64 (g 5)) from HX_y7.out.cell 5)
    have c_y6 := Gr.cell (show w7.cell? ⟨q2, 6, none⟩ = some (.int .u64 (g 6)) from HX_y7.out.cell 6)
    have c_y7 := Gr.cell (show w7.cell? ⟨q2, 7, none⟩ = some (.int .u64 (g 7)) from HX_y7.out.cell 7)
    refine wp_region_grow (by kernel_rfl) (by kernel_rfl) ?_
    repeat (go_big_quiet_step (first | (go_at_call 16; first | with_reducible exact Gr.blw (R1.out _) | with_reducible exact Gr.blw (R2.out _))))
    refine wpQuiet_nil ?_
    intro w12 hw12
    obtain ⟨G, hG⟩ := hw12
    subst hG
    obtain ⟨w8, hw9⟩ : ∃ w9, G.w' = w9 := ⟨_, rfl⟩
    have ho9 : Only nobody w7 w8 := by rw [← hw9]; exact G.ok
    rw [hw9]
    have HX_a8 := Lib.hid (show Box w8 p 24 #[.bool true, .int .u64 k1, .int .u64 v1, .int .u64 t1, .int .u64 r1, .int .u64 n1, .int .i64 x1] from HX_a7.out.only ho9 (not_nobody _))
    have HX_b8 := Lib.hid (show Box w8 (p + 1) 24 #[.bool u2, .int .u64 k2, .int .u64 v2, .int .u64 t2, .int .u64 r2, .int .u64 n2, .int .i64 x2] from HX_b7.out.only ho9 (not_nobody _))
    have HX_x8 := Lib.hid (show Box w8 q1 26 #[.int .u64 1, .int .u64 (f 1), .int .u64 (f 2), .int .u64 (f 3), .int .u64 (f 4), .int .u64 (f 5), .int .u64 0, .int .u64 0] from HX_x7.out.only ho9 (not_nobody _))
    have HX_y8 := Lib.hid (show Box w8 q2 26 #[.int .u64 (g 0), .int .u64 (g 1), .int .u64 (g 2), .int .u64 (g 3), .int .u64 (g 4), .int .u64 (g 5), .int .u64 (g 6), .int .u64 (g 7)] from HX_y7.out.only ho9 (not_nobody _))
    clear HX_a7 HX_b7 HX_x7 HX_y7
    have HB8 := Lib.hid (HB7.out.trans (ho9.none.mono HB7.out.size))
    clear c_a0 c_a1 c_a2 c_a3 c_a4 c_a5 c_a6
    clear c_b0 c_b1 c_b2 c_b3 c_b4 c_b5 c_b6
    clear c_x0 c_x1 c_x2 c_x3 c_x4 c_x5 c_x6 c_x7
    clear c_y0 c_y1 c_y2 c_y3 c_y4 c_y5 c_y6 c_y7
    clear ho9 hw9 HB7 G
    clear hq1 hq2
    have c_a0 : w8.cell? ⟨p, 0, none⟩ = some (.bool true) := HX_a8.out.cell 0
    have c_a1 : w8.cell? ⟨p, 1, none⟩ = some (.int .u64 k1) := HX_a8.out.cell 1
    have c_a2 : w8.cell? ⟨p, 2, none⟩ = some (.int .u64 v1) := HX_a8.out.cell 2
    have c_a3 : w8.cell? ⟨p, 3, none⟩ = some (.int .u64 t1) := HX_a8.out.cell 3
    have c_a4 : w8.cell? ⟨p, 4, none⟩ = some (.int .u64 r1) := HX_a8.out.cell 4
    have c_a5 : w8.cell? ⟨p, 5, none⟩ = some (.int .u64 n1) := HX_a8.out.cell 5
    have c_a6 : w8.cell? ⟨p, 6, none⟩ = some (.int .i64 x1) := HX_a8.out.cell 6
    go_wp2_with fail
    refine (R1.out _).mono ?_
    rintro e w9 ⟨rfl, hb⟩
    have HX_a9 := Lib.hid (show Box w9 p 24 #[.bool true, .int .u64 k1, .int .u64 v1, .int .u64 t1, .int .u64 r1, .int .u64 n1, .int .i64 x1] from HX_a8.out.of (hb.block _ HX_a8.out.lt))
    have HX_b9 := Lib.hid (show Box w9 (p + 1) 24 #[.bool u2, .int .u64 k2, .int .u64 v2, .int .u64 t2, .int .u64 r2, .int .u64 n2, .int .i64 x2] from HX_b8.out.of (hb.block _ HX_b8.out.lt))
    have HX_x9 := Lib.hid (show Box w9 q1 26 #[.int .u64 1, .int .u64 (f 1), .int .u64 (f 2), .int .u64 (f 3), .int .u64 (f 4), .int .u64 (f 5), .int .u64 0, .int .u64 0] from HX_x8.out.of (hb.block _ HX_x8.out.lt))
    have HX_y9 := Lib.hid (show Box w9 q2 26 #[.int .u64 (g 0), .int .u64 (g 1), .int .u64 (g 2), .int .u64 (g 3), .int .u64 (g 4), .int .u64 (g 5), .int .u64 (g 6), .int .u64 (g 7)] from HX_y8.out.of (hb.block _ HX_y8.out.lt))
    clear HX_a8 HX_b8 HX_x8 HX_y8
    have HB9 := Lib.hid (HB8.out.trans (hb.mono HB8.out.size))
    clear hb HB8
    clear c_a0 c_a1 c_a2 c_a3 c_a4 c_a5 c_a6
    have c_a0 : w9.cell? ⟨p, 0, none⟩ = some (.bool true) := HX_a9.out.cell 0
    have c_a1 : w9.cell? ⟨p, 1, none⟩ = some (.int .u64 k1) := HX_a9.out.cell 1
    have c_a2 : w9.cell? ⟨p, 2, none⟩ = some (.int .u64 v1) := HX_a9.out.cell 2
    have c_a3 : w9.cell? ⟨p, 3, none⟩ = some (.int .u64 t1) := HX_a9.out.cell 3
    have c_a4 : w9.cell? ⟨p, 4, none⟩ = some (.int .u64 r1) := HX_a9.out.cell 4
    have c_a5 : w9.cell? ⟨p, 5, none⟩ = some (.int .u64 n1) := HX_a9.out.cell 5
    have c_a6 : w9.cell? ⟨p, 6, none⟩ = some (.int .i64 x1) := HX_a9.out.cell 6
    have c_x0 : w9.cell? ⟨q1, 0, none⟩ = some (.int .u64 1) := HX_x9.out.cell 0
    have c_x1 : w9.cell? ⟨q1, 1, none⟩ = some (.int .u64 (f 1)) := HX_x9.out.cell 1
    have c_x2 : w9.cell? ⟨q1, 2, none⟩ = some (.int .u64 (f 2)) := HX_x9.out.cell 2
    have c_x3 : w9.cell? ⟨q1, 3, none⟩ = some (.int .u64 (f 3)) := HX_x9.out.cell 3
    have c_x4 : w9.cell? ⟨q1, 4, none⟩ = some (.int .u64 (f 4)) := HX_x9.out.cell 4
    have c_x5 : w9.cell? ⟨q1, 5, none⟩ = some (.int .u64 (f 5)) := HX_x9.out.cell 5
    have c_x6 : w9.cell? ⟨q1, 6, none⟩ = some (.int .u64 0) := HX_x9.out.cell 6
    have c_x7 : w9.cell? ⟨q1, 7, none⟩ = some (.int .u64 0) := HX_x9.out.cell 7
    go_wp2_with fail
    go_ret
    exact ⟨rfl, HB9.out⟩
set_option maxHeartbeats 2000000 in
theorem once_ff (k1 v1 t1 r1 n1 x1 : Int) (u2 : Bool) (k2 v2 t2 r2 n2 x2 : Int) (f g : Nat → Int) (w : World)
    (R1 : Hid (∀ W, Calls Try.prog 16 #[.agg #[.bool false, .int .u64 k1, .int .u64 v1, .int .u64 t1, .int .u64 r1, .int .u64 n1, .int .i64 x1]] W fun e w' => e = .returned (.bool true) ∧ Below W.heap.size W w'))
    (R2 : Hid (∀ W, Calls Try.prog 16 #[.agg #[.bool u2, .int .u64 k2, .int .u64 v2, .int .u64 t2, .int .u64 r2, .int .u64 n2, .int .i64 x2]] W fun e w' => e = .returned (.bool false) ∧ Below W.heap.size W w'))
    (D1 : Hid (∀ W, Calls Try.prog 18 #[.agg #[.bool false, .int .u64 k1, .int .u64 v1, .int .u64 t1, .int .u64 r1, .int .u64 n1, .int .i64 x1]] W fun e w' => e = .returned (.agg #[.int .u64 (f 0), .int .u64 (f 1), .int .u64 (f 2), .int .u64 (f 3), .int .u64 (f 4), .int .u64 (f 5), .int .u64 (f 6), .int .u64 (f 7)]) ∧ Below W.heap.size W w'))
    (D2 : Hid (∀ W, Calls Try.prog 18 #[.agg #[.bool u2, .int .u64 k2, .int .u64 v2, .int .u64 t2, .int .u64 r2, .int .u64 n2, .int .i64 x2]] W fun e w' => e = .returned (.agg #[.int .u64 (g 0), .int .u64 (g 1), .int .u64 (g 2), .int .u64 (g 3), .int .u64 (g 4), .int .u64 (g 5), .int .u64 (g 6), .int .u64 (g 7)]) ∧ Below W.heap.size W w'))
    (Q4 : Hid (∀ W, (binOp .eql 26 (.agg #[.int .u64 (f 0), .int .u64 (f 1), .int .u64 (f 2), .int .u64 (f 3), .int .u64 (f 4), .int .u64 (f 5), .int .u64 (f 6), .int .u64 (f 7)]) (.agg #[.int .u64 0, .int .u64 0, .int .u64 0, .int .u64 0, .int .u64 0, .int .u64 0, .int .u64 (IntKind.u64.wrap x1), .int .u64 0])).run Try.prog W = .ok (.bool (true)) W)) :
    Calls Try.prog 6 #[.agg #[.bool false, .int .u64 k1, .int .u64 v1, .int .u64 t1, .int .u64 r1, .int .u64 n1, .int .i64 x1], .agg #[.bool u2, .int .u64 k2, .int .u64 v2, .int .u64 t2, .int .u64 r2, .int .u64 n2, .int .i64 x2]] w fun e w' => e = .returned (.bool true) ∧ Below w.heap.size w w' := by
  obtain ⟨p, hp⟩ : ∃ p, w.heap.size = p := ⟨_, rfl⟩
  obtain ⟨w2, hw2⟩ : ∃ w9, ((w.alloc (.cells #[.bool false, .int .u64 k1, .int .u64 v1, .int .u64 t1, .int .u64 r1, .int .u64 n1, .int .i64 x1] 24)).alloc (.cells #[.bool u2, .int .u64 k2, .int .u64 v2, .int .u64 t2, .int .u64 r2, .int .u64 n2, .int .i64 x2] 24)) = w9 := ⟨_, rfl⟩
  have hx0 : Box w2 (p) 24 #[.bool false, .int .u64 k1, .int .u64 v1, .int .u64 t1, .int .u64 r1, .int .u64 n1, .int .i64 x1] := by
    have h9 := ((Box.new w 24 #[.bool false, .int .u64 k1, .int .u64 v1, .int .u64 t1, .int .u64 r1, .int .u64 n1, .int .i64 x1])).alloc (.cells #[.bool u2, .int .u64 k2, .int .u64 v2, .int .u64 t2, .int .u64 r2, .int .u64 n2, .int .i64 x2] 24)
    try simp only [World.size_alloc] at h9
    simp only [hp, hw2] at h9
    exact h9
  have hx1 : Box w2 (p + 1) 24 #[.bool u2, .int .u64 k2, .int .u64 v2, .int .u64 t2, .int .u64 r2, .int .u64 n2, .int .i64 x2] := by
    have h9 := (Box.new (w.alloc (.cells #[.bool false, .int .u64 k1, .int .u64 v1, .int .u64 t1, .int .u64 r1, .int .u64 n1, .int .i64 x1] 24)) 24 #[.bool u2, .int .u64 k2, .int .u64 v2, .int .u64 t2, .int .u64 r2, .int .u64 n2, .int .i64 x2])
    try simp only [World.size_alloc] at h9
    simp only [hp, hw2] at h9
    exact h9
  have hB : Below w.heap.size w w2 := by
    have h9 := (((Below.refl w.heap.size w).alloc (by simp; try omega) (.cells #[.bool false, .int .u64 k1, .int .u64 v1, .int .u64 t1, .int .u64 r1, .int .u64 n1, .int .i64 x1] 24)).alloc (by simp; try omega) (.cells #[.bool u2, .int .u64 k2, .int .u64 v2, .int .u64 t2, .int .u64 r2, .int .u64 n2, .int .i64 x2] 24))
    rw [hw2] at h9
    exact h9
  have hS : w2.heap.size = p + 2 := by rw [← hw2]; simp [hp]
  have HX_a2 := Lib.hid hx0
  have HX_b2 := Lib.hid hx1
  have HB2 := Lib.hid hB
  have HPP := Lib.hid hp
  have HW := Lib.hid hw2
  clear hx0 hx1 hB hS hp hw2
  go_enter Try.func6, Try.ntmps6
  go_upto_region 1 with fail
  simp only [HPP.out, HW.out]
  clear HPP HW
  go_wp2_with fail
  refine (slshown_any _).mono ?_
  rintro e w3 ⟨rfl, hb⟩
  have HX_a3 := Lib.hid (show Box w3 p 24 #[.bool false, .int .u64 k1, .int .u64 v1, .int .u64 t1, .int .u64 r1, .int .u64 n1, .int .i64 x1] from HX_a2.out.of (hb.block _ HX_a2.out.lt))
  have HX_b3 := Lib.hid (show Box w3 (p + 1) 24 #[.bool u2, .int .u64 k2, .int .u64 v2, .int .u64 t2, .int .u64 r2, .int .u64 n2, .int .i64 x2] from HX_b2.out.of (hb.block _ HX_b2.out.lt))
  clear HX_a2 HX_b2
  have HB3 := Lib.hid (HB2.out.trans (hb.mono HB2.out.size))
  clear hb HB2
  have c_a0 : w3.cell? ⟨p, 0, none⟩ = some (.bool false) := HX_a3.out.cell 0
  have c_a1 : w3.cell? ⟨p, 1, none⟩ = some (.int .u64 k1) := HX_a3.out.cell 1
  have c_a2 : w3.cell? ⟨p, 2, none⟩ = some (.int .u64 v1) := HX_a3.out.cell 2
  have c_a3 : w3.cell? ⟨p, 3, none⟩ = some (.int .u64 t1) := HX_a3.out.cell 3
  have c_a4 : w3.cell? ⟨p, 4, none⟩ = some (.int .u64 r1) := HX_a3.out.cell 4
  have c_a5 : w3.cell? ⟨p, 5, none⟩ = some (.int .u64 n1) := HX_a3.out.cell 5
  have c_a6 : w3.cell? ⟨p, 6, none⟩ = some (.int .i64 x1) := HX_a3.out.cell 6
  go_wp2_with fail
  refine (D1.out _).mono ?_
  rintro e w4 ⟨rfl, hb⟩
  have HX_a4 := Lib.hid (show Box w4 p 24 #[.bool false, .int .u64 k1, .int .u64 v1, .int .u64 t1, .int .u64 r1, .int .u64 n1, .int .i64 x1] from HX_a3.out.of (hb.block _ HX_a3.out.lt))
  have HX_b4 := Lib.hid (show Box w4 (p + 1) 24 #[.bool u2, .int .u64 k2, .int .u64 v2, .int .u64 t2, .int .u64 r2, .int .u64 n2, .int .i64 x2] from HX_b3.out.of (hb.block _ HX_b3.out.lt))
  clear HX_a3 HX_b3
  have HB4 := Lib.hid (HB3.out.trans (hb.mono HB3.out.size))
  clear hb HB3
  clear c_a0 c_a1 c_a2 c_a3 c_a4 c_a5 c_a6
  go_upto_region 3 with (fail)
  obtain ⟨q1, hq⟩ : ∃ q9, w4.heap.size = q9 := ⟨_, rfl⟩
  obtain ⟨w5, hw9⟩ : ∃ w9, w4.alloc (.cells #[.int .u64 (f 0), .int .u64 (f 1), .int .u64 (f 2), .int .u64 (f 3), .int .u64 (f 4), .int .u64 (f 5), .int .u64 (f 6), .int .u64 (f 7)] 26) = w9 := ⟨_, rfl⟩
  have HX_a5 := Lib.hid (show Box w5 p 24 #[.bool false, .int .u64 k1, .int .u64 v1, .int .u64 t1, .int .u64 r1, .int .u64 n1, .int .i64 x1] by rw [← hw9]; exact HX_a4.out.alloc _)
  have HX_b5 := Lib.hid (show Box w5 (p + 1) 24 #[.bool u2, .int .u64 k2, .int .u64 v2, .int .u64 t2, .int .u64 r2, .int .u64 n2, .int .i64 x2] by rw [← hw9]; exact HX_b4.out.alloc _)
  have HX_x5 := Lib.hid (show Box w5 q1 26 #[.int .u64 (f 0), .int .u64 (f 1), .int .u64 (f 2), .int .u64 (f 3), .int .u64 (f 4), .int .u64 (f 5), .int .u64 (f 6), .int .u64 (f 7)] by rw [← hw9, ← hq]; exact Box.new w4 _ _)
  have HB5 := Lib.hid (show Below w.heap.size w w5 by rw [← hw9]; exact HB4.out.alloc HB4.out.size _)
  have HS_x := Lib.hid (show w.heap.size ≤ q1 by rw [← hq]; exact HB4.out.size)
  simp only [hw9, hq]
  clear hq hw9 HB4 HX_a4 HX_b4
  have c_b0 : w5.cell? ⟨p + 1, 0, none⟩ = some (.bool u2) := HX_b5.out.cell 0
  have c_b1 : w5.cell? ⟨p + 1, 1, none⟩ = some (.int .u64 k2) := HX_b5.out.cell 1
  have c_b2 : w5.cell? ⟨p + 1, 2, none⟩ = some (.int .u64 v2) := HX_b5.out.cell 2
  have c_b3 : w5.cell? ⟨p + 1, 3, none⟩ = some (.int .u64 t2) := HX_b5.out.cell 3
  have c_b4 : w5.cell? ⟨p + 1, 4, none⟩ = some (.int .u64 r2) := HX_b5.out.cell 4
  have c_b5 : w5.cell? ⟨p + 1, 5, none⟩ = some (.int .u64 n2) := HX_b5.out.cell 5
  have c_b6 : w5.cell? ⟨p + 1, 6, none⟩ = some (.int .i64 x2) := HX_b5.out.cell 6
  go_wp2_with fail
  refine (D2.out _).mono ?_
  rintro e w6 ⟨rfl, hb⟩
  have HX_a6 := Lib.hid (show Box w6 p 24 #[.bool false, .int .u64 k1, .int .u64 v1, .int .u64 t1, .int .u64 r1, .int .u64 n1, .int .i64 x1] from HX_a5.out.of (hb.block _ HX_a5.out.lt))
  have HX_b6 := Lib.hid (show Box w6 (p + 1) 24 #[.bool u2, .int .u64 k2, .int .u64 v2, .int .u64 t2, .int .u64 r2, .int .u64 n2, .int .i64 x2] from HX_b5.out.of (hb.block _ HX_b5.out.lt))
  have HX_x6 := Lib.hid (show Box w6 q1 26 #[.int .u64 (f 0), .int .u64 (f 1), .int .u64 (f 2), .int .u64 (f 3), .int .u64 (f 4), .int .u64 (f 5), .int .u64 (f 6), .int .u64 (f 7)] from HX_x5.out.of (hb.block _ HX_x5.out.lt))
  clear HX_a5 HX_b5 HX_x5
  have HB6 := Lib.hid (HB5.out.trans (hb.mono HB5.out.size))
  clear hb HB5
  clear c_b0 c_b1 c_b2 c_b3 c_b4 c_b5 c_b6
  go_upto_region 4 with (fail)
  obtain ⟨q2, hq⟩ : ∃ q9, w6.heap.size = q9 := ⟨_, rfl⟩
  obtain ⟨w7, hw9⟩ : ∃ w9, w6.alloc (.cells #[.int .u64 (g 0), .int .u64 (g 1), .int .u64 (g 2), .int .u64 (g 3), .int .u64 (g 4), .int .u64 (g 5), .int .u64 (g 6), .int .u64 (g 7)] 26) = w9 := ⟨_, rfl⟩
  have HX_a7 := Lib.hid (show Box w7 p 24 #[.bool false, .int .u64 k1, .int .u64 v1, .int .u64 t1, .int .u64 r1, .int .u64 n1, .int .i64 x1] by rw [← hw9]; exact HX_a6.out.alloc _)
  have HX_b7 := Lib.hid (show Box w7 (p + 1) 24 #[.bool u2, .int .u64 k2, .int .u64 v2, .int .u64 t2, .int .u64 r2, .int .u64 n2, .int .i64 x2] by rw [← hw9]; exact HX_b6.out.alloc _)
  have HX_x7 := Lib.hid (show Box w7 q1 26 #[.int .u64 (f 0), .int .u64 (f 1), .int .u64 (f 2), .int .u64 (f 3), .int .u64 (f 4), .int .u64 (f 5), .int .u64 (f 6), .int .u64 (f 7)] by rw [← hw9]; exact HX_x6.out.alloc _)
  have HX_y7 := Lib.hid (show Box w7 q2 26 #[.int .u64 (g 0), .int .u64 (g 1), .int .u64 (g 2), .int .u64 (g 3), .int .u64 (g 4), .int .u64 (g 5), .int .u64 (g 6), .int .u64 (g 7)] by rw [← hw9, ← hq]; exact Box.new w6 _ _)
  have HB7 := Lib.hid (show Below w.heap.size w w7 by rw [← hw9]; exact HB6.out.alloc HB6.out.size _)
  have HS_y := Lib.hid (show w.heap.size ≤ q2 by rw [← hq]; exact HB6.out.size)
  simp only [hw9, hq]
  clear hq hw9 HB6 HX_a6 HX_b6 HX_x6
  go_upto_region 4 with fail
  have c_a0 := Gr.cell (show w7.cell? ⟨p, 0, none⟩ = some (.bool false) from HX_a7.out.cell 0)
  have c_a1 := Gr.cell (show w7.cell? ⟨p, 1, none⟩ = some (.int .u64 k1) from HX_a7.out.cell 1)
  have c_a2 := Gr.cell (show w7.cell? ⟨p, 2, none⟩ = some (.int .u64 v1) from HX_a7.out.cell 2)
  have c_a3 := Gr.cell (show w7.cell? ⟨p, 3, none⟩ = some (.int .u64 t1) from HX_a7.out.cell 3)
  have c_a4 := Gr.cell (show w7.cell? ⟨p, 4, none⟩ = some (.int .u64 r1) from HX_a7.out.cell 4)
  have c_a5 := Gr.cell (show w7.cell? ⟨p, 5, none⟩ = some (.int .u64 n1) from HX_a7.out.cell 5)
  have c_a6 := Gr.cell (show w7.cell? ⟨p, 6, none⟩ = some (.int .i64 x1) from HX_a7.out.cell 6)
  have c_b0 := Gr.cell (show w7.cell? ⟨p + 1, 0, none⟩ = some (.bool u2) from HX_b7.out.cell 0)
  have c_b1 := Gr.cell (show w7.cell? ⟨p + 1, 1, none⟩ = some (.int .u64 k2) from HX_b7.out.cell 1)
  have c_b2 := Gr.cell (show w7.cell? ⟨p + 1, 2, none⟩ = some (.int .u64 v2) from HX_b7.out.cell 2)
  have c_b3 := Gr.cell (show w7.cell? ⟨p + 1, 3, none⟩ = some (.int .u64 t2) from HX_b7.out.cell 3)
  have c_b4 := Gr.cell (show w7.cell? ⟨p + 1, 4, none⟩ = some (.int .u64 r2) from HX_b7.out.cell 4)
  have c_b5 := Gr.cell (show w7.cell? ⟨p + 1, 5, none⟩ = some (.int .u64 n2) from HX_b7.out.cell 5)
  have c_b6 := Gr.cell (show w7.cell? ⟨p + 1, 6, none⟩ = some (.int .i64 x2) from HX_b7.out.cell 6)
  refine wp_region_grow (by kernel_rfl) (by kernel_rfl) ?_
  repeat (go_big_quiet_step (first | (go_at_call 16; first | with_reducible exact Gr.blw (R1.out _) | with_reducible exact Gr.blw (R2.out _))))
  refine wpQuiet_nil ?_
  intro w12 hw12
  obtain ⟨G, hG⟩ := hw12
  subst hG
  obtain ⟨w8, hw9⟩ : ∃ w9, G.w' = w9 := ⟨_, rfl⟩
  have ho9 : Only nobody w7 w8 := by rw [← hw9]; exact G.ok
  rw [hw9]
  have HX_a8 := Lib.hid (show Box w8 p 24 #[.bool false, .int .u64 k1, .int .u64 v1, .int .u64 t1, .int .u64 r1, .int .u64 n1, .int .i64 x1] from HX_a7.out.only ho9 (not_nobody _))
  have HX_b8 := Lib.hid (show Box w8 (p + 1) 24 #[.bool u2, .int .u64 k2, .int .u64 v2, .int .u64 t2, .int .u64 r2, .int .u64 n2, .int .i64 x2] from HX_b7.out.only ho9 (not_nobody _))
  have HX_x8 := Lib.hid (show Box w8 q1 26 #[.int .u64 (f 0), .int .u64 (f 1), .int .u64 (f 2), .int .u64 (f 3), .int .u64 (f 4), .int .u64 (f 5), .int .u64 (f 6), .int .u64 (f 7)] from HX_x7.out.only ho9 (not_nobody _))
  have HX_y8 := Lib.hid (show Box w8 q2 26 #[.int .u64 (g 0), .int .u64 (g 1), .int .u64 (g 2), .int .u64 (g 3), .int .u64 (g 4), .int .u64 (g 5), .int .u64 (g 6), .int .u64 (g 7)] from HX_y7.out.only ho9 (not_nobody _))
  clear HX_a7 HX_b7 HX_x7 HX_y7
  have HB8 := Lib.hid (HB7.out.trans (ho9.none.mono HB7.out.size))
  clear c_a0 c_a1 c_a2 c_a3 c_a4 c_a5 c_a6
  clear c_b0 c_b1 c_b2 c_b3 c_b4 c_b5 c_b6
  clear ho9 hw9 HB7 G
  have c_a0 : w8.cell? ⟨p, 0, none⟩ = some (.bool false) := HX_a8.out.cell 0
  have c_a1 : w8.cell? ⟨p, 1, none⟩ = some (.int .u64 k1) := HX_a8.out.cell 1
  have c_a2 : w8.cell? ⟨p, 2, none⟩ = some (.int .u64 v1) := HX_a8.out.cell 2
  have c_a3 : w8.cell? ⟨p, 3, none⟩ = some (.int .u64 t1) := HX_a8.out.cell 3
  have c_a4 : w8.cell? ⟨p, 4, none⟩ = some (.int .u64 r1) := HX_a8.out.cell 4
  have c_a5 : w8.cell? ⟨p, 5, none⟩ = some (.int .u64 n1) := HX_a8.out.cell 5
  have c_a6 : w8.cell? ⟨p, 6, none⟩ = some (.int .i64 x1) := HX_a8.out.cell 6
  go_wp2_with fail
  refine (R1.out _).mono ?_
  rintro e w9 ⟨rfl, hb⟩
  have HX_a9 := Lib.hid (show Box w9 p 24 #[.bool false, .int .u64 k1, .int .u64 v1, .int .u64 t1, .int .u64 r1, .int .u64 n1, .int .i64 x1] from HX_a8.out.of (hb.block _ HX_a8.out.lt))
  have HX_b9 := Lib.hid (show Box w9 (p + 1) 24 #[.bool u2, .int .u64 k2, .int .u64 v2, .int .u64 t2, .int .u64 r2, .int .u64 n2, .int .i64 x2] from HX_b8.out.of (hb.block _ HX_b8.out.lt))
  have HX_x9 := Lib.hid (show Box w9 q1 26 #[.int .u64 (f 0), .int .u64 (f 1), .int .u64 (f 2), .int .u64 (f 3), .int .u64 (f 4), .int .u64 (f 5), .int .u64 (f 6), .int .u64 (f 7)] from HX_x8.out.of (hb.block _ HX_x8.out.lt))
  have HX_y9 := Lib.hid (show Box w9 q2 26 #[.int .u64 (g 0), .int .u64 (g 1), .int .u64 (g 2), .int .u64 (g 3), .int .u64 (g 4), .int .u64 (g 5), .int .u64 (g 6), .int .u64 (g 7)] from HX_y8.out.of (hb.block _ HX_y8.out.lt))
  clear HX_a8 HX_b8 HX_x8 HX_y8
  have HB9 := Lib.hid (HB8.out.trans (hb.mono HB8.out.size))
  clear hb HB8
  clear c_a0 c_a1 c_a2 c_a3 c_a4 c_a5 c_a6
  have c_a0 : w9.cell? ⟨p, 0, none⟩ = some (.bool false) := HX_a9.out.cell 0
  have c_a1 : w9.cell? ⟨p, 1, none⟩ = some (.int .u64 k1) := HX_a9.out.cell 1
  have c_a2 : w9.cell? ⟨p, 2, none⟩ = some (.int .u64 v1) := HX_a9.out.cell 2
  have c_a3 : w9.cell? ⟨p, 3, none⟩ = some (.int .u64 t1) := HX_a9.out.cell 3
  have c_a4 : w9.cell? ⟨p, 4, none⟩ = some (.int .u64 r1) := HX_a9.out.cell 4
  have c_a5 : w9.cell? ⟨p, 5, none⟩ = some (.int .u64 n1) := HX_a9.out.cell 5
  have c_a6 : w9.cell? ⟨p, 6, none⟩ = some (.int .i64 x1) := HX_a9.out.cell 6
  have c_x0 : w9.cell? ⟨q1, 0, none⟩ = some (.int .u64 (f 0)) := HX_x9.out.cell 0
  have c_x1 : w9.cell? ⟨q1, 1, none⟩ = some (.int .u64 (f 1)) := HX_x9.out.cell 1
  have c_x2 : w9.cell? ⟨q1, 2, none⟩ = some (.int .u64 (f 2)) := HX_x9.out.cell 2
  have c_x3 : w9.cell? ⟨q1, 3, none⟩ = some (.int .u64 (f 3)) := HX_x9.out.cell 3
  have c_x4 : w9.cell? ⟨q1, 4, none⟩ = some (.int .u64 (f 4)) := HX_x9.out.cell 4
  have c_x5 : w9.cell? ⟨q1, 5, none⟩ = some (.int .u64 (f 5)) := HX_x9.out.cell 5
  have c_x6 : w9.cell? ⟨q1, 6, none⟩ = some (.int .u64 (f 6)) := HX_x9.out.cell 6
  have c_x7 : w9.cell? ⟨q1, 7, none⟩ = some (.int .u64 (f 7)) := HX_x9.out.cell 7
  have hq4 := Q4.out
  go_wp2_with fail
  go_ret
  exact ⟨by simp, HB9.out⟩
set_option maxHeartbeats 2000000 in
theorem once_ft (k1 v1 t1 r1 n1 x1 : Int) (u2 : Bool) (k2 v2 t2 r2 n2 x2 : Int) (f g : Nat → Int) (B : Bool) (w : World)
    (R1 : Hid (∀ W, Calls Try.prog 16 #[.agg #[.bool false, .int .u64 k1, .int .u64 v1, .int .u64 t1, .int .u64 r1, .int .u64 n1, .int .i64 x1]] W fun e w' => e = .returned (.bool true) ∧ Below W.heap.size W w'))
    (R2 : Hid (∀ W, Calls Try.prog 16 #[.agg #[.bool u2, .int .u64 k2, .int .u64 v2, .int .u64 t2, .int .u64 r2, .int .u64 n2, .int .i64 x2]] W fun e w' => e = .returned (.bool true) ∧ Below W.heap.size W w'))
    (D1 : Hid (∀ W, Calls Try.prog 18 #[.agg #[.bool false, .int .u64 k1, .int .u64 v1, .int .u64 t1, .int .u64 r1, .int .u64 n1, .int .i64 x1]] W fun e w' => e = .returned (.agg #[.int .u64 (f 0), .int .u64 (f 1), .int .u64 (f 2), .int .u64 (f 3), .int .u64 (f 4), .int .u64 (f 5), .int .u64 (f 6), .int .u64 (f 7)]) ∧ Below W.heap.size W w'))
    (D2 : Hid (∀ W, Calls Try.prog 18 #[.agg #[.bool u2, .int .u64 k2, .int .u64 v2, .int .u64 t2, .int .u64 r2, .int .u64 n2, .int .i64 x2]] W fun e w' => e = .returned (.agg #[.int .u64 (g 0), .int .u64 (g 1), .int .u64 (g 2), .int .u64 (g 3), .int .u64 (g 4), .int .u64 (g 5), .int .u64 (g 6), .int .u64 (g 7)]) ∧ Below W.heap.size W w'))
    (Q1 : Hid (∀ W, (binOp .eql 26 (.agg #[.int .u64 (f 0), .int .u64 (f 1), .int .u64 (f 2), .int .u64 (f 3), .int .u64 (f 4), .int .u64 (f 5), .int .u64 (f 6), .int .u64 (f 7)]) (.agg #[.int .u64 (g 0), .int .u64 (g 1), .int .u64 (g 2), .int .u64 (g 3), .int .u64 (g 4), .int .u64 (g 5), .int .u64 (g 6), .int .u64 (g 7)])).run Try.prog W = .ok (.bool (B)) W))
    (Q2 : Hid (∀ W, (binOp .eql 24 (.agg #[.bool false, .int .u64 k1, .int .u64 v1, .int .u64 t1, .int .u64 r1, .int .u64 n1, .int .i64 x1]) (.agg #[.bool u2, .int .u64 k2, .int .u64 v2, .int .u64 t2, .int .u64 r2, .int .u64 n2, .int .i64 x2])).run Try.prog W = .ok (.bool (B)) W))
    (Q4 : Hid (∀ W, (binOp .eql 26 (.agg #[.int .u64 (f 0), .int .u64 (f 1), .int .u64 (f 2), .int .u64 (f 3), .int .u64 (f 4), .int .u64 (f 5), .int .u64 (f 6), .int .u64 (f 7)]) (.agg #[.int .u64 0, .int .u64 0, .int .u64 0, .int .u64 0, .int .u64 0, .int .u64 0, .int .u64 (IntKind.u64.wrap x1), .int .u64 0])).run Try.prog W = .ok (.bool (true)) W)) :
    Calls Try.prog 6 #[.agg #[.bool false, .int .u64 k1, .int .u64 v1, .int .u64 t1, .int .u64 r1, .int .u64 n1, .int .i64 x1], .agg #[.bool u2, .int .u64 k2, .int .u64 v2, .int .u64 t2, .int .u64 r2, .int .u64 n2, .int .i64 x2]] w fun e w' => e = .returned (.bool true) ∧ Below w.heap.size w w' := by
  obtain ⟨p, hp⟩ : ∃ p, w.heap.size = p := ⟨_, rfl⟩
  obtain ⟨w2, hw2⟩ : ∃ w9, ((w.alloc (.cells #[.bool false, .int .u64 k1, .int .u64 v1, .int .u64 t1, .int .u64 r1, .int .u64 n1, .int .i64 x1] 24)).alloc (.cells #[.bool u2, .int .u64 k2, .int .u64 v2, .int .u64 t2, .int .u64 r2, .int .u64 n2, .int .i64 x2] 24)) = w9 := ⟨_, rfl⟩
  have hx0 : Box w2 (p) 24 #[.bool false, .int .u64 k1, .int .u64 v1, .int .u64 t1, .int .u64 r1, .int .u64 n1, .int .i64 x1] := by
    have h9 := ((Box.new w 24 #[.bool false, .int .u64 k1, .int .u64 v1, .int .u64 t1, .int .u64 r1, .int .u64 n1, .int .i64 x1])).alloc (.cells #[.bool u2, .int .u64 k2, .int .u64 v2, .int .u64 t2, .int .u64 r2, .int .u64 n2, .int .i64 x2] 24)
    try simp only [World.size_alloc] at h9
    simp only [hp, hw2] at h9
    exact h9
  have hx1 : Box w2 (p + 1) 24 #[.bool u2, .int .u64 k2, .int .u64 v2, .int .u64 t2, .int .u64 r2, .int .u64 n2, .int .i64 x2] := by
    have h9 := (Box.new (w.alloc (.cells #[.bool false, .int .u64 k1, .int .u64 v1, .int .u64 t1, .int .u64 r1, .int .u64 n1, .int .i64 x1] 24)) 24 #[.bool u2, .int .u64 k2, .int .u64 v2, .int .u64 t2, .int .u64 r2, .int .u64 n2, .int .i64 x2])
    try simp only [World.size_alloc] at h9
    simp only [hp, hw2] at h9
    exact h9
  have hB : Below w.heap.size w w2 := by
    have h9 := (((Below.refl w.heap.size w).alloc (by simp; try omega) (.cells #[.bool false, .int .u64 k1, .int .u64 v1, .int .u64 t1, .int .u64 r1, .int .u64 n1, .int .i64 x1] 24)).alloc (by simp; try omega) (.cells #[.bool u2, .int .u64 k2, .int .u64 v2, .int .u64 t2, .int .u64 r2, .int .u64 n2, .int .i64 x2] 24))
    rw [hw2] at h9
    exact h9
  have hS : w2.heap.size = p + 2 := by rw [← hw2]; simp [hp]
  have HX_a2 := Lib.hid hx0
  have HX_b2 := Lib.hid hx1
  have HB2 := Lib.hid hB
  have HPP := Lib.hid hp
  have HW := Lib.hid hw2
  clear hx0 hx1 hB hS hp hw2
  go_enter Try.func6, Try.ntmps6
  go_upto_region 1 with fail
  simp only [HPP.out, HW.out]
  clear HPP HW
  go_wp2_with fail
  refine (slshown_any _).mono ?_
  rintro e w3 ⟨rfl, hb⟩
  have HX_a3 := Lib.hid (show Box w3 p 24 #[.bool false, .int .u64 k1, .int .u64 v1, .int .u64 t1, .int .u64 r1, .int .u64 n1, .int .i64 x1] from HX_a2.out.of (hb.block _ HX_a2.out.lt))
  have HX_b3 := Lib.hid (show Box w3 (p + 1) 24 #[.bool u2, .int .u64 k2, .int .u64 v2, .int .u64 t2, .int .u64 r2, .int .u64 n2, .int .i64 x2] from HX_b2.out.of (hb.block _ HX_b2.out.lt))
  clear HX_a2 HX_b2
  have HB3 := Lib.hid (HB2.out.trans (hb.mono HB2.out.size))
  clear hb HB2
  have c_a0 : w3.cell? ⟨p, 0, none⟩ = some (.bool false) := HX_a3.out.cell 0
  have c_a1 : w3.cell? ⟨p, 1, none⟩ = some (.int .u64 k1) := HX_a3.out.cell 1
  have c_a2 : w3.cell? ⟨p, 2, none⟩ = some (.int .u64 v1) := HX_a3.out.cell 2
  have c_a3 : w3.cell? ⟨p, 3, none⟩ = some (.int .u64 t1) := HX_a3.out.cell 3
  have c_a4 : w3.cell? ⟨p, 4, none⟩ = some (.int .u64 r1) := HX_a3.out.cell 4
  have c_a5 : w3.cell? ⟨p, 5, none⟩ = some (.int .u64 n1) := HX_a3.out.cell 5
  have c_a6 : w3.cell? ⟨p, 6, none⟩ = some (.int .i64 x1) := HX_a3.out.cell 6
  go_wp2_with fail
  refine (D1.out _).mono ?_
  rintro e w4 ⟨rfl, hb⟩
  have HX_a4 := Lib.hid (show Box w4 p 24 #[.bool false, .int .u64 k1, .int .u64 v1, .int .u64 t1, .int .u64 r1, .int .u64 n1, .int .i64 x1] from HX_a3.out.of (hb.block _ HX_a3.out.lt))
  have HX_b4 := Lib.hid (show Box w4 (p + 1) 24 #[.bool u2, .int .u64 k2, .int .u64 v2, .int .u64 t2, .int .u64 r2, .int .u64 n2, .int .i64 x2] from HX_b3.out.of (hb.block _ HX_b3.out.lt))
  clear HX_a3 HX_b3
  have HB4 := Lib.hid (HB3.out.trans (hb.mono HB3.out.size))
  clear hb HB3
  clear c_a0 c_a1 c_a2 c_a3 c_a4 c_a5 c_a6
  go_upto_region 3 with (fail)
  obtain ⟨q1, hq⟩ : ∃ q9, w4.heap.size = q9 := ⟨_, rfl⟩
  obtain ⟨w5, hw9⟩ : ∃ w9, w4.alloc (.cells #[.int .u64 (f 0), .int .u64 (f 1), .int .u64 (f 2), .int .u64 (f 3), .int .u64 (f 4), .int .u64 (f 5), .int .u64 (f 6), .int .u64 (f 7)] 26) = w9 := ⟨_, rfl⟩
  have HX_a5 := Lib.hid (show Box w5 p 24 #[.bool false, .int .u64 k1, .int .u64 v1, .int .u64 t1, .int .u64 r1, .int .u64 n1, .int .i64 x1] by rw [← hw9]; exact HX_a4.out.alloc _)
  have HX_b5 := Lib.hid (show Box w5 (p + 1) 24 #[.bool u2, .int .u64 k2, .int .u64 v2, .int .u64 t2, .int .u64 r2, .int .u64 n2, .int .i64 x2] by rw [← hw9]; exact HX_b4.out.alloc _)
  have HX_x5 := Lib.hid (show Box w5 q1 26 #[.int .u64 (f 0), .int .u64 (f 1), .int .u64 (f 2), .int .u64 (f 3), .int .u64 (f 4), .int .u64 (f 5), .int .u64 (f 6), .int .u64 (f 7)] by rw [← hw9, ← hq]; exact Box.new w4 _ _)
  have HB5 := Lib.hid (show Below w.heap.size w w5 by rw [← hw9]; exact HB4.out.alloc HB4.out.size _)
  have HS_x := Lib.hid (show w.heap.size ≤ q1 by rw [← hq]; exact HB4.out.size)
  simp only [hw9, hq]
  clear hq hw9 HB4 HX_a4 HX_b4
  have c_b0 : w5.cell? ⟨p + 1, 0, none⟩ = some (.bool u2) := HX_b5.out.cell 0
  have c_b1 : w5.cell? ⟨p + 1, 1, none⟩ = some (.int .u64 k2) := HX_b5.out.cell 1
  have c_b2 : w5.cell? ⟨p + 1, 2, none⟩ = some (.int .u64 v2) := HX_b5.out.cell 2
  have c_b3 : w5.cell? ⟨p + 1, 3, none⟩ = some (.int .u64 t2) := HX_b5.out.cell 3
  have c_b4 : w5.cell? ⟨p + 1, 4, none⟩ = some (.int .u64 r2) := HX_b5.out.cell 4
  have c_b5 : w5.cell? ⟨p + 1, 5, none⟩ = some (.int .u64 n2) := HX_b5.out.cell 5
  have c_b6 : w5.cell? ⟨p + 1, 6, none⟩ = some (.int .i64 x2) := HX_b5.out.cell 6
  go_wp2_with fail
  refine (D2.out _).mono ?_
  rintro e w6 ⟨rfl, hb⟩
  have HX_a6 := Lib.hid (show Box w6 p 24 #[.bool false, .int .u64 k1, .int .u64 v1, .int .u64 t1, .int .u64 r1, .int .u64 n1, .int .i64 x1] from HX_a5.out.of (hb.block _ HX_a5.out.lt))
  have HX_b6 := Lib.hid (show Box w6 (p + 1) 24 #[.bool u2, .int .u64 k2, .int .u64 v2, .int .u64 t2, .int .u64 r2, .int .u64 n2, .int .i64 x2] from HX_b5.out.of (hb.block _ HX_b5.out.lt))
  have HX_x6 := Lib.hid (show Box w6 q1 26 #[.int .u64 (f 0), .int .u64 (f 1), .int .u64 (f 2), .int .u64 (f 3), .int .u64 (f 4), .int .u64 (f 5), .int .u64 (f 6), .int .u64 (f 7)] from HX_x5.out.of (hb.block _ HX_x5.out.lt))
  clear HX_a5 HX_b5 HX_x5
  have HB6 := Lib.hid (HB5.out.trans (hb.mono HB5.out.size))
  clear hb HB5
  clear c_b0 c_b1 c_b2 c_b3 c_b4 c_b5 c_b6
  go_upto_region 4 with (fail)
  obtain ⟨q2, hq⟩ : ∃ q9, w6.heap.size = q9 := ⟨_, rfl⟩
  obtain ⟨w7, hw9⟩ : ∃ w9, w6.alloc (.cells #[.int .u64 (g 0), .int .u64 (g 1), .int .u64 (g 2), .int .u64 (g 3), .int .u64 (g 4), .int .u64 (g 5), .int .u64 (g 6), .int .u64 (g 7)] 26) = w9 := ⟨_, rfl⟩
  have HX_a7 := Lib.hid (show Box w7 p 24 #[.bool false, .int .u64 k1, .int .u64 v1, .int .u64 t1, .int .u64 r1, .int .u64 n1, .int .i64 x1] by rw [← hw9]; exact HX_a6.out.alloc _)
  have HX_b7 := Lib.hid (show Box w7 (p + 1) 24 #[.bool u2, .int .u64 k2, .int .u64 v2, .int .u64 t2, .int .u64 r2, .int .u64 n2, .int .i64 x2] by rw [← hw9]; exact HX_b6.out.alloc _)
  have HX_x7 := Lib.hid (show Box w7 q1 26 #[.int .u64 (f 0), .int .u64 (f 1), .int .u64 (f 2), .int .u64 (f 3), .int .u64 (f 4), .int .u64 (f 5), .int .u64 (f 6), .int .u64 (f 7)] by rw [← hw9]; exact HX_x6.out.alloc _)
  have HX_y7 := Lib.hid (show Box w7 q2 26 #[.int .u64 (g 0), .int .u64 (g 1), .int .u64 (g 2), .int .u64 (g 3), .int .u64 (g 4), .int .u64 (g 5), .int .u64 (g 6), .int .u64 (g 7)] by rw [← hw9, ← hq]; exact Box.new w6 _ _)
  have HB7 := Lib.hid (show Below w.heap.size w w7 by rw [← hw9]; exact HB6.out.alloc HB6.out.size _)
  have HS_y := Lib.hid (show w.heap.size ≤ q2 by rw [← hq]; exact HB6.out.size)
  simp only [hw9, hq]
  clear hq hw9 HB6 HX_a6 HX_b6 HX_x6
  have hq1 := Q1.out
  have hq2 := Q2.out
  clear Q1 Q2
  cases B
  · go_upto_region 4 with fail
    have c_a0 := Gr.cell (show w7.cell? ⟨p, 0, none⟩ = some (.bool false) from HX_a7.out.cell 0)
    have c_a1 := Gr.cell (show w7.cell? ⟨p, 1, none⟩ = some (.int .u64 k1) from HX_a7.out.cell 1)
    have c_a2 := Gr.cell (show w7.cell? ⟨p, 2, none⟩ = some (.int .u64 v1) from HX_a7.out.cell 2)
    have c_a3 := Gr.cell (show w7.cell? ⟨p, 3, none⟩ = some (.int .u64 t1) from HX_a7.out.cell 3)
    have c_a4 := Gr.cell (show w7.cell? ⟨p, 4, none⟩ = some (.int .u64 r1) from HX_a7.out.cell 4)
    have c_a5 := Gr.cell (show w7.cell? ⟨p, 5, none⟩ = some (.int .u64 n1) from HX_a7.out.cell 5)
    have c_a6 := Gr.cell (show w7.cell? ⟨p, 6, none⟩ = some (.int .i64 x1) from HX_a7.out.cell 6)
    have c_b0 := Gr.cell (show w7.cell? ⟨p + 1, 0, none⟩ = some (.bool u2) from HX_b7.out.cell 0)
    have c_b1 := Gr.cell (show w7.cell? ⟨p + 1, 1, none⟩ = some (.int .u64 k2) from HX_b7.out.cell 1)
    have c_b2 := Gr.cell (show w7.cell? ⟨p + 1, 2, none⟩ = some (.int .u64 v2) from HX_b7.out.cell 2)
    have c_b3 := Gr.cell (show w7.cell? ⟨p + 1, 3, none⟩ = some (.int .u64 t2) from HX_b7.out.cell 3)
    have c_b4 := Gr.cell (show w7.cell? ⟨p + 1, 4, none⟩ = some (.int .u64 r2) from HX_b7.out.cell 4)
    have c_b5 := Gr.cell (show w7.cell? ⟨p + 1, 5, none⟩ = some (.int .u64 n2) from HX_b7.out.cell 5)
    have c_b6 := Gr.cell (show w7.cell? ⟨p + 1, 6, none⟩ = some (.int .i64 x2) from HX_b7.out.cell 6)
    have c_x0 := Gr.cell (show w7.cell? ⟨q1, 0, none⟩ = some (.int .u64 (f 0)) from HX_x7.out.cell 0)
    have c_x1 := Gr.cell (show w7.cell? ⟨q1, 1, none⟩ = some (.int .u64 (f 1)) from HX_x7.out.cell 1)
    have c_x2 := Gr.cell (show w7.cell? ⟨q1, 2, none⟩ = some (.int .u64 (f 2)) from HX_x7.out.cell 2)
    have c_x3 := Gr.cell (show w7.cell? ⟨q1, 3, none⟩ = some (.int .u64 (f 3)) from HX_x7.out.cell 3)
    have c_x4 := Gr.cell (show w7.cell? ⟨q1, 4, none⟩ = some (.int .u64 (f 4)) from HX_x7.out.cell 4)
    have c_x5 := Gr.cell (show w7.cell? ⟨q1, 5, none⟩ = some (.int .u64 (f 5)) from HX_x7.out.cell 5)
    have c_x6 := Gr.cell (show w7.cell? ⟨q1, 6, none⟩ = some (.int .u64 (f 6)) from HX_x7.out.cell 6)
    have c_x7 := Gr.cell (show w7.cell? ⟨q1, 7, none⟩ = some (.int .u64 (f 7)) from HX_x7.out.cell 7)
    have c_y0 := Gr.cell (show w7.cell? ⟨q2, 0, none⟩ = some (.int .u64 (g 0)) from HX_y7.out.cell 0)
    have c_y1 := Gr.cell (show w7.cell? ⟨q2, 1, none⟩ = some (.int .u64 (g 1)) from HX_y7.out.cell 1)
    have c_y2 := Gr.cell (show w7.cell? ⟨q2, 2, none⟩ = some (.int .u64 (g 2)) from HX_y7.out.cell 2)
    have c_y3 := Gr.cell (show w7.cell? ⟨q2, 3, none⟩ = some (.int .u64 (g 3)) from HX_y7.out.cell 3)
    have c_y4 := Gr.cell (show w7.cell? ⟨q2, 4, none⟩ = some (.int .u64 (g 4)) from HX_y7.out.cell 4)
    have c_y5 := Gr.cell (show w7.cell? ⟨q2, 5, none⟩ = some (.int .u64 (g 5)) from HX_y7.out.cell 5)
    have c_y6 := Gr.cell (show w7.cell? ⟨q2, 6, none⟩ = some (.int .u64 (g 6)) from HX_y7.out.cell 6)
    have c_y7 := Gr.cell (show w7.cell? ⟨q2, 7, none⟩ = some (.int .u64 (g 7)) from HX_y7.out.cell 7)
    refine wp_region_grow (by kernel_rfl) (by kernel_rfl) ?_
    repeat (go_big_quiet_step (first | (go_at_call 16; first | with_reducible exact Gr.blw (R1.out _) | with_reducible exact Gr.blw (R2.out _))))
    refine wpQuiet_nil ?_
    intro w12 hw12
    obtain ⟨G, hG⟩ := hw12
    subst hG
    obtain ⟨w8, hw9⟩ : ∃ w9, G.w' = w9 := ⟨_, rfl⟩
    have ho9 : Only nobody w7 w8 := by rw [← hw9]; exact G.ok
    rw [hw9]
    have HX_a8 := Lib.hid (show Box w8 p 24 #[.bool false, .int .u64 k1, .int .u64 v1, .int .u64 t1, .int .u64 r1, .int .u64 n1, .int .i64 x1] from HX_a7.out.only ho9 (not_nobody _))
    have HX_b8 := Lib.hid (show Box w8 (p + 1) 24 #[.bool u2, .int .u64 k2, .int .u64 v2, .int .u64 t2, .int .u64 r2, .int .u64 n2, .int .i64 x2] from HX_b7.out.only ho9 (not_nobody _))
    have HX_x8 := Lib.hid (show Box w8 q1 26 #[.int .u64 (f 0), .int .u64 (f 1), .int .u64 (f 2), .int .u64 (f 3), .int .u64 (f 4), .int .u64 (f 5), .int .u64 (f 6), .int .u64 (f 7)] from HX_x7.out.only ho9 (not_nobody _))
    have HX_y8 := Lib.hid (show Box w8 q2 26 #[.int .u64 (g 0), .int .u64 (g 1), .int .u64 (g 2), .int .u64 (g 3), .int .u64 (g 4), .int .u64 (g 5), .int .u64 (g 6), .int .u64 (g 7)] from HX_y7.out.only ho9 (not_nobody _))
    clear HX_a7 HX_b7 HX_x7 HX_y7
    have HB8 := Lib.hid (HB7.out.trans (ho9.none.mono HB7.out.size))
    clear c_a0 c_a1 c_a2 c_a3 c_a4 c_a5 c_a6
    clear c_b0 c_b1 c_b2 c_b3 c_b4 c_b5 c_b6
    clear c_x0 c_x1 c_x2 c_x3 c_x4 c_x5 c_x6 c_x7
    clear c_y0 c_y1 c_y2 c_y3 c_y4 c_y5 c_y6 c_y7
    clear ho9 hw9 HB7 G
    clear hq1 hq2
    have c_a0 : w8.cell? ⟨p, 0, none⟩ = some (.bool false) := HX_a8.out.cell 0
    have c_a1 : w8.cell? ⟨p, 1, none⟩ = some (.int .u64 k1) := HX_a8.out.cell 1
    have c_a2 : w8.cell? ⟨p, 2, none⟩ = some (.int .u64 v1) := HX_a8.out.cell 2
    have c_a3 : w8.cell? ⟨p, 3, none⟩ = some (.int .u64 t1) := HX_a8.out.cell 3
    have c_a4 : w8.cell? ⟨p, 4, none⟩ = some (.int .u64 r1) := HX_a8.out.cell 4
    have c_a5 : w8.cell? ⟨p, 5, none⟩ = some (.int .u64 n1) := HX_a8.out.cell 5
    have c_a6 : w8.cell? ⟨p, 6, none⟩ = some (.int .i64 x1) := HX_a8.out.cell 6
    go_wp2_with fail
    refine (R1.out _).mono ?_
    rintro e w9 ⟨rfl, hb⟩
    have HX_a9 := Lib.hid (show Box w9 p 24 #[.bool false, .int .u64 k1, .int .u64 v1, .int .u64 t1, .int .u64 r1, .int .u64 n1, .int .i64 x1] from HX_a8.out.of (hb.block _ HX_a8.out.lt))
    have HX_b9 := Lib.hid (show Box w9 (p + 1) 24 #[.bool u2, .int .u64 k2, .int .u64 v2, .int .u64 t2, .int .u64 r2, .int .u64 n2, .int .i64 x2] from HX_b8.out.of (hb.block _ HX_b8.out.lt))
    have HX_x9 := Lib.hid (show Box w9 q1 26 #[.int .u64 (f 0), .int .u64 (f 1), .int .u64 (f 2), .int .u64 (f 3), .int .u64 (f 4), .int .u64 (f 5), .int .u64 (f 6), .int .u64 (f 7)] from HX_x8.out.of (hb.block _ HX_x8.out.lt))
    have HX_y9 := Lib.hid (show Box w9 q2 26 #[.int .u64 (g 0), .int .u64 (g 1), .int .u64 (g 2), .int .u64 (g 3), .int .u64 (g 4), .int .u64 (g 5), .int .u64 (g 6), .int .u64 (g 7)] from HX_y8.out.of (hb.block _ HX_y8.out.lt))
    clear HX_a8 HX_b8 HX_x8 HX_y8
    have HB9 := Lib.hid (HB8.out.trans (hb.mono HB8.out.size))
    clear hb HB8
    clear c_a0 c_a1 c_a2 c_a3 c_a4 c_a5 c_a6
    have c_a0 : w9.cell? ⟨p, 0, none⟩ = some (.bool false) := HX_a9.out.cell 0
    have c_a1 : w9.cell? ⟨p, 1, none⟩ = some (.int .u64 k1) := HX_a9.out.cell 1
    have c_a2 : w9.cell? ⟨p, 2, none⟩ = some (.int .u64 v1) := HX_a9.out.cell 2
    have c_a3 : w9.cell? ⟨p, 3, none⟩ = some (.int .u64 t1) := HX_a9.out.cell 3
    have c_a4 : w9.cell? ⟨p, 4, none⟩ = some (.int .u64 r1) := HX_a9.out.cell 4
    have c_a5 : w9.cell? ⟨p, 5, none⟩ = some (.int .u64 n1) := HX_a9.out.cell 5
    have c_a6 : w9.cell? ⟨p, 6, none⟩ = some (.int .i64 x1) := HX_a9.out.cell 6
    have c_x0 : w9.cell? ⟨q1, 0, none⟩ = some (.int .u64 (f 0)) := HX_x9.out.cell 0
    have c_x1 : w9.cell? ⟨q1, 1, none⟩ = some (.int .u64 (f 1)) := HX_x9.out.cell 1
    have c_x2 : w9.cell? ⟨q1, 2, none⟩ = some (.int .u64 (f 2)) := HX_x9.out.cell 2
    have c_x3 : w9.cell? ⟨q1, 3, none⟩ = some (.int .u64 (f 3)) := HX_x9.out.cell 3
    have c_x4 : w9.cell? ⟨q1, 4, none⟩ = some (.int .u64 (f 4)) := HX_x9.out.cell 4
    have c_x5 : w9.cell? ⟨q1, 5, none⟩ = some (.int .u64 (f 5)) := HX_x9.out.cell 5
    have c_x6 : w9.cell? ⟨q1, 6, none⟩ = some (.int .u64 (f 6)) := HX_x9.out.cell 6
    have c_x7 : w9.cell? ⟨q1, 7, none⟩ = some (.int .u64 (f 7)) := HX_x9.out.cell 7
    have hq4 := Q4.out
    go_wp2_with fail
    go_ret
    exact ⟨by simp, HB9.out⟩
  · go_upto_region 4 with fail
    have c_a0 := Gr.cell (show w7.cell? ⟨p, 0, none⟩ = some (.bool false) from HX_a7.out.cell 0)
    have c_a1 := Gr.cell (show w7.cell? ⟨p, 1, none⟩ = some (.int .u64 k1) from HX_a7.out.cell 1)
    have c_a2 := Gr.cell (show w7.cell? ⟨p, 2, none⟩ = some (.int .u64 v1) from HX_a7.out.cell 2)
    have c_a3 := Gr.cell (show w7.cell? ⟨p, 3, none⟩ = some (.int .u64 t1) from HX_a7.out.cell 3)
    have c_a4 := Gr.cell (show w7.cell? ⟨p, 4, none⟩ = some (.int .u64 r1) from HX_a7.out.cell 4)
    have c_a5 := Gr.cell (show w7.cell? ⟨p, 5, none⟩ = some (.int .u64 n1) from HX_a7.out.cell 5)
    have c_a6 := Gr.cell (show w7.cell? ⟨p, 6, none⟩ = some (.int .i64 x1) from HX_a7.out.cell 6)
    have c_b0 := Gr.cell (show w7.cell? ⟨p + 1, 0, none⟩ = some (.bool u2) from HX_b7.out.cell 0)
    have c_b1 := Gr.cell (show w7.cell? ⟨p + 1, 1, none⟩ = some (.int .u64 k2) from HX_b7.out.cell 1)
    have c_b2 := Gr.cell (show w7.cell? ⟨p + 1, 2, none⟩ = some (.int .u64 v2) from HX_b7.out.cell 2)
    have c_b3 := Gr.cell (show w7.cell? ⟨p + 1, 3, none⟩ = some (.int .u64 t2) from HX_b7.out.cell 3)
    have c_b4 := Gr.cell (show w7.cell? ⟨p + 1, 4, none⟩ = some (.int .u64 r2) from HX_b7.out.cell 4)
    have c_b5 := Gr.cell (show w7.cell? ⟨p + 1, 5, none⟩ = some (.int .u64 n2) from HX_b7.out.cell 5)
    have c_b6 := Gr.cell (show w7.cell? ⟨p + 1, 6, none⟩ = some (.int .i64 x2) from HX_b7.out.cell 6)
    have c_x0 := Gr.cell (show w7.cell? ⟨q1, 0, none⟩ = some (.int .u64 (f 0)) from HX_x7.out.cell 0)
    have c_x1 := Gr.cell (show w7.cell? ⟨q1, 1, none⟩ = some (.int .u64 (f 1)) from HX_x7.out.cell 1)
    have c_x2 := Gr.cell (show w7.cell? ⟨q1, 2, none⟩ = some (.int .u64 (f 2)) from HX_x7.out.cell 2)
    have c_x3 := Gr.cell (show w7.cell? ⟨q1, 3, none⟩ = some (.int .u64 (f 3)) from HX_x7.out.cell 3)
    have c_x4 := Gr.cell (show w7.cell? ⟨q1, 4, none⟩ = some (.int .u64 (f 4)) from HX_x7.out.cell 4)
    have c_x5 := Gr.cell (show w7.cell? ⟨q1, 5, none⟩ = some (.int .u64 (f 5)) from HX_x7.out.cell 5)
    have c_x6 := Gr.cell (show w7.cell? ⟨q1, 6, none⟩ = some (.int .u64 (f 6)) from HX_x7.out.cell 6)
    have c_x7 := Gr.cell (show w7.cell? ⟨q1, 7, none⟩ = some (.int .u64 (f 7)) from HX_x7.out.cell 7)
    have c_y0 := Gr.cell (show w7.cell? ⟨q2, 0, none⟩ = some (.int .u64 (g 0)) from HX_y7.out.cell 0)
    have c_y1 := Gr.cell (show w7.cell? ⟨q2, 1, none⟩ = some (.int .u64 (g 1)) from HX_y7.out.cell 1)
    have c_y2 := Gr.cell (show w7.cell? ⟨q2, 2, none⟩ = some (.int .u64 (g 2)) from HX_y7.out.cell 2)
    have c_y3 := Gr.cell (show w7.cell? ⟨q2, 3, none⟩ = some (.int .u64 (g 3)) from HX_y7.out.cell 3)
    have c_y4 := Gr.cell (show w7.cell? ⟨q2, 4, none⟩ = some (.int .u64 (g 4)) from HX_y7.out.cell 4)
    have c_y5 := Gr.cell (show w7.cell? ⟨q2, 5, none⟩ = some (.int .u64 (g 5)) from HX_y7.out.cell 5)
    have c_y6 := Gr.cell (show w7.cell? ⟨q2, 6, none⟩ = some (.int .u64 (g 6)) from HX_y7.out.cell 6)
    have c_y7 := Gr.cell (show w7.cell? ⟨q2, 7, none⟩ = some (.int .u64 (g 7)) from HX_y7.out.cell 7)
    refine wp_region_grow (by kernel_rfl) (by kernel_rfl) ?_
    repeat (go_big_quiet_step (first | (go_at_call 16; first | with_reducible exact Gr.blw (R1.out _) | with_reducible exact Gr.blw (R2.out _))))
    refine wpQuiet_nil ?_
    intro w12 hw12
    obtain ⟨G, hG⟩ := hw12
    subst hG
    obtain ⟨w8, hw9⟩ : ∃ w9, G.w' = w9 := ⟨_, rfl⟩
    have ho9 : Only nobody w7 w8 := by rw [← hw9]; exact G.ok
    rw [hw9]
    have HX_a8 := Lib.hid (show Box w8 p 24 #[.bool false, .int .u64 k1, .int .u64 v1, .int .u64 t1, .int .u64 r1, .int .u64 n1, .int .i64 x1] from HX_a7.out.only ho9 (not_nobody _))
    have HX_b8 := Lib.hid (show Box w8 (p + 1) 24 #[.bool u2, .int .u64 k2, .int .u64 v2, .int .u64 t2, .int .u64 r2, .int .u64 n2, .int .i64 x2] from HX_b7.out.only ho9 (not_nobody _))
    have HX_x8 := Lib.hid (show Box w8 q1 26 #[.int .u64 (f 0), .int .u64 (f 1), .int .u64 (f 2), .int .u64 (f 3), .int .u64 (f 4), .int .u64 (f 5), .int .u64 (f 6), .int .u64 (f 7)] from HX_x7.out.only ho9 (not_nobody _))
    have HX_y8 := Lib.hid (show Box w8 q2 26 #[.int .u64 (g 0), .int .u64 (g 1), .int .u64 (g 2), .int .u64 (g 3), .int .u64 (g 4), .int .u64 (g 5), .int .u64 (g 6), .int .u64 (g 7)] from HX_y7.out.only ho9 (not_nobody _))
    clear HX_a7 HX_b7 HX_x7 HX_y7
    have HB8 := Lib.hid (HB7.out.trans (ho9.none.mono HB7.out.size))
    clear c_a0 c_a1 c_a2 c_a3 c_a4 c_a5 c_a6
    clear c_b0 c_b1 c_b2 c_b3 c_b4 c_b5 c_b6
    clear c_x0 c_x1 c_x2 c_x3 c_x4 c_x5 c_x6 c_x7
    clear c_y0 c_y1 c_y2 c_y3 c_y4 c_y5 c_y6 c_y7
    clear ho9 hw9 HB7 G
    clear hq1 hq2
    have c_a0 : w8.cell? ⟨p, 0, none⟩ = some (.bool false) := HX_a8.out.cell 0
    have c_a1 : w8.cell? ⟨p, 1, none⟩ = some (.int .u64 k1) := HX_a8.out.cell 1
    have c_a2 : w8.cell? ⟨p, 2, none⟩ = some (.int .u64 v1) := HX_a8.out.cell 2
    have c_a3 : w8.cell? ⟨p, 3, none⟩ = some (.int .u64 t1) := HX_a8.out.cell 3
    have c_a4 : w8.cell? ⟨p, 4, none⟩ = some (.int .u64 r1) := HX_a8.out.cell 4
    have c_a5 : w8.cell? ⟨p, 5, none⟩ = some (.int .u64 n1) := HX_a8.out.cell 5
    have c_a6 : w8.cell? ⟨p, 6, none⟩ = some (.int .i64 x1) := HX_a8.out.cell 6
    go_wp2_with fail
    refine (R1.out _).mono ?_
    rintro e w9 ⟨rfl, hb⟩
    have HX_a9 := Lib.hid (show Box w9 p 24 #[.bool false, .int .u64 k1, .int .u64 v1, .int .u64 t1, .int .u64 r1, .int .u64 n1, .int .i64 x1] from HX_a8.out.of (hb.block _ HX_a8.out.lt))
    have HX_b9 := Lib.hid (show Box w9 (p + 1) 24 #[.bool u2, .int .u64 k2, .int .u64 v2, .int .u64 t2, .int .u64 r2, .int .u64 n2, .int .i64 x2] from HX_b8.out.of (hb.block _ HX_b8.out.lt))
    have HX_x9 := Lib.hid (show Box w9 q1 26 #[.int .u64 (f 0), .int .u64 (f 1), .int .u64 (f 2), .int .u64 (f 3), .int .u64 (f 4), .int .u64 (f 5), .int .u64 (f 6), .int .u64 (f 7)] from HX_x8.out.of (hb.block _ HX_x8.out.lt))
    have HX_y9 := Lib.hid (show Box w9 q2 26 #[.int .u64 (g 0), .int .u64 (g 1), .int .u64 (g 2), .int .u64 (g 3), .int .u64 (g 4), .int .u64 (g 5), .int .u64 (g 6), .int .u64 (g 7)] from HX_y8.out.of (hb.block _ HX_y8.out.lt))
    clear HX_a8 HX_b8 HX_x8 HX_y8
    have HB9 := Lib.hid (HB8.out.trans (hb.mono HB8.out.size))
    clear hb HB8
    clear c_a0 c_a1 c_a2 c_a3 c_a4 c_a5 c_a6
    have c_a0 : w9.cell? ⟨p, 0, none⟩ = some (.bool false) := HX_a9.out.cell 0
    have c_a1 : w9.cell? ⟨p, 1, none⟩ = some (.int .u64 k1) := HX_a9.out.cell 1
    have c_a2 : w9.cell? ⟨p, 2, none⟩ = some (.int .u64 v1) := HX_a9.out.cell 2
    have c_a3 : w9.cell? ⟨p, 3, none⟩ = some (.int .u64 t1) := HX_a9.out.cell 3
    have c_a4 : w9.cell? ⟨p, 4, none⟩ = some (.int .u64 r1) := HX_a9.out.cell 4
    have c_a5 : w9.cell? ⟨p, 5, none⟩ = some (.int .u64 n1) := HX_a9.out.cell 5
    have c_a6 : w9.cell? ⟨p, 6, none⟩ = some (.int .i64 x1) := HX_a9.out.cell 6
    have c_x0 : w9.cell? ⟨q1, 0, none⟩ = some (.int .u64 (f 0)) := HX_x9.out.cell 0
    have c_x1 : w9.cell? ⟨q1, 1, none⟩ = some (.int .u64 (f 1)) := HX_x9.out.cell 1
    have c_x2 : w9.cell? ⟨q1, 2, none⟩ = some (.int .u64 (f 2)) := HX_x9.out.cell 2
    have c_x3 : w9.cell? ⟨q1, 3, none⟩ = some (.int .u64 (f 3)) := HX_x9.out.cell 3
    have c_x4 : w9.cell? ⟨q1, 4, none⟩ = some (.int .u64 (f 4)) := HX_x9.out.cell 4
    have c_x5 : w9.cell? ⟨q1, 5, none⟩ = some (.int .u64 (f 5)) := HX_x9.out.cell 5
    have c_x6 : w9.cell? ⟨q1, 6, none⟩ = some (.int .u64 (f 6)) := HX_x9.out.cell 6
    have c_x7 : w9.cell? ⟨q1, 7, none⟩ = some (.int .u64 (f 7)) := HX_x9.out.cell 7
    have hq4 := Q4.out
    go_wp2_with fail
    go_ret
    exact ⟨by simp, HB9.out⟩
theorem dat_inj (a b : Sl) (ha : a.Ok) (hb : b.Ok) (h1 : a.right = true) (h2 : b.right = true) : deq a.dat b.dat = sleq a b := by
  rw [Bool.eq_iff_iff, sleq_iff]
  constructor
  · intro h
    have e := (deq_iff _ _).1 h
    have x1 := (read_dat a ha h1).2
    have x2 := (read_dat b hb h2).2
    rw [← x1, ← x2]
    unfold rdS
    rw [e 0 (by decide), e 1 (by decide), e 2 (by decide), e 3 (by decide), e 4 (by decide), e 5 (by decide), e 6 (by decide)]
  · rintro rfl; exact deq_self _
theorem once_law (a b : Sl) (w : World) (ha : a.Ok) (hb : b.Ok) :
    Calls Try.prog 6 #[.agg a.a, .agg b.a] w fun e w' => e = .returned (.bool true) ∧ Below w.heap.size w w' := by
  have D1 := Lib.hid (fun W => sldata_any a W ha)
  have D2 := Lib.hid (fun W => sldata_any b W hb)
  have R1 := Lib.hid (fun W => slright_any a W ha)
  have R2 := Lib.hid (fun W => slright_any b W hb)
  have hj := dat_inj a b ha hb
  obtain ⟨u1, k1, v1, t1, r1, n1, x1⟩ := a
  obtain ⟨u2, k2, v2, t2, r2, n2, x2⟩ := b
  cases h1 : Sl.right ⟨u1, k1, v1, t1, r1, n1, x1⟩
  · rw [h1] at R1
    have Q3 := fun W => eql_data (Sl.dat ⟨u1, k1, v1, t1, r1, n1, x1⟩) (fun _ => 0) W
    rw [show deq (Sl.dat ⟨u1, k1, v1, t1, r1, n1, x1⟩) (fun _ => 0) = true from deq_of _ _ fun i _ => dtS_no h1 i] at Q3
    exact once_n u1 k1 v1 t1 r1 n1 x1 u2 k2 v2 t2 r2 n2 x2 _ _ w R1 D1 D2 (Lib.hid Q3)
  · rw [h1] at R1
    have h1' : rtS u1 k1 v1 t1 r1 n1 x1 = true := h1
    cases u1
    · have Q4 := fun W => eql_data (Sl.dat ⟨false, k1, v1, t1, r1, n1, x1⟩) (fun i => match i with | 6 => IntKind.u64.wrap x1 | _ => 0) W
      have hz : k1 = 0 ∧ v1 = 0 ∧ t1 = 0 ∧ r1 = 0 ∧ n1 = 0 := by
        unfold rtS at h1'
        simp only [Bool.false_eq_true, if_false, Bool.and_eq_true, beq_iff_eq] at h1'
        exact ⟨h1'.1.1.1.1.1.1, h1'.1.1.1.1.1.2, h1'.1.1.1.1.2, h1'.1.1.1.2, h1'.1.1.2⟩
      rw [show deq (Sl.dat ⟨false, k1, v1, t1, r1, n1, x1⟩) (fun i => match i with | 6 => IntKind.u64.wrap x1 | _ => 0) = true from deq_of _ _ fun i hi => by
        obtain ⟨rfl, rfl, rfl, rfl, rfl⟩ := hz
        show dtS false 0 0 0 0 0 x1 i = _
        unfold dtS
        rw [if_pos h1']
        match i, hi with
        | 0, _ => rfl
        | 1, _ => rfl
        | 2, _ => rfl
        | 3, _ => rfl
        | 4, _ => rfl
        | 5, _ => rfl
        | 6, _ => rfl
        | 7, _ => rfl] at Q4
      cases h2 : Sl.right ⟨u2, k2, v2, t2, r2, n2, x2⟩
      · rw [h2] at R2
        exact once_ff k1 v1 t1 r1 n1 x1 u2 k2 v2 t2 r2 n2 x2 _ _ w R1 R2 D1 D2 (Lib.hid Q4)
      · rw [h2] at R2
        have hd := hj h1 h2
        have Q1 := fun W => eql_data (Sl.dat ⟨false, k1, v1, t1, r1, n1, x1⟩) (Sl.dat ⟨u2, k2, v2, t2, r2, n2, x2⟩) W
        have Q2 := fun W => eql_slot ⟨false, k1, v1, t1, r1, n1, x1⟩ ⟨u2, k2, v2, t2, r2, n2, x2⟩ W
        rw [hd] at Q1
        exact once_ft k1 v1 t1 r1 n1 x1 u2 k2 v2 t2 r2 n2 x2 _ _ _ w R1 R2 D1 D2 (Lib.hid Q1) (Lib.hid Q2) (Lib.hid Q4)
    · have e0 : Sl.dat ⟨true, k1, v1, t1, r1, n1, x1⟩ 0 = 1 := by show dtS true k1 v1 t1 r1 n1 x1 0 = 1; unfold dtS; rw [if_pos h1']; rfl
      have e7 : Sl.dat ⟨true, k1, v1, t1, r1, n1, x1⟩ 7 = 0 := by show dtS true k1 v1 t1 r1 n1 x1 7 = 0; unfold dtS; rw [if_pos h1']; rfl
      have e6 : Sl.dat ⟨true, k1, v1, t1, r1, n1, x1⟩ 6 = 0 := by
        show dtS true k1 v1 t1 r1 n1 x1 6 = 0
        unfold dtS
        rw [if_pos h1']
        have : x1 = 0 := by
          unfold rtS at h1'
          simp only [if_true, Bool.and_eq_true, beq_iff_eq] at h1'
          exact h1'.2
        rw [this]; rfl
      have ea : DA (Sl.dat ⟨true, k1, v1, t1, r1, n1, x1⟩) = #[.int .u64 1, .int .u64 (Sl.dat ⟨true, k1, v1, t1, r1, n1, x1⟩ 1), .int .u64 (Sl.dat ⟨true, k1, v1, t1, r1, n1, x1⟩ 2), .int .u64 (Sl.dat ⟨true, k1, v1, t1, r1, n1, x1⟩ 3), .int .u64 (Sl.dat ⟨true, k1, v1, t1, r1, n1, x1⟩ 4), .int .u64 (Sl.dat ⟨true, k1, v1, t1, r1, n1, x1⟩ 5), .int .u64 0, .int .u64 0] := by
        unfold DA; rw [e0, e6, e7]
      rw [ea] at D1
      cases h2 : Sl.right ⟨u2, k2, v2, t2, r2, n2, x2⟩
      · rw [h2] at R2
        exact once_tf k1 v1 t1 r1 n1 x1 u2 k2 v2 t2 r2 n2 x2 _ _ w R1 R2 D1 D2
      · rw [h2] at R2
        have hd := hj h1 h2
        have Q1 := fun W => eql_data (Sl.dat ⟨true, k1, v1, t1, r1, n1, x1⟩) (Sl.dat ⟨u2, k2, v2, t2, r2, n2, x2⟩) W
        have Q2 := fun W => eql_slot ⟨true, k1, v1, t1, r1, n1, x1⟩ ⟨u2, k2, v2, t2, r2, n2, x2⟩ W
        rw [hd, ea] at Q1
        exact once_tt k1 v1 t1 r1 n1 x1 u2 k2 v2 t2 r2 n2 x2 _ _ _ w R1 R2 D1 D2 (Lib.hid Q1) (Lib.hid Q2)
end Go.Proofs.Ytjamfcjglodfeaa
