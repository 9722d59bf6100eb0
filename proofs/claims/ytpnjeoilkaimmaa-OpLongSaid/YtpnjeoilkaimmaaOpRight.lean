/- Contracts of op.Right and of the document's Right: whether an operation is right. Conditions: words are of 64 bits. -/
import Derived.Test.YtpnjeoilkaimmaaOpMath
import Derived.Test.YtpnjeoilkaimmaaPackWords
import Derived.Test.YtpnjeoilkaimmaaHeap
import Derived.Deep.Cut
namespace Go.Proofs.Ytpnjeoilkaimmaa
open Go.RowKit Go.ChangeShapes Go.WideShapes Go.ChangeAt

theorem packed_any (n : Nat) (w : World) (hn : n < 18446744073709551616) : Calls Try.prog 26 #[.int .u64 n] w (RightPost w n) := by
  have HN := Lib.hid (fun w => refTextT n w hn)
  have ht := te_rt n
  clear hn
  go_enter Try.func26, Try.ntmps26
  go_wp2_with fail
  refine (HN.out _).mono ?_
  rintro e w1 ⟨rfl, hb⟩
  have HB := Lib.hid hb
  clear hb HN
  go_wp2
  go_ret
  exact ⟨rfl, HB.out⟩
theorem Ov.r_no {o : Ov} (h : ¬ o.R) : o.r = false := by
  cases hr : o.r
  · rfl
  · exact absurd ((Ov.r_iff o).1 hr) h
theorem Ov.r_yes {o : Ov} (h : o.R) : o.r = true := (Ov.r_iff o).2 h
theorem rt_nought : rt 0 = true := by decide
def OrPost (w : World) (b : Bool) (e : Ending) (w' : World) : Prop := e = .returned (.bool b) ∧ Below w.heap.size w w'
set_option maxHeartbeats 1000000 in
theorem or_5k (key : Nat) (val : Nat) (f : Int) (w : World) (n1 : key ≠ 0) :
    Calls Try.prog 12 #[.agg #[.int .i64 5, .int .u64 (key : Nat), .int .u64 (val : Nat), .int .i64 f]] w (OrPost w (Ov.r ⟨5, key, val, f⟩)) := by
  have HX := Lib.hid (show Ov.r ⟨5, key, val, f⟩ = false from Ov.r_no fun h => n1 (h.len rfl))
  rw [HX.out]
  have b_key : ((key : Int) != 0) = true := by simp; omega
  clear n1
  obtain ⟨p, hp⟩ : ∃ p, w.heap.size = p := ⟨_, rfl⟩
  obtain ⟨w1, hw1⟩ : ∃ w1, w.alloc (.cells #[.int .i64 5, .int .u64 (key : Nat), .int .u64 (val : Nat), .int .i64 f] 24) = w1 := ⟨_, rfl⟩
  have HB1 := Lib.hid (show Below w.heap.size w w1 by rw [← hw1]; exact (Below.refl _ _).alloc (Nat.le_refl _) _)
  have HX1 := Lib.hid (show Box w1 p 24 #[.int .i64 5, .int .u64 (key : Nat), .int .u64 (val : Nat), .int .i64 f] by rw [← hw1, ← hp]; exact Box.new _ _ _)
  go_enter Try.func12, Try.ntmps12
  go_upto_region 1 with fail

  try simp only [hw1, hp]
  clear hw1 hp
  have c0 : w1.cell? ⟨p, 0, none⟩ = some (.int .i64 5) := HX1.out.cell 0
  have c1 : w1.cell? ⟨p, 1, none⟩ = some (.int .u64 (key : Nat)) := HX1.out.cell 1
  have c2 : w1.cell? ⟨p, 2, none⟩ = some (.int .u64 (val : Nat)) := HX1.out.cell 2
  have c3 : w1.cell? ⟨p, 3, none⟩ = some (.int .i64 f) := HX1.out.cell 3
  go_wp2
  go_ret
  exact ⟨rfl, HB1.out⟩
set_option maxHeartbeats 1000000 in
theorem or_1v (key : Nat) (val : Nat) (f : Int) (w : World) (n1 : val ≠ 0) :
    Calls Try.prog 12 #[.agg #[.int .i64 1, .int .u64 (key : Nat), .int .u64 (val : Nat), .int .i64 f]] w (OrPost w (Ov.r ⟨1, key, val, f⟩)) := by
  have HX := Lib.hid (show Ov.r ⟨1, key, val, f⟩ = false from Ov.r_no fun h => n1 (h.put (show (1 : Int) ≠ 3 by decide)).1)
  rw [HX.out]
  have b_val : ((val : Int) != 0) = true := by simp; omega
  clear n1
  obtain ⟨p, hp⟩ : ∃ p, w.heap.size = p := ⟨_, rfl⟩
  obtain ⟨w1, hw1⟩ : ∃ w1, w.alloc (.cells #[.int .i64 1, .int .u64 (key : Nat), .int .u64 (val : Nat), .int .i64 f] 24) = w1 := ⟨_, rfl⟩
  have HB1 := Lib.hid (show Below w.heap.size w w1 by rw [← hw1]; exact (Below.refl _ _).alloc (Nat.le_refl _) _)
  have HX1 := Lib.hid (show Box w1 p 24 #[.int .i64 1, .int .u64 (key : Nat), .int .u64 (val : Nat), .int .i64 f] by rw [← hw1, ← hp]; exact Box.new _ _ _)
  go_enter Try.func12, Try.ntmps12
  go_upto_region 1 with fail

  try simp only [hw1, hp]
  clear hw1 hp
  have c0 : w1.cell? ⟨p, 0, none⟩ = some (.int .i64 1) := HX1.out.cell 0
  have c1 : w1.cell? ⟨p, 1, none⟩ = some (.int .u64 (key : Nat)) := HX1.out.cell 1
  have c2 : w1.cell? ⟨p, 2, none⟩ = some (.int .u64 (val : Nat)) := HX1.out.cell 2
  have c3 : w1.cell? ⟨p, 3, none⟩ = some (.int .i64 f) := HX1.out.cell 3
  go_wp2
  go_ret
  exact ⟨rfl, HB1.out⟩
set_option maxHeartbeats 1000000 in
theorem or_1f (key : Nat) (f : Int) (w : World) (n1 : f ≠ 0) :
    Calls Try.prog 12 #[.agg #[.int .i64 1, .int .u64 (key : Nat), .int .u64 0, .int .i64 f]] w (OrPost w (Ov.r ⟨1, key, 0, f⟩)) := by
  have HX := Lib.hid (show Ov.r ⟨1, key, 0, f⟩ = false from Ov.r_no fun h => n1 (h.put (show (1 : Int) ≠ 3 by decide)).2)
  rw [HX.out]
  have b_f : (f != 0) = true := by simp; omega
  clear n1
  obtain ⟨p, hp⟩ : ∃ p, w.heap.size = p := ⟨_, rfl⟩
  obtain ⟨w1, hw1⟩ : ∃ w1, w.alloc (.cells #[.int .i64 1, .int .u64 (key : Nat), .int .u64 0, .int .i64 f] 24) = w1 := ⟨_, rfl⟩
  have HB1 := Lib.hid (show Below w.heap.size w w1 by rw [← hw1]; exact (Below.refl _ _).alloc (Nat.le_refl _) _)
  have HX1 := Lib.hid (show Box w1 p 24 #[.int .i64 1, .int .u64 (key : Nat), .int .u64 0, .int .i64 f] by rw [← hw1, ← hp]; exact Box.new _ _ _)
  go_enter Try.func12, Try.ntmps12
  go_upto_region 1 with fail

  try simp only [hw1, hp]
  clear hw1 hp
  have c0 : w1.cell? ⟨p, 0, none⟩ = some (.int .i64 1) := HX1.out.cell 0
  have c1 : w1.cell? ⟨p, 1, none⟩ = some (.int .u64 (key : Nat)) := HX1.out.cell 1
  have c2 : w1.cell? ⟨p, 2, none⟩ = some (.int .u64 0) := HX1.out.cell 2
  have c3 : w1.cell? ⟨p, 3, none⟩ = some (.int .i64 f) := HX1.out.cell 3
  go_wp2
  go_ret
  exact ⟨rfl, HB1.out⟩
set_option maxHeartbeats 1000000 in
theorem or_1n (key : Nat) (w : World) (hkey : key < 18446744073709551616) (tkey : rt key = false) :
    Calls Try.prog 12 #[.agg #[.int .i64 1, .int .u64 (key : Nat), .int .u64 0, .int .i64 0]] w (OrPost w (Ov.r ⟨1, key, 0, 0⟩)) := by
  have HX := Lib.hid (show Ov.r ⟨1, key, 0, 0⟩ = false from Ov.r_no fun h => by have := h.kr; simp [tkey] at this)
  rw [HX.out]
  have HC0 := Lib.hid (fun w => right_any key w (hkey))
  have HT0 := Lib.hid (show rt key = false from tkey)
  clear hkey tkey
  obtain ⟨p, hp⟩ : ∃ p, w.heap.size = p := ⟨_, rfl⟩
  obtain ⟨w1, hw1⟩ : ∃ w1, w.alloc (.cells #[.int .i64 1, .int .u64 (key : Nat), .int .u64 0, .int .i64 0] 24) = w1 := ⟨_, rfl⟩
  have HB1 := Lib.hid (show Below w.heap.size w w1 by rw [← hw1]; exact (Below.refl _ _).alloc (Nat.le_refl _) _)
  have HX1 := Lib.hid (show Box w1 p 24 #[.int .i64 1, .int .u64 (key : Nat), .int .u64 0, .int .i64 0] by rw [← hw1, ← hp]; exact Box.new _ _ _)
  go_enter Try.func12, Try.ntmps12
  go_upto_region 1 with fail

  try simp only [hw1, hp]
  clear hw1 hp
  have c0 : w1.cell? ⟨p, 0, none⟩ = some (.int .i64 1) := HX1.out.cell 0
  have c1 : w1.cell? ⟨p, 1, none⟩ = some (.int .u64 (key : Nat)) := HX1.out.cell 1
  have c2 : w1.cell? ⟨p, 2, none⟩ = some (.int .u64 0) := HX1.out.cell 2
  have c3 : w1.cell? ⟨p, 3, none⟩ = some (.int .i64 0) := HX1.out.cell 3
  go_wp2_with fail
  refine (HC0.out _).mono ?_
  rintro e w2 ⟨rfl, hb⟩
  rw [HT0.out]
  clear c0 c1 c2 c3
  have HX2 := Lib.hid (HX1.out.of (hb.block _ HX1.out.lt))
  have HB2 := Lib.hid (below3 HB1.out hb)
  clear hb HB1 HX1 HC0
  have c0 : w2.cell? ⟨p, 0, none⟩ = some (.int .i64 1) := HX2.out.cell 0
  have c1 : w2.cell? ⟨p, 1, none⟩ = some (.int .u64 (key : Nat)) := HX2.out.cell 1
  have c2 : w2.cell? ⟨p, 2, none⟩ = some (.int .u64 0) := HX2.out.cell 2
  have c3 : w2.cell? ⟨p, 3, none⟩ = some (.int .i64 0) := HX2.out.cell 3
  go_wp2
  go_ret
  exact ⟨rfl, HB2.out⟩
set_option maxHeartbeats 1000000 in
theorem or_1y (key : Nat) (w : World) (hkey : key < 18446744073709551616) (tkey : rt key = true) :
    Calls Try.prog 12 #[.agg #[.int .i64 1, .int .u64 (key : Nat), .int .u64 0, .int .i64 0]] w (OrPost w (Ov.r ⟨1, key, 0, 0⟩)) := by
  have HX := Lib.hid (show Ov.r ⟨1, key, 0, 0⟩ = true from Ov.r_yes ⟨(by decide : (1 : Int) ≤ 1), (by decide : (1 : Int) ≤ 5), fun h => absurd h (by decide : ¬ (1 : Int) = 5), fun _ => ⟨rfl, rfl⟩, tkey, rt_nought, (by decide : (0 : Int) ≤ 0), (by decide : (0 : Int) ≤ 65535)⟩)
  rw [HX.out]
  have HC0 := Lib.hid (fun w => right_any key w (hkey))
  have HT0 := Lib.hid (show rt key = true from tkey)
  have HC1 := Lib.hid (fun w => right_any 0 w (by decide))
  have HT1 := Lib.hid (show rt 0 = true from rt_nought)
  clear hkey tkey
  obtain ⟨p, hp⟩ : ∃ p, w.heap.size = p := ⟨_, rfl⟩
  obtain ⟨w1, hw1⟩ : ∃ w1, w.alloc (.cells #[.int .i64 1, .int .u64 (key : Nat), .int .u64 0, .int .i64 0] 24) = w1 := ⟨_, rfl⟩
  have HB1 := Lib.hid (show Below w.heap.size w w1 by rw [← hw1]; exact (Below.refl _ _).alloc (Nat.le_refl _) _)
  have HX1 := Lib.hid (show Box w1 p 24 #[.int .i64 1, .int .u64 (key : Nat), .int .u64 0, .int .i64 0] by rw [← hw1, ← hp]; exact Box.new _ _ _)
  go_enter Try.func12, Try.ntmps12
  go_upto_region 1 with fail

  try simp only [hw1, hp]
  clear hw1 hp
  have c0 : w1.cell? ⟨p, 0, none⟩ = some (.int .i64 1) := HX1.out.cell 0
  have c1 : w1.cell? ⟨p, 1, none⟩ = some (.int .u64 (key : Nat)) := HX1.out.cell 1
  have c2 : w1.cell? ⟨p, 2, none⟩ = some (.int .u64 0) := HX1.out.cell 2
  have c3 : w1.cell? ⟨p, 3, none⟩ = some (.int .i64 0) := HX1.out.cell 3
  go_wp2_with fail
  refine (HC0.out _).mono ?_
  rintro e w2 ⟨rfl, hb⟩
  rw [HT0.out]
  clear c0 c1 c2 c3
  have HX2 := Lib.hid (HX1.out.of (hb.block _ HX1.out.lt))
  have HB2 := Lib.hid (below3 HB1.out hb)
  clear hb HB1 HX1 HC0
  have c0 : w2.cell? ⟨p, 0, none⟩ = some (.int .i64 1) := HX2.out.cell 0
  have c1 : w2.cell? ⟨p, 1, none⟩ = some (.int .u64 (key : Nat)) := HX2.out.cell 1
  have c2 : w2.cell? ⟨p, 2, none⟩ = some (.int .u64 0) := HX2.out.cell 2
  have c3 : w2.cell? ⟨p, 3, none⟩ = some (.int .i64 0) := HX2.out.cell 3
  go_wp2_with fail
  refine (HC1.out _).mono ?_
  rintro e w3 ⟨rfl, hb⟩
  rw [HT1.out]
  clear c0 c1 c2 c3
  have HX3 := Lib.hid (HX2.out.of (hb.block _ HX2.out.lt))
  have HB3 := Lib.hid (below3 HB2.out hb)
  clear hb HB2 HX2 HC1
  have c0 : w3.cell? ⟨p, 0, none⟩ = some (.int .i64 1) := HX3.out.cell 0
  have c1 : w3.cell? ⟨p, 1, none⟩ = some (.int .u64 (key : Nat)) := HX3.out.cell 1
  have c2 : w3.cell? ⟨p, 2, none⟩ = some (.int .u64 0) := HX3.out.cell 2
  have c3 : w3.cell? ⟨p, 3, none⟩ = some (.int .i64 0) := HX3.out.cell 3
  go_wp2
  go_ret
  exact ⟨rfl, HB3.out⟩
set_option maxHeartbeats 1000000 in
theorem or_2v (key : Nat) (val : Nat) (f : Int) (w : World) (n1 : val ≠ 0) :
    Calls Try.prog 12 #[.agg #[.int .i64 2, .int .u64 (key : Nat), .int .u64 (val : Nat), .int .i64 f]] w (OrPost w (Ov.r ⟨2, key, val, f⟩)) := by
  have HX := Lib.hid (show Ov.r ⟨2, key, val, f⟩ = false from Ov.r_no fun h => n1 (h.put (show (2 : Int) ≠ 3 by decide)).1)
  rw [HX.out]
  have b_val : ((val : Int) != 0) = true := by simp; omega
  clear n1
  obtain ⟨p, hp⟩ : ∃ p, w.heap.size = p := ⟨_, rfl⟩
  obtain ⟨w1, hw1⟩ : ∃ w1, w.alloc (.cells #[.int .i64 2, .int .u64 (key : Nat), .int .u64 (val : Nat), .int .i64 f] 24) = w1 := ⟨_, rfl⟩
  have HB1 := Lib.hid (show Below w.heap.size w w1 by rw [← hw1]; exact (Below.refl _ _).alloc (Nat.le_refl _) _)
  have HX1 := Lib.hid (show Box w1 p 24 #[.int .i64 2, .int .u64 (key : Nat), .int .u64 (val : Nat), .int .i64 f] by rw [← hw1, ← hp]; exact Box.new _ _ _)
  go_enter Try.func12, Try.ntmps12
  go_upto_region 1 with fail

  try simp only [hw1, hp]
  clear hw1 hp
  have c0 : w1.cell? ⟨p, 0, none⟩ = some (.int .i64 2) := HX1.out.cell 0
  have c1 : w1.cell? ⟨p, 1, none⟩ = some (.int .u64 (key : Nat)) := HX1.out.cell 1
  have c2 : w1.cell? ⟨p, 2, none⟩ = some (.int .u64 (val : Nat)) := HX1.out.cell 2
  have c3 : w1.cell? ⟨p, 3, none⟩ = some (.int .i64 f) := HX1.out.cell 3
  go_wp2
  go_ret
  exact ⟨rfl, HB1.out⟩
set_option maxHeartbeats 1000000 in
theorem or_2f (key : Nat) (f : Int) (w : World) (n1 : f ≠ 0) :
    Calls Try.prog 12 #[.agg #[.int .i64 2, .int .u64 (key : Nat), .int .u64 0, .int .i64 f]] w (OrPost w (Ov.r ⟨2, key, 0, f⟩)) := by
  have HX := Lib.hid (show Ov.r ⟨2, key, 0, f⟩ = false from Ov.r_no fun h => n1 (h.put (show (2 : Int) ≠ 3 by decide)).2)
  rw [HX.out]
  have b_f : (f != 0) = true := by simp; omega
  clear n1
  obtain ⟨p, hp⟩ : ∃ p, w.heap.size = p := ⟨_, rfl⟩
  obtain ⟨w1, hw1⟩ : ∃ w1, w.alloc (.cells #[.int .i64 2, .int .u64 (key : Nat), .int .u64 0, .int .i64 f] 24) = w1 := ⟨_, rfl⟩
  have HB1 := Lib.hid (show Below w.heap.size w w1 by rw [← hw1]; exact (Below.refl _ _).alloc (Nat.le_refl _) _)
  have HX1 := Lib.hid (show Box w1 p 24 #[.int .i64 2, .int .u64 (key : Nat), .int .u64 0, .int .i64 f] by rw [← hw1, ← hp]; exact Box.new _ _ _)
  go_enter Try.func12, Try.ntmps12
  go_upto_region 1 with fail

  try simp only [hw1, hp]
  clear hw1 hp
  have c0 : w1.cell? ⟨p, 0, none⟩ = some (.int .i64 2) := HX1.out.cell 0
  have c1 : w1.cell? ⟨p, 1, none⟩ = some (.int .u64 (key : Nat)) := HX1.out.cell 1
  have c2 : w1.cell? ⟨p, 2, none⟩ = some (.int .u64 0) := HX1.out.cell 2
  have c3 : w1.cell? ⟨p, 3, none⟩ = some (.int .i64 f) := HX1.out.cell 3
  go_wp2
  go_ret
  exact ⟨rfl, HB1.out⟩
set_option maxHeartbeats 1000000 in
theorem or_2n (key : Nat) (w : World) (hkey : key < 18446744073709551616) (tkey : rt key = false) :
    Calls Try.prog 12 #[.agg #[.int .i64 2, .int .u64 (key : Nat), .int .u64 0, .int .i64 0]] w (OrPost w (Ov.r ⟨2, key, 0, 0⟩)) := by
  have HX := Lib.hid (show Ov.r ⟨2, key, 0, 0⟩ = false from Ov.r_no fun h => by have := h.kr; simp [tkey] at this)
  rw [HX.out]
  have HC0 := Lib.hid (fun w => right_any key w (hkey))
  have HT0 := Lib.hid (show rt key = false from tkey)
  clear hkey tkey
  obtain ⟨p, hp⟩ : ∃ p, w.heap.size = p := ⟨_, rfl⟩
  obtain ⟨w1, hw1⟩ : ∃ w1, w.alloc (.cells #[.int .i64 2, .int .u64 (key : Nat), .int .u64 0, .int .i64 0] 24) = w1 := ⟨_, rfl⟩
  have HB1 := Lib.hid (show Below w.heap.size w w1 by rw [← hw1]; exact (Below.refl _ _).alloc (Nat.le_refl _) _)
  have HX1 := Lib.hid (show Box w1 p 24 #[.int .i64 2, .int .u64 (key : Nat), .int .u64 0, .int .i64 0] by rw [← hw1, ← hp]; exact Box.new _ _ _)
  go_enter Try.func12, Try.ntmps12
  go_upto_region 1 with fail

  try simp only [hw1, hp]
  clear hw1 hp
  have c0 : w1.cell? ⟨p, 0, none⟩ = some (.int .i64 2) := HX1.out.cell 0
  have c1 : w1.cell? ⟨p, 1, none⟩ = some (.int .u64 (key : Nat)) := HX1.out.cell 1
  have c2 : w1.cell? ⟨p, 2, none⟩ = some (.int .u64 0) := HX1.out.cell 2
  have c3 : w1.cell? ⟨p, 3, none⟩ = some (.int .i64 0) := HX1.out.cell 3
  go_wp2_with fail
  refine (HC0.out _).mono ?_
  rintro e w2 ⟨rfl, hb⟩
  rw [HT0.out]
  clear c0 c1 c2 c3
  have HX2 := Lib.hid (HX1.out.of (hb.block _ HX1.out.lt))
  have HB2 := Lib.hid (below3 HB1.out hb)
  clear hb HB1 HX1 HC0
  have c0 : w2.cell? ⟨p, 0, none⟩ = some (.int .i64 2) := HX2.out.cell 0
  have c1 : w2.cell? ⟨p, 1, none⟩ = some (.int .u64 (key : Nat)) := HX2.out.cell 1
  have c2 : w2.cell? ⟨p, 2, none⟩ = some (.int .u64 0) := HX2.out.cell 2
  have c3 : w2.cell? ⟨p, 3, none⟩ = some (.int .i64 0) := HX2.out.cell 3
  go_wp2
  go_ret
  exact ⟨rfl, HB2.out⟩
set_option maxHeartbeats 1000000 in
theorem or_2y (key : Nat) (w : World) (hkey : key < 18446744073709551616) (tkey : rt key = true) :
    Calls Try.prog 12 #[.agg #[.int .i64 2, .int .u64 (key : Nat), .int .u64 0, .int .i64 0]] w (OrPost w (Ov.r ⟨2, key, 0, 0⟩)) := by
  have HX := Lib.hid (show Ov.r ⟨2, key, 0, 0⟩ = true from Ov.r_yes ⟨(by decide : (1 : Int) ≤ 2), (by decide : (2 : Int) ≤ 5), fun h => absurd h (by decide : ¬ (2 : Int) = 5), fun _ => ⟨rfl, rfl⟩, tkey, rt_nought, (by decide : (0 : Int) ≤ 0), (by decide : (0 : Int) ≤ 65535)⟩)
  rw [HX.out]
  have HC0 := Lib.hid (fun w => right_any key w (hkey))
  have HT0 := Lib.hid (show rt key = true from tkey)
  have HC1 := Lib.hid (fun w => right_any 0 w (by decide))
  have HT1 := Lib.hid (show rt 0 = true from rt_nought)
  clear hkey tkey
  obtain ⟨p, hp⟩ : ∃ p, w.heap.size = p := ⟨_, rfl⟩
  obtain ⟨w1, hw1⟩ : ∃ w1, w.alloc (.cells #[.int .i64 2, .int .u64 (key : Nat), .int .u64 0, .int .i64 0] 24) = w1 := ⟨_, rfl⟩
  have HB1 := Lib.hid (show Below w.heap.size w w1 by rw [← hw1]; exact (Below.refl _ _).alloc (Nat.le_refl _) _)
  have HX1 := Lib.hid (show Box w1 p 24 #[.int .i64 2, .int .u64 (key : Nat), .int .u64 0, .int .i64 0] by rw [← hw1, ← hp]; exact Box.new _ _ _)
  go_enter Try.func12, Try.ntmps12
  go_upto_region 1 with fail

  try simp only [hw1, hp]
  clear hw1 hp
  have c0 : w1.cell? ⟨p, 0, none⟩ = some (.int .i64 2) := HX1.out.cell 0
  have c1 : w1.cell? ⟨p, 1, none⟩ = some (.int .u64 (key : Nat)) := HX1.out.cell 1
  have c2 : w1.cell? ⟨p, 2, none⟩ = some (.int .u64 0) := HX1.out.cell 2
  have c3 : w1.cell? ⟨p, 3, none⟩ = some (.int .i64 0) := HX1.out.cell 3
  go_wp2_with fail
  refine (HC0.out _).mono ?_
  rintro e w2 ⟨rfl, hb⟩
  rw [HT0.out]
  clear c0 c1 c2 c3
  have HX2 := Lib.hid (HX1.out.of (hb.block _ HX1.out.lt))
  have HB2 := Lib.hid (below3 HB1.out hb)
  clear hb HB1 HX1 HC0
  have c0 : w2.cell? ⟨p, 0, none⟩ = some (.int .i64 2) := HX2.out.cell 0
  have c1 : w2.cell? ⟨p, 1, none⟩ = some (.int .u64 (key : Nat)) := HX2.out.cell 1
  have c2 : w2.cell? ⟨p, 2, none⟩ = some (.int .u64 0) := HX2.out.cell 2
  have c3 : w2.cell? ⟨p, 3, none⟩ = some (.int .i64 0) := HX2.out.cell 3
  go_wp2_with fail
  refine (HC1.out _).mono ?_
  rintro e w3 ⟨rfl, hb⟩
  rw [HT1.out]
  clear c0 c1 c2 c3
  have HX3 := Lib.hid (HX2.out.of (hb.block _ HX2.out.lt))
  have HB3 := Lib.hid (below3 HB2.out hb)
  clear hb HB2 HX2 HC1
  have c0 : w3.cell? ⟨p, 0, none⟩ = some (.int .i64 2) := HX3.out.cell 0
  have c1 : w3.cell? ⟨p, 1, none⟩ = some (.int .u64 (key : Nat)) := HX3.out.cell 1
  have c2 : w3.cell? ⟨p, 2, none⟩ = some (.int .u64 0) := HX3.out.cell 2
  have c3 : w3.cell? ⟨p, 3, none⟩ = some (.int .i64 0) := HX3.out.cell 3
  go_wp2
  go_ret
  exact ⟨rfl, HB3.out⟩
set_option maxHeartbeats 1000000 in
theorem or_4v (key : Nat) (val : Nat) (f : Int) (w : World) (n1 : val ≠ 0) :
    Calls Try.prog 12 #[.agg #[.int .i64 4, .int .u64 (key : Nat), .int .u64 (val : Nat), .int .i64 f]] w (OrPost w (Ov.r ⟨4, key, val, f⟩)) := by
  have HX := Lib.hid (show Ov.r ⟨4, key, val, f⟩ = false from Ov.r_no fun h => n1 (h.put (show (4 : Int) ≠ 3 by decide)).1)
  rw [HX.out]
  have b_val : ((val : Int) != 0) = true := by simp; omega
  clear n1
  obtain ⟨p, hp⟩ : ∃ p, w.heap.size = p := ⟨_, rfl⟩
  obtain ⟨w1, hw1⟩ : ∃ w1, w.alloc (.cells #[.int .i64 4, .int .u64 (key : Nat), .int .u64 (val : Nat), .int .i64 f] 24) = w1 := ⟨_, rfl⟩
  have HB1 := Lib.hid (show Below w.heap.size w w1 by rw [← hw1]; exact (Below.refl _ _).alloc (Nat.le_refl _) _)
  have HX1 := Lib.hid (show Box w1 p 24 #[.int .i64 4, .int .u64 (key : Nat), .int .u64 (val : Nat), .int .i64 f] by rw [← hw1, ← hp]; exact Box.new _ _ _)
  go_enter Try.func12, Try.ntmps12
  go_upto_region 1 with fail

  try simp only [hw1, hp]
  clear hw1 hp
  have c0 : w1.cell? ⟨p, 0, none⟩ = some (.int .i64 4) := HX1.out.cell 0
  have c1 : w1.cell? ⟨p, 1, none⟩ = some (.int .u64 (key : Nat)) := HX1.out.cell 1
  have c2 : w1.cell? ⟨p, 2, none⟩ = some (.int .u64 (val : Nat)) := HX1.out.cell 2
  have c3 : w1.cell? ⟨p, 3, none⟩ = some (.int .i64 f) := HX1.out.cell 3
  go_wp2
  go_ret
  exact ⟨rfl, HB1.out⟩
set_option maxHeartbeats 1000000 in
theorem or_4f (key : Nat) (f : Int) (w : World) (n1 : f ≠ 0) :
    Calls Try.prog 12 #[.agg #[.int .i64 4, .int .u64 (key : Nat), .int .u64 0, .int .i64 f]] w (OrPost w (Ov.r ⟨4, key, 0, f⟩)) := by
  have HX := Lib.hid (show Ov.r ⟨4, key, 0, f⟩ = false from Ov.r_no fun h => n1 (h.put (show (4 : Int) ≠ 3 by decide)).2)
  rw [HX.out]
  have b_f : (f != 0) = true := by simp; omega
  clear n1
  obtain ⟨p, hp⟩ : ∃ p, w.heap.size = p := ⟨_, rfl⟩
  obtain ⟨w1, hw1⟩ : ∃ w1, w.alloc (.cells #[.int .i64 4, .int .u64 (key : Nat), .int .u64 0, .int .i64 f] 24) = w1 := ⟨_, rfl⟩
  have HB1 := Lib.hid (show Below w.heap.size w w1 by rw [← hw1]; exact (Below.refl _ _).alloc (Nat.le_refl _) _)
  have HX1 := Lib.hid (show Box w1 p 24 #[.int .i64 4, .int .u64 (key : Nat), .int .u64 0, .int .i64 f] by rw [← hw1, ← hp]; exact Box.new _ _ _)
  go_enter Try.func12, Try.ntmps12
  go_upto_region 1 with fail

  try simp only [hw1, hp]
  clear hw1 hp
  have c0 : w1.cell? ⟨p, 0, none⟩ = some (.int .i64 4) := HX1.out.cell 0
  have c1 : w1.cell? ⟨p, 1, none⟩ = some (.int .u64 (key : Nat)) := HX1.out.cell 1
  have c2 : w1.cell? ⟨p, 2, none⟩ = some (.int .u64 0) := HX1.out.cell 2
  have c3 : w1.cell? ⟨p, 3, none⟩ = some (.int .i64 f) := HX1.out.cell 3
  go_wp2
  go_ret
  exact ⟨rfl, HB1.out⟩
set_option maxHeartbeats 1000000 in
theorem or_4n (key : Nat) (w : World) (hkey : key < 18446744073709551616) (tkey : rt key = false) :
    Calls Try.prog 12 #[.agg #[.int .i64 4, .int .u64 (key : Nat), .int .u64 0, .int .i64 0]] w (OrPost w (Ov.r ⟨4, key, 0, 0⟩)) := by
  have HX := Lib.hid (show Ov.r ⟨4, key, 0, 0⟩ = false from Ov.r_no fun h => by have := h.kr; simp [tkey] at this)
  rw [HX.out]
  have HC0 := Lib.hid (fun w => right_any key w (hkey))
  have HT0 := Lib.hid (show rt key = false from tkey)
  clear hkey tkey
  obtain ⟨p, hp⟩ : ∃ p, w.heap.size = p := ⟨_, rfl⟩
  obtain ⟨w1, hw1⟩ : ∃ w1, w.alloc (.cells #[.int .i64 4, .int .u64 (key : Nat), .int .u64 0, .int .i64 0] 24) = w1 := ⟨_, rfl⟩
  have HB1 := Lib.hid (show Below w.heap.size w w1 by rw [← hw1]; exact (Below.refl _ _).alloc (Nat.le_refl _) _)
  have HX1 := Lib.hid (show Box w1 p 24 #[.int .i64 4, .int .u64 (key : Nat), .int .u64 0, .int .i64 0] by rw [← hw1, ← hp]; exact Box.new _ _ _)
  go_enter Try.func12, Try.ntmps12
  go_upto_region 1 with fail

  try simp only [hw1, hp]
  clear hw1 hp
  have c0 : w1.cell? ⟨p, 0, none⟩ = some (.int .i64 4) := HX1.out.cell 0
  have c1 : w1.cell? ⟨p, 1, none⟩ = some (.int .u64 (key : Nat)) := HX1.out.cell 1
  have c2 : w1.cell? ⟨p, 2, none⟩ = some (.int .u64 0) := HX1.out.cell 2
  have c3 : w1.cell? ⟨p, 3, none⟩ = some (.int .i64 0) := HX1.out.cell 3
  go_wp2_with fail
  refine (HC0.out _).mono ?_
  rintro e w2 ⟨rfl, hb⟩
  rw [HT0.out]
  clear c0 c1 c2 c3
  have HX2 := Lib.hid (HX1.out.of (hb.block _ HX1.out.lt))
  have HB2 := Lib.hid (below3 HB1.out hb)
  clear hb HB1 HX1 HC0
  have c0 : w2.cell? ⟨p, 0, none⟩ = some (.int .i64 4) := HX2.out.cell 0
  have c1 : w2.cell? ⟨p, 1, none⟩ = some (.int .u64 (key : Nat)) := HX2.out.cell 1
  have c2 : w2.cell? ⟨p, 2, none⟩ = some (.int .u64 0) := HX2.out.cell 2
  have c3 : w2.cell? ⟨p, 3, none⟩ = some (.int .i64 0) := HX2.out.cell 3
  go_wp2
  go_ret
  exact ⟨rfl, HB2.out⟩
set_option maxHeartbeats 1000000 in
theorem or_4y (key : Nat) (w : World) (hkey : key < 18446744073709551616) (tkey : rt key = true) :
    Calls Try.prog 12 #[.agg #[.int .i64 4, .int .u64 (key : Nat), .int .u64 0, .int .i64 0]] w (OrPost w (Ov.r ⟨4, key, 0, 0⟩)) := by
  have HX := Lib.hid (show Ov.r ⟨4, key, 0, 0⟩ = true from Ov.r_yes ⟨(by decide : (1 : Int) ≤ 4), (by decide : (4 : Int) ≤ 5), fun h => absurd h (by decide : ¬ (4 : Int) = 5), fun _ => ⟨rfl, rfl⟩, tkey, rt_nought, (by decide : (0 : Int) ≤ 0), (by decide : (0 : Int) ≤ 65535)⟩)
  rw [HX.out]
  have HC0 := Lib.hid (fun w => right_any key w (hkey))
  have HT0 := Lib.hid (show rt key = true from tkey)
  have HC1 := Lib.hid (fun w => right_any 0 w (by decide))
  have HT1 := Lib.hid (show rt 0 = true from rt_nought)
  clear hkey tkey
  obtain ⟨p, hp⟩ : ∃ p, w.heap.size = p := ⟨_, rfl⟩
  obtain ⟨w1, hw1⟩ : ∃ w1, w.alloc (.cells #[.int .i64 4, .int .u64 (key : Nat), .int .u64 0, .int .i64 0] 24) = w1 := ⟨_, rfl⟩
  have HB1 := Lib.hid (show Below w.heap.size w w1 by rw [← hw1]; exact (Below.refl _ _).alloc (Nat.le_refl _) _)
  have HX1 := Lib.hid (show Box w1 p 24 #[.int .i64 4, .int .u64 (key : Nat), .int .u64 0, .int .i64 0] by rw [← hw1, ← hp]; exact Box.new _ _ _)
  go_enter Try.func12, Try.ntmps12
  go_upto_region 1 with fail

  try simp only [hw1, hp]
  clear hw1 hp
  have c0 : w1.cell? ⟨p, 0, none⟩ = some (.int .i64 4) := HX1.out.cell 0
  have c1 : w1.cell? ⟨p, 1, none⟩ = some (.int .u64 (key : Nat)) := HX1.out.cell 1
  have c2 : w1.cell? ⟨p, 2, none⟩ = some (.int .u64 0) := HX1.out.cell 2
  have c3 : w1.cell? ⟨p, 3, none⟩ = some (.int .i64 0) := HX1.out.cell 3
  go_wp2_with fail
  refine (HC0.out _).mono ?_
  rintro e w2 ⟨rfl, hb⟩
  rw [HT0.out]
  clear c0 c1 c2 c3
  have HX2 := Lib.hid (HX1.out.of (hb.block _ HX1.out.lt))
  have HB2 := Lib.hid (below3 HB1.out hb)
  clear hb HB1 HX1 HC0
  have c0 : w2.cell? ⟨p, 0, none⟩ = some (.int .i64 4) := HX2.out.cell 0
  have c1 : w2.cell? ⟨p, 1, none⟩ = some (.int .u64 (key : Nat)) := HX2.out.cell 1
  have c2 : w2.cell? ⟨p, 2, none⟩ = some (.int .u64 0) := HX2.out.cell 2
  have c3 : w2.cell? ⟨p, 3, none⟩ = some (.int .i64 0) := HX2.out.cell 3
  go_wp2_with fail
  refine (HC1.out _).mono ?_
  rintro e w3 ⟨rfl, hb⟩
  rw [HT1.out]
  clear c0 c1 c2 c3
  have HX3 := Lib.hid (HX2.out.of (hb.block _ HX2.out.lt))
  have HB3 := Lib.hid (below3 HB2.out hb)
  clear hb HB2 HX2 HC1
  have c0 : w3.cell? ⟨p, 0, none⟩ = some (.int .i64 4) := HX3.out.cell 0
  have c1 : w3.cell? ⟨p, 1, none⟩ = some (.int .u64 (key : Nat)) := HX3.out.cell 1
  have c2 : w3.cell? ⟨p, 2, none⟩ = some (.int .u64 0) := HX3.out.cell 2
  have c3 : w3.cell? ⟨p, 3, none⟩ = some (.int .i64 0) := HX3.out.cell 3
  go_wp2
  go_ret
  exact ⟨rfl, HB3.out⟩
set_option maxHeartbeats 1000000 in
theorem or_5v (val : Nat) (f : Int) (w : World) (n1 : val ≠ 0) :
    Calls Try.prog 12 #[.agg #[.int .i64 5, .int .u64 0, .int .u64 (val : Nat), .int .i64 f]] w (OrPost w (Ov.r ⟨5, 0, val, f⟩)) := by
  have HX := Lib.hid (show Ov.r ⟨5, 0, val, f⟩ = false from Ov.r_no fun h => n1 (h.put (show (5 : Int) ≠ 3 by decide)).1)
  rw [HX.out]
  have b_val : ((val : Int) != 0) = true := by simp; omega
  clear n1
  obtain ⟨p, hp⟩ : ∃ p, w.heap.size = p := ⟨_, rfl⟩
  obtain ⟨w1, hw1⟩ : ∃ w1, w.alloc (.cells #[.int .i64 5, .int .u64 0, .int .u64 (val : Nat), .int .i64 f] 24) = w1 := ⟨_, rfl⟩
  have HB1 := Lib.hid (show Below w.heap.size w w1 by rw [← hw1]; exact (Below.refl _ _).alloc (Nat.le_refl _) _)
  have HX1 := Lib.hid (show Box w1 p 24 #[.int .i64 5, .int .u64 0, .int .u64 (val : Nat), .int .i64 f] by rw [← hw1, ← hp]; exact Box.new _ _ _)
  go_enter Try.func12, Try.ntmps12
  go_upto_region 1 with fail

  try simp only [hw1, hp]
  clear hw1 hp
  have c0 : w1.cell? ⟨p, 0, none⟩ = some (.int .i64 5) := HX1.out.cell 0
  have c1 : w1.cell? ⟨p, 1, none⟩ = some (.int .u64 0) := HX1.out.cell 1
  have c2 : w1.cell? ⟨p, 2, none⟩ = some (.int .u64 (val : Nat)) := HX1.out.cell 2
  have c3 : w1.cell? ⟨p, 3, none⟩ = some (.int .i64 f) := HX1.out.cell 3
  go_wp2
  go_ret
  exact ⟨rfl, HB1.out⟩
set_option maxHeartbeats 1000000 in
theorem or_5f  (f : Int) (w : World) (n1 : f ≠ 0) :
    Calls Try.prog 12 #[.agg #[.int .i64 5, .int .u64 0, .int .u64 0, .int .i64 f]] w (OrPost w (Ov.r ⟨5, 0, 0, f⟩)) := by
  have HX := Lib.hid (show Ov.r ⟨5, 0, 0, f⟩ = false from Ov.r_no fun h => n1 (h.put (show (5 : Int) ≠ 3 by decide)).2)
  rw [HX.out]
  have b_f : (f != 0) = true := by simp; omega
  clear n1
  obtain ⟨p, hp⟩ : ∃ p, w.heap.size = p := ⟨_, rfl⟩
  obtain ⟨w1, hw1⟩ : ∃ w1, w.alloc (.cells #[.int .i64 5, .int .u64 0, .int .u64 0, .int .i64 f] 24) = w1 := ⟨_, rfl⟩
  have HB1 := Lib.hid (show Below w.heap.size w w1 by rw [← hw1]; exact (Below.refl _ _).alloc (Nat.le_refl _) _)
  have HX1 := Lib.hid (show Box w1 p 24 #[.int .i64 5, .int .u64 0, .int .u64 0, .int .i64 f] by rw [← hw1, ← hp]; exact Box.new _ _ _)
  go_enter Try.func12, Try.ntmps12
  go_upto_region 1 with fail

  try simp only [hw1, hp]
  clear hw1 hp
  have c0 : w1.cell? ⟨p, 0, none⟩ = some (.int .i64 5) := HX1.out.cell 0
  have c1 : w1.cell? ⟨p, 1, none⟩ = some (.int .u64 0) := HX1.out.cell 1
  have c2 : w1.cell? ⟨p, 2, none⟩ = some (.int .u64 0) := HX1.out.cell 2
  have c3 : w1.cell? ⟨p, 3, none⟩ = some (.int .i64 f) := HX1.out.cell 3
  go_wp2
  go_ret
  exact ⟨rfl, HB1.out⟩
set_option maxHeartbeats 1000000 in
theorem or_5y  (w : World)  :
    Calls Try.prog 12 #[.agg #[.int .i64 5, .int .u64 0, .int .u64 0, .int .i64 0]] w (OrPost w (Ov.r ⟨5, 0, 0, 0⟩)) := by
  have HX := Lib.hid (show Ov.r ⟨5, 0, 0, 0⟩ = true from Ov.r_yes ⟨by decide, by decide, fun _ => rfl, fun _ => ⟨rfl, rfl⟩, rt_nought, rt_nought, by decide, by decide⟩)
  rw [HX.out]
  have HC0 := Lib.hid (fun w => right_any 0 w (by decide))
  have HT0 := Lib.hid (show rt 0 = true from rt_nought)
  have HC1 := Lib.hid (fun w => right_any 0 w (by decide))
  have HT1 := Lib.hid (show rt 0 = true from rt_nought)
  obtain ⟨p, hp⟩ : ∃ p, w.heap.size = p := ⟨_, rfl⟩
  obtain ⟨w1, hw1⟩ : ∃ w1, w.alloc (.cells #[.int .i64 5, .int .u64 0, .int .u64 0, .int .i64 0] 24) = w1 := ⟨_, rfl⟩
  have HB1 := Lib.hid (show Below w.heap.size w w1 by rw [← hw1]; exact (Below.refl _ _).alloc (Nat.le_refl _) _)
  have HX1 := Lib.hid (show Box w1 p 24 #[.int .i64 5, .int .u64 0, .int .u64 0, .int .i64 0] by rw [← hw1, ← hp]; exact Box.new _ _ _)
  go_enter Try.func12, Try.ntmps12
  go_upto_region 1 with fail

  try simp only [hw1, hp]
  clear hw1 hp
  have c0 : w1.cell? ⟨p, 0, none⟩ = some (.int .i64 5) := HX1.out.cell 0
  have c1 : w1.cell? ⟨p, 1, none⟩ = some (.int .u64 0) := HX1.out.cell 1
  have c2 : w1.cell? ⟨p, 2, none⟩ = some (.int .u64 0) := HX1.out.cell 2
  have c3 : w1.cell? ⟨p, 3, none⟩ = some (.int .i64 0) := HX1.out.cell 3
  go_wp2_with fail
  refine (HC0.out _).mono ?_
  rintro e w2 ⟨rfl, hb⟩
  rw [HT0.out]
  clear c0 c1 c2 c3
  have HX2 := Lib.hid (HX1.out.of (hb.block _ HX1.out.lt))
  have HB2 := Lib.hid (below3 HB1.out hb)
  clear hb HB1 HX1 HC0
  have c0 : w2.cell? ⟨p, 0, none⟩ = some (.int .i64 5) := HX2.out.cell 0
  have c1 : w2.cell? ⟨p, 1, none⟩ = some (.int .u64 0) := HX2.out.cell 1
  have c2 : w2.cell? ⟨p, 2, none⟩ = some (.int .u64 0) := HX2.out.cell 2
  have c3 : w2.cell? ⟨p, 3, none⟩ = some (.int .i64 0) := HX2.out.cell 3
  go_wp2_with fail
  refine (HC1.out _).mono ?_
  rintro e w3 ⟨rfl, hb⟩
  rw [HT1.out]
  clear c0 c1 c2 c3
  have HX3 := Lib.hid (HX2.out.of (hb.block _ HX2.out.lt))
  have HB3 := Lib.hid (below3 HB2.out hb)
  clear hb HB2 HX2 HC1
  have c0 : w3.cell? ⟨p, 0, none⟩ = some (.int .i64 5) := HX3.out.cell 0
  have c1 : w3.cell? ⟨p, 1, none⟩ = some (.int .u64 0) := HX3.out.cell 1
  have c2 : w3.cell? ⟨p, 2, none⟩ = some (.int .u64 0) := HX3.out.cell 2
  have c3 : w3.cell? ⟨p, 3, none⟩ = some (.int .i64 0) := HX3.out.cell 3
  go_wp2
  go_ret
  exact ⟨rfl, HB3.out⟩
set_option maxHeartbeats 1000000 in
theorem or_3a (key : Nat) (val : Nat) (f : Int) (w : World) (hkey : key < 18446744073709551616) (hval : val < 18446744073709551616) (tkey : rt key = true) (tval : rt val = true) (n1 : f < 0) :
    Calls Try.prog 12 #[.agg #[.int .i64 3, .int .u64 (key : Nat), .int .u64 (val : Nat), .int .i64 f]] w (OrPost w (Ov.r ⟨3, key, val, f⟩)) := by
  have HX := Lib.hid (show Ov.r ⟨3, key, val, f⟩ = false from Ov.r_no fun h => by have := h.f0; simp at this; omega)
  rw [HX.out]
  have b_f : decide (0 ≤ f) = false := by simp; omega
  have HC0 := Lib.hid (fun w => right_any key w (hkey))
  have HT0 := Lib.hid (show rt key = true from tkey)
  have HC1 := Lib.hid (fun w => right_any val w (hval))
  have HT1 := Lib.hid (show rt val = true from tval)
  clear hkey hval tkey tval n1
  obtain ⟨p, hp⟩ : ∃ p, w.heap.size = p := ⟨_, rfl⟩
  obtain ⟨w1, hw1⟩ : ∃ w1, w.alloc (.cells #[.int .i64 3, .int .u64 (key : Nat), .int .u64 (val : Nat), .int .i64 f] 24) = w1 := ⟨_, rfl⟩
  have HB1 := Lib.hid (show Below w.heap.size w w1 by rw [← hw1]; exact (Below.refl _ _).alloc (Nat.le_refl _) _)
  have HX1 := Lib.hid (show Box w1 p 24 #[.int .i64 3, .int .u64 (key : Nat), .int .u64 (val : Nat), .int .i64 f] by rw [← hw1, ← hp]; exact Box.new _ _ _)
  go_enter Try.func12, Try.ntmps12
  go_upto_region 1 with fail

  try simp only [hw1, hp]
  clear hw1 hp
  have c0 : w1.cell? ⟨p, 0, none⟩ = some (.int .i64 3) := HX1.out.cell 0
  have c1 : w1.cell? ⟨p, 1, none⟩ = some (.int .u64 (key : Nat)) := HX1.out.cell 1
  have c2 : w1.cell? ⟨p, 2, none⟩ = some (.int .u64 (val : Nat)) := HX1.out.cell 2
  have c3 : w1.cell? ⟨p, 3, none⟩ = some (.int .i64 f) := HX1.out.cell 3
  go_wp2_with fail
  refine (HC0.out _).mono ?_
  rintro e w2 ⟨rfl, hb⟩
  rw [HT0.out]
  clear c0 c1 c2 c3
  have HX2 := Lib.hid (HX1.out.of (hb.block _ HX1.out.lt))
  have HB2 := Lib.hid (below3 HB1.out hb)
  clear hb HB1 HX1 HC0
  have c0 : w2.cell? ⟨p, 0, none⟩ = some (.int .i64 3) := HX2.out.cell 0
  have c1 : w2.cell? ⟨p, 1, none⟩ = some (.int .u64 (key : Nat)) := HX2.out.cell 1
  have c2 : w2.cell? ⟨p, 2, none⟩ = some (.int .u64 (val : Nat)) := HX2.out.cell 2
  have c3 : w2.cell? ⟨p, 3, none⟩ = some (.int .i64 f) := HX2.out.cell 3
  go_wp2_with fail
  refine (HC1.out _).mono ?_
  rintro e w3 ⟨rfl, hb⟩
  rw [HT1.out]
  clear c0 c1 c2 c3
  have HX3 := Lib.hid (HX2.out.of (hb.block _ HX2.out.lt))
  have HB3 := Lib.hid (below3 HB2.out hb)
  clear hb HB2 HX2 HC1
  have c0 : w3.cell? ⟨p, 0, none⟩ = some (.int .i64 3) := HX3.out.cell 0
  have c1 : w3.cell? ⟨p, 1, none⟩ = some (.int .u64 (key : Nat)) := HX3.out.cell 1
  have c2 : w3.cell? ⟨p, 2, none⟩ = some (.int .u64 (val : Nat)) := HX3.out.cell 2
  have c3 : w3.cell? ⟨p, 3, none⟩ = some (.int .i64 f) := HX3.out.cell 3
  go_wp2
  go_ret
  exact ⟨rfl, HB3.out⟩
set_option maxHeartbeats 1000000 in
theorem or_3b (key : Nat) (val : Nat) (f : Int) (w : World) (hkey : key < 18446744073709551616) (hval : val < 18446744073709551616) (tkey : rt key = true) (tval : rt val = true) (n1 : 65535 < f) :
    Calls Try.prog 12 #[.agg #[.int .i64 3, .int .u64 (key : Nat), .int .u64 (val : Nat), .int .i64 f]] w (OrPost w (Ov.r ⟨3, key, val, f⟩)) := by
  have HX := Lib.hid (show Ov.r ⟨3, key, val, f⟩ = false from Ov.r_no fun h => by have := h.f1; simp at this; omega)
  rw [HX.out]
  have b_g : decide (0 ≤ f) = true := by simp; omega
  have b_f : decide (f ≤ 65535) = false := by simp; omega
  have HC0 := Lib.hid (fun w => right_any key w (hkey))
  have HT0 := Lib.hid (show rt key = true from tkey)
  have HC1 := Lib.hid (fun w => right_any val w (hval))
  have HT1 := Lib.hid (show rt val = true from tval)
  clear hkey hval tkey tval n1
  obtain ⟨p, hp⟩ : ∃ p, w.heap.size = p := ⟨_, rfl⟩
  obtain ⟨w1, hw1⟩ : ∃ w1, w.alloc (.cells #[.int .i64 3, .int .u64 (key : Nat), .int .u64 (val : Nat), .int .i64 f] 24) = w1 := ⟨_, rfl⟩
  have HB1 := Lib.hid (show Below w.heap.size w w1 by rw [← hw1]; exact (Below.refl _ _).alloc (Nat.le_refl _) _)
  have HX1 := Lib.hid (show Box w1 p 24 #[.int .i64 3, .int .u64 (key : Nat), .int .u64 (val : Nat), .int .i64 f] by rw [← hw1, ← hp]; exact Box.new _ _ _)
  go_enter Try.func12, Try.ntmps12
  go_upto_region 1 with fail

  try simp only [hw1, hp]
  clear hw1 hp
  have c0 : w1.cell? ⟨p, 0, none⟩ = some (.int .i64 3) := HX1.out.cell 0
  have c1 : w1.cell? ⟨p, 1, none⟩ = some (.int .u64 (key : Nat)) := HX1.out.cell 1
  have c2 : w1.cell? ⟨p, 2, none⟩ = some (.int .u64 (val : Nat)) := HX1.out.cell 2
  have c3 : w1.cell? ⟨p, 3, none⟩ = some (.int .i64 f) := HX1.out.cell 3
  go_wp2_with fail
  refine (HC0.out _).mono ?_
  rintro e w2 ⟨rfl, hb⟩
  rw [HT0.out]
  clear c0 c1 c2 c3
  have HX2 := Lib.hid (HX1.out.of (hb.block _ HX1.out.lt))
  have HB2 := Lib.hid (below3 HB1.out hb)
  clear hb HB1 HX1 HC0
  have c0 : w2.cell? ⟨p, 0, none⟩ = some (.int .i64 3) := HX2.out.cell 0
  have c1 : w2.cell? ⟨p, 1, none⟩ = some (.int .u64 (key : Nat)) := HX2.out.cell 1
  have c2 : w2.cell? ⟨p, 2, none⟩ = some (.int .u64 (val : Nat)) := HX2.out.cell 2
  have c3 : w2.cell? ⟨p, 3, none⟩ = some (.int .i64 f) := HX2.out.cell 3
  go_wp2_with fail
  refine (HC1.out _).mono ?_
  rintro e w3 ⟨rfl, hb⟩
  rw [HT1.out]
  clear c0 c1 c2 c3
  have HX3 := Lib.hid (HX2.out.of (hb.block _ HX2.out.lt))
  have HB3 := Lib.hid (below3 HB2.out hb)
  clear hb HB2 HX2 HC1
  have c0 : w3.cell? ⟨p, 0, none⟩ = some (.int .i64 3) := HX3.out.cell 0
  have c1 : w3.cell? ⟨p, 1, none⟩ = some (.int .u64 (key : Nat)) := HX3.out.cell 1
  have c2 : w3.cell? ⟨p, 2, none⟩ = some (.int .u64 (val : Nat)) := HX3.out.cell 2
  have c3 : w3.cell? ⟨p, 3, none⟩ = some (.int .i64 f) := HX3.out.cell 3
  go_wp2
  go_ret
  exact ⟨rfl, HB3.out⟩
set_option maxHeartbeats 1000000 in
theorem or_3k (key : Nat) (val : Nat) (f : Int) (w : World) (hkey : key < 18446744073709551616) (tkey : rt key = false) :
    Calls Try.prog 12 #[.agg #[.int .i64 3, .int .u64 (key : Nat), .int .u64 (val : Nat), .int .i64 f]] w (OrPost w (Ov.r ⟨3, key, val, f⟩)) := by
  have HX := Lib.hid (show Ov.r ⟨3, key, val, f⟩ = false from Ov.r_no fun h => by have := h.kr; simp [tkey] at this)
  rw [HX.out]
  have HC0 := Lib.hid (fun w => right_any key w (hkey))
  have HT0 := Lib.hid (show rt key = false from tkey)
  clear hkey tkey
  obtain ⟨p, hp⟩ : ∃ p, w.heap.size = p := ⟨_, rfl⟩
  obtain ⟨w1, hw1⟩ : ∃ w1, w.alloc (.cells #[.int .i64 3, .int .u64 (key : Nat), .int .u64 (val : Nat), .int .i64 f] 24) = w1 := ⟨_, rfl⟩
  have HB1 := Lib.hid (show Below w.heap.size w w1 by rw [← hw1]; exact (Below.refl _ _).alloc (Nat.le_refl _) _)
  have HX1 := Lib.hid (show Box w1 p 24 #[.int .i64 3, .int .u64 (key : Nat), .int .u64 (val : Nat), .int .i64 f] by rw [← hw1, ← hp]; exact Box.new _ _ _)
  go_enter Try.func12, Try.ntmps12
  go_upto_region 1 with fail

  try simp only [hw1, hp]
  clear hw1 hp
  have c0 : w1.cell? ⟨p, 0, none⟩ = some (.int .i64 3) := HX1.out.cell 0
  have c1 : w1.cell? ⟨p, 1, none⟩ = some (.int .u64 (key : Nat)) := HX1.out.cell 1
  have c2 : w1.cell? ⟨p, 2, none⟩ = some (.int .u64 (val : Nat)) := HX1.out.cell 2
  have c3 : w1.cell? ⟨p, 3, none⟩ = some (.int .i64 f) := HX1.out.cell 3
  go_wp2_with fail
  refine (HC0.out _).mono ?_
  rintro e w2 ⟨rfl, hb⟩
  rw [HT0.out]
  clear c0 c1 c2 c3
  have HX2 := Lib.hid (HX1.out.of (hb.block _ HX1.out.lt))
  have HB2 := Lib.hid (below3 HB1.out hb)
  clear hb HB1 HX1 HC0
  have c0 : w2.cell? ⟨p, 0, none⟩ = some (.int .i64 3) := HX2.out.cell 0
  have c1 : w2.cell? ⟨p, 1, none⟩ = some (.int .u64 (key : Nat)) := HX2.out.cell 1
  have c2 : w2.cell? ⟨p, 2, none⟩ = some (.int .u64 (val : Nat)) := HX2.out.cell 2
  have c3 : w2.cell? ⟨p, 3, none⟩ = some (.int .i64 f) := HX2.out.cell 3
  go_wp2
  go_ret
  exact ⟨rfl, HB2.out⟩
set_option maxHeartbeats 1000000 in
theorem or_3v (key : Nat) (val : Nat) (f : Int) (w : World) (hkey : key < 18446744073709551616) (hval : val < 18446744073709551616) (tkey : rt key = true) (tval : rt val = false) :
    Calls Try.prog 12 #[.agg #[.int .i64 3, .int .u64 (key : Nat), .int .u64 (val : Nat), .int .i64 f]] w (OrPost w (Ov.r ⟨3, key, val, f⟩)) := by
  have HX := Lib.hid (show Ov.r ⟨3, key, val, f⟩ = false from Ov.r_no fun h => by have := h.vr; simp [tval] at this)
  rw [HX.out]
  have HC0 := Lib.hid (fun w => right_any key w (hkey))
  have HT0 := Lib.hid (show rt key = true from tkey)
  have HC1 := Lib.hid (fun w => right_any val w (hval))
  have HT1 := Lib.hid (show rt val = false from tval)
  clear hkey hval tkey tval
  obtain ⟨p, hp⟩ : ∃ p, w.heap.size = p := ⟨_, rfl⟩
  obtain ⟨w1, hw1⟩ : ∃ w1, w.alloc (.cells #[.int .i64 3, .int .u64 (key : Nat), .int .u64 (val : Nat), .int .i64 f] 24) = w1 := ⟨_, rfl⟩
  have HB1 := Lib.hid (show Below w.heap.size w w1 by rw [← hw1]; exact (Below.refl _ _).alloc (Nat.le_refl _) _)
  have HX1 := Lib.hid (show Box w1 p 24 #[.int .i64 3, .int .u64 (key : Nat), .int .u64 (val : Nat), .int .i64 f] by rw [← hw1, ← hp]; exact Box.new _ _ _)
  go_enter Try.func12, Try.ntmps12
  go_upto_region 1 with fail

  try simp only [hw1, hp]
  clear hw1 hp
  have c0 : w1.cell? ⟨p, 0, none⟩ = some (.int .i64 3) := HX1.out.cell 0
  have c1 : w1.cell? ⟨p, 1, none⟩ = some (.int .u64 (key : Nat)) := HX1.out.cell 1
  have c2 : w1.cell? ⟨p, 2, none⟩ = some (.int .u64 (val : Nat)) := HX1.out.cell 2
  have c3 : w1.cell? ⟨p, 3, none⟩ = some (.int .i64 f) := HX1.out.cell 3
  go_wp2_with fail
  refine (HC0.out _).mono ?_
  rintro e w2 ⟨rfl, hb⟩
  rw [HT0.out]
  clear c0 c1 c2 c3
  have HX2 := Lib.hid (HX1.out.of (hb.block _ HX1.out.lt))
  have HB2 := Lib.hid (below3 HB1.out hb)
  clear hb HB1 HX1 HC0
  have c0 : w2.cell? ⟨p, 0, none⟩ = some (.int .i64 3) := HX2.out.cell 0
  have c1 : w2.cell? ⟨p, 1, none⟩ = some (.int .u64 (key : Nat)) := HX2.out.cell 1
  have c2 : w2.cell? ⟨p, 2, none⟩ = some (.int .u64 (val : Nat)) := HX2.out.cell 2
  have c3 : w2.cell? ⟨p, 3, none⟩ = some (.int .i64 f) := HX2.out.cell 3
  go_wp2_with fail
  refine (HC1.out _).mono ?_
  rintro e w3 ⟨rfl, hb⟩
  rw [HT1.out]
  clear c0 c1 c2 c3
  have HX3 := Lib.hid (HX2.out.of (hb.block _ HX2.out.lt))
  have HB3 := Lib.hid (below3 HB2.out hb)
  clear hb HB2 HX2 HC1
  have c0 : w3.cell? ⟨p, 0, none⟩ = some (.int .i64 3) := HX3.out.cell 0
  have c1 : w3.cell? ⟨p, 1, none⟩ = some (.int .u64 (key : Nat)) := HX3.out.cell 1
  have c2 : w3.cell? ⟨p, 2, none⟩ = some (.int .u64 (val : Nat)) := HX3.out.cell 2
  have c3 : w3.cell? ⟨p, 3, none⟩ = some (.int .i64 f) := HX3.out.cell 3
  go_wp2
  go_ret
  exact ⟨rfl, HB3.out⟩
set_option maxHeartbeats 1000000 in
theorem or_3y (key : Nat) (val : Nat) (f : Int) (w : World) (hkey : key < 18446744073709551616) (hval : val < 18446744073709551616) (tkey : rt key = true) (tval : rt val = true) (n1 : 0 ≤ f) (n2 : f ≤ 65535) :
    Calls Try.prog 12 #[.agg #[.int .i64 3, .int .u64 (key : Nat), .int .u64 (val : Nat), .int .i64 f]] w (OrPost w (Ov.r ⟨3, key, val, f⟩)) := by
  have HX := Lib.hid (show Ov.r ⟨3, key, val, f⟩ = true from Ov.r_yes ⟨(by decide : (1 : Int) ≤ 3), (by decide : (3 : Int) ≤ 5), fun h => absurd h (by decide : ¬ (3 : Int) = 5), fun h => absurd rfl h, tkey, tval, n1, n2⟩)
  rw [HX.out]
  have b_g : decide (0 ≤ f) = true := by simp; omega
  have b_f : decide (f ≤ 65535) = true := by simp; omega
  have HC0 := Lib.hid (fun w => right_any key w (hkey))
  have HT0 := Lib.hid (show rt key = true from tkey)
  have HC1 := Lib.hid (fun w => right_any val w (hval))
  have HT1 := Lib.hid (show rt val = true from tval)
  clear hkey hval tkey tval n1 n2
  obtain ⟨p, hp⟩ : ∃ p, w.heap.size = p := ⟨_, rfl⟩
  obtain ⟨w1, hw1⟩ : ∃ w1, w.alloc (.cells #[.int .i64 3, .int .u64 (key : Nat), .int .u64 (val : Nat), .int .i64 f] 24) = w1 := ⟨_, rfl⟩
  have HB1 := Lib.hid (show Below w.heap.size w w1 by rw [← hw1]; exact (Below.refl _ _).alloc (Nat.le_refl _) _)
  have HX1 := Lib.hid (show Box w1 p 24 #[.int .i64 3, .int .u64 (key : Nat), .int .u64 (val : Nat), .int .i64 f] by rw [← hw1, ← hp]; exact Box.new _ _ _)
  go_enter Try.func12, Try.ntmps12
  go_upto_region 1 with fail

  try simp only [hw1, hp]
  clear hw1 hp
  have c0 : w1.cell? ⟨p, 0, none⟩ = some (.int .i64 3) := HX1.out.cell 0
  have c1 : w1.cell? ⟨p, 1, none⟩ = some (.int .u64 (key : Nat)) := HX1.out.cell 1
  have c2 : w1.cell? ⟨p, 2, none⟩ = some (.int .u64 (val : Nat)) := HX1.out.cell 2
  have c3 : w1.cell? ⟨p, 3, none⟩ = some (.int .i64 f) := HX1.out.cell 3
  go_wp2_with fail
  refine (HC0.out _).mono ?_
  rintro e w2 ⟨rfl, hb⟩
  rw [HT0.out]
  clear c0 c1 c2 c3
  have HX2 := Lib.hid (HX1.out.of (hb.block _ HX1.out.lt))
  have HB2 := Lib.hid (below3 HB1.out hb)
  clear hb HB1 HX1 HC0
  have c0 : w2.cell? ⟨p, 0, none⟩ = some (.int .i64 3) := HX2.out.cell 0
  have c1 : w2.cell? ⟨p, 1, none⟩ = some (.int .u64 (key : Nat)) := HX2.out.cell 1
  have c2 : w2.cell? ⟨p, 2, none⟩ = some (.int .u64 (val : Nat)) := HX2.out.cell 2
  have c3 : w2.cell? ⟨p, 3, none⟩ = some (.int .i64 f) := HX2.out.cell 3
  go_wp2_with fail
  refine (HC1.out _).mono ?_
  rintro e w3 ⟨rfl, hb⟩
  rw [HT1.out]
  clear c0 c1 c2 c3
  have HX3 := Lib.hid (HX2.out.of (hb.block _ HX2.out.lt))
  have HB3 := Lib.hid (below3 HB2.out hb)
  clear hb HB2 HX2 HC1
  have c0 : w3.cell? ⟨p, 0, none⟩ = some (.int .i64 3) := HX3.out.cell 0
  have c1 : w3.cell? ⟨p, 1, none⟩ = some (.int .u64 (key : Nat)) := HX3.out.cell 1
  have c2 : w3.cell? ⟨p, 2, none⟩ = some (.int .u64 (val : Nat)) := HX3.out.cell 2
  have c3 : w3.cell? ⟨p, 3, none⟩ = some (.int .i64 f) := HX3.out.cell 3
  go_wp2
  go_ret
  exact ⟨rfl, HB3.out⟩
set_option maxHeartbeats 1000000 in
theorem or_lo (key : Nat) (val : Nat) (f : Int) (k : Int) (w : World) (n1 : k < 1) :
    Calls Try.prog 12 #[.agg #[.int .i64 k, .int .u64 (key : Nat), .int .u64 (val : Nat), .int .i64 f]] w (OrPost w (Ov.r ⟨k, key, val, f⟩)) := by
  have HX := Lib.hid (show Ov.r ⟨k, key, val, f⟩ = false from Ov.r_no fun h => by have := h.lo; simp at this; omega)
  rw [HX.out]
  have b_1 : (k == 1) = false := by simp; omega
  have b_2 : (k == 2) = false := by simp; omega
  have b_3 : (k == 3) = false := by simp; omega
  have b_4 : (k == 4) = false := by simp; omega
  have b_5 : (k == 5) = false := by simp; omega
  clear n1
  obtain ⟨p, hp⟩ : ∃ p, w.heap.size = p := ⟨_, rfl⟩
  obtain ⟨w1, hw1⟩ : ∃ w1, w.alloc (.cells #[.int .i64 k, .int .u64 (key : Nat), .int .u64 (val : Nat), .int .i64 f] 24) = w1 := ⟨_, rfl⟩
  have HB1 := Lib.hid (show Below w.heap.size w w1 by rw [← hw1]; exact (Below.refl _ _).alloc (Nat.le_refl _) _)
  have HX1 := Lib.hid (show Box w1 p 24 #[.int .i64 k, .int .u64 (key : Nat), .int .u64 (val : Nat), .int .i64 f] by rw [← hw1, ← hp]; exact Box.new _ _ _)
  go_enter Try.func12, Try.ntmps12
  go_upto_region 1 with fail

  try simp only [hw1, hp]
  clear hw1 hp
  have c0 : w1.cell? ⟨p, 0, none⟩ = some (.int .i64 k) := HX1.out.cell 0
  have c1 : w1.cell? ⟨p, 1, none⟩ = some (.int .u64 (key : Nat)) := HX1.out.cell 1
  have c2 : w1.cell? ⟨p, 2, none⟩ = some (.int .u64 (val : Nat)) := HX1.out.cell 2
  have c3 : w1.cell? ⟨p, 3, none⟩ = some (.int .i64 f) := HX1.out.cell 3
  go_wp2
  go_ret
  exact ⟨rfl, HB1.out⟩
set_option maxHeartbeats 1000000 in
theorem or_hi (key : Nat) (val : Nat) (f : Int) (k : Int) (w : World) (n1 : 5 < k) :
    Calls Try.prog 12 #[.agg #[.int .i64 k, .int .u64 (key : Nat), .int .u64 (val : Nat), .int .i64 f]] w (OrPost w (Ov.r ⟨k, key, val, f⟩)) := by
  have HX := Lib.hid (show Ov.r ⟨k, key, val, f⟩ = false from Ov.r_no fun h => by have := h.hi; simp at this; omega)
  rw [HX.out]
  have b_1 : (k == 1) = false := by simp; omega
  have b_2 : (k == 2) = false := by simp; omega
  have b_3 : (k == 3) = false := by simp; omega
  have b_4 : (k == 4) = false := by simp; omega
  have b_5 : (k == 5) = false := by simp; omega
  clear n1
  obtain ⟨p, hp⟩ : ∃ p, w.heap.size = p := ⟨_, rfl⟩
  obtain ⟨w1, hw1⟩ : ∃ w1, w.alloc (.cells #[.int .i64 k, .int .u64 (key : Nat), .int .u64 (val : Nat), .int .i64 f] 24) = w1 := ⟨_, rfl⟩
  have HB1 := Lib.hid (show Below w.heap.size w w1 by rw [← hw1]; exact (Below.refl _ _).alloc (Nat.le_refl _) _)
  have HX1 := Lib.hid (show Box w1 p 24 #[.int .i64 k, .int .u64 (key : Nat), .int .u64 (val : Nat), .int .i64 f] by rw [← hw1, ← hp]; exact Box.new _ _ _)
  go_enter Try.func12, Try.ntmps12
  go_upto_region 1 with fail

  try simp only [hw1, hp]
  clear hw1 hp
  have c0 : w1.cell? ⟨p, 0, none⟩ = some (.int .i64 k) := HX1.out.cell 0
  have c1 : w1.cell? ⟨p, 1, none⟩ = some (.int .u64 (key : Nat)) := HX1.out.cell 1
  have c2 : w1.cell? ⟨p, 2, none⟩ = some (.int .u64 (val : Nat)) := HX1.out.cell 2
  have c3 : w1.cell? ⟨p, 3, none⟩ = some (.int .i64 f) := HX1.out.cell 3
  go_wp2
  go_ret
  exact ⟨rfl, HB1.out⟩
theorem opright_any (o : Ov) (w : World) (hkey : o.key < 18446744073709551616) (hval : o.val < 18446744073709551616) : Calls Try.prog 12 #[o.a] w (OrPost w o.r) := by
  obtain ⟨k, key, val, f⟩ := o
  simp only at hkey hval
  by_cases h1 : k < 1
  · exact or_lo key val f k w h1
  by_cases h2 : 5 < k
  · exact or_hi key val f k w h2
  by_cases h3 : k = 3
  · subst h3
    cases tk : rt key
    · exact or_3k key val f w hkey tk
    cases tv : rt val
    · exact or_3v key val f w hkey hval tk tv
    by_cases g1 : f < 0
    · exact or_3a key val f w hkey hval tk tv g1
    by_cases g2 : 65535 < f
    · exact or_3b key val f w hkey hval tk tv g2
    exact or_3y key val f w hkey hval tk tv (by omega) (by omega)
  rcases (by omega : k = 1 ∨ k = 2 ∨ k = 4 ∨ k = 5) with h | h | h | h <;> subst h
  · by_cases g3 : val ≠ 0
    · exact or_1v key val f w g3
    obtain rfl : val = 0 := by omega
    by_cases g4 : f ≠ 0
    · exact or_1f key f w g4
    obtain rfl : f = 0 := by omega
    cases tk : rt key
    · exact or_1n key w hkey tk
    exact or_1y key w hkey tk
  · by_cases g3 : val ≠ 0
    · exact or_2v key val f w g3
    obtain rfl : val = 0 := by omega
    by_cases g4 : f ≠ 0
    · exact or_2f key f w g4
    obtain rfl : f = 0 := by omega
    cases tk : rt key
    · exact or_2n key w hkey tk
    exact or_2y key w hkey tk
  · by_cases g3 : val ≠ 0
    · exact or_4v key val f w g3
    obtain rfl : val = 0 := by omega
    by_cases g4 : f ≠ 0
    · exact or_4f key f w g4
    obtain rfl : f = 0 := by omega
    cases tk : rt key
    · exact or_4n key w hkey tk
    exact or_4y key w hkey tk
  · by_cases g0 : key ≠ 0
    · exact or_5k key val f w g0
    obtain rfl : key = 0 := by omega
    by_cases g3 : val ≠ 0
    · exact or_5v val f w g3
    obtain rfl : val = 0 := by omega
    by_cases g4 : f ≠ 0
    · exact or_5f f w g4
    obtain rfl : f = 0 := by omega
    exact or_5y w
set_option maxHeartbeats 1000000 in
theorem rr_5k (key : Nat) (val : Nat) (f : Int) (w : World) (n1 : key ≠ 0) (n8 : 0 ≤ f) (n9 : f ≤ 65535) :
    Calls Try.prog 13 #[.agg #[.int .i64 5, .int .u64 (key : Nat), .int .u64 (val : Nat), .int .i64 f]] w (OrPost w (Ov.r ⟨5, key, val, f⟩)) := by
  have HX := Lib.hid (show Ov.r ⟨5, key, val, f⟩ = false from Ov.r_no fun h => n1 (h.len rfl))
  rw [HX.out]
  have b_key : ((key : Int) != 0) = true := by simp; omega
  have b_g : decide (f < 0) = false := by simp; omega
  have b_h : decide (65535 < f) = false := by simp; omega
  clear n1 n8 n9
  obtain ⟨p, hp⟩ : ∃ p, w.heap.size = p := ⟨_, rfl⟩
  obtain ⟨w1, hw1⟩ : ∃ w1, w.alloc (.cells #[.int .i64 5, .int .u64 (key : Nat), .int .u64 (val : Nat), .int .i64 f] 29) = w1 := ⟨_, rfl⟩
  have HB1 := Lib.hid (show Below w.heap.size w w1 by rw [← hw1]; exact (Below.refl _ _).alloc (Nat.le_refl _) _)
  have HX1 := Lib.hid (show Box w1 p 29 #[.int .i64 5, .int .u64 (key : Nat), .int .u64 (val : Nat), .int .i64 f] by rw [← hw1, ← hp]; exact Box.new _ _ _)
  go_enter Try.func13, Try.ntmps13
  go_upto_region 1 with fail

  try simp only [hw1, hp]
  clear hw1 hp
  have c0 : w1.cell? ⟨p, 0, none⟩ = some (.int .i64 5) := HX1.out.cell 0
  have c1 : w1.cell? ⟨p, 1, none⟩ = some (.int .u64 (key : Nat)) := HX1.out.cell 1
  have c2 : w1.cell? ⟨p, 2, none⟩ = some (.int .u64 (val : Nat)) := HX1.out.cell 2
  have c3 : w1.cell? ⟨p, 3, none⟩ = some (.int .i64 f) := HX1.out.cell 3
  go_wp2
  go_ret
  exact ⟨rfl, HB1.out⟩
set_option maxHeartbeats 1000000 in
theorem rr_1v (key : Nat) (val : Nat) (f : Int) (w : World) (n1 : val ≠ 0) (n8 : 0 ≤ f) (n9 : f ≤ 65535) :
    Calls Try.prog 13 #[.agg #[.int .i64 1, .int .u64 (key : Nat), .int .u64 (val : Nat), .int .i64 f]] w (OrPost w (Ov.r ⟨1, key, val, f⟩)) := by
  have HX := Lib.hid (show Ov.r ⟨1, key, val, f⟩ = false from Ov.r_no fun h => n1 (h.put (show (1 : Int) ≠ 3 by decide)).1)
  rw [HX.out]
  have b_val : ((val : Int) != 0) = true := by simp; omega
  have b_g : decide (f < 0) = false := by simp; omega
  have b_h : decide (65535 < f) = false := by simp; omega
  clear n1 n8 n9
  obtain ⟨p, hp⟩ : ∃ p, w.heap.size = p := ⟨_, rfl⟩
  obtain ⟨w1, hw1⟩ : ∃ w1, w.alloc (.cells #[.int .i64 1, .int .u64 (key : Nat), .int .u64 (val : Nat), .int .i64 f] 29) = w1 := ⟨_, rfl⟩
  have HB1 := Lib.hid (show Below w.heap.size w w1 by rw [← hw1]; exact (Below.refl _ _).alloc (Nat.le_refl _) _)
  have HX1 := Lib.hid (show Box w1 p 29 #[.int .i64 1, .int .u64 (key : Nat), .int .u64 (val : Nat), .int .i64 f] by rw [← hw1, ← hp]; exact Box.new _ _ _)
  go_enter Try.func13, Try.ntmps13
  go_upto_region 1 with fail

  try simp only [hw1, hp]
  clear hw1 hp
  have c0 : w1.cell? ⟨p, 0, none⟩ = some (.int .i64 1) := HX1.out.cell 0
  have c1 : w1.cell? ⟨p, 1, none⟩ = some (.int .u64 (key : Nat)) := HX1.out.cell 1
  have c2 : w1.cell? ⟨p, 2, none⟩ = some (.int .u64 (val : Nat)) := HX1.out.cell 2
  have c3 : w1.cell? ⟨p, 3, none⟩ = some (.int .i64 f) := HX1.out.cell 3
  go_wp2
  go_ret
  exact ⟨rfl, HB1.out⟩
set_option maxHeartbeats 1000000 in
theorem rr_1f (key : Nat) (f : Int) (w : World) (n1 : f ≠ 0) (n8 : 0 ≤ f) (n9 : f ≤ 65535) :
    Calls Try.prog 13 #[.agg #[.int .i64 1, .int .u64 (key : Nat), .int .u64 0, .int .i64 f]] w (OrPost w (Ov.r ⟨1, key, 0, f⟩)) := by
  have HX := Lib.hid (show Ov.r ⟨1, key, 0, f⟩ = false from Ov.r_no fun h => n1 (h.put (show (1 : Int) ≠ 3 by decide)).2)
  rw [HX.out]
  have b_f : (f != 0) = true := by simp; omega
  have b_g : decide (f < 0) = false := by simp; omega
  have b_h : decide (65535 < f) = false := by simp; omega
  clear n1 n8 n9
  obtain ⟨p, hp⟩ : ∃ p, w.heap.size = p := ⟨_, rfl⟩
  obtain ⟨w1, hw1⟩ : ∃ w1, w.alloc (.cells #[.int .i64 1, .int .u64 (key : Nat), .int .u64 0, .int .i64 f] 29) = w1 := ⟨_, rfl⟩
  have HB1 := Lib.hid (show Below w.heap.size w w1 by rw [← hw1]; exact (Below.refl _ _).alloc (Nat.le_refl _) _)
  have HX1 := Lib.hid (show Box w1 p 29 #[.int .i64 1, .int .u64 (key : Nat), .int .u64 0, .int .i64 f] by rw [← hw1, ← hp]; exact Box.new _ _ _)
  go_enter Try.func13, Try.ntmps13
  go_upto_region 1 with fail

  try simp only [hw1, hp]
  clear hw1 hp
  have c0 : w1.cell? ⟨p, 0, none⟩ = some (.int .i64 1) := HX1.out.cell 0
  have c1 : w1.cell? ⟨p, 1, none⟩ = some (.int .u64 (key : Nat)) := HX1.out.cell 1
  have c2 : w1.cell? ⟨p, 2, none⟩ = some (.int .u64 0) := HX1.out.cell 2
  have c3 : w1.cell? ⟨p, 3, none⟩ = some (.int .i64 f) := HX1.out.cell 3
  go_wp2
  go_ret
  exact ⟨rfl, HB1.out⟩
set_option maxHeartbeats 1000000 in
theorem rr_1n (key : Nat) (w : World) (hkey : key < 18446744073709551616) (tkey : rt key = false) :
    Calls Try.prog 13 #[.agg #[.int .i64 1, .int .u64 (key : Nat), .int .u64 0, .int .i64 0]] w (OrPost w (Ov.r ⟨1, key, 0, 0⟩)) := by
  have HX := Lib.hid (show Ov.r ⟨1, key, 0, 0⟩ = false from Ov.r_no fun h => by have := h.kr; simp [tkey] at this)
  rw [HX.out]
  have HC0 := Lib.hid (fun w => packed_any key w (hkey))
  have HT0 := Lib.hid (show rt key = false from tkey)
  clear hkey tkey
  obtain ⟨p, hp⟩ : ∃ p, w.heap.size = p := ⟨_, rfl⟩
  obtain ⟨w1, hw1⟩ : ∃ w1, w.alloc (.cells #[.int .i64 1, .int .u64 (key : Nat), .int .u64 0, .int .i64 0] 29) = w1 := ⟨_, rfl⟩
  have HB1 := Lib.hid (show Below w.heap.size w w1 by rw [← hw1]; exact (Below.refl _ _).alloc (Nat.le_refl _) _)
  have HX1 := Lib.hid (show Box w1 p 29 #[.int .i64 1, .int .u64 (key : Nat), .int .u64 0, .int .i64 0] by rw [← hw1, ← hp]; exact Box.new _ _ _)
  go_enter Try.func13, Try.ntmps13
  go_upto_region 1 with fail

  try simp only [hw1, hp]
  clear hw1 hp
  have c0 : w1.cell? ⟨p, 0, none⟩ = some (.int .i64 1) := HX1.out.cell 0
  have c1 : w1.cell? ⟨p, 1, none⟩ = some (.int .u64 (key : Nat)) := HX1.out.cell 1
  have c2 : w1.cell? ⟨p, 2, none⟩ = some (.int .u64 0) := HX1.out.cell 2
  have c3 : w1.cell? ⟨p, 3, none⟩ = some (.int .i64 0) := HX1.out.cell 3
  go_wp2_with fail
  refine (HC0.out _).mono ?_
  rintro e w2 ⟨rfl, hb⟩
  rw [HT0.out]
  clear c0 c1 c2 c3
  have HX2 := Lib.hid (HX1.out.of (hb.block _ HX1.out.lt))
  have HB2 := Lib.hid (below3 HB1.out hb)
  clear hb HB1 HX1 HC0
  have c0 : w2.cell? ⟨p, 0, none⟩ = some (.int .i64 1) := HX2.out.cell 0
  have c1 : w2.cell? ⟨p, 1, none⟩ = some (.int .u64 (key : Nat)) := HX2.out.cell 1
  have c2 : w2.cell? ⟨p, 2, none⟩ = some (.int .u64 0) := HX2.out.cell 2
  have c3 : w2.cell? ⟨p, 3, none⟩ = some (.int .i64 0) := HX2.out.cell 3
  go_wp2
  go_ret
  exact ⟨rfl, HB2.out⟩
set_option maxHeartbeats 1000000 in
theorem rr_1y (key : Nat) (w : World) (hkey : key < 18446744073709551616) (tkey : rt key = true) :
    Calls Try.prog 13 #[.agg #[.int .i64 1, .int .u64 (key : Nat), .int .u64 0, .int .i64 0]] w (OrPost w (Ov.r ⟨1, key, 0, 0⟩)) := by
  have HX := Lib.hid (show Ov.r ⟨1, key, 0, 0⟩ = true from Ov.r_yes ⟨(by decide : (1 : Int) ≤ 1), (by decide : (1 : Int) ≤ 5), fun h => absurd h (by decide : ¬ (1 : Int) = 5), fun _ => ⟨rfl, rfl⟩, tkey, rt_nought, (by decide : (0 : Int) ≤ 0), (by decide : (0 : Int) ≤ 65535)⟩)
  rw [HX.out]
  have HC0 := Lib.hid (fun w => packed_any key w (hkey))
  have HT0 := Lib.hid (show rt key = true from tkey)
  have HC1 := Lib.hid (fun w => packed_any 0 w (by decide))
  have HT1 := Lib.hid (show rt 0 = true from rt_nought)
  clear hkey tkey
  obtain ⟨p, hp⟩ : ∃ p, w.heap.size = p := ⟨_, rfl⟩
  obtain ⟨w1, hw1⟩ : ∃ w1, w.alloc (.cells #[.int .i64 1, .int .u64 (key : Nat), .int .u64 0, .int .i64 0] 29) = w1 := ⟨_, rfl⟩
  have HB1 := Lib.hid (show Below w.heap.size w w1 by rw [← hw1]; exact (Below.refl _ _).alloc (Nat.le_refl _) _)
  have HX1 := Lib.hid (show Box w1 p 29 #[.int .i64 1, .int .u64 (key : Nat), .int .u64 0, .int .i64 0] by rw [← hw1, ← hp]; exact Box.new _ _ _)
  go_enter Try.func13, Try.ntmps13
  go_upto_region 1 with fail

  try simp only [hw1, hp]
  clear hw1 hp
  have c0 : w1.cell? ⟨p, 0, none⟩ = some (.int .i64 1) := HX1.out.cell 0
  have c1 : w1.cell? ⟨p, 1, none⟩ = some (.int .u64 (key : Nat)) := HX1.out.cell 1
  have c2 : w1.cell? ⟨p, 2, none⟩ = some (.int .u64 0) := HX1.out.cell 2
  have c3 : w1.cell? ⟨p, 3, none⟩ = some (.int .i64 0) := HX1.out.cell 3
  go_wp2_with fail
  refine (HC0.out _).mono ?_
  rintro e w2 ⟨rfl, hb⟩
  rw [HT0.out]
  clear c0 c1 c2 c3
  have HX2 := Lib.hid (HX1.out.of (hb.block _ HX1.out.lt))
  have HB2 := Lib.hid (below3 HB1.out hb)
  clear hb HB1 HX1 HC0
  have c0 : w2.cell? ⟨p, 0, none⟩ = some (.int .i64 1) := HX2.out.cell 0
  have c1 : w2.cell? ⟨p, 1, none⟩ = some (.int .u64 (key : Nat)) := HX2.out.cell 1
  have c2 : w2.cell? ⟨p, 2, none⟩ = some (.int .u64 0) := HX2.out.cell 2
  have c3 : w2.cell? ⟨p, 3, none⟩ = some (.int .i64 0) := HX2.out.cell 3
  go_wp2_with fail
  refine (HC1.out _).mono ?_
  rintro e w3 ⟨rfl, hb⟩
  rw [HT1.out]
  clear c0 c1 c2 c3
  have HX3 := Lib.hid (HX2.out.of (hb.block _ HX2.out.lt))
  have HB3 := Lib.hid (below3 HB2.out hb)
  clear hb HB2 HX2 HC1
  have c0 : w3.cell? ⟨p, 0, none⟩ = some (.int .i64 1) := HX3.out.cell 0
  have c1 : w3.cell? ⟨p, 1, none⟩ = some (.int .u64 (key : Nat)) := HX3.out.cell 1
  have c2 : w3.cell? ⟨p, 2, none⟩ = some (.int .u64 0) := HX3.out.cell 2
  have c3 : w3.cell? ⟨p, 3, none⟩ = some (.int .i64 0) := HX3.out.cell 3
  go_wp2
  go_ret
  exact ⟨rfl, HB3.out⟩
set_option maxHeartbeats 1000000 in
theorem rr_2v (key : Nat) (val : Nat) (f : Int) (w : World) (n1 : val ≠ 0) (n8 : 0 ≤ f) (n9 : f ≤ 65535) :
    Calls Try.prog 13 #[.agg #[.int .i64 2, .int .u64 (key : Nat), .int .u64 (val : Nat), .int .i64 f]] w (OrPost w (Ov.r ⟨2, key, val, f⟩)) := by
  have HX := Lib.hid (show Ov.r ⟨2, key, val, f⟩ = false from Ov.r_no fun h => n1 (h.put (show (2 : Int) ≠ 3 by decide)).1)
  rw [HX.out]
  have b_val : ((val : Int) != 0) = true := by simp; omega
  have b_g : decide (f < 0) = false := by simp; omega
  have b_h : decide (65535 < f) = false := by simp; omega
  clear n1 n8 n9
  obtain ⟨p, hp⟩ : ∃ p, w.heap.size = p := ⟨_, rfl⟩
  obtain ⟨w1, hw1⟩ : ∃ w1, w.alloc (.cells #[.int .i64 2, .int .u64 (key : Nat), .int .u64 (val : Nat), .int .i64 f] 29) = w1 := ⟨_, rfl⟩
  have HB1 := Lib.hid (show Below w.heap.size w w1 by rw [← hw1]; exact (Below.refl _ _).alloc (Nat.le_refl _) _)
  have HX1 := Lib.hid (show Box w1 p 29 #[.int .i64 2, .int .u64 (key : Nat), .int .u64 (val : Nat), .int .i64 f] by rw [← hw1, ← hp]; exact Box.new _ _ _)
  go_enter Try.func13, Try.ntmps13
  go_upto_region 1 with fail

  try simp only [hw1, hp]
  clear hw1 hp
  have c0 : w1.cell? ⟨p, 0, none⟩ = some (.int .i64 2) := HX1.out.cell 0
  have c1 : w1.cell? ⟨p, 1, none⟩ = some (.int .u64 (key : Nat)) := HX1.out.cell 1
  have c2 : w1.cell? ⟨p, 2, none⟩ = some (.int .u64 (val : Nat)) := HX1.out.cell 2
  have c3 : w1.cell? ⟨p, 3, none⟩ = some (.int .i64 f) := HX1.out.cell 3
  go_wp2
  go_ret
  exact ⟨rfl, HB1.out⟩
set_option maxHeartbeats 1000000 in
theorem rr_2f (key : Nat) (f : Int) (w : World) (n1 : f ≠ 0) (n8 : 0 ≤ f) (n9 : f ≤ 65535) :
    Calls Try.prog 13 #[.agg #[.int .i64 2, .int .u64 (key : Nat), .int .u64 0, .int .i64 f]] w (OrPost w (Ov.r ⟨2, key, 0, f⟩)) := by
  have HX := Lib.hid (show Ov.r ⟨2, key, 0, f⟩ = false from Ov.r_no fun h => n1 (h.put (show (2 : Int) ≠ 3 by decide)).2)
  rw [HX.out]
  have b_f : (f != 0) = true := by simp; omega
  have b_g : decide (f < 0) = false := by simp; omega
  have b_h : decide (65535 < f) = false := by simp; omega
  clear n1 n8 n9
  obtain ⟨p, hp⟩ : ∃ p, w.heap.size = p := ⟨_, rfl⟩
  obtain ⟨w1, hw1⟩ : ∃ w1, w.alloc (.cells #[.int .i64 2, .int .u64 (key : Nat), .int .u64 0, .int .i64 f] 29) = w1 := ⟨_, rfl⟩
  have HB1 := Lib.hid (show Below w.heap.size w w1 by rw [← hw1]; exact (Below.refl _ _).alloc (Nat.le_refl _) _)
  have HX1 := Lib.hid (show Box w1 p 29 #[.int .i64 2, .int .u64 (key : Nat), .int .u64 0, .int .i64 f] by rw [← hw1, ← hp]; exact Box.new _ _ _)
  go_enter Try.func13, Try.ntmps13
  go_upto_region 1 with fail

  try simp only [hw1, hp]
  clear hw1 hp
  have c0 : w1.cell? ⟨p, 0, none⟩ = some (.int .i64 2) := HX1.out.cell 0
  have c1 : w1.cell? ⟨p, 1, none⟩ = some (.int .u64 (key : Nat)) := HX1.out.cell 1
  have c2 : w1.cell? ⟨p, 2, none⟩ = some (.int .u64 0) := HX1.out.cell 2
  have c3 : w1.cell? ⟨p, 3, none⟩ = some (.int .i64 f) := HX1.out.cell 3
  go_wp2
  go_ret
  exact ⟨rfl, HB1.out⟩
set_option maxHeartbeats 1000000 in
theorem rr_2n (key : Nat) (w : World) (hkey : key < 18446744073709551616) (tkey : rt key = false) :
    Calls Try.prog 13 #[.agg #[.int .i64 2, .int .u64 (key : Nat), .int .u64 0, .int .i64 0]] w (OrPost w (Ov.r ⟨2, key, 0, 0⟩)) := by
  have HX := Lib.hid (show Ov.r ⟨2, key, 0, 0⟩ = false from Ov.r_no fun h => by have := h.kr; simp [tkey] at this)
  rw [HX.out]
  have HC0 := Lib.hid (fun w => packed_any key w (hkey))
  have HT0 := Lib.hid (show rt key = false from tkey)
  clear hkey tkey
  obtain ⟨p, hp⟩ : ∃ p, w.heap.size = p := ⟨_, rfl⟩
  obtain ⟨w1, hw1⟩ : ∃ w1, w.alloc (.cells #[.int .i64 2, .int .u64 (key : Nat), .int .u64 0, .int .i64 0] 29) = w1 := ⟨_, rfl⟩
  have HB1 := Lib.hid (show Below w.heap.size w w1 by rw [← hw1]; exact (Below.refl _ _).alloc (Nat.le_refl _) _)
  have HX1 := Lib.hid (show Box w1 p 29 #[.int .i64 2, .int .u64 (key : Nat), .int .u64 0, .int .i64 0] by rw [← hw1, ← hp]; exact Box.new _ _ _)
  go_enter Try.func13, Try.ntmps13
  go_upto_region 1 with fail

  try simp only [hw1, hp]
  clear hw1 hp
  have c0 : w1.cell? ⟨p, 0, none⟩ = some (.int .i64 2) := HX1.out.cell 0
  have c1 : w1.cell? ⟨p, 1, none⟩ = some (.int .u64 (key : Nat)) := HX1.out.cell 1
  have c2 : w1.cell? ⟨p, 2, none⟩ = some (.int .u64 0) := HX1.out.cell 2
  have c3 : w1.cell? ⟨p, 3, none⟩ = some (.int .i64 0) := HX1.out.cell 3
  go_wp2_with fail
  refine (HC0.out _).mono ?_
  rintro e w2 ⟨rfl, hb⟩
  rw [HT0.out]
  clear c0 c1 c2 c3
  have HX2 := Lib.hid (HX1.out.of (hb.block _ HX1.out.lt))
  have HB2 := Lib.hid (below3 HB1.out hb)
  clear hb HB1 HX1 HC0
  have c0 : w2.cell? ⟨p, 0, none⟩ = some (.int .i64 2) := HX2.out.cell 0
  have c1 : w2.cell? ⟨p, 1, none⟩ = some (.int .u64 (key : Nat)) := HX2.out.cell 1
  have c2 : w2.cell? ⟨p, 2, none⟩ = some (.int .u64 0) := HX2.out.cell 2
  have c3 : w2.cell? ⟨p, 3, none⟩ = some (.int .i64 0) := HX2.out.cell 3
  go_wp2
  go_ret
  exact ⟨rfl, HB2.out⟩
set_option maxHeartbeats 1000000 in
theorem rr_2y (key : Nat) (w : World) (hkey : key < 18446744073709551616) (tkey : rt key = true) :
    Calls Try.prog 13 #[.agg #[.int .i64 2, .int .u64 (key : Nat), .int .u64 0, .int .i64 0]] w (OrPost w (Ov.r ⟨2, key, 0, 0⟩)) := by
  have HX := Lib.hid (show Ov.r ⟨2, key, 0, 0⟩ = true from Ov.r_yes ⟨(by decide : (1 : Int) ≤ 2), (by decide : (2 : Int) ≤ 5), fun h => absurd h (by decide : ¬ (2 : Int) = 5), fun _ => ⟨rfl, rfl⟩, tkey, rt_nought, (by decide : (0 : Int) ≤ 0), (by decide : (0 : Int) ≤ 65535)⟩)
  rw [HX.out]
  have HC0 := Lib.hid (fun w => packed_any key w (hkey))
  have HT0 := Lib.hid (show rt key = true from tkey)
  have HC1 := Lib.hid (fun w => packed_any 0 w (by decide))
  have HT1 := Lib.hid (show rt 0 = true from rt_nought)
  clear hkey tkey
  obtain ⟨p, hp⟩ : ∃ p, w.heap.size = p := ⟨_, rfl⟩
  obtain ⟨w1, hw1⟩ : ∃ w1, w.alloc (.cells #[.int .i64 2, .int .u64 (key : Nat), .int .u64 0, .int .i64 0] 29) = w1 := ⟨_, rfl⟩
  have HB1 := Lib.hid (show Below w.heap.size w w1 by rw [← hw1]; exact (Below.refl _ _).alloc (Nat.le_refl _) _)
  have HX1 := Lib.hid (show Box w1 p 29 #[.int .i64 2, .int .u64 (key : Nat), .int .u64 0, .int .i64 0] by rw [← hw1, ← hp]; exact Box.new _ _ _)
  go_enter Try.func13, Try.ntmps13
  go_upto_region 1 with fail

  try simp only [hw1, hp]
  clear hw1 hp
  have c0 : w1.cell? ⟨p, 0, none⟩ = some (.int .i64 2) := HX1.out.cell 0
  have c1 : w1.cell? ⟨p, 1, none⟩ = some (.int .u64 (key : Nat)) := HX1.out.cell 1
  have c2 : w1.cell? ⟨p, 2, none⟩ = some (.int .u64 0) := HX1.out.cell 2
  have c3 : w1.cell? ⟨p, 3, none⟩ = some (.int .i64 0) := HX1.out.cell 3
  go_wp2_with fail
  refine (HC0.out _).mono ?_
  rintro e w2 ⟨rfl, hb⟩
  rw [HT0.out]
  clear c0 c1 c2 c3
  have HX2 := Lib.hid (HX1.out.of (hb.block _ HX1.out.lt))
  have HB2 := Lib.hid (below3 HB1.out hb)
  clear hb HB1 HX1 HC0
  have c0 : w2.cell? ⟨p, 0, none⟩ = some (.int .i64 2) := HX2.out.cell 0
  have c1 : w2.cell? ⟨p, 1, none⟩ = some (.int .u64 (key : Nat)) := HX2.out.cell 1
  have c2 : w2.cell? ⟨p, 2, none⟩ = some (.int .u64 0) := HX2.out.cell 2
  have c3 : w2.cell? ⟨p, 3, none⟩ = some (.int .i64 0) := HX2.out.cell 3
  go_wp2_with fail
  refine (HC1.out _).mono ?_
  rintro e w3 ⟨rfl, hb⟩
  rw [HT1.out]
  clear c0 c1 c2 c3
  have HX3 := Lib.hid (HX2.out.of (hb.block _ HX2.out.lt))
  have HB3 := Lib.hid (below3 HB2.out hb)
  clear hb HB2 HX2 HC1
  have c0 : w3.cell? ⟨p, 0, none⟩ = some (.int .i64 2) := HX3.out.cell 0
  have c1 : w3.cell? ⟨p, 1, none⟩ = some (.int .u64 (key : Nat)) := HX3.out.cell 1
  have c2 : w3.cell? ⟨p, 2, none⟩ = some (.int .u64 0) := HX3.out.cell 2
  have c3 : w3.cell? ⟨p, 3, none⟩ = some (.int .i64 0) := HX3.out.cell 3
  go_wp2
  go_ret
  exact ⟨rfl, HB3.out⟩
set_option maxHeartbeats 1000000 in
theorem rr_4v (key : Nat) (val : Nat) (f : Int) (w : World) (n1 : val ≠ 0) (n8 : 0 ≤ f) (n9 : f ≤ 65535) :
    Calls Try.prog 13 #[.agg #[.int .i64 4, .int .u64 (key : Nat), .int .u64 (val : Nat), .int .i64 f]] w (OrPost w (Ov.r ⟨4, key, val, f⟩)) := by
  have HX := Lib.hid (show Ov.r ⟨4, key, val, f⟩ = false from Ov.r_no fun h => n1 (h.put (show (4 : Int) ≠ 3 by decide)).1)
  rw [HX.out]
  have b_val : ((val : Int) != 0) = true := by simp; omega
  have b_g : decide (f < 0) = false := by simp; omega
  have b_h : decide (65535 < f) = false := by simp; omega
  clear n1 n8 n9
  obtain ⟨p, hp⟩ : ∃ p, w.heap.size = p := ⟨_, rfl⟩
  obtain ⟨w1, hw1⟩ : ∃ w1, w.alloc (.cells #[.int .i64 4, .int .u64 (key : Nat), .int .u64 (val : Nat), .int .i64 f] 29) = w1 := ⟨_, rfl⟩
  have HB1 := Lib.hid (show Below w.heap.size w w1 by rw [← hw1]; exact (Below.refl _ _).alloc (Nat.le_refl _) _)
  have HX1 := Lib.hid (show Box w1 p 29 #[.int .i64 4, .int .u64 (key : Nat), .int .u64 (val : Nat), .int .i64 f] by rw [← hw1, ← hp]; exact Box.new _ _ _)
  go_enter Try.func13, Try.ntmps13
  go_upto_region 1 with fail

  try simp only [hw1, hp]
  clear hw1 hp
  have c0 : w1.cell? ⟨p, 0, none⟩ = some (.int .i64 4) := HX1.out.cell 0
  have c1 : w1.cell? ⟨p, 1, none⟩ = some (.int .u64 (key : Nat)) := HX1.out.cell 1
  have c2 : w1.cell? ⟨p, 2, none⟩ = some (.int .u64 (val : Nat)) := HX1.out.cell 2
  have c3 : w1.cell? ⟨p, 3, none⟩ = some (.int .i64 f) := HX1.out.cell 3
  go_wp2
  go_ret
  exact ⟨rfl, HB1.out⟩
set_option maxHeartbeats 1000000 in
theorem rr_4f (key : Nat) (f : Int) (w : World) (n1 : f ≠ 0) (n8 : 0 ≤ f) (n9 : f ≤ 65535) :
    Calls Try.prog 13 #[.agg #[.int .i64 4, .int .u64 (key : Nat), .int .u64 0, .int .i64 f]] w (OrPost w (Ov.r ⟨4, key, 0, f⟩)) := by
  have HX := Lib.hid (show Ov.r ⟨4, key, 0, f⟩ = false from Ov.r_no fun h => n1 (h.put (show (4 : Int) ≠ 3 by decide)).2)
  rw [HX.out]
  have b_f : (f != 0) = true := by simp; omega
  have b_g : decide (f < 0) = false := by simp; omega
  have b_h : decide (65535 < f) = false := by simp; omega
  clear n1 n8 n9
  obtain ⟨p, hp⟩ : ∃ p, w.heap.size = p := ⟨_, rfl⟩
  obtain ⟨w1, hw1⟩ : ∃ w1, w.alloc (.cells #[.int .i64 4, .int .u64 (key : Nat), .int .u64 0, .int .i64 f] 29) = w1 := ⟨_, rfl⟩
  have HB1 := Lib.hid (show Below w.heap.size w w1 by rw [← hw1]; exact (Below.refl _ _).alloc (Nat.le_refl _) _)
  have HX1 := Lib.hid (show Box w1 p 29 #[.int .i64 4, .int .u64 (key : Nat), .int .u64 0, .int .i64 f] by rw [← hw1, ← hp]; exact Box.new _ _ _)
  go_enter Try.func13, Try.ntmps13
  go_upto_region 1 with fail

  try simp only [hw1, hp]
  clear hw1 hp
  have c0 : w1.cell? ⟨p, 0, none⟩ = some (.int .i64 4) := HX1.out.cell 0
  have c1 : w1.cell? ⟨p, 1, none⟩ = some (.int .u64 (key : Nat)) := HX1.out.cell 1
  have c2 : w1.cell? ⟨p, 2, none⟩ = some (.int .u64 0) := HX1.out.cell 2
  have c3 : w1.cell? ⟨p, 3, none⟩ = some (.int .i64 f) := HX1.out.cell 3
  go_wp2
  go_ret
  exact ⟨rfl, HB1.out⟩
set_option maxHeartbeats 1000000 in
theorem rr_4n (key : Nat) (w : World) (hkey : key < 18446744073709551616) (tkey : rt key = false) :
    Calls Try.prog 13 #[.agg #[.int .i64 4, .int .u64 (key : Nat), .int .u64 0, .int .i64 0]] w (OrPost w (Ov.r ⟨4, key, 0, 0⟩)) := by
  have HX := Lib.hid (show Ov.r ⟨4, key, 0, 0⟩ = false from Ov.r_no fun h => by have := h.kr; simp [tkey] at this)
  rw [HX.out]
  have HC0 := Lib.hid (fun w => packed_any key w (hkey))
  have HT0 := Lib.hid (show rt key = false from tkey)
  clear hkey tkey
  obtain ⟨p, hp⟩ : ∃ p, w.heap.size = p := ⟨_, rfl⟩
  obtain ⟨w1, hw1⟩ : ∃ w1, w.alloc (.cells #[.int .i64 4, .int .u64 (key : Nat), .int .u64 0, .int .i64 0] 29) = w1 := ⟨_, rfl⟩
  have HB1 := Lib.hid (show Below w.heap.size w w1 by rw [← hw1]; exact (Below.refl _ _).alloc (Nat.le_refl _) _)
  have HX1 := Lib.hid (show Box w1 p 29 #[.int .i64 4, .int .u64 (key : Nat), .int .u64 0, .int .i64 0] by rw [← hw1, ← hp]; exact Box.new _ _ _)
  go_enter Try.func13, Try.ntmps13
  go_upto_region 1 with fail

  try simp only [hw1, hp]
  clear hw1 hp
  have c0 : w1.cell? ⟨p, 0, none⟩ = some (.int .i64 4) := HX1.out.cell 0
  have c1 : w1.cell? ⟨p, 1, none⟩ = some (.int .u64 (key : Nat)) := HX1.out.cell 1
  have c2 : w1.cell? ⟨p, 2, none⟩ = some (.int .u64 0) := HX1.out.cell 2
  have c3 : w1.cell? ⟨p, 3, none⟩ = some (.int .i64 0) := HX1.out.cell 3
  go_wp2_with fail
  refine (HC0.out _).mono ?_
  rintro e w2 ⟨rfl, hb⟩
  rw [HT0.out]
  clear c0 c1 c2 c3
  have HX2 := Lib.hid (HX1.out.of (hb.block _ HX1.out.lt))
  have HB2 := Lib.hid (below3 HB1.out hb)
  clear hb HB1 HX1 HC0
  have c0 : w2.cell? ⟨p, 0, none⟩ = some (.int .i64 4) := HX2.out.cell 0
  have c1 : w2.cell? ⟨p, 1, none⟩ = some (.int .u64 (key : Nat)) := HX2.out.cell 1
  have c2 : w2.cell? ⟨p, 2, none⟩ = some (.int .u64 0) := HX2.out.cell 2
  have c3 : w2.cell? ⟨p, 3, none⟩ = some (.int .i64 0) := HX2.out.cell 3
  go_wp2
  go_ret
  exact ⟨rfl, HB2.out⟩
set_option maxHeartbeats 1000000 in
theorem rr_4y (key : Nat) (w : World) (hkey : key < 18446744073709551616) (tkey : rt key = true) :
    Calls Try.prog 13 #[.agg #[.int .i64 4, .int .u64 (key : Nat), .int .u64 0, .int .i64 0]] w (OrPost w (Ov.r ⟨4, key, 0, 0⟩)) := by
  have HX := Lib.hid (show Ov.r ⟨4, key, 0, 0⟩ = true from Ov.r_yes ⟨(by decide : (1 : Int) ≤ 4), (by decide : (4 : Int) ≤ 5), fun h => absurd h (by decide : ¬ (4 : Int) = 5), fun _ => ⟨rfl, rfl⟩, tkey, rt_nought, (by decide : (0 : Int) ≤ 0), (by decide : (0 : Int) ≤ 65535)⟩)
  rw [HX.out]
  have HC0 := Lib.hid (fun w => packed_any key w (hkey))
  have HT0 := Lib.hid (show rt key = true from tkey)
  have HC1 := Lib.hid (fun w => packed_any 0 w (by decide))
  have HT1 := Lib.hid (show rt 0 = true from rt_nought)
  clear hkey tkey
  obtain ⟨p, hp⟩ : ∃ p, w.heap.size = p := ⟨_, rfl⟩
  obtain ⟨w1, hw1⟩ : ∃ w1, w.alloc (.cells #[.int .i64 4, .int .u64 (key : Nat), .int .u64 0, .int .i64 0] 29) = w1 := ⟨_, rfl⟩
  have HB1 := Lib.hid (show Below w.heap.size w w1 by rw [← hw1]; exact (Below.refl _ _).alloc (Nat.le_refl _) _)
  have HX1 := Lib.hid (show Box w1 p 29 #[.int .i64 4, .int .u64 (key : Nat), .int .u64 0, .int .i64 0] by rw [← hw1, ← hp]; exact Box.new _ _ _)
  go_enter Try.func13, Try.ntmps13
  go_upto_region 1 with fail

  try simp only [hw1, hp]
  clear hw1 hp
  have c0 : w1.cell? ⟨p, 0, none⟩ = some (.int .i64 4) := HX1.out.cell 0
  have c1 : w1.cell? ⟨p, 1, none⟩ = some (.int .u64 (key : Nat)) := HX1.out.cell 1
  have c2 : w1.cell? ⟨p, 2, none⟩ = some (.int .u64 0) := HX1.out.cell 2
  have c3 : w1.cell? ⟨p, 3, none⟩ = some (.int .i64 0) := HX1.out.cell 3
  go_wp2_with fail
  refine (HC0.out _).mono ?_
  rintro e w2 ⟨rfl, hb⟩
  rw [HT0.out]
  clear c0 c1 c2 c3
  have HX2 := Lib.hid (HX1.out.of (hb.block _ HX1.out.lt))
  have HB2 := Lib.hid (below3 HB1.out hb)
  clear hb HB1 HX1 HC0
  have c0 : w2.cell? ⟨p, 0, none⟩ = some (.int .i64 4) := HX2.out.cell 0
  have c1 : w2.cell? ⟨p, 1, none⟩ = some (.int .u64 (key : Nat)) := HX2.out.cell 1
  have c2 : w2.cell? ⟨p, 2, none⟩ = some (.int .u64 0) := HX2.out.cell 2
  have c3 : w2.cell? ⟨p, 3, none⟩ = some (.int .i64 0) := HX2.out.cell 3
  go_wp2_with fail
  refine (HC1.out _).mono ?_
  rintro e w3 ⟨rfl, hb⟩
  rw [HT1.out]
  clear c0 c1 c2 c3
  have HX3 := Lib.hid (HX2.out.of (hb.block _ HX2.out.lt))
  have HB3 := Lib.hid (below3 HB2.out hb)
  clear hb HB2 HX2 HC1
  have c0 : w3.cell? ⟨p, 0, none⟩ = some (.int .i64 4) := HX3.out.cell 0
  have c1 : w3.cell? ⟨p, 1, none⟩ = some (.int .u64 (key : Nat)) := HX3.out.cell 1
  have c2 : w3.cell? ⟨p, 2, none⟩ = some (.int .u64 0) := HX3.out.cell 2
  have c3 : w3.cell? ⟨p, 3, none⟩ = some (.int .i64 0) := HX3.out.cell 3
  go_wp2
  go_ret
  exact ⟨rfl, HB3.out⟩
set_option maxHeartbeats 1000000 in
theorem rr_5v (val : Nat) (f : Int) (w : World) (n1 : val ≠ 0) (n8 : 0 ≤ f) (n9 : f ≤ 65535) :
    Calls Try.prog 13 #[.agg #[.int .i64 5, .int .u64 0, .int .u64 (val : Nat), .int .i64 f]] w (OrPost w (Ov.r ⟨5, 0, val, f⟩)) := by
  have HX := Lib.hid (show Ov.r ⟨5, 0, val, f⟩ = false from Ov.r_no fun h => n1 (h.put (show (5 : Int) ≠ 3 by decide)).1)
  rw [HX.out]
  have b_val : ((val : Int) != 0) = true := by simp; omega
  have b_g : decide (f < 0) = false := by simp; omega
  have b_h : decide (65535 < f) = false := by simp; omega
  clear n1 n8 n9
  obtain ⟨p, hp⟩ : ∃ p, w.heap.size = p := ⟨_, rfl⟩
  obtain ⟨w1, hw1⟩ : ∃ w1, w.alloc (.cells #[.int .i64 5, .int .u64 0, .int .u64 (val : Nat), .int .i64 f] 29) = w1 := ⟨_, rfl⟩
  have HB1 := Lib.hid (show Below w.heap.size w w1 by rw [← hw1]; exact (Below.refl _ _).alloc (Nat.le_refl _) _)
  have HX1 := Lib.hid (show Box w1 p 29 #[.int .i64 5, .int .u64 0, .int .u64 (val : Nat), .int .i64 f] by rw [← hw1, ← hp]; exact Box.new _ _ _)
  go_enter Try.func13, Try.ntmps13
  go_upto_region 1 with fail

  try simp only [hw1, hp]
  clear hw1 hp
  have c0 : w1.cell? ⟨p, 0, none⟩ = some (.int .i64 5) := HX1.out.cell 0
  have c1 : w1.cell? ⟨p, 1, none⟩ = some (.int .u64 0) := HX1.out.cell 1
  have c2 : w1.cell? ⟨p, 2, none⟩ = some (.int .u64 (val : Nat)) := HX1.out.cell 2
  have c3 : w1.cell? ⟨p, 3, none⟩ = some (.int .i64 f) := HX1.out.cell 3
  go_wp2
  go_ret
  exact ⟨rfl, HB1.out⟩
set_option maxHeartbeats 1000000 in
theorem rr_5f  (f : Int) (w : World) (n1 : f ≠ 0) (n8 : 0 ≤ f) (n9 : f ≤ 65535) :
    Calls Try.prog 13 #[.agg #[.int .i64 5, .int .u64 0, .int .u64 0, .int .i64 f]] w (OrPost w (Ov.r ⟨5, 0, 0, f⟩)) := by
  have HX := Lib.hid (show Ov.r ⟨5, 0, 0, f⟩ = false from Ov.r_no fun h => n1 (h.put (show (5 : Int) ≠ 3 by decide)).2)
  rw [HX.out]
  have b_f : (f != 0) = true := by simp; omega
  have b_g : decide (f < 0) = false := by simp; omega
  have b_h : decide (65535 < f) = false := by simp; omega
  clear n1 n8 n9
  obtain ⟨p, hp⟩ : ∃ p, w.heap.size = p := ⟨_, rfl⟩
  obtain ⟨w1, hw1⟩ : ∃ w1, w.alloc (.cells #[.int .i64 5, .int .u64 0, .int .u64 0, .int .i64 f] 29) = w1 := ⟨_, rfl⟩
  have HB1 := Lib.hid (show Below w.heap.size w w1 by rw [← hw1]; exact (Below.refl _ _).alloc (Nat.le_refl _) _)
  have HX1 := Lib.hid (show Box w1 p 29 #[.int .i64 5, .int .u64 0, .int .u64 0, .int .i64 f] by rw [← hw1, ← hp]; exact Box.new _ _ _)
  go_enter Try.func13, Try.ntmps13
  go_upto_region 1 with fail

  try simp only [hw1, hp]
  clear hw1 hp
  have c0 : w1.cell? ⟨p, 0, none⟩ = some (.int .i64 5) := HX1.out.cell 0
  have c1 : w1.cell? ⟨p, 1, none⟩ = some (.int .u64 0) := HX1.out.cell 1
  have c2 : w1.cell? ⟨p, 2, none⟩ = some (.int .u64 0) := HX1.out.cell 2
  have c3 : w1.cell? ⟨p, 3, none⟩ = some (.int .i64 f) := HX1.out.cell 3
  go_wp2
  go_ret
  exact ⟨rfl, HB1.out⟩
set_option maxHeartbeats 1000000 in
theorem rr_5y  (w : World)  :
    Calls Try.prog 13 #[.agg #[.int .i64 5, .int .u64 0, .int .u64 0, .int .i64 0]] w (OrPost w (Ov.r ⟨5, 0, 0, 0⟩)) := by
  have HX := Lib.hid (show Ov.r ⟨5, 0, 0, 0⟩ = true from Ov.r_yes ⟨by decide, by decide, fun _ => rfl, fun _ => ⟨rfl, rfl⟩, rt_nought, rt_nought, by decide, by decide⟩)
  rw [HX.out]
  have HC0 := Lib.hid (fun w => packed_any 0 w (by decide))
  have HT0 := Lib.hid (show rt 0 = true from rt_nought)
  have HC1 := Lib.hid (fun w => packed_any 0 w (by decide))
  have HT1 := Lib.hid (show rt 0 = true from rt_nought)
  obtain ⟨p, hp⟩ : ∃ p, w.heap.size = p := ⟨_, rfl⟩
  obtain ⟨w1, hw1⟩ : ∃ w1, w.alloc (.cells #[.int .i64 5, .int .u64 0, .int .u64 0, .int .i64 0] 29) = w1 := ⟨_, rfl⟩
  have HB1 := Lib.hid (show Below w.heap.size w w1 by rw [← hw1]; exact (Below.refl _ _).alloc (Nat.le_refl _) _)
  have HX1 := Lib.hid (show Box w1 p 29 #[.int .i64 5, .int .u64 0, .int .u64 0, .int .i64 0] by rw [← hw1, ← hp]; exact Box.new _ _ _)
  go_enter Try.func13, Try.ntmps13
  go_upto_region 1 with fail

  try simp only [hw1, hp]
  clear hw1 hp
  have c0 : w1.cell? ⟨p, 0, none⟩ = some (.int .i64 5) := HX1.out.cell 0
  have c1 : w1.cell? ⟨p, 1, none⟩ = some (.int .u64 0) := HX1.out.cell 1
  have c2 : w1.cell? ⟨p, 2, none⟩ = some (.int .u64 0) := HX1.out.cell 2
  have c3 : w1.cell? ⟨p, 3, none⟩ = some (.int .i64 0) := HX1.out.cell 3
  go_wp2_with fail
  refine (HC0.out _).mono ?_
  rintro e w2 ⟨rfl, hb⟩
  rw [HT0.out]
  clear c0 c1 c2 c3
  have HX2 := Lib.hid (HX1.out.of (hb.block _ HX1.out.lt))
  have HB2 := Lib.hid (below3 HB1.out hb)
  clear hb HB1 HX1 HC0
  have c0 : w2.cell? ⟨p, 0, none⟩ = some (.int .i64 5) := HX2.out.cell 0
  have c1 : w2.cell? ⟨p, 1, none⟩ = some (.int .u64 0) := HX2.out.cell 1
  have c2 : w2.cell? ⟨p, 2, none⟩ = some (.int .u64 0) := HX2.out.cell 2
  have c3 : w2.cell? ⟨p, 3, none⟩ = some (.int .i64 0) := HX2.out.cell 3
  go_wp2_with fail
  refine (HC1.out _).mono ?_
  rintro e w3 ⟨rfl, hb⟩
  rw [HT1.out]
  clear c0 c1 c2 c3
  have HX3 := Lib.hid (HX2.out.of (hb.block _ HX2.out.lt))
  have HB3 := Lib.hid (below3 HB2.out hb)
  clear hb HB2 HX2 HC1
  have c0 : w3.cell? ⟨p, 0, none⟩ = some (.int .i64 5) := HX3.out.cell 0
  have c1 : w3.cell? ⟨p, 1, none⟩ = some (.int .u64 0) := HX3.out.cell 1
  have c2 : w3.cell? ⟨p, 2, none⟩ = some (.int .u64 0) := HX3.out.cell 2
  have c3 : w3.cell? ⟨p, 3, none⟩ = some (.int .i64 0) := HX3.out.cell 3
  go_wp2
  go_ret
  exact ⟨rfl, HB3.out⟩
set_option maxHeartbeats 1000000 in
theorem rr_3a (key : Nat) (val : Nat) (f : Int) (k : Int) (w : World) (n1 : f < 0) (n2 : 1 ≤ k) (n3 : k ≤ 5) :
    Calls Try.prog 13 #[.agg #[.int .i64 k, .int .u64 (key : Nat), .int .u64 (val : Nat), .int .i64 f]] w (OrPost w (Ov.r ⟨k, key, val, f⟩)) := by
  have HX := Lib.hid (show Ov.r ⟨k, key, val, f⟩ = false from Ov.r_no fun h => by have := h.f0; simp at this; omega)
  rw [HX.out]
  have b_f : decide (f < 0) = true := by simp; omega
  have b_k : decide (k < 1) = false := by simp; omega
  have b_l : decide (5 < k) = false := by simp; omega
  clear n1 n2 n3
  obtain ⟨p, hp⟩ : ∃ p, w.heap.size = p := ⟨_, rfl⟩
  obtain ⟨w1, hw1⟩ : ∃ w1, w.alloc (.cells #[.int .i64 k, .int .u64 (key : Nat), .int .u64 (val : Nat), .int .i64 f] 29) = w1 := ⟨_, rfl⟩
  have HB1 := Lib.hid (show Below w.heap.size w w1 by rw [← hw1]; exact (Below.refl _ _).alloc (Nat.le_refl _) _)
  have HX1 := Lib.hid (show Box w1 p 29 #[.int .i64 k, .int .u64 (key : Nat), .int .u64 (val : Nat), .int .i64 f] by rw [← hw1, ← hp]; exact Box.new _ _ _)
  go_enter Try.func13, Try.ntmps13
  go_upto_region 1 with fail

  try simp only [hw1, hp]
  clear hw1 hp
  have c0 : w1.cell? ⟨p, 0, none⟩ = some (.int .i64 k) := HX1.out.cell 0
  have c1 : w1.cell? ⟨p, 1, none⟩ = some (.int .u64 (key : Nat)) := HX1.out.cell 1
  have c2 : w1.cell? ⟨p, 2, none⟩ = some (.int .u64 (val : Nat)) := HX1.out.cell 2
  have c3 : w1.cell? ⟨p, 3, none⟩ = some (.int .i64 f) := HX1.out.cell 3
  go_wp2
  go_ret
  exact ⟨rfl, HB1.out⟩
set_option maxHeartbeats 1000000 in
theorem rr_3b (key : Nat) (val : Nat) (f : Int) (k : Int) (w : World) (n1 : 65535 < f) (n2 : 1 ≤ k) (n3 : k ≤ 5) :
    Calls Try.prog 13 #[.agg #[.int .i64 k, .int .u64 (key : Nat), .int .u64 (val : Nat), .int .i64 f]] w (OrPost w (Ov.r ⟨k, key, val, f⟩)) := by
  have HX := Lib.hid (show Ov.r ⟨k, key, val, f⟩ = false from Ov.r_no fun h => by have := h.f1; simp at this; omega)
  rw [HX.out]
  have b_g : decide (f < 0) = false := by simp; omega
  have b_f : decide (65535 < f) = true := by simp; omega
  have b_k : decide (k < 1) = false := by simp; omega
  have b_l : decide (5 < k) = false := by simp; omega
  clear n1 n2 n3
  obtain ⟨p, hp⟩ : ∃ p, w.heap.size = p := ⟨_, rfl⟩
  obtain ⟨w1, hw1⟩ : ∃ w1, w.alloc (.cells #[.int .i64 k, .int .u64 (key : Nat), .int .u64 (val : Nat), .int .i64 f] 29) = w1 := ⟨_, rfl⟩
  have HB1 := Lib.hid (show Below w.heap.size w w1 by rw [← hw1]; exact (Below.refl _ _).alloc (Nat.le_refl _) _)
  have HX1 := Lib.hid (show Box w1 p 29 #[.int .i64 k, .int .u64 (key : Nat), .int .u64 (val : Nat), .int .i64 f] by rw [← hw1, ← hp]; exact Box.new _ _ _)
  go_enter Try.func13, Try.ntmps13
  go_upto_region 1 with fail

  try simp only [hw1, hp]
  clear hw1 hp
  have c0 : w1.cell? ⟨p, 0, none⟩ = some (.int .i64 k) := HX1.out.cell 0
  have c1 : w1.cell? ⟨p, 1, none⟩ = some (.int .u64 (key : Nat)) := HX1.out.cell 1
  have c2 : w1.cell? ⟨p, 2, none⟩ = some (.int .u64 (val : Nat)) := HX1.out.cell 2
  have c3 : w1.cell? ⟨p, 3, none⟩ = some (.int .i64 f) := HX1.out.cell 3
  go_wp2
  go_ret
  exact ⟨rfl, HB1.out⟩
set_option maxHeartbeats 1000000 in
theorem rr_3k (key : Nat) (val : Nat) (f : Int) (w : World) (hkey : key < 18446744073709551616) (n1 : 0 ≤ f) (n2 : f ≤ 65535) (tkey : rt key = false) :
    Calls Try.prog 13 #[.agg #[.int .i64 3, .int .u64 (key : Nat), .int .u64 (val : Nat), .int .i64 f]] w (OrPost w (Ov.r ⟨3, key, val, f⟩)) := by
  have HX := Lib.hid (show Ov.r ⟨3, key, val, f⟩ = false from Ov.r_no fun h => by have := h.kr; simp [tkey] at this)
  rw [HX.out]
  have b_g : decide (f < 0) = false := by simp; omega
  have b_f : decide (65535 < f) = false := by simp; omega
  have HC0 := Lib.hid (fun w => packed_any key w (hkey))
  have HT0 := Lib.hid (show rt key = false from tkey)
  clear hkey tkey n1 n2
  obtain ⟨p, hp⟩ : ∃ p, w.heap.size = p := ⟨_, rfl⟩
  obtain ⟨w1, hw1⟩ : ∃ w1, w.alloc (.cells #[.int .i64 3, .int .u64 (key : Nat), .int .u64 (val : Nat), .int .i64 f] 29) = w1 := ⟨_, rfl⟩
  have HB1 := Lib.hid (show Below w.heap.size w w1 by rw [← hw1]; exact (Below.refl _ _).alloc (Nat.le_refl _) _)
  have HX1 := Lib.hid (show Box w1 p 29 #[.int .i64 3, .int .u64 (key : Nat), .int .u64 (val : Nat), .int .i64 f] by rw [← hw1, ← hp]; exact Box.new _ _ _)
  go_enter Try.func13, Try.ntmps13
  go_upto_region 1 with fail

  try simp only [hw1, hp]
  clear hw1 hp
  have c0 : w1.cell? ⟨p, 0, none⟩ = some (.int .i64 3) := HX1.out.cell 0
  have c1 : w1.cell? ⟨p, 1, none⟩ = some (.int .u64 (key : Nat)) := HX1.out.cell 1
  have c2 : w1.cell? ⟨p, 2, none⟩ = some (.int .u64 (val : Nat)) := HX1.out.cell 2
  have c3 : w1.cell? ⟨p, 3, none⟩ = some (.int .i64 f) := HX1.out.cell 3
  go_wp2_with fail
  refine (HC0.out _).mono ?_
  rintro e w2 ⟨rfl, hb⟩
  rw [HT0.out]
  clear c0 c1 c2 c3
  have HX2 := Lib.hid (HX1.out.of (hb.block _ HX1.out.lt))
  have HB2 := Lib.hid (below3 HB1.out hb)
  clear hb HB1 HX1 HC0
  have c0 : w2.cell? ⟨p, 0, none⟩ = some (.int .i64 3) := HX2.out.cell 0
  have c1 : w2.cell? ⟨p, 1, none⟩ = some (.int .u64 (key : Nat)) := HX2.out.cell 1
  have c2 : w2.cell? ⟨p, 2, none⟩ = some (.int .u64 (val : Nat)) := HX2.out.cell 2
  have c3 : w2.cell? ⟨p, 3, none⟩ = some (.int .i64 f) := HX2.out.cell 3
  go_wp2
  go_ret
  exact ⟨rfl, HB2.out⟩
set_option maxHeartbeats 1000000 in
theorem rr_3v (key : Nat) (val : Nat) (f : Int) (w : World) (hkey : key < 18446744073709551616) (hval : val < 18446744073709551616) (n1 : 0 ≤ f) (n2 : f ≤ 65535) (tkey : rt key = true) (tval : rt val = false) :
    Calls Try.prog 13 #[.agg #[.int .i64 3, .int .u64 (key : Nat), .int .u64 (val : Nat), .int .i64 f]] w (OrPost w (Ov.r ⟨3, key, val, f⟩)) := by
  have HX := Lib.hid (show Ov.r ⟨3, key, val, f⟩ = false from Ov.r_no fun h => by have := h.vr; simp [tval] at this)
  rw [HX.out]
  have b_g : decide (f < 0) = false := by simp; omega
  have b_f : decide (65535 < f) = false := by simp; omega
  have HC0 := Lib.hid (fun w => packed_any key w (hkey))
  have HT0 := Lib.hid (show rt key = true from tkey)
  have HC1 := Lib.hid (fun w => packed_any val w (hval))
  have HT1 := Lib.hid (show rt val = false from tval)
  clear hkey hval tkey tval n1 n2
  obtain ⟨p, hp⟩ : ∃ p, w.heap.size = p := ⟨_, rfl⟩
  obtain ⟨w1, hw1⟩ : ∃ w1, w.alloc (.cells #[.int .i64 3, .int .u64 (key : Nat), .int .u64 (val : Nat), .int .i64 f] 29) = w1 := ⟨_, rfl⟩
  have HB1 := Lib.hid (show Below w.heap.size w w1 by rw [← hw1]; exact (Below.refl _ _).alloc (Nat.le_refl _) _)
  have HX1 := Lib.hid (show Box w1 p 29 #[.int .i64 3, .int .u64 (key : Nat), .int .u64 (val : Nat), .int .i64 f] by rw [← hw1, ← hp]; exact Box.new _ _ _)
  go_enter Try.func13, Try.ntmps13
  go_upto_region 1 with fail

  try simp only [hw1, hp]
  clear hw1 hp
  have c0 : w1.cell? ⟨p, 0, none⟩ = some (.int .i64 3) := HX1.out.cell 0
  have c1 : w1.cell? ⟨p, 1, none⟩ = some (.int .u64 (key : Nat)) := HX1.out.cell 1
  have c2 : w1.cell? ⟨p, 2, none⟩ = some (.int .u64 (val : Nat)) := HX1.out.cell 2
  have c3 : w1.cell? ⟨p, 3, none⟩ = some (.int .i64 f) := HX1.out.cell 3
  go_wp2_with fail
  refine (HC0.out _).mono ?_
  rintro e w2 ⟨rfl, hb⟩
  rw [HT0.out]
  clear c0 c1 c2 c3
  have HX2 := Lib.hid (HX1.out.of (hb.block _ HX1.out.lt))
  have HB2 := Lib.hid (below3 HB1.out hb)
  clear hb HB1 HX1 HC0
  have c0 : w2.cell? ⟨p, 0, none⟩ = some (.int .i64 3) := HX2.out.cell 0
  have c1 : w2.cell? ⟨p, 1, none⟩ = some (.int .u64 (key : Nat)) := HX2.out.cell 1
  have c2 : w2.cell? ⟨p, 2, none⟩ = some (.int .u64 (val : Nat)) := HX2.out.cell 2
  have c3 : w2.cell? ⟨p, 3, none⟩ = some (.int .i64 f) := HX2.out.cell 3
  go_wp2_with fail
  refine (HC1.out _).mono ?_
  rintro e w3 ⟨rfl, hb⟩
  rw [HT1.out]
  clear c0 c1 c2 c3
  have HX3 := Lib.hid (HX2.out.of (hb.block _ HX2.out.lt))
  have HB3 := Lib.hid (below3 HB2.out hb)
  clear hb HB2 HX2 HC1
  have c0 : w3.cell? ⟨p, 0, none⟩ = some (.int .i64 3) := HX3.out.cell 0
  have c1 : w3.cell? ⟨p, 1, none⟩ = some (.int .u64 (key : Nat)) := HX3.out.cell 1
  have c2 : w3.cell? ⟨p, 2, none⟩ = some (.int .u64 (val : Nat)) := HX3.out.cell 2
  have c3 : w3.cell? ⟨p, 3, none⟩ = some (.int .i64 f) := HX3.out.cell 3
  go_wp2
  go_ret
  exact ⟨rfl, HB3.out⟩
set_option maxHeartbeats 1000000 in
theorem rr_3y (key : Nat) (val : Nat) (f : Int) (w : World) (hkey : key < 18446744073709551616) (hval : val < 18446744073709551616) (tkey : rt key = true) (tval : rt val = true) (n1 : 0 ≤ f) (n2 : f ≤ 65535) :
    Calls Try.prog 13 #[.agg #[.int .i64 3, .int .u64 (key : Nat), .int .u64 (val : Nat), .int .i64 f]] w (OrPost w (Ov.r ⟨3, key, val, f⟩)) := by
  have HX := Lib.hid (show Ov.r ⟨3, key, val, f⟩ = true from Ov.r_yes ⟨(by decide : (1 : Int) ≤ 3), (by decide : (3 : Int) ≤ 5), fun h => absurd h (by decide : ¬ (3 : Int) = 5), fun h => absurd rfl h, tkey, tval, n1, n2⟩)
  rw [HX.out]
  have b_g : decide (f < 0) = false := by simp; omega
  have b_f : decide (65535 < f) = false := by simp; omega
  have HC0 := Lib.hid (fun w => packed_any key w (hkey))
  have HT0 := Lib.hid (show rt key = true from tkey)
  have HC1 := Lib.hid (fun w => packed_any val w (hval))
  have HT1 := Lib.hid (show rt val = true from tval)
  clear hkey hval tkey tval n1 n2
  obtain ⟨p, hp⟩ : ∃ p, w.heap.size = p := ⟨_, rfl⟩
  obtain ⟨w1, hw1⟩ : ∃ w1, w.alloc (.cells #[.int .i64 3, .int .u64 (key : Nat), .int .u64 (val : Nat), .int .i64 f] 29) = w1 := ⟨_, rfl⟩
  have HB1 := Lib.hid (show Below w.heap.size w w1 by rw [← hw1]; exact (Below.refl _ _).alloc (Nat.le_refl _) _)
  have HX1 := Lib.hid (show Box w1 p 29 #[.int .i64 3, .int .u64 (key : Nat), .int .u64 (val : Nat), .int .i64 f] by rw [← hw1, ← hp]; exact Box.new _ _ _)
  go_enter Try.func13, Try.ntmps13
  go_upto_region 1 with fail

  try simp only [hw1, hp]
  clear hw1 hp
  have c0 : w1.cell? ⟨p, 0, none⟩ = some (.int .i64 3) := HX1.out.cell 0
  have c1 : w1.cell? ⟨p, 1, none⟩ = some (.int .u64 (key : Nat)) := HX1.out.cell 1
  have c2 : w1.cell? ⟨p, 2, none⟩ = some (.int .u64 (val : Nat)) := HX1.out.cell 2
  have c3 : w1.cell? ⟨p, 3, none⟩ = some (.int .i64 f) := HX1.out.cell 3
  go_wp2_with fail
  refine (HC0.out _).mono ?_
  rintro e w2 ⟨rfl, hb⟩
  rw [HT0.out]
  clear c0 c1 c2 c3
  have HX2 := Lib.hid (HX1.out.of (hb.block _ HX1.out.lt))
  have HB2 := Lib.hid (below3 HB1.out hb)
  clear hb HB1 HX1 HC0
  have c0 : w2.cell? ⟨p, 0, none⟩ = some (.int .i64 3) := HX2.out.cell 0
  have c1 : w2.cell? ⟨p, 1, none⟩ = some (.int .u64 (key : Nat)) := HX2.out.cell 1
  have c2 : w2.cell? ⟨p, 2, none⟩ = some (.int .u64 (val : Nat)) := HX2.out.cell 2
  have c3 : w2.cell? ⟨p, 3, none⟩ = some (.int .i64 f) := HX2.out.cell 3
  go_wp2_with fail
  refine (HC1.out _).mono ?_
  rintro e w3 ⟨rfl, hb⟩
  rw [HT1.out]
  clear c0 c1 c2 c3
  have HX3 := Lib.hid (HX2.out.of (hb.block _ HX2.out.lt))
  have HB3 := Lib.hid (below3 HB2.out hb)
  clear hb HB2 HX2 HC1
  have c0 : w3.cell? ⟨p, 0, none⟩ = some (.int .i64 3) := HX3.out.cell 0
  have c1 : w3.cell? ⟨p, 1, none⟩ = some (.int .u64 (key : Nat)) := HX3.out.cell 1
  have c2 : w3.cell? ⟨p, 2, none⟩ = some (.int .u64 (val : Nat)) := HX3.out.cell 2
  have c3 : w3.cell? ⟨p, 3, none⟩ = some (.int .i64 f) := HX3.out.cell 3
  go_wp2
  go_ret
  exact ⟨rfl, HB3.out⟩
set_option maxHeartbeats 1000000 in
theorem rr_lo (key : Nat) (val : Nat) (f : Int) (k : Int) (w : World) (n1 : k < 1) :
    Calls Try.prog 13 #[.agg #[.int .i64 k, .int .u64 (key : Nat), .int .u64 (val : Nat), .int .i64 f]] w (OrPost w (Ov.r ⟨k, key, val, f⟩)) := by
  have HX := Lib.hid (show Ov.r ⟨k, key, val, f⟩ = false from Ov.r_no fun h => by have := h.lo; simp at this; omega)
  rw [HX.out]
  have b_k : decide (k < 1) = true := by simp; omega
  clear n1
  obtain ⟨p, hp⟩ : ∃ p, w.heap.size = p := ⟨_, rfl⟩
  obtain ⟨w1, hw1⟩ : ∃ w1, w.alloc (.cells #[.int .i64 k, .int .u64 (key : Nat), .int .u64 (val : Nat), .int .i64 f] 29) = w1 := ⟨_, rfl⟩
  have HB1 := Lib.hid (show Below w.heap.size w w1 by rw [← hw1]; exact (Below.refl _ _).alloc (Nat.le_refl _) _)
  have HX1 := Lib.hid (show Box w1 p 29 #[.int .i64 k, .int .u64 (key : Nat), .int .u64 (val : Nat), .int .i64 f] by rw [← hw1, ← hp]; exact Box.new _ _ _)
  go_enter Try.func13, Try.ntmps13
  go_upto_region 1 with fail

  try simp only [hw1, hp]
  clear hw1 hp
  have c0 : w1.cell? ⟨p, 0, none⟩ = some (.int .i64 k) := HX1.out.cell 0
  have c1 : w1.cell? ⟨p, 1, none⟩ = some (.int .u64 (key : Nat)) := HX1.out.cell 1
  have c2 : w1.cell? ⟨p, 2, none⟩ = some (.int .u64 (val : Nat)) := HX1.out.cell 2
  have c3 : w1.cell? ⟨p, 3, none⟩ = some (.int .i64 f) := HX1.out.cell 3
  go_wp2
  go_ret
  exact ⟨rfl, HB1.out⟩
set_option maxHeartbeats 1000000 in
theorem rr_hi (key : Nat) (val : Nat) (f : Int) (k : Int) (w : World) (n1 : 5 < k) :
    Calls Try.prog 13 #[.agg #[.int .i64 k, .int .u64 (key : Nat), .int .u64 (val : Nat), .int .i64 f]] w (OrPost w (Ov.r ⟨k, key, val, f⟩)) := by
  have HX := Lib.hid (show Ov.r ⟨k, key, val, f⟩ = false from Ov.r_no fun h => by have := h.hi; simp at this; omega)
  rw [HX.out]
  have b_k : decide (k < 1) = false := by simp; omega
  have b_l : decide (5 < k) = true := by simp; omega
  clear n1
  obtain ⟨p, hp⟩ : ∃ p, w.heap.size = p := ⟨_, rfl⟩
  obtain ⟨w1, hw1⟩ : ∃ w1, w.alloc (.cells #[.int .i64 k, .int .u64 (key : Nat), .int .u64 (val : Nat), .int .i64 f] 29) = w1 := ⟨_, rfl⟩
  have HB1 := Lib.hid (show Below w.heap.size w w1 by rw [← hw1]; exact (Below.refl _ _).alloc (Nat.le_refl _) _)
  have HX1 := Lib.hid (show Box w1 p 29 #[.int .i64 k, .int .u64 (key : Nat), .int .u64 (val : Nat), .int .i64 f] by rw [← hw1, ← hp]; exact Box.new _ _ _)
  go_enter Try.func13, Try.ntmps13
  go_upto_region 1 with fail

  try simp only [hw1, hp]
  clear hw1 hp
  have c0 : w1.cell? ⟨p, 0, none⟩ = some (.int .i64 k) := HX1.out.cell 0
  have c1 : w1.cell? ⟨p, 1, none⟩ = some (.int .u64 (key : Nat)) := HX1.out.cell 1
  have c2 : w1.cell? ⟨p, 2, none⟩ = some (.int .u64 (val : Nat)) := HX1.out.cell 2
  have c3 : w1.cell? ⟨p, 3, none⟩ = some (.int .i64 f) := HX1.out.cell 3
  go_wp2
  go_ret
  exact ⟨rfl, HB1.out⟩
theorem refright_any (o : Ov) (w : World) (hkey : o.key < 18446744073709551616) (hval : o.val < 18446744073709551616) : Calls Try.prog 13 #[o.a] w (OrPost w o.r) := by
  obtain ⟨k, key, val, f⟩ := o
  simp only at hkey hval
  by_cases h1 : k < 1
  · exact rr_lo key val f k w h1
  by_cases h2 : 5 < k
  · exact rr_hi key val f k w h2
  by_cases g1 : f < 0
  · exact rr_3a key val f k w g1 (by omega) (by omega)
  by_cases g2 : 65535 < f
  · exact rr_3b key val f k w g2 (by omega) (by omega)
  have g1 : 0 ≤ f := by omega
  have g2 : f ≤ 65535 := by omega
  by_cases h3 : k = 3
  · subst h3
    cases tk : rt key
    · exact rr_3k key val f w hkey g1 g2 tk
    cases tv : rt val
    · exact rr_3v key val f w hkey hval g1 g2 tk tv
    exact rr_3y key val f w hkey hval tk tv g1 g2
  rcases (by omega : k = 1 ∨ k = 2 ∨ k = 4 ∨ k = 5) with h | h | h | h <;> subst h
  · by_cases g3 : val ≠ 0
    · exact rr_1v key val f w g3 g1 g2
    obtain rfl : val = 0 := by omega
    by_cases g4 : f ≠ 0
    · exact rr_1f key f w g4 g1 g2
    obtain rfl : f = 0 := by omega
    cases tk : rt key
    · exact rr_1n key w hkey tk
    exact rr_1y key w hkey tk
  · by_cases g3 : val ≠ 0
    · exact rr_2v key val f w g3 g1 g2
    obtain rfl : val = 0 := by omega
    by_cases g4 : f ≠ 0
    · exact rr_2f key f w g4 g1 g2
    obtain rfl : f = 0 := by omega
    cases tk : rt key
    · exact rr_2n key w hkey tk
    exact rr_2y key w hkey tk
  · by_cases g3 : val ≠ 0
    · exact rr_4v key val f w g3 g1 g2
    obtain rfl : val = 0 := by omega
    by_cases g4 : f ≠ 0
    · exact rr_4f key f w g4 g1 g2
    obtain rfl : f = 0 := by omega
    cases tk : rt key
    · exact rr_4n key w hkey tk
    exact rr_4y key w hkey tk
  · by_cases g0 : key ≠ 0
    · exact rr_5k key val f w g0 g1 g2
    obtain rfl : key = 0 := by omega
    by_cases g3 : val ≠ 0
    · exact rr_5v val f w g3 g1 g2
    obtain rfl : val = 0 := by omega
    by_cases g4 : f ≠ 0
    · exact rr_5f f w g4 g1 g2
    obtain rfl : f = 0 := by omega
    exact rr_5y w
end Go.Proofs.Ytpnjeoilkaimmaa
