/- The walk of the law on operations that are unlike: their bytes are unlike, and none is the beginning of another one. Conditions: words are of 64 bits. -/
import Derived.Test.YtpnjeoilkaimmaaOpLaw
import Derived.Test.YtpnjeoilkaimmaaOpMore
namespace Go.Proofs.Ytpnjeoilkaimmaa
open Go.RowKit Go.ChangeShapes Go.WideShapes Go.ChangeAt

theorem BA_same (l m : List UInt8) : ((BA l).toList == (BA m).toList) = decide (l = m) := by
  rw [BA_toList, BA_toList, Bool.eq_iff_iff]; simp
theorem BA_isE (l : List UInt8) : (BA l).toList.isEmpty = l.isEmpty := by rw [BA_toList]
def GoodP (w : World) (e : Ending) (w' : World) : Prop := e = .returned (.bool true) ∧ Below w.heap.size w w'
set_option maxHeartbeats 2000000 in
theorem apart_a (ak : Int) (ax av : Nat) (af : Int) (bk : Int) (bx bv : Nat) (bf : Int) (s t : List UInt8) (w : World)
    (HA : ∀ w, Calls Try.prog 15 #[.agg #[.int .i64 ak, .int .u64 (ax : Nat), .int .u64 (av : Nat), .int .i64 af]] w (SPost w s)) (HC : ∀ w, Calls Try.prog 15 #[.agg #[.int .i64 bk, .int .u64 (bx : Nat), .int .u64 (bv : Nat), .int .i64 bf]] w (SPost w t)) (hs : s = []) :
    Calls Try.prog 8 #[.agg #[.int .i64 ak, .int .u64 (ax : Nat), .int .u64 (av : Nat), .int .i64 af], .agg #[.int .i64 bk, .int .u64 (bx : Nat), .int .u64 (bv : Nat), .int .i64 bf]] w (GoodP w) := by
  have HA := Lib.hid HA
  have HC := Lib.hid HC
  subst hs
  have he := BA_isE []
  simp only [List.isEmpty_nil] at he
  obtain ⟨p, hp⟩ : ∃ p, w.heap.size = p := ⟨_, rfl⟩
  obtain ⟨w1, hw1⟩ : ∃ w1, (w.alloc (.cells #[.int .i64 ak, .int .u64 (ax : Nat), .int .u64 (av : Nat), .int .i64 af] 24)).alloc (.cells #[.int .i64 bk, .int .u64 (bx : Nat), .int .u64 (bv : Nat), .int .i64 bf] 24) = w1 := ⟨_, rfl⟩
  have HX_a1 := Lib.hid (show Box w1 p 24 #[.int .i64 ak, .int .u64 (ax : Nat), .int .u64 (av : Nat), .int .i64 af] by rw [← hw1, ← hp]; exact (Box.new _ _ _).alloc _)
  have HX_b1 := Lib.hid (show Box w1 (p + 1) 24 #[.int .i64 bk, .int .u64 (bx : Nat), .int .u64 (bv : Nat), .int .i64 bf] by
    have h := Box.new (w.alloc (.cells #[.int .i64 ak, .int .u64 (ax : Nat), .int .u64 (av : Nat), .int .i64 af] 24)) 24 #[.int .i64 bk, .int .u64 (bx : Nat), .int .u64 (bv : Nat), .int .i64 bf]
    rw [hw1, World.size_alloc, hp] at h
    exact h)
  have HB1 := Lib.hid (show Below w.heap.size w w1 by rw [← hw1]; exact ((Below.refl _ _).alloc (Nat.le_refl _) _).alloc (by simp) _)
  go_enter Try.func8, Try.ntmps8
  go_upto_region 1 with fail
  try simp only [hw1, hp]
  clear hw1 hp
  go_wp2_with fail
  refine (opshown_any _).mono ?_
  rintro e w2 ⟨rfl, hb⟩
  have HX_a2 := Lib.hid (show Box w2 p 24 #[.int .i64 ak, .int .u64 (ax : Nat), .int .u64 (av : Nat), .int .i64 af] from HX_a1.out.of (hb.block _ HX_a1.out.lt))
  have HX_b2 := Lib.hid (show Box w2 (p + 1) 24 #[.int .i64 bk, .int .u64 (bx : Nat), .int .u64 (bv : Nat), .int .i64 bf] from HX_b1.out.of (hb.block _ HX_b1.out.lt))
  clear HX_a1 HX_b1
  have HB2 := Lib.hid (HB1.out.trans (hb.mono HB1.out.size))
  clear hb HB1
  have c_a0 : w2.cell? ⟨p, 0, none⟩ = some (.int .i64 ak) := HX_a2.out.cell 0
  have c_a1 : w2.cell? ⟨p, 1, none⟩ = some (.int .u64 (ax : Nat)) := HX_a2.out.cell 1
  have c_a2 : w2.cell? ⟨p, 2, none⟩ = some (.int .u64 (av : Nat)) := HX_a2.out.cell 2
  have c_a3 : w2.cell? ⟨p, 3, none⟩ = some (.int .i64 af) := HX_a2.out.cell 3
  go_wp2_with fail
  refine (HA.out _).mono ?_
  rintro e w3 ⟨rfl, hb⟩
  have HX_a3 := Lib.hid (show Box w3 p 24 #[.int .i64 ak, .int .u64 (ax : Nat), .int .u64 (av : Nat), .int .i64 af] from HX_a2.out.of (hb.block _ HX_a2.out.lt))
  have HX_b3 := Lib.hid (show Box w3 (p + 1) 24 #[.int .i64 bk, .int .u64 (bx : Nat), .int .u64 (bv : Nat), .int .i64 bf] from HX_b2.out.of (hb.block _ HX_b2.out.lt))
  clear HX_a2 HX_b2
  have HB3 := Lib.hid (HB2.out.trans (hb.mono HB2.out.size))
  clear hb HB2
  clear c_a0 c_a1 c_a2 c_a3
  have c_b0 : w3.cell? ⟨p + 1, 0, none⟩ = some (.int .i64 bk) := HX_b3.out.cell 0
  have c_b1 : w3.cell? ⟨p + 1, 1, none⟩ = some (.int .u64 (bx : Nat)) := HX_b3.out.cell 1
  have c_b2 : w3.cell? ⟨p + 1, 2, none⟩ = some (.int .u64 (bv : Nat)) := HX_b3.out.cell 2
  have c_b3 : w3.cell? ⟨p + 1, 3, none⟩ = some (.int .i64 bf) := HX_b3.out.cell 3
  go_wp2_with fail
  refine (HC.out _).mono ?_
  rintro e w4 ⟨rfl, hb⟩
  have HX_a4 := Lib.hid (show Box w4 p 24 #[.int .i64 ak, .int .u64 (ax : Nat), .int .u64 (av : Nat), .int .i64 af] from HX_a3.out.of (hb.block _ HX_a3.out.lt))
  have HX_b4 := Lib.hid (show Box w4 (p + 1) 24 #[.int .i64 bk, .int .u64 (bx : Nat), .int .u64 (bv : Nat), .int .i64 bf] from HX_b3.out.of (hb.block _ HX_b3.out.lt))
  clear HX_a3 HX_b3
  have HB4 := Lib.hid (HB3.out.trans (hb.mono HB3.out.size))
  clear hb HB3
  clear c_b0 c_b1 c_b2 c_b3
  go_wp2
  go_ret
  exact ⟨rfl, HB4.out⟩
set_option maxHeartbeats 2000000 in
theorem apart_b (ak : Int) (ax av : Nat) (af : Int) (bk : Int) (bx bv : Nat) (bf : Int) (s t : List UInt8) (w : World)
    (HA : ∀ w, Calls Try.prog 15 #[.agg #[.int .i64 ak, .int .u64 (ax : Nat), .int .u64 (av : Nat), .int .i64 af]] w (SPost w s)) (HC : ∀ w, Calls Try.prog 15 #[.agg #[.int .i64 bk, .int .u64 (bx : Nat), .int .u64 (bv : Nat), .int .i64 bf]] w (SPost w t)) (hs : s ≠ []) (ht : t = []) :
    Calls Try.prog 8 #[.agg #[.int .i64 ak, .int .u64 (ax : Nat), .int .u64 (av : Nat), .int .i64 af], .agg #[.int .i64 bk, .int .u64 (bx : Nat), .int .u64 (bv : Nat), .int .i64 bf]] w (GoodP w) := by
  have HA := Lib.hid HA
  have HC := Lib.hid HC
  subst ht
  have he : (BA s).toList.isEmpty = false := by rw [BA_isE]; cases s <;> simp_all
  have he2 : (BA []).toList.isEmpty = true := BA_isE []
  clear hs
  obtain ⟨p, hp⟩ : ∃ p, w.heap.size = p := ⟨_, rfl⟩
  obtain ⟨w1, hw1⟩ : ∃ w1, (w.alloc (.cells #[.int .i64 ak, .int .u64 (ax : Nat), .int .u64 (av : Nat), .int .i64 af] 24)).alloc (.cells #[.int .i64 bk, .int .u64 (bx : Nat), .int .u64 (bv : Nat), .int .i64 bf] 24) = w1 := ⟨_, rfl⟩
  have HX_a1 := Lib.hid (show Box w1 p 24 #[.int .i64 ak, .int .u64 (ax : Nat), .int .u64 (av : Nat), .int .i64 af] by rw [← hw1, ← hp]; exact (Box.new _ _ _).alloc _)
  have HX_b1 := Lib.hid (show Box w1 (p + 1) 24 #[.int .i64 bk, .int .u64 (bx : Nat), .int .u64 (bv : Nat), .int .i64 bf] by
    have h := Box.new (w.alloc (.cells #[.int .i64 ak, .int .u64 (ax : Nat), .int .u64 (av : Nat), .int .i64 af] 24)) 24 #[.int .i64 bk, .int .u64 (bx : Nat), .int .u64 (bv : Nat), .int .i64 bf]
    rw [hw1, World.size_alloc, hp] at h
    exact h)
  have HB1 := Lib.hid (show Below w.heap.size w w1 by rw [← hw1]; exact ((Below.refl _ _).alloc (Nat.le_refl _) _).alloc (by simp) _)
  go_enter Try.func8, Try.ntmps8
  go_upto_region 1 with fail
  try simp only [hw1, hp]
  clear hw1 hp
  go_wp2_with fail
  refine (opshown_any _).mono ?_
  rintro e w2 ⟨rfl, hb⟩
  have HX_a2 := Lib.hid (show Box w2 p 24 #[.int .i64 ak, .int .u64 (ax : Nat), .int .u64 (av : Nat), .int .i64 af] from HX_a1.out.of (hb.block _ HX_a1.out.lt))
  have HX_b2 := Lib.hid (show Box w2 (p + 1) 24 #[.int .i64 bk, .int .u64 (bx : Nat), .int .u64 (bv : Nat), .int .i64 bf] from HX_b1.out.of (hb.block _ HX_b1.out.lt))
  clear HX_a1 HX_b1
  have HB2 := Lib.hid (HB1.out.trans (hb.mono HB1.out.size))
  clear hb HB1
  have c_a0 : w2.cell? ⟨p, 0, none⟩ = some (.int .i64 ak) := HX_a2.out.cell 0
  have c_a1 : w2.cell? ⟨p, 1, none⟩ = some (.int .u64 (ax : Nat)) := HX_a2.out.cell 1
  have c_a2 : w2.cell? ⟨p, 2, none⟩ = some (.int .u64 (av : Nat)) := HX_a2.out.cell 2
  have c_a3 : w2.cell? ⟨p, 3, none⟩ = some (.int .i64 af) := HX_a2.out.cell 3
  go_wp2_with fail
  refine (HA.out _).mono ?_
  rintro e w3 ⟨rfl, hb⟩
  have HX_a3 := Lib.hid (show Box w3 p 24 #[.int .i64 ak, .int .u64 (ax : Nat), .int .u64 (av : Nat), .int .i64 af] from HX_a2.out.of (hb.block _ HX_a2.out.lt))
  have HX_b3 := Lib.hid (show Box w3 (p + 1) 24 #[.int .i64 bk, .int .u64 (bx : Nat), .int .u64 (bv : Nat), .int .i64 bf] from HX_b2.out.of (hb.block _ HX_b2.out.lt))
  clear HX_a2 HX_b2
  have HB3 := Lib.hid (HB2.out.trans (hb.mono HB2.out.size))
  clear hb HB2
  clear c_a0 c_a1 c_a2 c_a3
  have c_b0 : w3.cell? ⟨p + 1, 0, none⟩ = some (.int .i64 bk) := HX_b3.out.cell 0
  have c_b1 : w3.cell? ⟨p + 1, 1, none⟩ = some (.int .u64 (bx : Nat)) := HX_b3.out.cell 1
  have c_b2 : w3.cell? ⟨p + 1, 2, none⟩ = some (.int .u64 (bv : Nat)) := HX_b3.out.cell 2
  have c_b3 : w3.cell? ⟨p + 1, 3, none⟩ = some (.int .i64 bf) := HX_b3.out.cell 3
  go_wp2_with fail
  refine (HC.out _).mono ?_
  rintro e w4 ⟨rfl, hb⟩
  have HX_a4 := Lib.hid (show Box w4 p 24 #[.int .i64 ak, .int .u64 (ax : Nat), .int .u64 (av : Nat), .int .i64 af] from HX_a3.out.of (hb.block _ HX_a3.out.lt))
  have HX_b4 := Lib.hid (show Box w4 (p + 1) 24 #[.int .i64 bk, .int .u64 (bx : Nat), .int .u64 (bv : Nat), .int .i64 bf] from HX_b3.out.of (hb.block _ HX_b3.out.lt))
  clear HX_a3 HX_b3
  have HB4 := Lib.hid (HB3.out.trans (hb.mono HB3.out.size))
  clear hb HB3
  clear c_b0 c_b1 c_b2 c_b3
  go_wp2
  go_ret
  exact ⟨rfl, HB4.out⟩
set_option maxHeartbeats 2000000 in
theorem apart_s (ak : Int) (ax av : Nat) (af : Int) (bk : Int) (bx bv : Nat) (bf : Int) (s t : List UInt8) (w : World)
    (HA : ∀ w, Calls Try.prog 15 #[.agg #[.int .i64 ak, .int .u64 (ax : Nat), .int .u64 (av : Nat), .int .i64 af]] w (SPost w s)) (HC : ∀ w, Calls Try.prog 15 #[.agg #[.int .i64 bk, .int .u64 (bx : Nat), .int .u64 (bv : Nat), .int .i64 bf]] w (SPost w t)) (hs : s ≠ []) (ht : t = s) (hab : Ov.q ⟨ak, ax, av, af⟩ ⟨bk, bx, bv, bf⟩ = true) :
    Calls Try.prog 8 #[.agg #[.int .i64 ak, .int .u64 (ax : Nat), .int .u64 (av : Nat), .int .i64 af], .agg #[.int .i64 bk, .int .u64 (bx : Nat), .int .u64 (bv : Nat), .int .i64 bf]] w (GoodP w) := by
  have HA := Lib.hid HA
  have HC := Lib.hid HC
  have hq : ∀ w, (binOp .eql 24 (.agg #[.int .i64 ak, .int .u64 (ax : Nat), .int .u64 (av : Nat), .int .i64 af]) (.agg #[.int .i64 bk, .int .u64 (bx : Nat), .int .u64 (bv : Nat), .int .i64 bf])).run Try.prog w = .ok (.bool true) w := fun w => by rw [← hab]; exact eql_op ⟨ak, ax, av, af⟩ ⟨bk, bx, bv, bf⟩ w
  subst ht
  have he : (BA t).toList.isEmpty = false := by rw [BA_isE]; cases t <;> simp_all
  clear hs hab
  obtain ⟨p, hp⟩ : ∃ p, w.heap.size = p := ⟨_, rfl⟩
  obtain ⟨w1, hw1⟩ : ∃ w1, (w.alloc (.cells #[.int .i64 ak, .int .u64 (ax : Nat), .int .u64 (av : Nat), .int .i64 af] 24)).alloc (.cells #[.int .i64 bk, .int .u64 (bx : Nat), .int .u64 (bv : Nat), .int .i64 bf] 24) = w1 := ⟨_, rfl⟩
  have HX_a1 := Lib.hid (show Box w1 p 24 #[.int .i64 ak, .int .u64 (ax : Nat), .int .u64 (av : Nat), .int .i64 af] by rw [← hw1, ← hp]; exact (Box.new _ _ _).alloc _)
  have HX_b1 := Lib.hid (show Box w1 (p + 1) 24 #[.int .i64 bk, .int .u64 (bx : Nat), .int .u64 (bv : Nat), .int .i64 bf] by
    have h := Box.new (w.alloc (.cells #[.int .i64 ak, .int .u64 (ax : Nat), .int .u64 (av : Nat), .int .i64 af] 24)) 24 #[.int .i64 bk, .int .u64 (bx : Nat), .int .u64 (bv : Nat), .int .i64 bf]
    rw [hw1, World.size_alloc, hp] at h
    exact h)
  have HB1 := Lib.hid (show Below w.heap.size w w1 by rw [← hw1]; exact ((Below.refl _ _).alloc (Nat.le_refl _) _).alloc (by simp) _)
  go_enter Try.func8, Try.ntmps8
  go_upto_region 1 with fail
  try simp only [hw1, hp]
  clear hw1 hp
  go_wp2_with fail
  refine (opshown_any _).mono ?_
  rintro e w2 ⟨rfl, hb⟩
  have HX_a2 := Lib.hid (show Box w2 p 24 #[.int .i64 ak, .int .u64 (ax : Nat), .int .u64 (av : Nat), .int .i64 af] from HX_a1.out.of (hb.block _ HX_a1.out.lt))
  have HX_b2 := Lib.hid (show Box w2 (p + 1) 24 #[.int .i64 bk, .int .u64 (bx : Nat), .int .u64 (bv : Nat), .int .i64 bf] from HX_b1.out.of (hb.block _ HX_b1.out.lt))
  clear HX_a1 HX_b1
  have HB2 := Lib.hid (HB1.out.trans (hb.mono HB1.out.size))
  clear hb HB1
  have c_a0 : w2.cell? ⟨p, 0, none⟩ = some (.int .i64 ak) := HX_a2.out.cell 0
  have c_a1 : w2.cell? ⟨p, 1, none⟩ = some (.int .u64 (ax : Nat)) := HX_a2.out.cell 1
  have c_a2 : w2.cell? ⟨p, 2, none⟩ = some (.int .u64 (av : Nat)) := HX_a2.out.cell 2
  have c_a3 : w2.cell? ⟨p, 3, none⟩ = some (.int .i64 af) := HX_a2.out.cell 3
  go_wp2_with fail
  refine (HA.out _).mono ?_
  rintro e w3 ⟨rfl, hb⟩
  have HX_a3 := Lib.hid (show Box w3 p 24 #[.int .i64 ak, .int .u64 (ax : Nat), .int .u64 (av : Nat), .int .i64 af] from HX_a2.out.of (hb.block _ HX_a2.out.lt))
  have HX_b3 := Lib.hid (show Box w3 (p + 1) 24 #[.int .i64 bk, .int .u64 (bx : Nat), .int .u64 (bv : Nat), .int .i64 bf] from HX_b2.out.of (hb.block _ HX_b2.out.lt))
  clear HX_a2 HX_b2
  have HB3 := Lib.hid (HB2.out.trans (hb.mono HB2.out.size))
  clear hb HB2
  clear c_a0 c_a1 c_a2 c_a3
  have c_b0 : w3.cell? ⟨p + 1, 0, none⟩ = some (.int .i64 bk) := HX_b3.out.cell 0
  have c_b1 : w3.cell? ⟨p + 1, 1, none⟩ = some (.int .u64 (bx : Nat)) := HX_b3.out.cell 1
  have c_b2 : w3.cell? ⟨p + 1, 2, none⟩ = some (.int .u64 (bv : Nat)) := HX_b3.out.cell 2
  have c_b3 : w3.cell? ⟨p + 1, 3, none⟩ = some (.int .i64 bf) := HX_b3.out.cell 3
  go_wp2_with fail
  refine (HC.out _).mono ?_
  rintro e w4 ⟨rfl, hb⟩
  have HX_a4 := Lib.hid (show Box w4 p 24 #[.int .i64 ak, .int .u64 (ax : Nat), .int .u64 (av : Nat), .int .i64 af] from HX_a3.out.of (hb.block _ HX_a3.out.lt))
  have HX_b4 := Lib.hid (show Box w4 (p + 1) 24 #[.int .i64 bk, .int .u64 (bx : Nat), .int .u64 (bv : Nat), .int .i64 bf] from HX_b3.out.of (hb.block _ HX_b3.out.lt))
  clear HX_a3 HX_b3
  have HB4 := Lib.hid (HB3.out.trans (hb.mono HB3.out.size))
  clear hb HB3
  clear c_b0 c_b1 c_b2 c_b3
  have c_a0 : w4.cell? ⟨p, 0, none⟩ = some (.int .i64 ak) := HX_a4.out.cell 0
  have c_a1 : w4.cell? ⟨p, 1, none⟩ = some (.int .u64 (ax : Nat)) := HX_a4.out.cell 1
  have c_a2 : w4.cell? ⟨p, 2, none⟩ = some (.int .u64 (av : Nat)) := HX_a4.out.cell 2
  have c_a3 : w4.cell? ⟨p, 3, none⟩ = some (.int .i64 af) := HX_a4.out.cell 3
  have c_b0 : w4.cell? ⟨p + 1, 0, none⟩ = some (.int .i64 bk) := HX_b4.out.cell 0
  have c_b1 : w4.cell? ⟨p + 1, 1, none⟩ = some (.int .u64 (bx : Nat)) := HX_b4.out.cell 1
  have c_b2 : w4.cell? ⟨p + 1, 2, none⟩ = some (.int .u64 (bv : Nat)) := HX_b4.out.cell 2
  have c_b3 : w4.cell? ⟨p + 1, 3, none⟩ = some (.int .i64 bf) := HX_b4.out.cell 3
  go_wp2
  go_ret
  exact ⟨rfl, HB4.out⟩
set_option maxHeartbeats 2000000 in
theorem apart_l (ak : Int) (ax av : Nat) (af : Int) (bk : Int) (bx bv : Nat) (bf : Int) (s t : List UInt8) (w : World)
    (HA : ∀ w, Calls Try.prog 15 #[.agg #[.int .i64 ak, .int .u64 (ax : Nat), .int .u64 (av : Nat), .int .i64 af]] w (SPost w s)) (HC : ∀ w, Calls Try.prog 15 #[.agg #[.int .i64 bk, .int .u64 (bx : Nat), .int .u64 (bv : Nat), .int .i64 bf]] w (SPost w t)) (hs : s ≠ []) (ht : t ≠ []) (hne : s ≠ t) (hab : Ov.q ⟨ak, ax, av, af⟩ ⟨bk, bx, bv, bf⟩ = false) (hl : t.length ≤ s.length) :
    Calls Try.prog 8 #[.agg #[.int .i64 ak, .int .u64 (ax : Nat), .int .u64 (av : Nat), .int .i64 af], .agg #[.int .i64 bk, .int .u64 (bx : Nat), .int .u64 (bv : Nat), .int .i64 bf]] w (GoodP w) := by
  have HA := Lib.hid HA
  have HC := Lib.hid HC
  have hq : ∀ w, (binOp .eql 24 (.agg #[.int .i64 ak, .int .u64 (ax : Nat), .int .u64 (av : Nat), .int .i64 af]) (.agg #[.int .i64 bk, .int .u64 (bx : Nat), .int .u64 (bv : Nat), .int .i64 bf])).run Try.prog w = .ok (.bool false) w := fun w => by rw [← hab]; exact eql_op ⟨ak, ax, av, af⟩ ⟨bk, bx, bv, bf⟩ w
  have he : (BA s).toList.isEmpty = false := by rw [BA_isE]; cases s <;> simp_all
  have he2 : (BA t).toList.isEmpty = false := by rw [BA_isE]; cases t <;> simp_all
  have hst : ((BA s).toList == (BA t).toList) = false := by rw [BA_same]; simp; exact hne
  have z1 : (BA s).size = s.length := rfl
  have z2 : (BA t).size = t.length := rfl
  have hd : decide (t.length ≤ s.length) = true := by simp; omega
  clear hs ht hne hab hl
  obtain ⟨p, hp⟩ : ∃ p, w.heap.size = p := ⟨_, rfl⟩
  obtain ⟨w1, hw1⟩ : ∃ w1, (w.alloc (.cells #[.int .i64 ak, .int .u64 (ax : Nat), .int .u64 (av : Nat), .int .i64 af] 24)).alloc (.cells #[.int .i64 bk, .int .u64 (bx : Nat), .int .u64 (bv : Nat), .int .i64 bf] 24) = w1 := ⟨_, rfl⟩
  have HX_a1 := Lib.hid (show Box w1 p 24 #[.int .i64 ak, .int .u64 (ax : Nat), .int .u64 (av : Nat), .int .i64 af] by rw [← hw1, ← hp]; exact (Box.new _ _ _).alloc _)
  have HX_b1 := Lib.hid (show Box w1 (p + 1) 24 #[.int .i64 bk, .int .u64 (bx : Nat), .int .u64 (bv : Nat), .int .i64 bf] by
    have h := Box.new (w.alloc (.cells #[.int .i64 ak, .int .u64 (ax : Nat), .int .u64 (av : Nat), .int .i64 af] 24)) 24 #[.int .i64 bk, .int .u64 (bx : Nat), .int .u64 (bv : Nat), .int .i64 bf]
    rw [hw1, World.size_alloc, hp] at h
    exact h)
  have HB1 := Lib.hid (show Below w.heap.size w w1 by rw [← hw1]; exact ((Below.refl _ _).alloc (Nat.le_refl _) _).alloc (by simp) _)
  go_enter Try.func8, Try.ntmps8
  go_upto_region 1 with fail
  try simp only [hw1, hp]
  clear hw1 hp
  go_wp2_with fail
  refine (opshown_any _).mono ?_
  rintro e w2 ⟨rfl, hb⟩
  have HX_a2 := Lib.hid (show Box w2 p 24 #[.int .i64 ak, .int .u64 (ax : Nat), .int .u64 (av : Nat), .int .i64 af] from HX_a1.out.of (hb.block _ HX_a1.out.lt))
  have HX_b2 := Lib.hid (show Box w2 (p + 1) 24 #[.int .i64 bk, .int .u64 (bx : Nat), .int .u64 (bv : Nat), .int .i64 bf] from HX_b1.out.of (hb.block _ HX_b1.out.lt))
  clear HX_a1 HX_b1
  have HB2 := Lib.hid (HB1.out.trans (hb.mono HB1.out.size))
  clear hb HB1
  have c_a0 : w2.cell? ⟨p, 0, none⟩ = some (.int .i64 ak) := HX_a2.out.cell 0
  have c_a1 : w2.cell? ⟨p, 1, none⟩ = some (.int .u64 (ax : Nat)) := HX_a2.out.cell 1
  have c_a2 : w2.cell? ⟨p, 2, none⟩ = some (.int .u64 (av : Nat)) := HX_a2.out.cell 2
  have c_a3 : w2.cell? ⟨p, 3, none⟩ = some (.int .i64 af) := HX_a2.out.cell 3
  go_wp2_with fail
  refine (HA.out _).mono ?_
  rintro e w3 ⟨rfl, hb⟩
  have HX_a3 := Lib.hid (show Box w3 p 24 #[.int .i64 ak, .int .u64 (ax : Nat), .int .u64 (av : Nat), .int .i64 af] from HX_a2.out.of (hb.block _ HX_a2.out.lt))
  have HX_b3 := Lib.hid (show Box w3 (p + 1) 24 #[.int .i64 bk, .int .u64 (bx : Nat), .int .u64 (bv : Nat), .int .i64 bf] from HX_b2.out.of (hb.block _ HX_b2.out.lt))
  clear HX_a2 HX_b2
  have HB3 := Lib.hid (HB2.out.trans (hb.mono HB2.out.size))
  clear hb HB2
  clear c_a0 c_a1 c_a2 c_a3
  have c_b0 : w3.cell? ⟨p + 1, 0, none⟩ = some (.int .i64 bk) := HX_b3.out.cell 0
  have c_b1 : w3.cell? ⟨p + 1, 1, none⟩ = some (.int .u64 (bx : Nat)) := HX_b3.out.cell 1
  have c_b2 : w3.cell? ⟨p + 1, 2, none⟩ = some (.int .u64 (bv : Nat)) := HX_b3.out.cell 2
  have c_b3 : w3.cell? ⟨p + 1, 3, none⟩ = some (.int .i64 bf) := HX_b3.out.cell 3
  go_wp2_with fail
  refine (HC.out _).mono ?_
  rintro e w4 ⟨rfl, hb⟩
  have HX_a4 := Lib.hid (show Box w4 p 24 #[.int .i64 ak, .int .u64 (ax : Nat), .int .u64 (av : Nat), .int .i64 af] from HX_a3.out.of (hb.block _ HX_a3.out.lt))
  have HX_b4 := Lib.hid (show Box w4 (p + 1) 24 #[.int .i64 bk, .int .u64 (bx : Nat), .int .u64 (bv : Nat), .int .i64 bf] from HX_b3.out.of (hb.block _ HX_b3.out.lt))
  clear HX_a3 HX_b3
  have HB4 := Lib.hid (HB3.out.trans (hb.mono HB3.out.size))
  clear hb HB3
  clear c_b0 c_b1 c_b2 c_b3
  have c_a0 : w4.cell? ⟨p, 0, none⟩ = some (.int .i64 ak) := HX_a4.out.cell 0
  have c_a1 : w4.cell? ⟨p, 1, none⟩ = some (.int .u64 (ax : Nat)) := HX_a4.out.cell 1
  have c_a2 : w4.cell? ⟨p, 2, none⟩ = some (.int .u64 (av : Nat)) := HX_a4.out.cell 2
  have c_a3 : w4.cell? ⟨p, 3, none⟩ = some (.int .i64 af) := HX_a4.out.cell 3
  have c_b0 : w4.cell? ⟨p + 1, 0, none⟩ = some (.int .i64 bk) := HX_b4.out.cell 0
  have c_b1 : w4.cell? ⟨p + 1, 1, none⟩ = some (.int .u64 (bx : Nat)) := HX_b4.out.cell 1
  have c_b2 : w4.cell? ⟨p + 1, 2, none⟩ = some (.int .u64 (bv : Nat)) := HX_b4.out.cell 2
  have c_b3 : w4.cell? ⟨p + 1, 3, none⟩ = some (.int .i64 bf) := HX_b4.out.cell 3
  go_wp2
  go_ret
  exact ⟨rfl, HB4.out⟩
set_option maxHeartbeats 2000000 in
theorem apart_m (ak : Int) (ax av : Nat) (af : Int) (bk : Int) (bx bv : Nat) (bf : Int) (s t : List UInt8) (w : World)
    (HA : ∀ w, Calls Try.prog 15 #[.agg #[.int .i64 ak, .int .u64 (ax : Nat), .int .u64 (av : Nat), .int .i64 af]] w (SPost w s)) (HC : ∀ w, Calls Try.prog 15 #[.agg #[.int .i64 bk, .int .u64 (bx : Nat), .int .u64 (bv : Nat), .int .i64 bf]] w (SPost w t)) (hs : s ≠ []) (ht : t ≠ []) (hne : s ≠ t) (hab : Ov.q ⟨ak, ax, av, af⟩ ⟨bk, bx, bv, bf⟩ = false) (hl : s.length < t.length) (hp : t.take s.length ≠ s) :
    Calls Try.prog 8 #[.agg #[.int .i64 ak, .int .u64 (ax : Nat), .int .u64 (av : Nat), .int .i64 af], .agg #[.int .i64 bk, .int .u64 (bx : Nat), .int .u64 (bv : Nat), .int .i64 bf]] w (GoodP w) := by
  have HA := Lib.hid HA
  have HC := Lib.hid HC
  have hq : ∀ w, (binOp .eql 24 (.agg #[.int .i64 ak, .int .u64 (ax : Nat), .int .u64 (av : Nat), .int .i64 af]) (.agg #[.int .i64 bk, .int .u64 (bx : Nat), .int .u64 (bv : Nat), .int .i64 bf])).run Try.prog w = .ok (.bool false) w := fun w => by rw [← hab]; exact eql_op ⟨ak, ax, av, af⟩ ⟨bk, bx, bv, bf⟩ w
  have he : (BA s).toList.isEmpty = false := by rw [BA_isE]; cases s <;> simp_all
  have he2 : (BA t).toList.isEmpty = false := by rw [BA_isE]; cases t <;> simp_all
  have hst : ((BA s).toList == (BA t).toList) = false := by rw [BA_same]; simp; exact hne
  have z1 : (BA s).size = s.length := rfl
  have z2 : (BA t).size = t.length := rfl
  have hd : decide (t.length ≤ s.length) = false := by simp; omega
  have hy : (((BA t).extract 0 s.length).toList == (BA s).toList) = false := by rw [BA_front, BA_same]; simp; exact hp
  clear hs ht hne hab hp
  obtain ⟨p, hp⟩ : ∃ p, w.heap.size = p := ⟨_, rfl⟩
  obtain ⟨w1, hw1⟩ : ∃ w1, (w.alloc (.cells #[.int .i64 ak, .int .u64 (ax : Nat), .int .u64 (av : Nat), .int .i64 af] 24)).alloc (.cells #[.int .i64 bk, .int .u64 (bx : Nat), .int .u64 (bv : Nat), .int .i64 bf] 24) = w1 := ⟨_, rfl⟩
  have HX_a1 := Lib.hid (show Box w1 p 24 #[.int .i64 ak, .int .u64 (ax : Nat), .int .u64 (av : Nat), .int .i64 af] by rw [← hw1, ← hp]; exact (Box.new _ _ _).alloc _)
  have HX_b1 := Lib.hid (show Box w1 (p + 1) 24 #[.int .i64 bk, .int .u64 (bx : Nat), .int .u64 (bv : Nat), .int .i64 bf] by
    have h := Box.new (w.alloc (.cells #[.int .i64 ak, .int .u64 (ax : Nat), .int .u64 (av : Nat), .int .i64 af] 24)) 24 #[.int .i64 bk, .int .u64 (bx : Nat), .int .u64 (bv : Nat), .int .i64 bf]
    rw [hw1, World.size_alloc, hp] at h
    exact h)
  have HB1 := Lib.hid (show Below w.heap.size w w1 by rw [← hw1]; exact ((Below.refl _ _).alloc (Nat.le_refl _) _).alloc (by simp) _)
  go_enter Try.func8, Try.ntmps8
  go_upto_region 1 with fail
  try simp only [hw1, hp]
  clear hw1 hp
  go_wp2_with fail
  refine (opshown_any _).mono ?_
  rintro e w2 ⟨rfl, hb⟩
  have HX_a2 := Lib.hid (show Box w2 p 24 #[.int .i64 ak, .int .u64 (ax : Nat), .int .u64 (av : Nat), .int .i64 af] from HX_a1.out.of (hb.block _ HX_a1.out.lt))
  have HX_b2 := Lib.hid (show Box w2 (p + 1) 24 #[.int .i64 bk, .int .u64 (bx : Nat), .int .u64 (bv : Nat), .int .i64 bf] from HX_b1.out.of (hb.block _ HX_b1.out.lt))
  clear HX_a1 HX_b1
  have HB2 := Lib.hid (HB1.out.trans (hb.mono HB1.out.size))
  clear hb HB1
  have c_a0 : w2.cell? ⟨p, 0, none⟩ = some (.int .i64 ak) := HX_a2.out.cell 0
  have c_a1 : w2.cell? ⟨p, 1, none⟩ = some (.int .u64 (ax : Nat)) := HX_a2.out.cell 1
  have c_a2 : w2.cell? ⟨p, 2, none⟩ = some (.int .u64 (av : Nat)) := HX_a2.out.cell 2
  have c_a3 : w2.cell? ⟨p, 3, none⟩ = some (.int .i64 af) := HX_a2.out.cell 3
  go_wp2_with fail
  refine (HA.out _).mono ?_
  rintro e w3 ⟨rfl, hb⟩
  have HX_a3 := Lib.hid (show Box w3 p 24 #[.int .i64 ak, .int .u64 (ax : Nat), .int .u64 (av : Nat), .int .i64 af] from HX_a2.out.of (hb.block _ HX_a2.out.lt))
  have HX_b3 := Lib.hid (show Box w3 (p + 1) 24 #[.int .i64 bk, .int .u64 (bx : Nat), .int .u64 (bv : Nat), .int .i64 bf] from HX_b2.out.of (hb.block _ HX_b2.out.lt))
  clear HX_a2 HX_b2
  have HB3 := Lib.hid (HB2.out.trans (hb.mono HB2.out.size))
  clear hb HB2
  clear c_a0 c_a1 c_a2 c_a3
  have c_b0 : w3.cell? ⟨p + 1, 0, none⟩ = some (.int .i64 bk) := HX_b3.out.cell 0
  have c_b1 : w3.cell? ⟨p + 1, 1, none⟩ = some (.int .u64 (bx : Nat)) := HX_b3.out.cell 1
  have c_b2 : w3.cell? ⟨p + 1, 2, none⟩ = some (.int .u64 (bv : Nat)) := HX_b3.out.cell 2
  have c_b3 : w3.cell? ⟨p + 1, 3, none⟩ = some (.int .i64 bf) := HX_b3.out.cell 3
  go_wp2_with fail
  refine (HC.out _).mono ?_
  rintro e w4 ⟨rfl, hb⟩
  have HX_a4 := Lib.hid (show Box w4 p 24 #[.int .i64 ak, .int .u64 (ax : Nat), .int .u64 (av : Nat), .int .i64 af] from HX_a3.out.of (hb.block _ HX_a3.out.lt))
  have HX_b4 := Lib.hid (show Box w4 (p + 1) 24 #[.int .i64 bk, .int .u64 (bx : Nat), .int .u64 (bv : Nat), .int .i64 bf] from HX_b3.out.of (hb.block _ HX_b3.out.lt))
  clear HX_a3 HX_b3
  have HB4 := Lib.hid (HB3.out.trans (hb.mono HB3.out.size))
  clear hb HB3
  clear c_b0 c_b1 c_b2 c_b3
  have c_a0 : w4.cell? ⟨p, 0, none⟩ = some (.int .i64 ak) := HX_a4.out.cell 0
  have c_a1 : w4.cell? ⟨p, 1, none⟩ = some (.int .u64 (ax : Nat)) := HX_a4.out.cell 1
  have c_a2 : w4.cell? ⟨p, 2, none⟩ = some (.int .u64 (av : Nat)) := HX_a4.out.cell 2
  have c_a3 : w4.cell? ⟨p, 3, none⟩ = some (.int .i64 af) := HX_a4.out.cell 3
  have c_b0 : w4.cell? ⟨p + 1, 0, none⟩ = some (.int .i64 bk) := HX_b4.out.cell 0
  have c_b1 : w4.cell? ⟨p + 1, 1, none⟩ = some (.int .u64 (bx : Nat)) := HX_b4.out.cell 1
  have c_b2 : w4.cell? ⟨p + 1, 2, none⟩ = some (.int .u64 (bv : Nat)) := HX_b4.out.cell 2
  have c_b3 : w4.cell? ⟨p + 1, 3, none⟩ = some (.int .i64 bf) := HX_b4.out.cell 3
  go_wp2
  go_ret
  exact ⟨rfl, HB4.out⟩
theorem apart_law (a b : Ov) (w : World) (ha : a.key < 18446744073709551616 ∧ a.val < 18446744073709551616) (hb : b.key < 18446744073709551616 ∧ b.val < 18446744073709551616) :
    Calls Try.prog 8 #[a.a, b.a] w (GoodP w) := by
  have HA := fun w => bytes_any a w ha.1 ha.2
  have HC := fun w => bytes_any b w hb.1 hb.2
  cases hr : a.r
  · exact apart_a _ _ _ _ _ _ _ _ _ _ w HA HC (bts_none a hr)
  have RA := (Ov.r_iff a).1 hr
  cases hr2 : b.r
  · exact apart_b _ _ _ _ _ _ _ _ _ _ w HA HC (bts_ne a RA) (bts_none b hr2)
  have RB := (Ov.r_iff b).1 hr2
  by_cases hab : a = b
  · exact apart_s _ _ _ _ _ _ _ _ _ _ w HA HC (bts_ne a RA) (by rw [hab]) (by rw [hab]; exact Ov.q_self b)
  · have hne : bts a ≠ bts b := fun h => hab ((bts_same a b RA RB).1 h)
    have hq : a.q b = false := by rw [Ov.q_iff]; simp [hab]
    by_cases hl : (bts b).length ≤ (bts a).length
    · exact apart_l _ _ _ _ _ _ _ _ _ _ w HA HC (bts_ne a RA) (bts_ne b RB) hne hq hl
    · exact apart_m _ _ _ _ _ _ _ _ _ _ w HA HC (bts_ne a RA) (bts_ne b RB) hne hq (by omega) (fun h => hab (bts_apart a b RA RB h))
end Go.Proofs.Ytpnjeoilkaimmaa
