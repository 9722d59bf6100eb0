/- The walk of the law on ways back: a right operation's bytes are that operation's, what is read has those bytes; a byte less or more is none. Conditions: words are of 64 bits, lengths are ints. -/
import Derived.Test.YtpnjeoilkaimmaaOpLaw
import Derived.Test.YtpnjeoilkaimmaaOpMore
import Derived.Test.YtpnjeoilkaimmaaOpRefS
namespace Go.Proofs.Ytpnjeoilkaimmaa
open Go.RowKit Go.ChangeShapes Go.WideShapes Go.ChangeAt

theorem rt_small {n : Nat} (h : rt n = true) : n < 18446744073709551616 := by
  have := rt_few h
  unfold mn at this; omega
theorem prs_err {l : List UInt8} {o : Ov} {e : Int} (h : prs l = (o, e)) (he : e ≠ 0) : o = .z := by
  unfold prs at h
  split at h
  · injection h with h _; exact h.symm
  · split at h
    · injection h with h _; exact h.symm
    · split at h
      · injection h with h _; exact h.symm
      · split at h
        · injection h with _ h; exact absurd h.symm he
        · injection h with h _; exact h.symm
theorem bts_len (o : Ov) (R : o.R) : (bts o).length ≤ 100 := by
  rw [bts_some o R]
  have h1 := cnt_len _ R.kr
  have h2 := cnt_len _ R.vr
  unfold tail
  rw [List.length_cons, List.length_append]
  split <;> split <;> simp <;> omega
theorem BA_notE {l : List UInt8} (h : l ≠ []) : (BA l).toList.isEmpty = false := by
  rw [BA_toList]
  cases l with
  | nil => exact absurd rfl h
  | cons _ _ => rfl
theorem BA_eqs (l m : List UInt8) : ((BA l).toList == (BA m).toList) = decide (l = m) := by
  rw [BA_toList, BA_toList, Bool.eq_iff_iff]; simp
set_option maxHeartbeats 4000000 in
theorem back_long (k : Int) (x v : Nat) (f : Int) (l : List UInt8) (c : UInt8) (w : World) (hl : 2000 < l.length) :
    Calls Try.prog 4 #[.agg #[.int .i64 k, .int .u64 (x : Nat), .int .u64 (v : Nat), .int .i64 f], .string (BA l), .int .u8 (c.toNat : Int)] w fun e w' => e = .returned (.bool true) ∧ Below w.heap.size w w' := by
  have zl : (BA l).size = l.length := rfl
  have d1 : decide (2000 < l.length) = true := by simp; omega
  have d2 : decide ((2000 : Int) < (l.length : Int)) = true := by simp; omega
  clear hl
  obtain ⟨p, hp⟩ : ∃ p, w.heap.size = p := ⟨_, rfl⟩
  obtain ⟨w1, hw1⟩ : ∃ w1, w.alloc (.cells #[.int .i64 k, .int .u64 (x : Nat), .int .u64 (v : Nat), .int .i64 f] 24) = w1 := ⟨_, rfl⟩
  have HX_a1 := Lib.hid (show Box w1 p 24 #[.int .i64 k, .int .u64 (x : Nat), .int .u64 (v : Nat), .int .i64 f] by rw [← hw1, ← hp]; exact Box.new _ _ _)
  have HB1 := Lib.hid (show Below w.heap.size w w1 by rw [← hw1]; exact (Below.refl _ _).alloc (Nat.le_refl _) _)
  go_enter Try.func4, Try.ntmps4
  go_upto_region 1 with fail
  try simp only [hw1, hp]
  clear hw1 hp
  go_wp2_with fail
  refine (opshown_any _).mono ?_
  rintro e w2 ⟨rfl, hb⟩
  have HX_a2 := Lib.hid (show Box w2 p 24 #[.int .i64 k, .int .u64 (x : Nat), .int .u64 (v : Nat), .int .i64 f] from HX_a1.out.of (hb.block _ HX_a1.out.lt))
  clear HX_a1
  have HB2 := Lib.hid (HB1.out.trans (hb.mono HB1.out.size))
  clear hb HB1
  go_wp2
  go_ret
  exact ⟨rfl, HB2.out⟩
set_option maxHeartbeats 4000000 in
theorem back_ny (k : Int) (x v : Nat) (f : Int) (l : List UInt8) (c : UInt8) (k2 : Int) (x2 v2 : Nat) (f2 : Int) (w : World) (hl : l.length ≤ 2000) (hx : x < 18446744073709551616) (hv : v < 18446744073709551616) (hr : Ov.r ⟨k, x, v, f⟩ = false) (hq : prs l = (⟨k2, x2, v2, f2⟩, 0)) :
    Calls Try.prog 4 #[.agg #[.int .i64 k, .int .u64 (x : Nat), .int .u64 (v : Nat), .int .i64 f], .string (BA l), .int .u8 (c.toNat : Int)] w fun e w' => e = .returned (.bool true) ∧ Below w.heap.size w w' := by
  have zl : (BA l).size = l.length := rfl
  have d1 : decide (2000 < l.length) = false := by simp; omega
  have d2 : decide ((2000 : Int) < (l.length : Int)) = false := by simp; omega
  have HP := Lib.hid (fun w => parse_any l w (by omega))
  have HR := Lib.hid (fun w => opright_any ⟨k, x, v, f⟩ w hx hv)
  have HY := Lib.hid (fun w => bytes_any ⟨k, x, v, f⟩ w hx hv)
  unfold PsPost at HP
  unfold OrPost at HR
  unfold SPost at HY
  rw [hq] at HP
  rw [hr] at HR
  rw [bts_none _ hr] at HY
  simp only [Ov.a] at HP HR HY
  have he0 : (BA []).toList.isEmpty = true := by rw [BA_toList]; rfl
  obtain ⟨R2, hb2⟩ := prs_back hq
  have HR2 := Lib.hid (fun w => opright_any ⟨k2, x2, v2, f2⟩ w (rt_small R2.kr) (rt_small R2.vr))
  have HY2 := Lib.hid (fun w => bytes_any ⟨k2, x2, v2, f2⟩ w (rt_small R2.kr) (rt_small R2.vr))
  unfold OrPost at HR2
  unfold SPost at HY2
  rw [(Ov.r_iff _).2 R2] at HR2
  rw [hb2] at HY2
  simp only [Ov.a] at HR2 HY2
  have q2 : ((BA l).toList == (BA l).toList) = true := by simp
  clear R2 hb2
  clear hx hv hl hr hq
  obtain ⟨p, hp⟩ : ∃ p, w.heap.size = p := ⟨_, rfl⟩
  obtain ⟨w1, hw1⟩ : ∃ w1, w.alloc (.cells #[.int .i64 k, .int .u64 (x : Nat), .int .u64 (v : Nat), .int .i64 f] 24) = w1 := ⟨_, rfl⟩
  have HX_a1 := Lib.hid (show Box w1 p 24 #[.int .i64 k, .int .u64 (x : Nat), .int .u64 (v : Nat), .int .i64 f] by rw [← hw1, ← hp]; exact Box.new _ _ _)
  have HB1 := Lib.hid (show Below w.heap.size w w1 by rw [← hw1]; exact (Below.refl _ _).alloc (Nat.le_refl _) _)
  go_enter Try.func4, Try.ntmps4
  go_upto_region 1 with fail
  try simp only [hw1, hp]
  clear hw1 hp
  go_wp2_with fail
  refine (opshown_any _).mono ?_
  rintro e w2 ⟨rfl, hb⟩
  have HX_a2 := Lib.hid (show Box w2 p 24 #[.int .i64 k, .int .u64 (x : Nat), .int .u64 (v : Nat), .int .i64 f] from HX_a1.out.of (hb.block _ HX_a1.out.lt))
  clear HX_a1
  have HB2 := Lib.hid (HB1.out.trans (hb.mono HB1.out.size))
  clear hb HB1
  have c_a0 : w2.cell? ⟨p, 0, none⟩ = some (.int .i64 k) := HX_a2.out.cell 0
  have c_a1 : w2.cell? ⟨p, 1, none⟩ = some (.int .u64 (x : Nat)) := HX_a2.out.cell 1
  have c_a2 : w2.cell? ⟨p, 2, none⟩ = some (.int .u64 (v : Nat)) := HX_a2.out.cell 2
  have c_a3 : w2.cell? ⟨p, 3, none⟩ = some (.int .i64 f) := HX_a2.out.cell 3
  go_wp2_with fail
  refine (HY.out _).mono ?_
  rintro e w3 ⟨rfl, hb⟩
  have HX_a3 := Lib.hid (show Box w3 p 24 #[.int .i64 k, .int .u64 (x : Nat), .int .u64 (v : Nat), .int .i64 f] from HX_a2.out.of (hb.block _ HX_a2.out.lt))
  clear HX_a2
  have HB3 := Lib.hid (HB2.out.trans (hb.mono HB2.out.size))
  clear hb HB2
  clear c_a0 c_a1 c_a2 c_a3
  have c_a0 : w3.cell? ⟨p, 0, none⟩ = some (.int .i64 k) := HX_a3.out.cell 0
  have c_a1 : w3.cell? ⟨p, 1, none⟩ = some (.int .u64 (x : Nat)) := HX_a3.out.cell 1
  have c_a2 : w3.cell? ⟨p, 2, none⟩ = some (.int .u64 (v : Nat)) := HX_a3.out.cell 2
  have c_a3 : w3.cell? ⟨p, 3, none⟩ = some (.int .i64 f) := HX_a3.out.cell 3
  go_wp2_with fail
  refine (HR.out _).mono ?_
  rintro e w4 ⟨rfl, hb⟩
  have HX_a4 := Lib.hid (show Box w4 p 24 #[.int .i64 k, .int .u64 (x : Nat), .int .u64 (v : Nat), .int .i64 f] from HX_a3.out.of (hb.block _ HX_a3.out.lt))
  clear HX_a3
  have HB4 := Lib.hid (HB3.out.trans (hb.mono HB3.out.size))
  clear hb HB3
  clear c_a0 c_a1 c_a2 c_a3
  go_wp2_with fail
  refine (HP.out _).mono ?_
  rintro e w5 ⟨rfl, hb⟩
  have HX_a5 := Lib.hid (show Box w5 p 24 #[.int .i64 k, .int .u64 (x : Nat), .int .u64 (v : Nat), .int .i64 f] from HX_a4.out.of (hb.block _ HX_a4.out.lt))
  clear HX_a4
  have HB5 := Lib.hid (HB4.out.trans (hb.mono HB4.out.size))
  clear hb HB4
  go_upto_region 14 with (fail)
  obtain ⟨g9, hq⟩ : ∃ q9, w5.heap.size = q9 := ⟨_, rfl⟩
  obtain ⟨w6, hw9⟩ : ∃ w9, w5.alloc (.cells #[.int .i64 k2, .int .u64 (x2 : Nat), .int .u64 (v2 : Nat), .int .i64 f2] 24) = w9 := ⟨_, rfl⟩
  have HX_a6 := Lib.hid (show Box w6 p 24 #[.int .i64 k, .int .u64 (x : Nat), .int .u64 (v : Nat), .int .i64 f] by rw [← hw9]; exact HX_a5.out.alloc _)
  have HX_z6 := Lib.hid (show Box w6 g9 24 #[.int .i64 k2, .int .u64 (x2 : Nat), .int .u64 (v2 : Nat), .int .i64 f2] by rw [← hw9, ← hq]; exact Box.new w5 _ _)
  have HB6 := Lib.hid (show Below w.heap.size w w6 by rw [← hw9]; exact HB5.out.alloc HB5.out.size _)
  have HS_z := Lib.hid (show w.heap.size ≤ g9 by rw [← hq]; exact HB5.out.size)
  simp only [hw9, hq]
  clear hq hw9 HB5 HX_a5
  have c_z0 : w6.cell? ⟨g9, 0, none⟩ = some (.int .i64 k2) := HX_z6.out.cell 0
  have c_z1 : w6.cell? ⟨g9, 1, none⟩ = some (.int .u64 (x2 : Nat)) := HX_z6.out.cell 1
  have c_z2 : w6.cell? ⟨g9, 2, none⟩ = some (.int .u64 (v2 : Nat)) := HX_z6.out.cell 2
  have c_z3 : w6.cell? ⟨g9, 3, none⟩ = some (.int .i64 f2) := HX_z6.out.cell 3
  go_wp2_with fail
  refine (HR2.out _).mono ?_
  rintro e w7 ⟨rfl, hb⟩
  have HX_a7 := Lib.hid (show Box w7 p 24 #[.int .i64 k, .int .u64 (x : Nat), .int .u64 (v : Nat), .int .i64 f] from HX_a6.out.of (hb.block _ HX_a6.out.lt))
  have HX_z7 := Lib.hid (show Box w7 g9 24 #[.int .i64 k2, .int .u64 (x2 : Nat), .int .u64 (v2 : Nat), .int .i64 f2] from HX_z6.out.of (hb.block _ HX_z6.out.lt))
  clear HX_a6 HX_z6
  have HB7 := Lib.hid (HB6.out.trans (hb.mono HB6.out.size))
  clear hb HB6
  clear c_z0 c_z1 c_z2 c_z3
  have c_z0 : w7.cell? ⟨g9, 0, none⟩ = some (.int .i64 k2) := HX_z7.out.cell 0
  have c_z1 : w7.cell? ⟨g9, 1, none⟩ = some (.int .u64 (x2 : Nat)) := HX_z7.out.cell 1
  have c_z2 : w7.cell? ⟨g9, 2, none⟩ = some (.int .u64 (v2 : Nat)) := HX_z7.out.cell 2
  have c_z3 : w7.cell? ⟨g9, 3, none⟩ = some (.int .i64 f2) := HX_z7.out.cell 3
  go_wp2_with fail
  refine (HY2.out _).mono ?_
  rintro e w8 ⟨rfl, hb⟩
  have HX_a8 := Lib.hid (show Box w8 p 24 #[.int .i64 k, .int .u64 (x : Nat), .int .u64 (v : Nat), .int .i64 f] from HX_a7.out.of (hb.block _ HX_a7.out.lt))
  have HX_z8 := Lib.hid (show Box w8 g9 24 #[.int .i64 k2, .int .u64 (x2 : Nat), .int .u64 (v2 : Nat), .int .i64 f2] from HX_z7.out.of (hb.block _ HX_z7.out.lt))
  clear HX_a7 HX_z7
  have HB8 := Lib.hid (HB7.out.trans (hb.mono HB7.out.size))
  clear hb HB7
  clear c_z0 c_z1 c_z2 c_z3
  go_wp2
  go_ret
  exact ⟨rfl, HB8.out⟩
set_option maxHeartbeats 4000000 in
theorem back_nn (k : Int) (x v : Nat) (f : Int) (l : List UInt8) (c : UInt8) (e2 : Int) (w : World) (hl : l.length ≤ 2000) (hx : x < 18446744073709551616) (hv : v < 18446744073709551616) (hr : Ov.r ⟨k, x, v, f⟩ = false) (hq : prs l = (.z, e2)) (he2 : e2 ≠ 0) :
    Calls Try.prog 4 #[.agg #[.int .i64 k, .int .u64 (x : Nat), .int .u64 (v : Nat), .int .i64 f], .string (BA l), .int .u8 (c.toNat : Int)] w fun e w' => e = .returned (.bool true) ∧ Below w.heap.size w w' := by
  have zl : (BA l).size = l.length := rfl
  have d1 : decide (2000 < l.length) = false := by simp; omega
  have d2 : decide ((2000 : Int) < (l.length : Int)) = false := by simp; omega
  have HP := Lib.hid (fun w => parse_any l w (by omega))
  have HR := Lib.hid (fun w => opright_any ⟨k, x, v, f⟩ w hx hv)
  have HY := Lib.hid (fun w => bytes_any ⟨k, x, v, f⟩ w hx hv)
  unfold PsPost at HP
  unfold OrPost at HR
  unfold SPost at HY
  rw [hq] at HP
  rw [hr] at HR
  rw [bts_none _ hr] at HY
  simp only [Ov.a, Ov.z] at HP HR HY
  have he0 : (BA []).toList.isEmpty = true := by rw [BA_toList]; rfl
  have hn2 : (e2 != 0) = true := by simp; exact he2
  clear he2
  clear hx hv hl hr hq
  obtain ⟨p, hp⟩ : ∃ p, w.heap.size = p := ⟨_, rfl⟩
  obtain ⟨w1, hw1⟩ : ∃ w1, w.alloc (.cells #[.int .i64 k, .int .u64 (x : Nat), .int .u64 (v : Nat), .int .i64 f] 24) = w1 := ⟨_, rfl⟩
  have HX_a1 := Lib.hid (show Box w1 p 24 #[.int .i64 k, .int .u64 (x : Nat), .int .u64 (v : Nat), .int .i64 f] by rw [← hw1, ← hp]; exact Box.new _ _ _)
  have HB1 := Lib.hid (show Below w.heap.size w w1 by rw [← hw1]; exact (Below.refl _ _).alloc (Nat.le_refl _) _)
  go_enter Try.func4, Try.ntmps4
  go_upto_region 1 with fail
  try simp only [hw1, hp]
  clear hw1 hp
  go_wp2_with fail
  refine (opshown_any _).mono ?_
  rintro e w2 ⟨rfl, hb⟩
  have HX_a2 := Lib.hid (show Box w2 p 24 #[.int .i64 k, .int .u64 (x : Nat), .int .u64 (v : Nat), .int .i64 f] from HX_a1.out.of (hb.block _ HX_a1.out.lt))
  clear HX_a1
  have HB2 := Lib.hid (HB1.out.trans (hb.mono HB1.out.size))
  clear hb HB1
  have c_a0 : w2.cell? ⟨p, 0, none⟩ = some (.int .i64 k) := HX_a2.out.cell 0
  have c_a1 : w2.cell? ⟨p, 1, none⟩ = some (.int .u64 (x : Nat)) := HX_a2.out.cell 1
  have c_a2 : w2.cell? ⟨p, 2, none⟩ = some (.int .u64 (v : Nat)) := HX_a2.out.cell 2
  have c_a3 : w2.cell? ⟨p, 3, none⟩ = some (.int .i64 f) := HX_a2.out.cell 3
  go_wp2_with fail
  refine (HY.out _).mono ?_
  rintro e w3 ⟨rfl, hb⟩
  have HX_a3 := Lib.hid (show Box w3 p 24 #[.int .i64 k, .int .u64 (x : Nat), .int .u64 (v : Nat), .int .i64 f] from HX_a2.out.of (hb.block _ HX_a2.out.lt))
  clear HX_a2
  have HB3 := Lib.hid (HB2.out.trans (hb.mono HB2.out.size))
  clear hb HB2
  clear c_a0 c_a1 c_a2 c_a3
  have c_a0 : w3.cell? ⟨p, 0, none⟩ = some (.int .i64 k) := HX_a3.out.cell 0
  have c_a1 : w3.cell? ⟨p, 1, none⟩ = some (.int .u64 (x : Nat)) := HX_a3.out.cell 1
  have c_a2 : w3.cell? ⟨p, 2, none⟩ = some (.int .u64 (v : Nat)) := HX_a3.out.cell 2
  have c_a3 : w3.cell? ⟨p, 3, none⟩ = some (.int .i64 f) := HX_a3.out.cell 3
  go_wp2_with fail
  refine (HR.out _).mono ?_
  rintro e w4 ⟨rfl, hb⟩
  have HX_a4 := Lib.hid (show Box w4 p 24 #[.int .i64 k, .int .u64 (x : Nat), .int .u64 (v : Nat), .int .i64 f] from HX_a3.out.of (hb.block _ HX_a3.out.lt))
  clear HX_a3
  have HB4 := Lib.hid (HB3.out.trans (hb.mono HB3.out.size))
  clear hb HB3
  clear c_a0 c_a1 c_a2 c_a3
  go_wp2_with fail
  refine (HP.out _).mono ?_
  rintro e w5 ⟨rfl, hb⟩
  have HX_a5 := Lib.hid (show Box w5 p 24 #[.int .i64 k, .int .u64 (x : Nat), .int .u64 (v : Nat), .int .i64 f] from HX_a4.out.of (hb.block _ HX_a4.out.lt))
  clear HX_a4
  have HB5 := Lib.hid (HB4.out.trans (hb.mono HB4.out.size))
  clear hb HB4
  go_upto_region 14 with (fail)
  obtain ⟨g9, hq⟩ : ∃ q9, w5.heap.size = q9 := ⟨_, rfl⟩
  obtain ⟨w6, hw9⟩ : ∃ w9, w5.alloc (.cells #[.int .i64 0, .int .u64 0, .int .u64 0, .int .i64 0] 24) = w9 := ⟨_, rfl⟩
  have HX_a6 := Lib.hid (show Box w6 p 24 #[.int .i64 k, .int .u64 (x : Nat), .int .u64 (v : Nat), .int .i64 f] by rw [← hw9]; exact HX_a5.out.alloc _)
  have HX_z6 := Lib.hid (show Box w6 g9 24 #[.int .i64 0, .int .u64 0, .int .u64 0, .int .i64 0] by rw [← hw9, ← hq]; exact Box.new w5 _ _)
  have HB6 := Lib.hid (show Below w.heap.size w w6 by rw [← hw9]; exact HB5.out.alloc HB5.out.size _)
  have HS_z := Lib.hid (show w.heap.size ≤ g9 by rw [← hq]; exact HB5.out.size)
  simp only [hw9, hq]
  clear hq hw9 HB5 HX_a5
  have c_z0 : w6.cell? ⟨g9, 0, none⟩ = some (.int .i64 0) := HX_z6.out.cell 0
  have c_z1 : w6.cell? ⟨g9, 1, none⟩ = some (.int .u64 0) := HX_z6.out.cell 1
  have c_z2 : w6.cell? ⟨g9, 2, none⟩ = some (.int .u64 0) := HX_z6.out.cell 2
  have c_z3 : w6.cell? ⟨g9, 3, none⟩ = some (.int .i64 0) := HX_z6.out.cell 3
  go_wp2
  go_ret
  exact ⟨rfl, HB6.out⟩
set_option maxHeartbeats 4000000 in
theorem back_yy (k : Int) (x v : Nat) (f : Int) (l : List UInt8) (c : UInt8) (k2 : Int) (x2 v2 : Nat) (f2 : Int) (w : World) (hl : l.length ≤ 2000) (hx : x < 18446744073709551616) (hv : v < 18446744073709551616) (hr : Ov.R ⟨k, x, v, f⟩) (hq : prs l = (⟨k2, x2, v2, f2⟩, 0)) :
    Calls Try.prog 4 #[.agg #[.int .i64 k, .int .u64 (x : Nat), .int .u64 (v : Nat), .int .i64 f], .string (BA l), .int .u8 (c.toNat : Int)] w fun e w' => e = .returned (.bool true) ∧ Below w.heap.size w w' := by
  have zl : (BA l).size = l.length := rfl
  have d1 : decide (2000 < l.length) = false := by simp; omega
  have d2 : decide ((2000 : Int) < (l.length : Int)) = false := by simp; omega
  have HP := Lib.hid (fun w => parse_any l w (by omega))
  have HR := Lib.hid (fun w => opright_any ⟨k, x, v, f⟩ w hx hv)
  have HY := Lib.hid (fun w => bytes_any ⟨k, x, v, f⟩ w hx hv)
  unfold PsPost at HP
  unfold OrPost at HR
  unfold SPost at HY
  rw [hq] at HP
  rw [(Ov.r_iff _).2 hr] at HR
  have hne := bts_ne _ hr
  have hlen := bts_len _ hr
  have hp1 := prs_bts _ hr
  have hp3 := prs_over _ hr c []
  have hp2 := prs_less _ hr
  generalize bts ⟨k, x, v, f⟩ = S at *
  have hS := (List.dropLast_concat_getLast hne).symm
  generalize S.getLast hne = d at hS
  generalize hM : S.dropLast = m at hS
  have hp2 := hp2 m d hS
  have hml : S.length = m.length + 1 := by rw [hS]; simp
  have HP1 := Lib.hid (fun w => parse_any S w (by omega))
  have HP2 := Lib.hid (fun w => parse_any m w (by omega))
  have HP3 := Lib.hid (fun w => parse_any (S ++ [c]) w (by simp; omega))
  unfold PsPost at HP1 HP2 HP3
  rw [hp1] at HP1
  rw [hp2] at HP2
  rw [hp3, ← BA_add] at HP3
  simp only [Ov.a, Ov.z] at HP HR HY HP1 HP2 HP3
  have zS : (BA S).size = m.length + 1 := hml
  have zc : (BA [c]).size = 1 := rfl
  have hsl : ∀ W, (Instr.slice 9 (.string (BA S)) none (some (.int .i64 (m.length : Int))) none).run Try.prog W = .ok (.string (BA m)) W := by
    intro W
    have h9 := run_slice_string_to_if (P := Try.prog) W 9 (BA S) .i64 (m.length : Int) Try.underlying9
    rw [h9, if_pos (by rw [zS]; omega)]
    have e9 := BA_front S m.length
    rw [hS, List.take_left, ← hS] at e9
    rw [← e9]; rfl
  have hm9 : (m.length : Int) ≤ 100 := by omega
  have he0 := BA_notE hne
  have q0 : ∀ w, (binOp .neq 24 (.agg #[.int .i64 k, .int .u64 (x : Nat), .int .u64 (v : Nat), .int .i64 f]) (.agg #[.int .i64 k, .int .u64 (x : Nat), .int .u64 (v : Nat), .int .i64 f])).run Try.prog w = .ok (.bool false) w := fun w => by
    have h := neq_op ⟨k, x, v, f⟩ ⟨k, x, v, f⟩ w
    rw [Ov.q_self] at h
    exact h
  obtain ⟨R2, hb2⟩ := prs_back hq
  have HR2 := Lib.hid (fun w => opright_any ⟨k2, x2, v2, f2⟩ w (rt_small R2.kr) (rt_small R2.vr))
  have HY2 := Lib.hid (fun w => bytes_any ⟨k2, x2, v2, f2⟩ w (rt_small R2.kr) (rt_small R2.vr))
  unfold OrPost at HR2
  unfold SPost at HY2
  rw [(Ov.r_iff _).2 R2] at HR2
  rw [hb2] at HY2
  simp only [Ov.a] at HR2 HY2
  have q2 : ((BA l).toList == (BA l).toList) = true := by simp
  clear R2 hb2
  clear hx hv hl hr hq hne hlen hp1 hp2 hp3 hM hS hml
  obtain ⟨p, hp⟩ : ∃ p, w.heap.size = p := ⟨_, rfl⟩
  obtain ⟨w1, hw1⟩ : ∃ w1, w.alloc (.cells #[.int .i64 k, .int .u64 (x : Nat), .int .u64 (v : Nat), .int .i64 f] 24) = w1 := ⟨_, rfl⟩
  have HX_a1 := Lib.hid (show Box w1 p 24 #[.int .i64 k, .int .u64 (x : Nat), .int .u64 (v : Nat), .int .i64 f] by rw [← hw1, ← hp]; exact Box.new _ _ _)
  have HB1 := Lib.hid (show Below w.heap.size w w1 by rw [← hw1]; exact (Below.refl _ _).alloc (Nat.le_refl _) _)
  go_enter Try.func4, Try.ntmps4
  go_upto_region 1 with fail
  try simp only [hw1, hp]
  clear hw1 hp
  go_wp2_with fail
  refine (opshown_any _).mono ?_
  rintro e w2 ⟨rfl, hb⟩
  have HX_a2 := Lib.hid (show Box w2 p 24 #[.int .i64 k, .int .u64 (x : Nat), .int .u64 (v : Nat), .int .i64 f] from HX_a1.out.of (hb.block _ HX_a1.out.lt))
  clear HX_a1
  have HB2 := Lib.hid (HB1.out.trans (hb.mono HB1.out.size))
  clear hb HB1
  have c_a0 : w2.cell? ⟨p, 0, none⟩ = some (.int .i64 k) := HX_a2.out.cell 0
  have c_a1 : w2.cell? ⟨p, 1, none⟩ = some (.int .u64 (x : Nat)) := HX_a2.out.cell 1
  have c_a2 : w2.cell? ⟨p, 2, none⟩ = some (.int .u64 (v : Nat)) := HX_a2.out.cell 2
  have c_a3 : w2.cell? ⟨p, 3, none⟩ = some (.int .i64 f) := HX_a2.out.cell 3
  go_wp2_with fail
  refine (HY.out _).mono ?_
  rintro e w3 ⟨rfl, hb⟩
  have HX_a3 := Lib.hid (show Box w3 p 24 #[.int .i64 k, .int .u64 (x : Nat), .int .u64 (v : Nat), .int .i64 f] from HX_a2.out.of (hb.block _ HX_a2.out.lt))
  clear HX_a2
  have HB3 := Lib.hid (HB2.out.trans (hb.mono HB2.out.size))
  clear hb HB2
  clear c_a0 c_a1 c_a2 c_a3
  have c_a0 : w3.cell? ⟨p, 0, none⟩ = some (.int .i64 k) := HX_a3.out.cell 0
  have c_a1 : w3.cell? ⟨p, 1, none⟩ = some (.int .u64 (x : Nat)) := HX_a3.out.cell 1
  have c_a2 : w3.cell? ⟨p, 2, none⟩ = some (.int .u64 (v : Nat)) := HX_a3.out.cell 2
  have c_a3 : w3.cell? ⟨p, 3, none⟩ = some (.int .i64 f) := HX_a3.out.cell 3
  go_wp2_with fail
  refine (HR.out _).mono ?_
  rintro e w4 ⟨rfl, hb⟩
  have HX_a4 := Lib.hid (show Box w4 p 24 #[.int .i64 k, .int .u64 (x : Nat), .int .u64 (v : Nat), .int .i64 f] from HX_a3.out.of (hb.block _ HX_a3.out.lt))
  clear HX_a3
  have HB4 := Lib.hid (HB3.out.trans (hb.mono HB3.out.size))
  clear hb HB3
  clear c_a0 c_a1 c_a2 c_a3
  go_wp2_with fail
  refine (HP1.out _).mono ?_
  rintro e w5 ⟨rfl, hb⟩
  have HX_a5 := Lib.hid (show Box w5 p 24 #[.int .i64 k, .int .u64 (x : Nat), .int .u64 (v : Nat), .int .i64 f] from HX_a4.out.of (hb.block _ HX_a4.out.lt))
  clear HX_a4
  have HB5 := Lib.hid (HB4.out.trans (hb.mono HB4.out.size))
  clear hb HB4
  go_upto_region 9 with (fail)
  obtain ⟨q, hq⟩ : ∃ q9, w5.heap.size = q9 := ⟨_, rfl⟩
  obtain ⟨w6, hw9⟩ : ∃ w9, w5.alloc (.cells #[.int .i64 k, .int .u64 (x : Nat), .int .u64 (v : Nat), .int .i64 f] 24) = w9 := ⟨_, rfl⟩
  have HX_a6 := Lib.hid (show Box w6 p 24 #[.int .i64 k, .int .u64 (x : Nat), .int .u64 (v : Nat), .int .i64 f] by rw [← hw9]; exact HX_a5.out.alloc _)
  have HX_b6 := Lib.hid (show Box w6 q 24 #[.int .i64 k, .int .u64 (x : Nat), .int .u64 (v : Nat), .int .i64 f] by rw [← hw9, ← hq]; exact Box.new w5 _ _)
  have HB6 := Lib.hid (show Below w.heap.size w w6 by rw [← hw9]; exact HB5.out.alloc HB5.out.size _)
  have HS_b := Lib.hid (show w.heap.size ≤ q by rw [← hq]; exact HB5.out.size)
  simp only [hw9, hq]
  clear hq hw9 HB5 HX_a5
  go_wp2_with fail
  refine (HP2.out _).mono ?_
  rintro e w7 ⟨rfl, hb⟩
  have HX_a7 := Lib.hid (show Box w7 p 24 #[.int .i64 k, .int .u64 (x : Nat), .int .u64 (v : Nat), .int .i64 f] from HX_a6.out.of (hb.block _ HX_a6.out.lt))
  have HX_b7 := Lib.hid (show Box w7 q 24 #[.int .i64 k, .int .u64 (x : Nat), .int .u64 (v : Nat), .int .i64 f] from HX_b6.out.of (hb.block _ HX_b6.out.lt))
  clear HX_a6 HX_b6
  have HB7 := Lib.hid (HB6.out.trans (hb.mono HB6.out.size))
  clear hb HB6
  go_upto_region 10 with (fail)
  obtain ⟨g, hq⟩ : ∃ q9, w7.heap.size = q9 := ⟨_, rfl⟩
  obtain ⟨w8, hw9⟩ : ∃ w9, w7.alloc (.cells #[.int .i64 0, .int .u64 0, .int .u64 0, .int .i64 0] 24) = w9 := ⟨_, rfl⟩
  have HX_a8 := Lib.hid (show Box w8 p 24 #[.int .i64 k, .int .u64 (x : Nat), .int .u64 (v : Nat), .int .i64 f] by rw [← hw9]; exact HX_a7.out.alloc _)
  have HX_b8 := Lib.hid (show Box w8 q 24 #[.int .i64 k, .int .u64 (x : Nat), .int .u64 (v : Nat), .int .i64 f] by rw [← hw9]; exact HX_b7.out.alloc _)
  have HX_c8 := Lib.hid (show Box w8 g 24 #[.int .i64 0, .int .u64 0, .int .u64 0, .int .i64 0] by rw [← hw9, ← hq]; exact Box.new w7 _ _)
  have HB8 := Lib.hid (show Below w.heap.size w w8 by rw [← hw9]; exact HB7.out.alloc HB7.out.size _)
  have HS_c := Lib.hid (show w.heap.size ≤ g by rw [← hq]; exact HB7.out.size)
  simp only [hw9, hq]
  clear hq hw9 HB7 HX_a7 HX_b7
  have hcv : (convert 38 9 (.slice (some ⟨w8.heap.size, 0, none⟩) 1 1)).run Try.prog (w8.alloc (.cells #[.int .u8 (c.toNat : Int)] 5)) = .ok (.string (BA [c])) (w8.alloc (.cells #[.int .u8 (c.toNat : Int)] 5)) := box_text (l := [c]) (Box.new w8 _ _)
  go_wp2_with fail
  obtain ⟨w9, hw9⟩ : ∃ wy, w8.alloc (.cells #[.int .u8 (c.toNat : Int)] 5) = wy := ⟨_, rfl⟩
  try simp only [hw9]
  have HX_a9 := Lib.hid (show Box w9 p 24 #[.int .i64 k, .int .u64 (x : Nat), .int .u64 (v : Nat), .int .i64 f] from (by rw [← hw9]; exact HX_a8.out.alloc _))
  have HX_b9 := Lib.hid (show Box w9 q 24 #[.int .i64 k, .int .u64 (x : Nat), .int .u64 (v : Nat), .int .i64 f] from (by rw [← hw9]; exact HX_b8.out.alloc _))
  have HX_c9 := Lib.hid (show Box w9 g 24 #[.int .i64 0, .int .u64 0, .int .u64 0, .int .i64 0] from (by rw [← hw9]; exact HX_c8.out.alloc _))
  clear HX_a8 HX_b8 HX_c8
  have HB9 := Lib.hid (show Below w.heap.size w w9 by rw [← hw9]; exact HB8.out.alloc HB8.out.size _)
  clear hcv hw9 HB8
  refine (HP3.out _).mono ?_
  rintro e w10 ⟨rfl, hb⟩
  have HX_a10 := Lib.hid (show Box w10 p 24 #[.int .i64 k, .int .u64 (x : Nat), .int .u64 (v : Nat), .int .i64 f] from HX_a9.out.of (hb.block _ HX_a9.out.lt))
  have HX_b10 := Lib.hid (show Box w10 q 24 #[.int .i64 k, .int .u64 (x : Nat), .int .u64 (v : Nat), .int .i64 f] from HX_b9.out.of (hb.block _ HX_b9.out.lt))
  have HX_c10 := Lib.hid (show Box w10 g 24 #[.int .i64 0, .int .u64 0, .int .u64 0, .int .i64 0] from HX_c9.out.of (hb.block _ HX_c9.out.lt))
  clear HX_a9 HX_b9 HX_c9
  have HB10 := Lib.hid (HB9.out.trans (hb.mono HB9.out.size))
  clear hb HB9
  go_upto_region 11 with (fail)
  obtain ⟨g2, hq⟩ : ∃ q9, w10.heap.size = q9 := ⟨_, rfl⟩
  obtain ⟨w11, hw9⟩ : ∃ w9, w10.alloc (.cells #[.int .i64 0, .int .u64 0, .int .u64 0, .int .i64 0] 24) = w9 := ⟨_, rfl⟩
  have HX_a11 := Lib.hid (show Box w11 p 24 #[.int .i64 k, .int .u64 (x : Nat), .int .u64 (v : Nat), .int .i64 f] by rw [← hw9]; exact HX_a10.out.alloc _)
  have HX_b11 := Lib.hid (show Box w11 q 24 #[.int .i64 k, .int .u64 (x : Nat), .int .u64 (v : Nat), .int .i64 f] by rw [← hw9]; exact HX_b10.out.alloc _)
  have HX_c11 := Lib.hid (show Box w11 g 24 #[.int .i64 0, .int .u64 0, .int .u64 0, .int .i64 0] by rw [← hw9]; exact HX_c10.out.alloc _)
  have HX_d11 := Lib.hid (show Box w11 g2 24 #[.int .i64 0, .int .u64 0, .int .u64 0, .int .i64 0] by rw [← hw9, ← hq]; exact Box.new w10 _ _)
  have HB11 := Lib.hid (show Below w.heap.size w w11 by rw [← hw9]; exact HB10.out.alloc HB10.out.size _)
  have HS_d := Lib.hid (show w.heap.size ≤ g2 by rw [← hq]; exact HB10.out.size)
  simp only [hw9, hq]
  clear hq hw9 HB10 HX_a10 HX_b10 HX_c10
  have c_a0 : w11.cell? ⟨p, 0, none⟩ = some (.int .i64 k) := HX_a11.out.cell 0
  have c_a1 : w11.cell? ⟨p, 1, none⟩ = some (.int .u64 (x : Nat)) := HX_a11.out.cell 1
  have c_a2 : w11.cell? ⟨p, 2, none⟩ = some (.int .u64 (v : Nat)) := HX_a11.out.cell 2
  have c_a3 : w11.cell? ⟨p, 3, none⟩ = some (.int .i64 f) := HX_a11.out.cell 3
  have c_b0 : w11.cell? ⟨q, 0, none⟩ = some (.int .i64 k) := HX_b11.out.cell 0
  have c_b1 : w11.cell? ⟨q, 1, none⟩ = some (.int .u64 (x : Nat)) := HX_b11.out.cell 1
  have c_b2 : w11.cell? ⟨q, 2, none⟩ = some (.int .u64 (v : Nat)) := HX_b11.out.cell 2
  have c_b3 : w11.cell? ⟨q, 3, none⟩ = some (.int .i64 f) := HX_b11.out.cell 3
  go_wp2_with fail
  refine (HP.out _).mono ?_
  rintro e w12 ⟨rfl, hb⟩
  have HX_a12 := Lib.hid (show Box w12 p 24 #[.int .i64 k, .int .u64 (x : Nat), .int .u64 (v : Nat), .int .i64 f] from HX_a11.out.of (hb.block _ HX_a11.out.lt))
  have HX_b12 := Lib.hid (show Box w12 q 24 #[.int .i64 k, .int .u64 (x : Nat), .int .u64 (v : Nat), .int .i64 f] from HX_b11.out.of (hb.block _ HX_b11.out.lt))
  have HX_c12 := Lib.hid (show Box w12 g 24 #[.int .i64 0, .int .u64 0, .int .u64 0, .int .i64 0] from HX_c11.out.of (hb.block _ HX_c11.out.lt))
  have HX_d12 := Lib.hid (show Box w12 g2 24 #[.int .i64 0, .int .u64 0, .int .u64 0, .int .i64 0] from HX_d11.out.of (hb.block _ HX_d11.out.lt))
  clear HX_a11 HX_b11 HX_c11 HX_d11
  have HB12 := Lib.hid (HB11.out.trans (hb.mono HB11.out.size))
  clear hb HB11
  clear c_a0 c_a1 c_a2 c_a3
  clear c_b0 c_b1 c_b2 c_b3
  go_upto_region 14 with (fail)
  obtain ⟨g9, hq⟩ : ∃ q9, w12.heap.size = q9 := ⟨_, rfl⟩
  obtain ⟨w13, hw9⟩ : ∃ w9, w12.alloc (.cells #[.int .i64 k2, .int .u64 (x2 : Nat), .int .u64 (v2 : Nat), .int .i64 f2] 24) = w9 := ⟨_, rfl⟩
  have HX_a13 := Lib.hid (show Box w13 p 24 #[.int .i64 k, .int .u64 (x : Nat), .int .u64 (v : Nat), .int .i64 f] by rw [← hw9]; exact HX_a12.out.alloc _)
  have HX_b13 := Lib.hid (show Box w13 q 24 #[.int .i64 k, .int .u64 (x : Nat), .int .u64 (v : Nat), .int .i64 f] by rw [← hw9]; exact HX_b12.out.alloc _)
  have HX_c13 := Lib.hid (show Box w13 g 24 #[.int .i64 0, .int .u64 0, .int .u64 0, .int .i64 0] by rw [← hw9]; exact HX_c12.out.alloc _)
  have HX_d13 := Lib.hid (show Box w13 g2 24 #[.int .i64 0, .int .u64 0, .int .u64 0, .int .i64 0] by rw [← hw9]; exact HX_d12.out.alloc _)
  have HX_z13 := Lib.hid (show Box w13 g9 24 #[.int .i64 k2, .int .u64 (x2 : Nat), .int .u64 (v2 : Nat), .int .i64 f2] by rw [← hw9, ← hq]; exact Box.new w12 _ _)
  have HB13 := Lib.hid (show Below w.heap.size w w13 by rw [← hw9]; exact HB12.out.alloc HB12.out.size _)
  have HS_z := Lib.hid (show w.heap.size ≤ g9 by rw [← hq]; exact HB12.out.size)
  simp only [hw9, hq]
  clear hq hw9 HB12 HX_a12 HX_b12 HX_c12 HX_d12
  have c_z0 : w13.cell? ⟨g9, 0, none⟩ = some (.int .i64 k2) := HX_z13.out.cell 0
  have c_z1 : w13.cell? ⟨g9, 1, none⟩ = some (.int .u64 (x2 : Nat)) := HX_z13.out.cell 1
  have c_z2 : w13.cell? ⟨g9, 2, none⟩ = some (.int .u64 (v2 : Nat)) := HX_z13.out.cell 2
  have c_z3 : w13.cell? ⟨g9, 3, none⟩ = some (.int .i64 f2) := HX_z13.out.cell 3
  go_wp2_with fail
  refine (HR2.out _).mono ?_
  rintro e w14 ⟨rfl, hb⟩
  have HX_a14 := Lib.hid (show Box w14 p 24 #[.int .i64 k, .int .u64 (x : Nat), .int .u64 (v : Nat), .int .i64 f] from HX_a13.out.of (hb.block _ HX_a13.out.lt))
  have HX_b14 := Lib.hid (show Box w14 q 24 #[.int .i64 k, .int .u64 (x : Nat), .int .u64 (v : Nat), .int .i64 f] from HX_b13.out.of (hb.block _ HX_b13.out.lt))
  have HX_c14 := Lib.hid (show Box w14 g 24 #[.int .i64 0, .int .u64 0, .int .u64 0, .int .i64 0] from HX_c13.out.of (hb.block _ HX_c13.out.lt))
  have HX_d14 := Lib.hid (show Box w14 g2 24 #[.int .i64 0, .int .u64 0, .int .u64 0, .int .i64 0] from HX_d13.out.of (hb.block _ HX_d13.out.lt))
  have HX_z14 := Lib.hid (show Box w14 g9 24 #[.int .i64 k2, .int .u64 (x2 : Nat), .int .u64 (v2 : Nat), .int .i64 f2] from HX_z13.out.of (hb.block _ HX_z13.out.lt))
  clear HX_a13 HX_b13 HX_c13 HX_d13 HX_z13
  have HB14 := Lib.hid (HB13.out.trans (hb.mono HB13.out.size))
  clear hb HB13
  clear c_z0 c_z1 c_z2 c_z3
  have c_z0 : w14.cell? ⟨g9, 0, none⟩ = some (.int .i64 k2) := HX_z14.out.cell 0
  have c_z1 : w14.cell? ⟨g9, 1, none⟩ = some (.int .u64 (x2 : Nat)) := HX_z14.out.cell 1
  have c_z2 : w14.cell? ⟨g9, 2, none⟩ = some (.int .u64 (v2 : Nat)) := HX_z14.out.cell 2
  have c_z3 : w14.cell? ⟨g9, 3, none⟩ = some (.int .i64 f2) := HX_z14.out.cell 3
  go_wp2_with fail
  refine (HY2.out _).mono ?_
  rintro e w15 ⟨rfl, hb⟩
  have HX_a15 := Lib.hid (show Box w15 p 24 #[.int .i64 k, .int .u64 (x : Nat), .int .u64 (v : Nat), .int .i64 f] from HX_a14.out.of (hb.block _ HX_a14.out.lt))
  have HX_b15 := Lib.hid (show Box w15 q 24 #[.int .i64 k, .int .u64 (x : Nat), .int .u64 (v : Nat), .int .i64 f] from HX_b14.out.of (hb.block _ HX_b14.out.lt))
  have HX_c15 := Lib.hid (show Box w15 g 24 #[.int .i64 0, .int .u64 0, .int .u64 0, .int .i64 0] from HX_c14.out.of (hb.block _ HX_c14.out.lt))
  have HX_d15 := Lib.hid (show Box w15 g2 24 #[.int .i64 0, .int .u64 0, .int .u64 0, .int .i64 0] from HX_d14.out.of (hb.block _ HX_d14.out.lt))
  have HX_z15 := Lib.hid (show Box w15 g9 24 #[.int .i64 k2, .int .u64 (x2 : Nat), .int .u64 (v2 : Nat), .int .i64 f2] from HX_z14.out.of (hb.block _ HX_z14.out.lt))
  clear HX_a14 HX_b14 HX_c14 HX_d14 HX_z14
  have HB15 := Lib.hid (HB14.out.trans (hb.mono HB14.out.size))
  clear hb HB14
  clear c_z0 c_z1 c_z2 c_z3
  go_wp2
  go_ret
  exact ⟨rfl, HB15.out⟩
set_option maxHeartbeats 4000000 in
theorem back_yn (k : Int) (x v : Nat) (f : Int) (l : List UInt8) (c : UInt8) (e2 : Int) (w : World) (hl : l.length ≤ 2000) (hx : x < 18446744073709551616) (hv : v < 18446744073709551616) (hr : Ov.R ⟨k, x, v, f⟩) (hq : prs l = (.z, e2)) (he2 : e2 ≠ 0) :
    Calls Try.prog 4 #[.agg #[.int .i64 k, .int .u64 (x : Nat), .int .u64 (v : Nat), .int .i64 f], .string (BA l), .int .u8 (c.toNat : Int)] w fun e w' => e = .returned (.bool true) ∧ Below w.heap.size w w' := by
  have zl : (BA l).size = l.length := rfl
  have d1 : decide (2000 < l.length) = false := by simp; omega
  have d2 : decide ((2000 : Int) < (l.length : Int)) = false := by simp; omega
  have HP := Lib.hid (fun w => parse_any l w (by omega))
  have HR := Lib.hid (fun w => opright_any ⟨k, x, v, f⟩ w hx hv)
  have HY := Lib.hid (fun w => bytes_any ⟨k, x, v, f⟩ w hx hv)
  unfold PsPost at HP
  unfold OrPost at HR
  unfold SPost at HY
  rw [hq] at HP
  rw [(Ov.r_iff _).2 hr] at HR
  have hne := bts_ne _ hr
  have hlen := bts_len _ hr
  have hp1 := prs_bts _ hr
  have hp3 := prs_over _ hr c []
  have hp2 := prs_less _ hr
  generalize bts ⟨k, x, v, f⟩ = S at *
  have hS := (List.dropLast_concat_getLast hne).symm
  generalize S.getLast hne = d at hS
  generalize hM : S.dropLast = m at hS
  have hp2 := hp2 m d hS
  have hml : S.length = m.length + 1 := by rw [hS]; simp
  have HP1 := Lib.hid (fun w => parse_any S w (by omega))
  have HP2 := Lib.hid (fun w => parse_any m w (by omega))
  have HP3 := Lib.hid (fun w => parse_any (S ++ [c]) w (by simp; omega))
  unfold PsPost at HP1 HP2 HP3
  rw [hp1] at HP1
  rw [hp2] at HP2
  rw [hp3, ← BA_add] at HP3
  simp only [Ov.a, Ov.z] at HP HR HY HP1 HP2 HP3
  have zS : (BA S).size = m.length + 1 := hml
  have zc : (BA [c]).size = 1 := rfl
  have hsl : ∀ W, (Instr.slice 9 (.string (BA S)) none (some (.int .i64 (m.length : Int))) none).run Try.prog W = .ok (.string (BA m)) W := by
    intro W
    have h9 := run_slice_string_to_if (P := Try.prog) W 9 (BA S) .i64 (m.length : Int) Try.underlying9
    rw [h9, if_pos (by rw [zS]; omega)]
    have e9 := BA_front S m.length
    rw [hS, List.take_left, ← hS] at e9
    rw [← e9]; rfl
  have hm9 : (m.length : Int) ≤ 100 := by omega
  have he0 := BA_notE hne
  have q0 : ∀ w, (binOp .neq 24 (.agg #[.int .i64 k, .int .u64 (x : Nat), .int .u64 (v : Nat), .int .i64 f]) (.agg #[.int .i64 k, .int .u64 (x : Nat), .int .u64 (v : Nat), .int .i64 f])).run Try.prog w = .ok (.bool false) w := fun w => by
    have h := neq_op ⟨k, x, v, f⟩ ⟨k, x, v, f⟩ w
    rw [Ov.q_self] at h
    exact h
  have hn2 : (e2 != 0) = true := by simp; exact he2
  clear he2
  clear hx hv hl hr hq hne hlen hp1 hp2 hp3 hM hS hml
  obtain ⟨p, hp⟩ : ∃ p, w.heap.size = p := ⟨_, rfl⟩
  obtain ⟨w1, hw1⟩ : ∃ w1, w.alloc (.cells #[.int .i64 k, .int .u64 (x : Nat), .int .u64 (v : Nat), .int .i64 f] 24) = w1 := ⟨_, rfl⟩
  have HX_a1 := Lib.hid (show Box w1 p 24 #[.int .i64 k, .int .u64 (x : Nat), .int .u64 (v : Nat), .int .i64 f] by rw [← hw1, ← hp]; exact Box.new _ _ _)
  have HB1 := Lib.hid (show Below w.heap.size w w1 by rw [← hw1]; exact (Below.refl _ _).alloc (Nat.le_refl _) _)
  go_enter Try.func4, Try.ntmps4
  go_upto_region 1 with fail
  try simp only [hw1, hp]
  clear hw1 hp
  go_wp2_with fail
  refine (opshown_any _).mono ?_
  rintro e w2 ⟨rfl, hb⟩
  have HX_a2 := Lib.hid (show Box w2 p 24 #[.int .i64 k, .int .u64 (x : Nat), .int .u64 (v : Nat), .int .i64 f] from HX_a1.out.of (hb.block _ HX_a1.out.lt))
  clear HX_a1
  have HB2 := Lib.hid (HB1.out.trans (hb.mono HB1.out.size))
  clear hb HB1
  have c_a0 : w2.cell? ⟨p, 0, none⟩ = some (.int .i64 k) := HX_a2.out.cell 0
  have c_a1 : w2.cell? ⟨p, 1, none⟩ = some (.int .u64 (x : Nat)) := HX_a2.out.cell 1
  have c_a2 : w2.cell? ⟨p, 2, none⟩ = some (.int .u64 (v : Nat)) := HX_a2.out.cell 2
  have c_a3 : w2.cell? ⟨p, 3, none⟩ = some (.int .i64 f) := HX_a2.out.cell 3
  go_wp2_with fail
  refine (HY.out _).mono ?_
  rintro e w3 ⟨rfl, hb⟩
  have HX_a3 := Lib.hid (show Box w3 p 24 #[.int .i64 k, .int .u64 (x : Nat), .int .u64 (v : Nat), .int .i64 f] from HX_a2.out.of (hb.block _ HX_a2.out.lt))
  clear HX_a2
  have HB3 := Lib.hid (HB2.out.trans (hb.mono HB2.out.size))
  clear hb HB2
  clear c_a0 c_a1 c_a2 c_a3
  have c_a0 : w3.cell? ⟨p, 0, none⟩ = some (.int .i64 k) := HX_a3.out.cell 0
  have c_a1 : w3.cell? ⟨p, 1, none⟩ = some (.int .u64 (x : Nat)) := HX_a3.out.cell 1
  have c_a2 : w3.cell? ⟨p, 2, none⟩ = some (.int .u64 (v : Nat)) := HX_a3.out.cell 2
  have c_a3 : w3.cell? ⟨p, 3, none⟩ = some (.int .i64 f) := HX_a3.out.cell 3
  go_wp2_with fail
  refine (HR.out _).mono ?_
  rintro e w4 ⟨rfl, hb⟩
  have HX_a4 := Lib.hid (show Box w4 p 24 #[.int .i64 k, .int .u64 (x : Nat), .int .u64 (v : Nat), .int .i64 f] from HX_a3.out.of (hb.block _ HX_a3.out.lt))
  clear HX_a3
  have HB4 := Lib.hid (HB3.out.trans (hb.mono HB3.out.size))
  clear hb HB3
  clear c_a0 c_a1 c_a2 c_a3
  go_wp2_with fail
  refine (HP1.out _).mono ?_
  rintro e w5 ⟨rfl, hb⟩
  have HX_a5 := Lib.hid (show Box w5 p 24 #[.int .i64 k, .int .u64 (x : Nat), .int .u64 (v : Nat), .int .i64 f] from HX_a4.out.of (hb.block _ HX_a4.out.lt))
  clear HX_a4
  have HB5 := Lib.hid (HB4.out.trans (hb.mono HB4.out.size))
  clear hb HB4
  go_upto_region 9 with (fail)
  obtain ⟨q, hq⟩ : ∃ q9, w5.heap.size = q9 := ⟨_, rfl⟩
  obtain ⟨w6, hw9⟩ : ∃ w9, w5.alloc (.cells #[.int .i64 k, .int .u64 (x : Nat), .int .u64 (v : Nat), .int .i64 f] 24) = w9 := ⟨_, rfl⟩
  have HX_a6 := Lib.hid (show Box w6 p 24 #[.int .i64 k, .int .u64 (x : Nat), .int .u64 (v : Nat), .int .i64 f] by rw [← hw9]; exact HX_a5.out.alloc _)
  have HX_b6 := Lib.hid (show Box w6 q 24 #[.int .i64 k, .int .u64 (x : Nat), .int .u64 (v : Nat), .int .i64 f] by rw [← hw9, ← hq]; exact Box.new w5 _ _)
  have HB6 := Lib.hid (show Below w.heap.size w w6 by rw [← hw9]; exact HB5.out.alloc HB5.out.size _)
  have HS_b := Lib.hid (show w.heap.size ≤ q by rw [← hq]; exact HB5.out.size)
  simp only [hw9, hq]
  clear hq hw9 HB5 HX_a5
  go_wp2_with fail
  refine (HP2.out _).mono ?_
  rintro e w7 ⟨rfl, hb⟩
  have HX_a7 := Lib.hid (show Box w7 p 24 #[.int .i64 k, .int .u64 (x : Nat), .int .u64 (v : Nat), .int .i64 f] from HX_a6.out.of (hb.block _ HX_a6.out.lt))
  have HX_b7 := Lib.hid (show Box w7 q 24 #[.int .i64 k, .int .u64 (x : Nat), .int .u64 (v : Nat), .int .i64 f] from HX_b6.out.of (hb.block _ HX_b6.out.lt))
  clear HX_a6 HX_b6
  have HB7 := Lib.hid (HB6.out.trans (hb.mono HB6.out.size))
  clear hb HB6
  go_upto_region 10 with (fail)
  obtain ⟨g, hq⟩ : ∃ q9, w7.heap.size = q9 := ⟨_, rfl⟩
  obtain ⟨w8, hw9⟩ : ∃ w9, w7.alloc (.cells #[.int .i64 0, .int .u64 0, .int .u64 0, .int .i64 0] 24) = w9 := ⟨_, rfl⟩
  have HX_a8 := Lib.hid (show Box w8 p 24 #[.int .i64 k, .int .u64 (x : Nat), .int .u64 (v : Nat), .int .i64 f] by rw [← hw9]; exact HX_a7.out.alloc _)
  have HX_b8 := Lib.hid (show Box w8 q 24 #[.int .i64 k, .int .u64 (x : Nat), .int .u64 (v : Nat), .int .i64 f] by rw [← hw9]; exact HX_b7.out.alloc _)
  have HX_c8 := Lib.hid (show Box w8 g 24 #[.int .i64 0, .int .u64 0, .int .u64 0, .int .i64 0] by rw [← hw9, ← hq]; exact Box.new w7 _ _)
  have HB8 := Lib.hid (show Below w.heap.size w w8 by rw [← hw9]; exact HB7.out.alloc HB7.out.size _)
  have HS_c := Lib.hid (show w.heap.size ≤ g by rw [← hq]; exact HB7.out.size)
  simp only [hw9, hq]
  clear hq hw9 HB7 HX_a7 HX_b7
  have hcv : (convert 38 9 (.slice (some ⟨w8.heap.size, 0, none⟩) 1 1)).run Try.prog (w8.alloc (.cells #[.int .u8 (c.toNat : Int)] 5)) = .ok (.string (BA [c])) (w8.alloc (.cells #[.int .u8 (c.toNat : Int)] 5)) := box_text (l := [c]) (Box.new w8 _ _)
  go_wp2_with fail
  obtain ⟨w9, hw9⟩ : ∃ wy, w8.alloc (.cells #[.int .u8 (c.toNat : Int)] 5) = wy := ⟨_, rfl⟩
  try simp only [hw9]
  have HX_a9 := Lib.hid (show Box w9 p 24 #[.int .i64 k, .int .u64 (x : Nat), .int .u64 (v : Nat), .int .i64 f] from (by rw [← hw9]; exact HX_a8.out.alloc _))
  have HX_b9 := Lib.hid (show Box w9 q 24 #[.int .i64 k, .int .u64 (x : Nat), .int .u64 (v : Nat), .int .i64 f] from (by rw [← hw9]; exact HX_b8.out.alloc _))
  have HX_c9 := Lib.hid (show Box w9 g 24 #[.int .i64 0, .int .u64 0, .int .u64 0, .int .i64 0] from (by rw [← hw9]; exact HX_c8.out.alloc _))
  clear HX_a8 HX_b8 HX_c8
  have HB9 := Lib.hid (show Below w.heap.size w w9 by rw [← hw9]; exact HB8.out.alloc HB8.out.size _)
  clear hcv hw9 HB8
  refine (HP3.out _).mono ?_
  rintro e w10 ⟨rfl, hb⟩
  have HX_a10 := Lib.hid (show Box w10 p 24 #[.int .i64 k, .int .u64 (x : Nat), .int .u64 (v : Nat), .int .i64 f] from HX_a9.out.of (hb.block _ HX_a9.out.lt))
  have HX_b10 := Lib.hid (show Box w10 q 24 #[.int .i64 k, .int .u64 (x : Nat), .int .u64 (v : Nat), .int .i64 f] from HX_b9.out.of (hb.block _ HX_b9.out.lt))
  have HX_c10 := Lib.hid (show Box w10 g 24 #[.int .i64 0, .int .u64 0, .int .u64 0, .int .i64 0] from HX_c9.out.of (hb.block _ HX_c9.out.lt))
  clear HX_a9 HX_b9 HX_c9
  have HB10 := Lib.hid (HB9.out.trans (hb.mono HB9.out.size))
  clear hb HB9
  go_upto_region 11 with (fail)
  obtain ⟨g2, hq⟩ : ∃ q9, w10.heap.size = q9 := ⟨_, rfl⟩
  obtain ⟨w11, hw9⟩ : ∃ w9, w10.alloc (.cells #[.int .i64 0, .int .u64 0, .int .u64 0, .int .i64 0] 24) = w9 := ⟨_, rfl⟩
  have HX_a11 := Lib.hid (show Box w11 p 24 #[.int .i64 k, .int .u64 (x : Nat), .int .u64 (v : Nat), .int .i64 f] by rw [← hw9]; exact HX_a10.out.alloc _)
  have HX_b11 := Lib.hid (show Box w11 q 24 #[.int .i64 k, .int .u64 (x : Nat), .int .u64 (v : Nat), .int .i64 f] by rw [← hw9]; exact HX_b10.out.alloc _)
  have HX_c11 := Lib.hid (show Box w11 g 24 #[.int .i64 0, .int .u64 0, .int .u64 0, .int .i64 0] by rw [← hw9]; exact HX_c10.out.alloc _)
  have HX_d11 := Lib.hid (show Box w11 g2 24 #[.int .i64 0, .int .u64 0, .int .u64 0, .int .i64 0] by rw [← hw9, ← hq]; exact Box.new w10 _ _)
  have HB11 := Lib.hid (show Below w.heap.size w w11 by rw [← hw9]; exact HB10.out.alloc HB10.out.size _)
  have HS_d := Lib.hid (show w.heap.size ≤ g2 by rw [← hq]; exact HB10.out.size)
  simp only [hw9, hq]
  clear hq hw9 HB10 HX_a10 HX_b10 HX_c10
  have c_a0 : w11.cell? ⟨p, 0, none⟩ = some (.int .i64 k) := HX_a11.out.cell 0
  have c_a1 : w11.cell? ⟨p, 1, none⟩ = some (.int .u64 (x : Nat)) := HX_a11.out.cell 1
  have c_a2 : w11.cell? ⟨p, 2, none⟩ = some (.int .u64 (v : Nat)) := HX_a11.out.cell 2
  have c_a3 : w11.cell? ⟨p, 3, none⟩ = some (.int .i64 f) := HX_a11.out.cell 3
  have c_b0 : w11.cell? ⟨q, 0, none⟩ = some (.int .i64 k) := HX_b11.out.cell 0
  have c_b1 : w11.cell? ⟨q, 1, none⟩ = some (.int .u64 (x : Nat)) := HX_b11.out.cell 1
  have c_b2 : w11.cell? ⟨q, 2, none⟩ = some (.int .u64 (v : Nat)) := HX_b11.out.cell 2
  have c_b3 : w11.cell? ⟨q, 3, none⟩ = some (.int .i64 f) := HX_b11.out.cell 3
  go_wp2_with fail
  refine (HP.out _).mono ?_
  rintro e w12 ⟨rfl, hb⟩
  have HX_a12 := Lib.hid (show Box w12 p 24 #[.int .i64 k, .int .u64 (x : Nat), .int .u64 (v : Nat), .int .i64 f] from HX_a11.out.of (hb.block _ HX_a11.out.lt))
  have HX_b12 := Lib.hid (show Box w12 q 24 #[.int .i64 k, .int .u64 (x : Nat), .int .u64 (v : Nat), .int .i64 f] from HX_b11.out.of (hb.block _ HX_b11.out.lt))
  have HX_c12 := Lib.hid (show Box w12 g 24 #[.int .i64 0, .int .u64 0, .int .u64 0, .int .i64 0] from HX_c11.out.of (hb.block _ HX_c11.out.lt))
  have HX_d12 := Lib.hid (show Box w12 g2 24 #[.int .i64 0, .int .u64 0, .int .u64 0, .int .i64 0] from HX_d11.out.of (hb.block _ HX_d11.out.lt))
  clear HX_a11 HX_b11 HX_c11 HX_d11
  have HB12 := Lib.hid (HB11.out.trans (hb.mono HB11.out.size))
  clear hb HB11
  clear c_a0 c_a1 c_a2 c_a3
  clear c_b0 c_b1 c_b2 c_b3
  go_upto_region 14 with (fail)
  obtain ⟨g9, hq⟩ : ∃ q9, w12.heap.size = q9 := ⟨_, rfl⟩
  obtain ⟨w13, hw9⟩ : ∃ w9, w12.alloc (.cells #[.int .i64 0, .int .u64 0, .int .u64 0, .int .i64 0] 24) = w9 := ⟨_, rfl⟩
  have HX_a13 := Lib.hid (show Box w13 p 24 #[.int .i64 k, .int .u64 (x : Nat), .int .u64 (v : Nat), .int .i64 f] by rw [← hw9]; exact HX_a12.out.alloc _)
  have HX_b13 := Lib.hid (show Box w13 q 24 #[.int .i64 k, .int .u64 (x : Nat), .int .u64 (v : Nat), .int .i64 f] by rw [← hw9]; exact HX_b12.out.alloc _)
  have HX_c13 := Lib.hid (show Box w13 g 24 #[.int .i64 0, .int .u64 0, .int .u64 0, .int .i64 0] by rw [← hw9]; exact HX_c12.out.alloc _)
  have HX_d13 := Lib.hid (show Box w13 g2 24 #[.int .i64 0, .int .u64 0, .int .u64 0, .int .i64 0] by rw [← hw9]; exact HX_d12.out.alloc _)
  have HX_z13 := Lib.hid (show Box w13 g9 24 #[.int .i64 0, .int .u64 0, .int .u64 0, .int .i64 0] by rw [← hw9, ← hq]; exact Box.new w12 _ _)
  have HB13 := Lib.hid (show Below w.heap.size w w13 by rw [← hw9]; exact HB12.out.alloc HB12.out.size _)
  have HS_z := Lib.hid (show w.heap.size ≤ g9 by rw [← hq]; exact HB12.out.size)
  simp only [hw9, hq]
  clear hq hw9 HB12 HX_a12 HX_b12 HX_c12 HX_d12
  have c_z0 : w13.cell? ⟨g9, 0, none⟩ = some (.int .i64 0) := HX_z13.out.cell 0
  have c_z1 : w13.cell? ⟨g9, 1, none⟩ = some (.int .u64 0) := HX_z13.out.cell 1
  have c_z2 : w13.cell? ⟨g9, 2, none⟩ = some (.int .u64 0) := HX_z13.out.cell 2
  have c_z3 : w13.cell? ⟨g9, 3, none⟩ = some (.int .i64 0) := HX_z13.out.cell 3
  go_wp2
  go_ret
  exact ⟨rfl, HB13.out⟩
theorem back_law (o : Ov) (s1 : ByteArray) (c2 : Int) (w : World) (ho : o.key < 18446744073709551616 ∧ o.val < 18446744073709551616) (hc : (Lit.int .u8 c2).wf = true) :
    Calls Try.prog 4 #[o.a, .string s1, .int .u8 c2] w fun e w' => e = .returned (.bool true) ∧ Below w.heap.size w w' := by
  rw [← BA_Ls s1]
  generalize Ls s1 = l
  obtain ⟨k, x, v, f⟩ := o
  obtain ⟨c, rfl⟩ : ∃ c : UInt8, c2 = (c.toNat : Int) := by
    simp only [Lit.wf, IntKind.min, IntKind.max, IntKind.signed, IntKind.bits, Bool.and_eq_true] at hc
    simp at hc
    exact ⟨UInt8.ofNat c2.toNat, by rw [u8_back _ (by omega)]; omega⟩
  by_cases hl : l.length ≤ 2000
  · rcases hq : prs l with ⟨⟨k2, x2, v2, f2⟩, e2⟩
    by_cases he : e2 = 0
    · subst he
      cases hr : Ov.r ⟨k, x, v, f⟩
      · exact back_ny k x v f l c k2 x2 v2 f2 w hl ho.1 ho.2 hr hq
      · exact back_yy k x v f l c k2 x2 v2 f2 w hl ho.1 ho.2 ((Ov.r_iff _).1 hr) hq
    · rw [prs_err hq he] at hq
      cases hr : Ov.r ⟨k, x, v, f⟩
      · exact back_nn k x v f l c e2 w hl ho.1 ho.2 hr hq he
      · exact back_yn k x v f l c e2 w hl ho.1 ho.2 ((Ov.r_iff _).1 hr) hq he
  · exact back_long k x v f l c w (by omega)
end Go.Proofs.Ytpnjeoilkaimmaa
