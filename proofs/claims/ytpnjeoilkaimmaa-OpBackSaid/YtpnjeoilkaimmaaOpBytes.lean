/- Contract of op.Bytes: an operation's bytes. Conditions: words are of 64 bits. -/
import Derived.Test.YtpnjeoilkaimmaaOpRow
import Derived.Test.YtpnjeoilkaimmaaOpRight
namespace Go.Proofs.Ytpnjeoilkaimmaa
open Go.RowKit Go.ChangeShapes Go.WideShapes Go.ChangeAt

theorem brow_two (f : Int) (h0 : 0 ≤ f) (h1 : f ≤ 65535) : brow [UInt8.ofNat (f.toNat % 256), UInt8.ofNat (f.toNat / 256)] = [.int .u8 (f % 256), .int .u8 (f / 256)] := by
  unfold brow
  simp only [List.map_cons, List.map_nil]
  rw [u8_back _ (by omega), u8_back _ (by omega)]
  congr 2
  · omega
  · congr 1; congr 1; omega
def SPost (w : World) (l : List UInt8) (e : Ending) (w' : World) : Prop := e = .returned (.string (BA l)) ∧ Below w.heap.size w w'
theorem cnt_len (n : Nat) (h : rt n = true) : (cnt n).length ≤ 8 := by
  have := rt_few h
  unfold cnt; rw [List.length_cons, tx_len]; omega
theorem let_0 : ((⟨#[71, 75, 80, 68, 76]⟩ : ByteArray)[0]'(by decide)).toNat = 71 := rfl
theorem let_1 : ((⟨#[71, 75, 80, 68, 76]⟩ : ByteArray)[1]'(by decide)).toNat = 75 := rfl
theorem let_2 : ((⟨#[71, 75, 80, 68, 76]⟩ : ByteArray)[2]'(by decide)).toNat = 80 := rfl
theorem let_3 : ((⟨#[71, 75, 80, 68, 76]⟩ : ByteArray)[3]'(by decide)).toNat = 68 := rfl
theorem let_4 : ((⟨#[71, 75, 80, 68, 76]⟩ : ByteArray)[4]'(by decide)).toNat = 76 := rfl
attribute [local go_sem] let_0 let_1 let_2 let_3 let_4
set_option maxHeartbeats 1000000 in
theorem bytes_no (o : Ov) (w : World) (hkey : o.key < 18446744073709551616) (hval : o.val < 18446744073709551616) (hr : o.r = false) :
    Calls Try.prog 15 #[o.a] w (SPost w (bts o)) := by
  have HR := Lib.hid (fun w => opright_any o w hkey hval)
  rw [hr] at HR
  have e : bts o = [] := by unfold bts; rw [if_neg (by rw [hr]; decide)]
  rw [e]
  obtain ⟨k, key, val, f⟩ := o
  clear hr hkey hval e
  simp only [Ov.a] at *
  obtain ⟨p, hp⟩ : ∃ p, w.heap.size = p := ⟨_, rfl⟩
  obtain ⟨w1, hw1⟩ : ∃ w1, w.alloc (.cells #[.int .i64 k, .int .u64 (key : Nat), .int .u64 (val : Nat), .int .i64 f] 24) = w1 := ⟨_, rfl⟩
  have HB1 := Lib.hid (show Below w.heap.size w w1 by rw [← hw1]; exact (Below.refl _ _).alloc (Nat.le_refl _) _)
  have HX1 := Lib.hid (show Box w1 p 24 #[.int .i64 k, .int .u64 (key : Nat), .int .u64 (val : Nat), .int .i64 f] by rw [← hw1, ← hp]; exact Box.new _ _ _)
  go_enter Try.func15, Try.ntmps15
  go_upto_region 1 with fail
  try simp only [hw1, hp]
  clear hw1 hp
  have c0 : w1.cell? ⟨p, 0, none⟩ = some (.int .i64 k) := HX1.out.cell 0
  have c1 : w1.cell? ⟨p, 1, none⟩ = some (.int .u64 (key : Nat)) := HX1.out.cell 1
  have c2 : w1.cell? ⟨p, 2, none⟩ = some (.int .u64 (val : Nat)) := HX1.out.cell 2
  have c3 : w1.cell? ⟨p, 3, none⟩ = some (.int .i64 f) := HX1.out.cell 3
  go_wp2_with fail
  refine (HR.out _).mono ?_
  rintro e w2 ⟨rfl, hb⟩
  have HB2 := Lib.hid (below3 HB1.out hb)
  clear hb HB1 HR
  go_wp2
  go_ret
  exact ⟨rfl, HB2.out⟩
set_option maxHeartbeats 2000000 in
theorem bytes_1 (key : Nat) (w : World) (hkey : key < 18446744073709551616) (hr : Ov.r (⟨1, key, 0, 0⟩ : Ov) = true) :
    Calls Try.prog 15 #[.agg #[.int .i64 1, .int .u64 (key : Nat), .int .u64 0, .int .i64 0]] w (SPost w (bts (⟨1, key, 0, 0⟩ : Ov))) := by
  have HR := Lib.hid (fun w => opright_any (⟨1, key, 0, 0⟩ : Ov) w hkey (show 0 < 18446744073709551616 by decide))
  rw [hr] at HR
  have R := (Ov.r_iff _).1 hr
  have hk := R.kr
  simp only at hk
  have HK := Lib.hid hk
  have HKL := Lib.hid (cnt_len key hk)
  have HKN := Lib.hid hkey
  clear hk hkey
  have HE := Lib.hid (show bts (⟨1, key, 0, 0⟩ : Ov) = [71] ++ cnt key by unfold bts; rw [if_pos hr]; simp [tail, ltr])
  obtain ⟨L, hL⟩ : ∃ L, L = bts (⟨1, key, 0, 0⟩ : Ov) := ⟨_, rfl⟩
  rw [← hL]
  have HL := Lib.hid (hL.trans HE.out)
  clear hr R HE hL
  obtain ⟨p, hp⟩ : ∃ p, w.heap.size = p := ⟨_, rfl⟩
  obtain ⟨w1, hw1⟩ : ∃ w1, w.alloc (.cells #[.int .i64 1, .int .u64 (key : Nat), .int .u64 0, .int .i64 0] 24) = w1 := ⟨_, rfl⟩
  have HB1 := Lib.hid (show Below w.heap.size w w1 by rw [← hw1]; exact (Below.refl _ _).alloc (Nat.le_refl _) _)
  have HX1 := Lib.hid (show Box w1 p 24 #[.int .i64 1, .int .u64 (key : Nat), .int .u64 0, .int .i64 0] by rw [← hw1, ← hp]; exact Box.new _ _ _)
  go_enter Try.func15, Try.ntmps15
  go_upto_region 1 with fail
  try simp only [hw1, hp]
  have HP := Lib.hid hp
  clear hw1 hp
  have c0 : w1.cell? ⟨p, 0, none⟩ = some (.int .i64 1) := HX1.out.cell 0
  have c1 : w1.cell? ⟨p, 1, none⟩ = some (.int .u64 (key : Nat)) := HX1.out.cell 1
  have c2 : w1.cell? ⟨p, 2, none⟩ = some (.int .u64 0) := HX1.out.cell 2
  have c3 : w1.cell? ⟨p, 3, none⟩ = some (.int .i64 0) := HX1.out.cell 3
  go_wp2_with fail
  refine (HR.out _).mono ?_
  rintro e w2 ⟨rfl, hb⟩
  clear c0 c1 c2 c3
  have HX2 := Lib.hid (HX1.out.of (hb.block _ HX1.out.lt))
  have HB2 := Lib.hid (below3 HB1.out hb)
  have HS2 := Lib.hid (show p + 1 ≤ w2.heap.size by have := HX2.out.lt; omega)
  clear hb HB1 HR HX1
  have c0 : w2.cell? ⟨p, 0, none⟩ = some (.int .i64 1) := HX2.out.cell 0
  have c1 : w2.cell? ⟨p, 1, none⟩ = some (.int .u64 (key : Nat)) := HX2.out.cell 1
  have c2 : w2.cell? ⟨p, 2, none⟩ = some (.int .u64 0) := HX2.out.cell 2
  have c3 : w2.cell? ⟨p, 3, none⟩ = some (.int .i64 0) := HX2.out.cell 3
  go_upto_region 4 with fail
  obtain ⟨q, hq⟩ : ∃ q, w2.heap.size = q := ⟨_, rfl⟩
  obtain ⟨w3, hw3⟩ : ∃ w3, w2.alloc (.cells #[.int .u8 71] 5) = w3 := ⟨_, rfl⟩
  try simp only [hw3, hq]
  have HX3 := Lib.hid (show Box w3 p 24 #[.int .i64 1, .int .u64 (key : Nat), .int .u64 0, .int .i64 0] by rw [← hw3]; exact HX2.out.alloc _)
  have HA3 := Lib.hid (show BrAt (p + 1) w2 (.slice (some ⟨q, 0, none⟩) 1 1) [71] w3 by rw [← hw3, ← hq]; exact BrAt.made (Below.refl _ _) HS2.out [71] (by decide))
  have HS3 := Lib.hid (show p + 1 ≤ w3.heap.size by rw [← hw3]; have := HS2.out; simp; omega)
  clear hw3 hq c0 c1 c2 c3 HX2 HS2
  have c0 : w3.cell? ⟨p, 0, none⟩ = some (.int .i64 1) := HX3.out.cell 0
  have c1 : w3.cell? ⟨p, 1, none⟩ = some (.int .u64 (key : Nat)) := HX3.out.cell 1
  have c2 : w3.cell? ⟨p, 2, none⟩ = some (.int .u64 0) := HX3.out.cell 2
  have c3 : w3.cell? ⟨p, 3, none⟩ = some (.int .i64 0) := HX3.out.cell 3
  go_wp2_with fail
  refine (at_any (p + 1) _ [71] key _ _ HA3.out HS3.out (by decide) HKN.out HK.out).mono ?_
  rintro e w4 ⟨v4, rfl, ha⟩
  have HA4 := Lib.hid ha
  have HX4 := Lib.hid (show Box w4 p 24 #[.int .i64 1, .int .u64 (key : Nat), .int .u64 0, .int .i64 0] from HX3.out.of ((ha.below.block p (by omega)).trans (HA3.out.below.block p (by omega)).symm))
  clear ha HA3 HX3 HS3 c0 c1 c2 c3
  have HZ := Lib.hid (show BrAt (p + 1) w2 v4 L w4 by rw [HL.out]; exact HA4.out)
  have HN := Lib.hid (show 0 < L.length by rw [HL.out]; simp)
  clear HA4 HL
  obtain ⟨g, cap, hv, htx⟩ := HZ.out.text HN.out
  subst hv
  go_wp2
  go_ret
  exact ⟨rfl, HB2.out.trans (HZ.out.below.mono (by have := HP.out; omega))⟩
set_option maxHeartbeats 2000000 in
theorem bytes_2 (key : Nat) (w : World) (hkey : key < 18446744073709551616) (hr : Ov.r (⟨2, key, 0, 0⟩ : Ov) = true) :
    Calls Try.prog 15 #[.agg #[.int .i64 2, .int .u64 (key : Nat), .int .u64 0, .int .i64 0]] w (SPost w (bts (⟨2, key, 0, 0⟩ : Ov))) := by
  have HR := Lib.hid (fun w => opright_any (⟨2, key, 0, 0⟩ : Ov) w hkey (show 0 < 18446744073709551616 by decide))
  rw [hr] at HR
  have R := (Ov.r_iff _).1 hr
  have hk := R.kr
  simp only at hk
  have HK := Lib.hid hk
  have HKL := Lib.hid (cnt_len key hk)
  have HKN := Lib.hid hkey
  clear hk hkey
  have HE := Lib.hid (show bts (⟨2, key, 0, 0⟩ : Ov) = [75] ++ cnt key by unfold bts; rw [if_pos hr]; simp [tail, ltr])
  obtain ⟨L, hL⟩ : ∃ L, L = bts (⟨2, key, 0, 0⟩ : Ov) := ⟨_, rfl⟩
  rw [← hL]
  have HL := Lib.hid (hL.trans HE.out)
  clear hr R HE hL
  obtain ⟨p, hp⟩ : ∃ p, w.heap.size = p := ⟨_, rfl⟩
  obtain ⟨w1, hw1⟩ : ∃ w1, w.alloc (.cells #[.int .i64 2, .int .u64 (key : Nat), .int .u64 0, .int .i64 0] 24) = w1 := ⟨_, rfl⟩
  have HB1 := Lib.hid (show Below w.heap.size w w1 by rw [← hw1]; exact (Below.refl _ _).alloc (Nat.le_refl _) _)
  have HX1 := Lib.hid (show Box w1 p 24 #[.int .i64 2, .int .u64 (key : Nat), .int .u64 0, .int .i64 0] by rw [← hw1, ← hp]; exact Box.new _ _ _)
  go_enter Try.func15, Try.ntmps15
  go_upto_region 1 with fail
  try simp only [hw1, hp]
  have HP := Lib.hid hp
  clear hw1 hp
  have c0 : w1.cell? ⟨p, 0, none⟩ = some (.int .i64 2) := HX1.out.cell 0
  have c1 : w1.cell? ⟨p, 1, none⟩ = some (.int .u64 (key : Nat)) := HX1.out.cell 1
  have c2 : w1.cell? ⟨p, 2, none⟩ = some (.int .u64 0) := HX1.out.cell 2
  have c3 : w1.cell? ⟨p, 3, none⟩ = some (.int .i64 0) := HX1.out.cell 3
  go_wp2_with fail
  refine (HR.out _).mono ?_
  rintro e w2 ⟨rfl, hb⟩
  clear c0 c1 c2 c3
  have HX2 := Lib.hid (HX1.out.of (hb.block _ HX1.out.lt))
  have HB2 := Lib.hid (below3 HB1.out hb)
  have HS2 := Lib.hid (show p + 1 ≤ w2.heap.size by have := HX2.out.lt; omega)
  clear hb HB1 HR HX1
  have c0 : w2.cell? ⟨p, 0, none⟩ = some (.int .i64 2) := HX2.out.cell 0
  have c1 : w2.cell? ⟨p, 1, none⟩ = some (.int .u64 (key : Nat)) := HX2.out.cell 1
  have c2 : w2.cell? ⟨p, 2, none⟩ = some (.int .u64 0) := HX2.out.cell 2
  have c3 : w2.cell? ⟨p, 3, none⟩ = some (.int .i64 0) := HX2.out.cell 3
  go_upto_region 4 with fail
  obtain ⟨q, hq⟩ : ∃ q, w2.heap.size = q := ⟨_, rfl⟩
  obtain ⟨w3, hw3⟩ : ∃ w3, w2.alloc (.cells #[.int .u8 75] 5) = w3 := ⟨_, rfl⟩
  try simp only [hw3, hq]
  have HX3 := Lib.hid (show Box w3 p 24 #[.int .i64 2, .int .u64 (key : Nat), .int .u64 0, .int .i64 0] by rw [← hw3]; exact HX2.out.alloc _)
  have HA3 := Lib.hid (show BrAt (p + 1) w2 (.slice (some ⟨q, 0, none⟩) 1 1) [75] w3 by rw [← hw3, ← hq]; exact BrAt.made (Below.refl _ _) HS2.out [75] (by decide))
  have HS3 := Lib.hid (show p + 1 ≤ w3.heap.size by rw [← hw3]; have := HS2.out; simp; omega)
  clear hw3 hq c0 c1 c2 c3 HX2 HS2
  have c0 : w3.cell? ⟨p, 0, none⟩ = some (.int .i64 2) := HX3.out.cell 0
  have c1 : w3.cell? ⟨p, 1, none⟩ = some (.int .u64 (key : Nat)) := HX3.out.cell 1
  have c2 : w3.cell? ⟨p, 2, none⟩ = some (.int .u64 0) := HX3.out.cell 2
  have c3 : w3.cell? ⟨p, 3, none⟩ = some (.int .i64 0) := HX3.out.cell 3
  go_wp2_with fail
  refine (at_any (p + 1) _ [75] key _ _ HA3.out HS3.out (by decide) HKN.out HK.out).mono ?_
  rintro e w4 ⟨v4, rfl, ha⟩
  have HA4 := Lib.hid ha
  have HX4 := Lib.hid (show Box w4 p 24 #[.int .i64 2, .int .u64 (key : Nat), .int .u64 0, .int .i64 0] from HX3.out.of ((ha.below.block p (by omega)).trans (HA3.out.below.block p (by omega)).symm))
  clear ha HA3 HX3 HS3 c0 c1 c2 c3
  have HZ := Lib.hid (show BrAt (p + 1) w2 v4 L w4 by rw [HL.out]; exact HA4.out)
  have HN := Lib.hid (show 0 < L.length by rw [HL.out]; simp)
  clear HA4 HL
  obtain ⟨g, cap, hv, htx⟩ := HZ.out.text HN.out
  subst hv
  go_wp2
  go_ret
  exact ⟨rfl, HB2.out.trans (HZ.out.below.mono (by have := HP.out; omega))⟩
set_option maxHeartbeats 2000000 in
theorem bytes_3 (key : Nat) (val : Nat) (f : Int) (w : World) (hkey : key < 18446744073709551616) (hval : val < 18446744073709551616) (hr : Ov.r (⟨3, key, val, f⟩ : Ov) = true) :
    Calls Try.prog 15 #[.agg #[.int .i64 3, .int .u64 (key : Nat), .int .u64 (val : Nat), .int .i64 f]] w (SPost w (bts (⟨3, key, val, f⟩ : Ov))) := by
  have HR := Lib.hid (fun w => opright_any (⟨3, key, val, f⟩ : Ov) w hkey hval)
  rw [hr] at HR
  have R := (Ov.r_iff _).1 hr
  have hk := R.kr
  simp only at hk
  have HK := Lib.hid hk
  have HKL := Lib.hid (cnt_len key hk)
  have HKN := Lib.hid hkey
  clear hk hkey
  have hv := R.vr
  have h0 := R.f0
  have h1 := R.f1
  simp only at hv h0 h1
  have HV := Lib.hid hv
  have HVL := Lib.hid (cnt_len val hv)
  have HVN := Lib.hid hval
  have HF := Lib.hid (brow_two f h0 h1)
  clear hv hval
  have HE := Lib.hid (show bts (⟨3, key, val, f⟩ : Ov) = [80] ++ [UInt8.ofNat (f.toNat % 256), UInt8.ofNat (f.toNat / 256)] ++ cnt val ++ cnt key by unfold bts; rw [if_pos hr]; simp [tail, ltr])
  obtain ⟨L, hL⟩ : ∃ L, L = bts (⟨3, key, val, f⟩ : Ov) := ⟨_, rfl⟩
  rw [← hL]
  have HL := Lib.hid (hL.trans HE.out)
  clear hr R HE hL
  obtain ⟨p, hp⟩ : ∃ p, w.heap.size = p := ⟨_, rfl⟩
  obtain ⟨w1, hw1⟩ : ∃ w1, w.alloc (.cells #[.int .i64 3, .int .u64 (key : Nat), .int .u64 (val : Nat), .int .i64 f] 24) = w1 := ⟨_, rfl⟩
  have HB1 := Lib.hid (show Below w.heap.size w w1 by rw [← hw1]; exact (Below.refl _ _).alloc (Nat.le_refl _) _)
  have HX1 := Lib.hid (show Box w1 p 24 #[.int .i64 3, .int .u64 (key : Nat), .int .u64 (val : Nat), .int .i64 f] by rw [← hw1, ← hp]; exact Box.new _ _ _)
  go_enter Try.func15, Try.ntmps15
  go_upto_region 1 with fail
  try simp only [hw1, hp]
  have HP := Lib.hid hp
  clear hw1 hp
  have c0 : w1.cell? ⟨p, 0, none⟩ = some (.int .i64 3) := HX1.out.cell 0
  have c1 : w1.cell? ⟨p, 1, none⟩ = some (.int .u64 (key : Nat)) := HX1.out.cell 1
  have c2 : w1.cell? ⟨p, 2, none⟩ = some (.int .u64 (val : Nat)) := HX1.out.cell 2
  have c3 : w1.cell? ⟨p, 3, none⟩ = some (.int .i64 f) := HX1.out.cell 3
  go_wp2_with fail
  refine (HR.out _).mono ?_
  rintro e w2 ⟨rfl, hb⟩
  clear c0 c1 c2 c3
  have HX2 := Lib.hid (HX1.out.of (hb.block _ HX1.out.lt))
  have HB2 := Lib.hid (below3 HB1.out hb)
  have HS2 := Lib.hid (show p + 1 ≤ w2.heap.size by have := HX2.out.lt; omega)
  clear hb HB1 HR HX1
  have c0 : w2.cell? ⟨p, 0, none⟩ = some (.int .i64 3) := HX2.out.cell 0
  have c1 : w2.cell? ⟨p, 1, none⟩ = some (.int .u64 (key : Nat)) := HX2.out.cell 1
  have c2 : w2.cell? ⟨p, 2, none⟩ = some (.int .u64 (val : Nat)) := HX2.out.cell 2
  have c3 : w2.cell? ⟨p, 3, none⟩ = some (.int .i64 f) := HX2.out.cell 3
  go_upto_region 4 with fail
  obtain ⟨q, hq⟩ : ∃ q, w2.heap.size = q := ⟨_, rfl⟩
  obtain ⟨w3, hw3⟩ : ∃ w3, w2.alloc (.cells #[.int .u8 80] 5) = w3 := ⟨_, rfl⟩
  try simp only [hw3, hq]
  have HX3 := Lib.hid (show Box w3 p 24 #[.int .i64 3, .int .u64 (key : Nat), .int .u64 (val : Nat), .int .i64 f] by rw [← hw3]; exact HX2.out.alloc _)
  have HA3 := Lib.hid (show BrAt (p + 1) w2 (.slice (some ⟨q, 0, none⟩) 1 1) [80] w3 by rw [← hw3, ← hq]; exact BrAt.made (Below.refl _ _) HS2.out [80] (by decide))
  have HS3 := Lib.hid (show p + 1 ≤ w3.heap.size by rw [← hw3]; have := HS2.out; simp; omega)
  clear hw3 hq c0 c1 c2 c3 HX2 HS2
  have c0 : w3.cell? ⟨p, 0, none⟩ = some (.int .i64 3) := HX3.out.cell 0
  have c1 : w3.cell? ⟨p, 1, none⟩ = some (.int .u64 (key : Nat)) := HX3.out.cell 1
  have c2 : w3.cell? ⟨p, 2, none⟩ = some (.int .u64 (val : Nat)) := HX3.out.cell 2
  have c3 : w3.cell? ⟨p, 3, none⟩ = some (.int .i64 f) := HX3.out.cell 3
  go_upto_region 10 with (with_reducible refine wpList_append_where _ rfl (.tmp 20) (.tmp 28) 38 rfl (p + 1) 5 (.int .u8 0) 1 1 Try.underlying38 infoU8 rfl (by decide) (.slice (some ⟨q, 0, none⟩) 1 1) 1 (brow [80]) rfl (HA3.out.stay ((Below.refl _ _).alloc (Nat.le_refl _) _) HS3.out).own ⟨w3.heap.size, 0, none⟩ 2 2 (brow [UInt8.ofNat (f.toNat % 256), UInt8.ofNat (f.toNat / 256)]) rfl rfl ?c0 (brow_one _) (by unfold maxLen; omega) (by omega) (by have := HS3.out; simp; omega) ?_)
  case c0 =>
    rw [HF.out]
    have h9 := brow_new w3 5 [UInt8.ofNat (f.toNat % 256), UInt8.ofNat (f.toNat / 256)] rfl
    rw [HF.out] at h9
    exact h9
  intro A cap w4 hown hg _
  have HA4 := Lib.hid ((HA3.out.stay (wx := w3.alloc (.cells #[.int .u8 (f % 256), .int .u8 (f / 256)] 5)) ((Below.refl _ _).alloc (Nat.le_refl _) _) HS3.out).grow (by have := HS3.out; simp; omega) hown hg)
  have HS4 := Lib.hid (show p + 1 ≤ w4.heap.size by have := HS3.out; have := hg.size; simp at this; omega)
  have HX4 := Lib.hid (show Box w4 p 24 #[.int .i64 3, .int .u64 (key : Nat), .int .u64 (val : Nat), .int .i64 f] from HX3.out.of ((HA4.out.below.block p (by omega)).trans (HA3.out.below.block p (by omega)).symm))
  clear hown hg HA3 HX3 HS3 c0 c1 c2 c3 HF
  have c0 : w4.cell? ⟨p, 0, none⟩ = some (.int .i64 3) := HX4.out.cell 0
  have c1 : w4.cell? ⟨p, 1, none⟩ = some (.int .u64 (key : Nat)) := HX4.out.cell 1
  have c2 : w4.cell? ⟨p, 2, none⟩ = some (.int .u64 (val : Nat)) := HX4.out.cell 2
  have c3 : w4.cell? ⟨p, 3, none⟩ = some (.int .i64 f) := HX4.out.cell 3
  go_wp2_with fail
  refine (at_any (p + 1) _ ([80] ++ [UInt8.ofNat (f.toNat % 256), UInt8.ofNat (f.toNat / 256)]) val _ _ HA4.out HS4.out (by simp) HVN.out HV.out).mono ?_
  rintro e w5 ⟨v5, rfl, ha⟩
  have HA5 := Lib.hid ha
  have HX5 := Lib.hid (show Box w5 p 24 #[.int .i64 3, .int .u64 (key : Nat), .int .u64 (val : Nat), .int .i64 f] from HX4.out.of ((ha.below.block p (by omega)).trans (HA4.out.below.block p (by omega)).symm))
  have HS5 := Lib.hid (show p + 1 ≤ w5.heap.size by have := HX5.out.lt; omega)
  clear ha HA4 HX4 HS4 c0 c1 c2 c3
  have c0 : w5.cell? ⟨p, 0, none⟩ = some (.int .i64 3) := HX5.out.cell 0
  have c1 : w5.cell? ⟨p, 1, none⟩ = some (.int .u64 (key : Nat)) := HX5.out.cell 1
  have c2 : w5.cell? ⟨p, 2, none⟩ = some (.int .u64 (val : Nat)) := HX5.out.cell 2
  have c3 : w5.cell? ⟨p, 3, none⟩ = some (.int .i64 f) := HX5.out.cell 3
  go_wp2_with fail
  refine (at_any (p + 1) _ (([80] ++ [UInt8.ofNat (f.toNat % 256), UInt8.ofNat (f.toNat / 256)]) ++ cnt val) key _ _ HA5.out HS5.out (by have := HVL.out; simp; omega) HKN.out HK.out).mono ?_
  rintro e w6 ⟨v6, rfl, ha⟩
  have HA6 := Lib.hid ha
  have HX6 := Lib.hid (show Box w6 p 24 #[.int .i64 3, .int .u64 (key : Nat), .int .u64 (val : Nat), .int .i64 f] from HX5.out.of ((ha.below.block p (by omega)).trans (HA5.out.below.block p (by omega)).symm))
  clear ha HA5 HX5 HS5 c0 c1 c2 c3
  have HZ := Lib.hid (show BrAt (p + 1) w2 v6 L w6 by rw [HL.out]; exact HA6.out)
  have HN := Lib.hid (show 0 < L.length by rw [HL.out]; simp)
  clear HA6 HL
  obtain ⟨g, cap, hv, htx⟩ := HZ.out.text HN.out
  subst hv
  go_wp2
  go_ret
  exact ⟨rfl, HB2.out.trans (HZ.out.below.mono (by have := HP.out; omega))⟩
set_option maxHeartbeats 2000000 in
theorem bytes_4 (key : Nat) (w : World) (hkey : key < 18446744073709551616) (hr : Ov.r (⟨4, key, 0, 0⟩ : Ov) = true) :
    Calls Try.prog 15 #[.agg #[.int .i64 4, .int .u64 (key : Nat), .int .u64 0, .int .i64 0]] w (SPost w (bts (⟨4, key, 0, 0⟩ : Ov))) := by
  have HR := Lib.hid (fun w => opright_any (⟨4, key, 0, 0⟩ : Ov) w hkey (show 0 < 18446744073709551616 by decide))
  rw [hr] at HR
  have R := (Ov.r_iff _).1 hr
  have hk := R.kr
  simp only at hk
  have HK := Lib.hid hk
  have HKL := Lib.hid (cnt_len key hk)
  have HKN := Lib.hid hkey
  clear hk hkey
  have HE := Lib.hid (show bts (⟨4, key, 0, 0⟩ : Ov) = [68] ++ cnt key by unfold bts; rw [if_pos hr]; simp [tail, ltr])
  obtain ⟨L, hL⟩ : ∃ L, L = bts (⟨4, key, 0, 0⟩ : Ov) := ⟨_, rfl⟩
  rw [← hL]
  have HL := Lib.hid (hL.trans HE.out)
  clear hr R HE hL
  obtain ⟨p, hp⟩ : ∃ p, w.heap.size = p := ⟨_, rfl⟩
  obtain ⟨w1, hw1⟩ : ∃ w1, w.alloc (.cells #[.int .i64 4, .int .u64 (key : Nat), .int .u64 0, .int .i64 0] 24) = w1 := ⟨_, rfl⟩
  have HB1 := Lib.hid (show Below w.heap.size w w1 by rw [← hw1]; exact (Below.refl _ _).alloc (Nat.le_refl _) _)
  have HX1 := Lib.hid (show Box w1 p 24 #[.int .i64 4, .int .u64 (key : Nat), .int .u64 0, .int .i64 0] by rw [← hw1, ← hp]; exact Box.new _ _ _)
  go_enter Try.func15, Try.ntmps15
  go_upto_region 1 with fail
  try simp only [hw1, hp]
  have HP := Lib.hid hp
  clear hw1 hp
  have c0 : w1.cell? ⟨p, 0, none⟩ = some (.int .i64 4) := HX1.out.cell 0
  have c1 : w1.cell? ⟨p, 1, none⟩ = some (.int .u64 (key : Nat)) := HX1.out.cell 1
  have c2 : w1.cell? ⟨p, 2, none⟩ = some (.int .u64 0) := HX1.out.cell 2
  have c3 : w1.cell? ⟨p, 3, none⟩ = some (.int .i64 0) := HX1.out.cell 3
  go_wp2_with fail
  refine (HR.out _).mono ?_
  rintro e w2 ⟨rfl, hb⟩
  clear c0 c1 c2 c3
  have HX2 := Lib.hid (HX1.out.of (hb.block _ HX1.out.lt))
  have HB2 := Lib.hid (below3 HB1.out hb)
  have HS2 := Lib.hid (show p + 1 ≤ w2.heap.size by have := HX2.out.lt; omega)
  clear hb HB1 HR HX1
  have c0 : w2.cell? ⟨p, 0, none⟩ = some (.int .i64 4) := HX2.out.cell 0
  have c1 : w2.cell? ⟨p, 1, none⟩ = some (.int .u64 (key : Nat)) := HX2.out.cell 1
  have c2 : w2.cell? ⟨p, 2, none⟩ = some (.int .u64 0) := HX2.out.cell 2
  have c3 : w2.cell? ⟨p, 3, none⟩ = some (.int .i64 0) := HX2.out.cell 3
  go_upto_region 4 with fail
  obtain ⟨q, hq⟩ : ∃ q, w2.heap.size = q := ⟨_, rfl⟩
  obtain ⟨w3, hw3⟩ : ∃ w3, w2.alloc (.cells #[.int .u8 68] 5) = w3 := ⟨_, rfl⟩
  try simp only [hw3, hq]
  have HX3 := Lib.hid (show Box w3 p 24 #[.int .i64 4, .int .u64 (key : Nat), .int .u64 0, .int .i64 0] by rw [← hw3]; exact HX2.out.alloc _)
  have HA3 := Lib.hid (show BrAt (p + 1) w2 (.slice (some ⟨q, 0, none⟩) 1 1) [68] w3 by rw [← hw3, ← hq]; exact BrAt.made (Below.refl _ _) HS2.out [68] (by decide))
  have HS3 := Lib.hid (show p + 1 ≤ w3.heap.size by rw [← hw3]; have := HS2.out; simp; omega)
  clear hw3 hq c0 c1 c2 c3 HX2 HS2
  have c0 : w3.cell? ⟨p, 0, none⟩ = some (.int .i64 4) := HX3.out.cell 0
  have c1 : w3.cell? ⟨p, 1, none⟩ = some (.int .u64 (key : Nat)) := HX3.out.cell 1
  have c2 : w3.cell? ⟨p, 2, none⟩ = some (.int .u64 0) := HX3.out.cell 2
  have c3 : w3.cell? ⟨p, 3, none⟩ = some (.int .i64 0) := HX3.out.cell 3
  go_wp2_with fail
  refine (at_any (p + 1) _ [68] key _ _ HA3.out HS3.out (by decide) HKN.out HK.out).mono ?_
  rintro e w4 ⟨v4, rfl, ha⟩
  have HA4 := Lib.hid ha
  have HX4 := Lib.hid (show Box w4 p 24 #[.int .i64 4, .int .u64 (key : Nat), .int .u64 0, .int .i64 0] from HX3.out.of ((ha.below.block p (by omega)).trans (HA3.out.below.block p (by omega)).symm))
  clear ha HA3 HX3 HS3 c0 c1 c2 c3
  have HZ := Lib.hid (show BrAt (p + 1) w2 v4 L w4 by rw [HL.out]; exact HA4.out)
  have HN := Lib.hid (show 0 < L.length by rw [HL.out]; simp)
  clear HA4 HL
  obtain ⟨g, cap, hv, htx⟩ := HZ.out.text HN.out
  subst hv
  go_wp2
  go_ret
  exact ⟨rfl, HB2.out.trans (HZ.out.below.mono (by have := HP.out; omega))⟩
set_option maxHeartbeats 2000000 in
theorem bytes_5 (w : World) (hr : Ov.r (⟨5, 0, 0, 0⟩ : Ov) = true) :
    Calls Try.prog 15 #[.agg #[.int .i64 5, .int .u64 0, .int .u64 0, .int .i64 0]] w (SPost w (bts (⟨5, 0, 0, 0⟩ : Ov))) := by
  have HR := Lib.hid (fun w => opright_any (⟨5, 0, 0, 0⟩ : Ov) w (by decide) (show 0 < 18446744073709551616 by decide))
  rw [hr] at HR
  have R := (Ov.r_iff _).1 hr
  have HE := Lib.hid (show bts (⟨5, 0, 0, 0⟩ : Ov) = [76] by unfold bts; rw [if_pos hr]; simp [tail, ltr])
  obtain ⟨L, hL⟩ : ∃ L, L = bts (⟨5, 0, 0, 0⟩ : Ov) := ⟨_, rfl⟩
  rw [← hL]
  have HL := Lib.hid (hL.trans HE.out)
  clear hr R HE hL
  obtain ⟨p, hp⟩ : ∃ p, w.heap.size = p := ⟨_, rfl⟩
  obtain ⟨w1, hw1⟩ : ∃ w1, w.alloc (.cells #[.int .i64 5, .int .u64 0, .int .u64 0, .int .i64 0] 24) = w1 := ⟨_, rfl⟩
  have HB1 := Lib.hid (show Below w.heap.size w w1 by rw [← hw1]; exact (Below.refl _ _).alloc (Nat.le_refl _) _)
  have HX1 := Lib.hid (show Box w1 p 24 #[.int .i64 5, .int .u64 0, .int .u64 0, .int .i64 0] by rw [← hw1, ← hp]; exact Box.new _ _ _)
  go_enter Try.func15, Try.ntmps15
  go_upto_region 1 with fail
  try simp only [hw1, hp]
  have HP := Lib.hid hp
  clear hw1 hp
  have c0 : w1.cell? ⟨p, 0, none⟩ = some (.int .i64 5) := HX1.out.cell 0
  have c1 : w1.cell? ⟨p, 1, none⟩ = some (.int .u64 0) := HX1.out.cell 1
  have c2 : w1.cell? ⟨p, 2, none⟩ = some (.int .u64 0) := HX1.out.cell 2
  have c3 : w1.cell? ⟨p, 3, none⟩ = some (.int .i64 0) := HX1.out.cell 3
  go_wp2_with fail
  refine (HR.out _).mono ?_
  rintro e w2 ⟨rfl, hb⟩
  clear c0 c1 c2 c3
  have HX2 := Lib.hid (HX1.out.of (hb.block _ HX1.out.lt))
  have HB2 := Lib.hid (below3 HB1.out hb)
  have HS2 := Lib.hid (show p + 1 ≤ w2.heap.size by have := HX2.out.lt; omega)
  clear hb HB1 HR HX1
  have c0 : w2.cell? ⟨p, 0, none⟩ = some (.int .i64 5) := HX2.out.cell 0
  have c1 : w2.cell? ⟨p, 1, none⟩ = some (.int .u64 0) := HX2.out.cell 1
  have c2 : w2.cell? ⟨p, 2, none⟩ = some (.int .u64 0) := HX2.out.cell 2
  have c3 : w2.cell? ⟨p, 3, none⟩ = some (.int .i64 0) := HX2.out.cell 3
  go_upto_region 4 with fail
  obtain ⟨q, hq⟩ : ∃ q, w2.heap.size = q := ⟨_, rfl⟩
  obtain ⟨w3, hw3⟩ : ∃ w3, w2.alloc (.cells #[.int .u8 76] 5) = w3 := ⟨_, rfl⟩
  try simp only [hw3, hq]
  have HX3 := Lib.hid (show Box w3 p 24 #[.int .i64 5, .int .u64 0, .int .u64 0, .int .i64 0] by rw [← hw3]; exact HX2.out.alloc _)
  have HA3 := Lib.hid (show BrAt (p + 1) w2 (.slice (some ⟨q, 0, none⟩) 1 1) [76] w3 by rw [← hw3, ← hq]; exact BrAt.made (Below.refl _ _) HS2.out [76] (by decide))
  have HS3 := Lib.hid (show p + 1 ≤ w3.heap.size by rw [← hw3]; have := HS2.out; simp; omega)
  clear hw3 hq c0 c1 c2 c3 HX2 HS2
  have c0 : w3.cell? ⟨p, 0, none⟩ = some (.int .i64 5) := HX3.out.cell 0
  have c1 : w3.cell? ⟨p, 1, none⟩ = some (.int .u64 0) := HX3.out.cell 1
  have c2 : w3.cell? ⟨p, 2, none⟩ = some (.int .u64 0) := HX3.out.cell 2
  have c3 : w3.cell? ⟨p, 3, none⟩ = some (.int .i64 0) := HX3.out.cell 3
  have HZ := HA3
  obtain rfl : L = [76] := HL.out
  obtain ⟨g, cap, hv, htx⟩ := HZ.out.text (by decide)
  injection hv with e1 e2 e3
  injection e1 with e1
  injection e1 with e1 e4 e5
  clear e2 e4 e5
  subst e1 e3
  have htx2 : (convert 38 9 (.slice (some ⟨q, 0, none⟩) 1 1)).run Try.prog w3 = .ok (.string (BA [76])) w3 := htx
  clear htx
  go_wp2
  go_ret
  exact ⟨rfl, HB2.out.trans (HZ.out.below.mono (by have := HP.out; omega))⟩
theorem bytes_any (o : Ov) (w : World) (hkey : o.key < 18446744073709551616) (hval : o.val < 18446744073709551616) : Calls Try.prog 15 #[o.a] w (SPost w (bts o)) := by
  cases hr : o.r
  · exact bytes_no o w hkey hval hr
  have R := (Ov.r_iff o).1 hr
  obtain ⟨k, key, val, f⟩ := o
  have h1 := R.lo
  have h2 := R.hi
  have h3 := R.put
  have h4 := R.len
  simp only at h1 h2 h3 h4 hkey hval
  by_cases e3 : k = 3
  · subst e3
    exact bytes_3 key val f w hkey hval hr
  obtain ⟨rfl, rfl⟩ := h3 e3
  rcases (by omega : k = 1 ∨ k = 2 ∨ k = 4 ∨ k = 5) with h | h | h | h <;> subst h
  · exact bytes_1 key w hkey hr
  · exact bytes_2 key w hkey hr
  · exact bytes_4 key w hkey hr
  · obtain rfl := h4 rfl
    exact bytes_5 w hr
end Go.Proofs.Ytpnjeoilkaimmaa
