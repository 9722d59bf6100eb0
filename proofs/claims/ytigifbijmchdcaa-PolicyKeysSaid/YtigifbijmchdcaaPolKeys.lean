/- The law PolicyKeys, walked: for every two items and every cell it returns true, and nothing that was in memory changes. -/
import Derived.Test.YtigifbijmchdcaaPolLaw
import Derived.Deep.Cut
namespace Go.Proofs.Ytigifbijmchdcaa
open Go.RowKit Go.ChangeShapes Go.WideShapes Go.ChangeAt
theorem pkey_low (c : Int) (r : Nat) (e : Bool) (h : r < 4611686018427387904) : pkey (c, r, e) = r + if e then 0 else 4611686018427387904 := by
  unfold pkey; show r % 4611686018427387904 + _ = _; rw [Nat.mod_eq_of_lt h]
set_option maxHeartbeats 4000000 in
theorem keys_true_true (x1 : Int) (x2 : Nat) (y1 : Int) (y2 : Nat) (c : Int) (w : World) :
    Calls Try.prog 5 #[.agg #[.int .i64 x1, .int .u64 (x2 : Int), .bool true], .agg #[.int .i64 y1, .int .u64 (y2 : Int), .bool true], .int .i64 c] w fun e w' => e = .returned (.bool true) ∧ Below w.heap.size w w' := by
  have hrx := rem_62 x2
  have hry := rem_62 y2
  obtain ⟨qx, hqx⟩ : ∃ q, q = x2 % 4611686018427387904 := ⟨_, rfl⟩
  obtain ⟨qy, hqy⟩ : ∃ q, q = y2 % 4611686018427387904 := ⟨_, rfl⟩
  have hx9 : qx < 4611686018427387904 := by omega
  have hy9 : qy < 4611686018427387904 := by omega
  rw [← hqx] at hrx
  rw [← hqy] at hry
  clear hqx hqy
  have KX := Lib.hid (fun W => key_any (x1, qx, true) W)
  have KY := Lib.hid (fun W => key_any (y1, qy, true) W)
  rw [pkey_low _ _ _ hx9] at KX
  rw [pkey_low _ _ _ hy9] at KY
  obtain ⟨kx, hkx⟩ : ∃ k, k = qx + if true then 0 else 4611686018427387904 := ⟨_, rfl⟩
  obtain ⟨ky, hky⟩ : ∃ k, k = qy + if true then 0 else 4611686018427387904 := ⟨_, rfl⟩
  rw [← hkx] at KX
  rw [← hky] at KY
  rw [if_pos rfl, Nat.add_zero] at hkx
  rw [if_pos rfl, Nat.add_zero] at hky
  obtain ⟨z, hz⟩ : ∃ z, z = c % 2147483648 := ⟨_, rfl⟩
  have hz9 : 0 ≤ z ∧ z < 2147483648 := by omega
  have hu1 : IntKind.u64.wrap c = c % 18446744073709551616 := by rw [IntKind.wrap_u64]
  obtain ⟨u, hu⟩ : ∃ u, u = c % 18446744073709551616 := ⟨_, rfl⟩
  have hu9 : 0 ≤ u ∧ u < 18446744073709551616 := by omega
  have hu3 : u.tmod 2147483648 = z := by rw [Int.tmod_eq_emod_of_nonneg hu9.1]; omega
  have HBl : Hid (∀ W, Calls Try.prog 13 #[.int .i64 c] W fun e w' => e = .returned (.int .u64 (9223372036854775808 + z)) ∧ w' = W) := fun W => by
    have := blank_any c W
    unfold blankI at this
    rw [← hz] at this
    exact this
  rw [← hu] at hu1
  have hge : ¬ (kx : Int) ≥ 9223372036854775808 + z := by omega
  have hge2 : ¬ 9223372036854775808 + z ≤ (kx : Int) := by omega
  have HLT : Hid (kx < ky ↔ qx < qy) := by show _ ↔ _; omega
  have hk9 : kx < 9223372036854775808 ∧ ky < 9223372036854775808 := by omega
  clear hkx hky hz hu hu9
  obtain ⟨p, hp⟩ : ∃ p, w.heap.size = p := ⟨_, rfl⟩
  obtain ⟨w2, hw2⟩ : ∃ w2, (w.alloc (.cells #[.int .i64 x1, .int .u64 (x2 : Int), .bool true] 29)).alloc (.cells #[.int .i64 y1, .int .u64 (y2 : Int), .bool true] 29) = w2 := ⟨_, rfl⟩
  have hx0 : Box w2 p 29 #[.int .i64 x1, .int .u64 (x2 : Int), .bool true] := by rw [← hw2, ← hp]; exact (Box.new w _ _).alloc _
  have hy0 : Box w2 (p + 1) 29 #[.int .i64 y1, .int .u64 (y2 : Int), .bool true] := by rw [← hw2, ← hp]; simpa using Box.new (w.alloc (.cells #[.int .i64 x1, .int .u64 (x2 : Int), .bool true] 29)) 29 #[.int .i64 y1, .int .u64 (y2 : Int), .bool true]
  have hB : Below w.heap.size w w2 := by rw [← hw2]; exact ((Below.refl _ w).alloc (Nat.le_refl _) _).alloc (by simp) _
  have HX_a2 := Lib.hid hx0
  have HX_b2 := Lib.hid hy0
  have HB2 := Lib.hid hB
  have HS_a : Hid (w.heap.size ≤ p) := by show _ ≤ _; omega
  have HS_b : Hid (w.heap.size ≤ p + 1) := by show _ ≤ _; omega
  have HPP := Lib.hid hp
  have HW := Lib.hid hw2
  clear hx0 hy0 hB hp hw2
  go_enter Try.func5, Try.ntmps5
  go_upto_region 1 with fail
  simp only [HPP.out, HW.out]
  clear HPP HW
  go_wp2_with fail
  refine (pshown_any _).mono ?_
  rintro e w3 ⟨rfl, hb⟩
  have HX_a3 := Lib.hid (show Box w3 p 29 #[.int .i64 x1, .int .u64 (x2 : Int), .bool true] from HX_a2.out.of (hb.block _ HX_a2.out.lt))
  have HX_b3 := Lib.hid (show Box w3 (p + 1) 29 #[.int .i64 y1, .int .u64 (y2 : Int), .bool true] from HX_b2.out.of (hb.block _ HX_b2.out.lt))
  clear HX_a2 HX_b2
  have HB3 := Lib.hid (HB2.out.trans (hb.mono HB2.out.size))
  clear hb HB2
  have c9 : w3.cell? ⟨p, 1, none⟩ = some (.int .u64 (x2 : Int)) := HX_a3.out.cell 1
  have f9 := HX_a3.out.frozen 1
  go_upto_region 3 with (fail)
  obtain ⟨w4, hw9⟩ : ∃ w9, w3.setCell ⟨p, 1, none⟩ (.int .u64 (qx : Int)) = w9 := ⟨_, rfl⟩
  have HX_a4 := Lib.hid (show Box w4 p 29 #[.int .i64 x1, .int .u64 (qx : Int), .bool true] by rw [← hw9]; exact HX_a3.out.put 1 _)
  have HX_b4 := Lib.hid (show Box w4 (p + 1) 29 #[.int .i64 y1, .int .u64 (y2 : Int), .bool true] by rw [← hw9]; exact HX_b3.out.far (a := ⟨p, 1, none⟩) (by first | (show p + 1 ≠ p; omega) | (show p ≠ p + 1; omega)) _)
  have HB4 := Lib.hid (show Below w.heap.size w w4 by rw [← hw9]; exact HB3.out.setCell (p := ⟨p, 1, none⟩) (by show w.heap.size ≤ p; exact HS_a.out) _)
  simp only [hw9]
  clear c9 f9 hw9 HB3 HX_a3 HX_b3
  have c9 : w4.cell? ⟨p + 1, 1, none⟩ = some (.int .u64 (y2 : Int)) := HX_b4.out.cell 1
  have f9 := HX_b4.out.frozen 1
  go_upto_region 4 with (fail)
  obtain ⟨w5, hw9⟩ : ∃ w9, w4.setCell ⟨p + 1, 1, none⟩ (.int .u64 (qy : Int)) = w9 := ⟨_, rfl⟩
  have HX_a5 := Lib.hid (show Box w5 p 29 #[.int .i64 x1, .int .u64 (qx : Int), .bool true] by rw [← hw9]; exact HX_a4.out.far (a := ⟨p + 1, 1, none⟩) (by first | (show p + 1 ≠ p; omega) | (show p ≠ p + 1; omega)) _)
  have HX_b5 := Lib.hid (show Box w5 (p + 1) 29 #[.int .i64 y1, .int .u64 (qy : Int), .bool true] by rw [← hw9]; exact HX_b4.out.put 1 _)
  have HB5 := Lib.hid (show Below w.heap.size w w5 by rw [← hw9]; exact HB4.out.setCell (p := ⟨p + 1, 1, none⟩) (by show w.heap.size ≤ p + 1; exact HS_b.out) _)
  simp only [hw9]
  clear c9 f9 hw9 HB4 HX_a4 HX_b4
  have c_a0 : w5.cell? ⟨p, 0, none⟩ = some (.int .i64 x1) := HX_a5.out.cell 0
  have c_a1 : w5.cell? ⟨p, 1, none⟩ = some (.int .u64 (qx : Int)) := HX_a5.out.cell 1
  have c_a2 : w5.cell? ⟨p, 2, none⟩ = some (.bool true) := HX_a5.out.cell 2
  go_wp2_with fail
  refine (KX.out _).mono ?_
  rintro e w6 ⟨rfl, hb0⟩
  have hb := hb0.below
  clear hb0
  have HX_a6 := Lib.hid (show Box w6 p 29 #[.int .i64 x1, .int .u64 (qx : Int), .bool true] from HX_a5.out.of (hb.block _ HX_a5.out.lt))
  have HX_b6 := Lib.hid (show Box w6 (p + 1) 29 #[.int .i64 y1, .int .u64 (qy : Int), .bool true] from HX_b5.out.of (hb.block _ HX_b5.out.lt))
  clear HX_a5 HX_b5
  have HB6 := Lib.hid (HB5.out.trans (hb.mono HB5.out.size))
  clear hb HB5
  clear c_a0 c_a1 c_a2
  have c_b0 : w6.cell? ⟨p + 1, 0, none⟩ = some (.int .i64 y1) := HX_b6.out.cell 0
  have c_b1 : w6.cell? ⟨p + 1, 1, none⟩ = some (.int .u64 (qy : Int)) := HX_b6.out.cell 1
  have c_b2 : w6.cell? ⟨p + 1, 2, none⟩ = some (.bool true) := HX_b6.out.cell 2
  go_wp2_with fail
  refine (KY.out _).mono ?_
  rintro e w7 ⟨rfl, hb0⟩
  have hb := hb0.below
  clear hb0
  have HX_a7 := Lib.hid (show Box w7 p 29 #[.int .i64 x1, .int .u64 (qx : Int), .bool true] from HX_a6.out.of (hb.block _ HX_a6.out.lt))
  have HX_b7 := Lib.hid (show Box w7 (p + 1) 29 #[.int .i64 y1, .int .u64 (qy : Int), .bool true] from HX_b6.out.of (hb.block _ HX_b6.out.lt))
  clear HX_a6 HX_b6
  have HB7 := Lib.hid (HB6.out.trans (hb.mono HB6.out.size))
  clear hb HB6
  clear c_b0 c_b1 c_b2
  have c_a1 := HX_a7.out.cell 1
  have c_a2 := HX_a7.out.cell 2
  have c_b1 := HX_b7.out.cell 1
  have c_b2 := HX_b7.out.cell 2
  go_wp2_with fail
  refine (HBl.out _).mono ?_
  rintro e w10 ⟨rfl, rfl⟩
  go_wp2_with fail
  refine (HBl.out _).mono ?_
  rintro e w11 ⟨rfl, rfl⟩
  go_wp2_with fail
  go_ret
  refine ⟨?_, HB7.out⟩
  simp [HLT.out]
set_option maxHeartbeats 4000000 in
theorem keys_true_false (x1 : Int) (x2 : Nat) (y1 : Int) (y2 : Nat) (c : Int) (w : World) :
    Calls Try.prog 5 #[.agg #[.int .i64 x1, .int .u64 (x2 : Int), .bool true], .agg #[.int .i64 y1, .int .u64 (y2 : Int), .bool false], .int .i64 c] w fun e w' => e = .returned (.bool true) ∧ Below w.heap.size w w' := by
  have hrx := rem_62 x2
  have hry := rem_62 y2
  obtain ⟨qx, hqx⟩ : ∃ q, q = x2 % 4611686018427387904 := ⟨_, rfl⟩
  obtain ⟨qy, hqy⟩ : ∃ q, q = y2 % 4611686018427387904 := ⟨_, rfl⟩
  have hx9 : qx < 4611686018427387904 := by omega
  have hy9 : qy < 4611686018427387904 := by omega
  rw [← hqx] at hrx
  rw [← hqy] at hry
  clear hqx hqy
  have KX := Lib.hid (fun W => key_any (x1, qx, true) W)
  have KY := Lib.hid (fun W => key_any (y1, qy, false) W)
  rw [pkey_low _ _ _ hx9] at KX
  rw [pkey_low _ _ _ hy9] at KY
  obtain ⟨kx, hkx⟩ : ∃ k, k = qx + if true then 0 else 4611686018427387904 := ⟨_, rfl⟩
  obtain ⟨ky, hky⟩ : ∃ k, k = qy + if false then 0 else 4611686018427387904 := ⟨_, rfl⟩
  rw [← hkx] at KX
  rw [← hky] at KY
  rw [if_pos rfl, Nat.add_zero] at hkx
  rw [if_neg (by decide)] at hky
  obtain ⟨z, hz⟩ : ∃ z, z = c % 2147483648 := ⟨_, rfl⟩
  have hz9 : 0 ≤ z ∧ z < 2147483648 := by omega
  have hu1 : IntKind.u64.wrap c = c % 18446744073709551616 := by rw [IntKind.wrap_u64]
  obtain ⟨u, hu⟩ : ∃ u, u = c % 18446744073709551616 := ⟨_, rfl⟩
  have hu9 : 0 ≤ u ∧ u < 18446744073709551616 := by omega
  have hu3 : u.tmod 2147483648 = z := by rw [Int.tmod_eq_emod_of_nonneg hu9.1]; omega
  have HBl : Hid (∀ W, Calls Try.prog 13 #[.int .i64 c] W fun e w' => e = .returned (.int .u64 (9223372036854775808 + z)) ∧ w' = W) := fun W => by
    have := blank_any c W
    unfold blankI at this
    rw [← hz] at this
    exact this
  rw [← hu] at hu1
  have hge : ¬ (kx : Int) ≥ 9223372036854775808 + z := by omega
  have hge2 : ¬ 9223372036854775808 + z ≤ (kx : Int) := by omega
  have HLT : Hid (kx < ky) := by show _ < _; omega
  have hk9 : kx < 9223372036854775808 ∧ ky < 9223372036854775808 := by omega
  clear hkx hky hz hu hu9
  obtain ⟨p, hp⟩ : ∃ p, w.heap.size = p := ⟨_, rfl⟩
  obtain ⟨w2, hw2⟩ : ∃ w2, (w.alloc (.cells #[.int .i64 x1, .int .u64 (x2 : Int), .bool true] 29)).alloc (.cells #[.int .i64 y1, .int .u64 (y2 : Int), .bool false] 29) = w2 := ⟨_, rfl⟩
  have hx0 : Box w2 p 29 #[.int .i64 x1, .int .u64 (x2 : Int), .bool true] := by rw [← hw2, ← hp]; exact (Box.new w _ _).alloc _
  have hy0 : Box w2 (p + 1) 29 #[.int .i64 y1, .int .u64 (y2 : Int), .bool false] := by rw [← hw2, ← hp]; simpa using Box.new (w.alloc (.cells #[.int .i64 x1, .int .u64 (x2 : Int), .bool true] 29)) 29 #[.int .i64 y1, .int .u64 (y2 : Int), .bool false]
  have hB : Below w.heap.size w w2 := by rw [← hw2]; exact ((Below.refl _ w).alloc (Nat.le_refl _) _).alloc (by simp) _
  have HX_a2 := Lib.hid hx0
  have HX_b2 := Lib.hid hy0
  have HB2 := Lib.hid hB
  have HS_a : Hid (w.heap.size ≤ p) := by show _ ≤ _; omega
  have HS_b : Hid (w.heap.size ≤ p + 1) := by show _ ≤ _; omega
  have HPP := Lib.hid hp
  have HW := Lib.hid hw2
  clear hx0 hy0 hB hp hw2
  go_enter Try.func5, Try.ntmps5
  go_upto_region 1 with fail
  simp only [HPP.out, HW.out]
  clear HPP HW
  go_wp2_with fail
  refine (pshown_any _).mono ?_
  rintro e w3 ⟨rfl, hb⟩
  have HX_a3 := Lib.hid (show Box w3 p 29 #[.int .i64 x1, .int .u64 (x2 : Int), .bool true] from HX_a2.out.of (hb.block _ HX_a2.out.lt))
  have HX_b3 := Lib.hid (show Box w3 (p + 1) 29 #[.int .i64 y1, .int .u64 (y2 : Int), .bool false] from HX_b2.out.of (hb.block _ HX_b2.out.lt))
  clear HX_a2 HX_b2
  have HB3 := Lib.hid (HB2.out.trans (hb.mono HB2.out.size))
  clear hb HB2
  have c9 : w3.cell? ⟨p, 1, none⟩ = some (.int .u64 (x2 : Int)) := HX_a3.out.cell 1
  have f9 := HX_a3.out.frozen 1
  go_upto_region 3 with (fail)
  obtain ⟨w4, hw9⟩ : ∃ w9, w3.setCell ⟨p, 1, none⟩ (.int .u64 (qx : Int)) = w9 := ⟨_, rfl⟩
  have HX_a4 := Lib.hid (show Box w4 p 29 #[.int .i64 x1, .int .u64 (qx : Int), .bool true] by rw [← hw9]; exact HX_a3.out.put 1 _)
  have HX_b4 := Lib.hid (show Box w4 (p + 1) 29 #[.int .i64 y1, .int .u64 (y2 : Int), .bool false] by rw [← hw9]; exact HX_b3.out.far (a := ⟨p, 1, none⟩) (by first | (show p + 1 ≠ p; omega) | (show p ≠ p + 1; omega)) _)
  have HB4 := Lib.hid (show Below w.heap.size w w4 by rw [← hw9]; exact HB3.out.setCell (p := ⟨p, 1, none⟩) (by show w.heap.size ≤ p; exact HS_a.out) _)
  simp only [hw9]
  clear c9 f9 hw9 HB3 HX_a3 HX_b3
  have c9 : w4.cell? ⟨p + 1, 1, none⟩ = some (.int .u64 (y2 : Int)) := HX_b4.out.cell 1
  have f9 := HX_b4.out.frozen 1
  go_upto_region 4 with (fail)
  obtain ⟨w5, hw9⟩ : ∃ w9, w4.setCell ⟨p + 1, 1, none⟩ (.int .u64 (qy : Int)) = w9 := ⟨_, rfl⟩
  have HX_a5 := Lib.hid (show Box w5 p 29 #[.int .i64 x1, .int .u64 (qx : Int), .bool true] by rw [← hw9]; exact HX_a4.out.far (a := ⟨p + 1, 1, none⟩) (by first | (show p + 1 ≠ p; omega) | (show p ≠ p + 1; omega)) _)
  have HX_b5 := Lib.hid (show Box w5 (p + 1) 29 #[.int .i64 y1, .int .u64 (qy : Int), .bool false] by rw [← hw9]; exact HX_b4.out.put 1 _)
  have HB5 := Lib.hid (show Below w.heap.size w w5 by rw [← hw9]; exact HB4.out.setCell (p := ⟨p + 1, 1, none⟩) (by show w.heap.size ≤ p + 1; exact HS_b.out) _)
  simp only [hw9]
  clear c9 f9 hw9 HB4 HX_a4 HX_b4
  have c_a0 : w5.cell? ⟨p, 0, none⟩ = some (.int .i64 x1) := HX_a5.out.cell 0
  have c_a1 : w5.cell? ⟨p, 1, none⟩ = some (.int .u64 (qx : Int)) := HX_a5.out.cell 1
  have c_a2 : w5.cell? ⟨p, 2, none⟩ = some (.bool true) := HX_a5.out.cell 2
  go_wp2_with fail
  refine (KX.out _).mono ?_
  rintro e w6 ⟨rfl, hb0⟩
  have hb := hb0.below
  clear hb0
  have HX_a6 := Lib.hid (show Box w6 p 29 #[.int .i64 x1, .int .u64 (qx : Int), .bool true] from HX_a5.out.of (hb.block _ HX_a5.out.lt))
  have HX_b6 := Lib.hid (show Box w6 (p + 1) 29 #[.int .i64 y1, .int .u64 (qy : Int), .bool false] from HX_b5.out.of (hb.block _ HX_b5.out.lt))
  clear HX_a5 HX_b5
  have HB6 := Lib.hid (HB5.out.trans (hb.mono HB5.out.size))
  clear hb HB5
  clear c_a0 c_a1 c_a2
  have c_b0 : w6.cell? ⟨p + 1, 0, none⟩ = some (.int .i64 y1) := HX_b6.out.cell 0
  have c_b1 : w6.cell? ⟨p + 1, 1, none⟩ = some (.int .u64 (qy : Int)) := HX_b6.out.cell 1
  have c_b2 : w6.cell? ⟨p + 1, 2, none⟩ = some (.bool false) := HX_b6.out.cell 2
  go_wp2_with fail
  refine (KY.out _).mono ?_
  rintro e w7 ⟨rfl, hb0⟩
  have hb := hb0.below
  clear hb0
  have HX_a7 := Lib.hid (show Box w7 p 29 #[.int .i64 x1, .int .u64 (qx : Int), .bool true] from HX_a6.out.of (hb.block _ HX_a6.out.lt))
  have HX_b7 := Lib.hid (show Box w7 (p + 1) 29 #[.int .i64 y1, .int .u64 (qy : Int), .bool false] from HX_b6.out.of (hb.block _ HX_b6.out.lt))
  clear HX_a6 HX_b6
  have HB7 := Lib.hid (HB6.out.trans (hb.mono HB6.out.size))
  clear hb HB6
  clear c_b0 c_b1 c_b2
  have c_a1 := HX_a7.out.cell 1
  have c_a2 := HX_a7.out.cell 2
  have c_b1 := HX_b7.out.cell 1
  have c_b2 := HX_b7.out.cell 2
  go_wp2_with fail
  refine (HBl.out _).mono ?_
  rintro e w10 ⟨rfl, rfl⟩
  go_wp2_with fail
  refine (HBl.out _).mono ?_
  rintro e w11 ⟨rfl, rfl⟩
  go_wp2_with fail
  go_ret
  refine ⟨?_, HB7.out⟩
  simp [HLT.out]
set_option maxHeartbeats 4000000 in
theorem keys_false_true (x1 : Int) (x2 : Nat) (y1 : Int) (y2 : Nat) (c : Int) (w : World) :
    Calls Try.prog 5 #[.agg #[.int .i64 x1, .int .u64 (x2 : Int), .bool false], .agg #[.int .i64 y1, .int .u64 (y2 : Int), .bool true], .int .i64 c] w fun e w' => e = .returned (.bool true) ∧ Below w.heap.size w w' := by
  have hrx := rem_62 x2
  have hry := rem_62 y2
  obtain ⟨qx, hqx⟩ : ∃ q, q = x2 % 4611686018427387904 := ⟨_, rfl⟩
  obtain ⟨qy, hqy⟩ : ∃ q, q = y2 % 4611686018427387904 := ⟨_, rfl⟩
  have hx9 : qx < 4611686018427387904 := by omega
  have hy9 : qy < 4611686018427387904 := by omega
  rw [← hqx] at hrx
  rw [← hqy] at hry
  clear hqx hqy
  have KX := Lib.hid (fun W => key_any (x1, qx, false) W)
  have KY := Lib.hid (fun W => key_any (y1, qy, true) W)
  rw [pkey_low _ _ _ hx9] at KX
  rw [pkey_low _ _ _ hy9] at KY
  obtain ⟨kx, hkx⟩ : ∃ k, k = qx + if false then 0 else 4611686018427387904 := ⟨_, rfl⟩
  obtain ⟨ky, hky⟩ : ∃ k, k = qy + if true then 0 else 4611686018427387904 := ⟨_, rfl⟩
  rw [← hkx] at KX
  rw [← hky] at KY
  rw [if_neg (by decide)] at hkx
  rw [if_pos rfl, Nat.add_zero] at hky
  obtain ⟨z, hz⟩ : ∃ z, z = c % 2147483648 := ⟨_, rfl⟩
  have hz9 : 0 ≤ z ∧ z < 2147483648 := by omega
  have hu1 : IntKind.u64.wrap c = c % 18446744073709551616 := by rw [IntKind.wrap_u64]
  obtain ⟨u, hu⟩ : ∃ u, u = c % 18446744073709551616 := ⟨_, rfl⟩
  have hu9 : 0 ≤ u ∧ u < 18446744073709551616 := by omega
  have hu3 : u.tmod 2147483648 = z := by rw [Int.tmod_eq_emod_of_nonneg hu9.1]; omega
  have HBl : Hid (∀ W, Calls Try.prog 13 #[.int .i64 c] W fun e w' => e = .returned (.int .u64 (9223372036854775808 + z)) ∧ w' = W) := fun W => by
    have := blank_any c W
    unfold blankI at this
    rw [← hz] at this
    exact this
  rw [← hu] at hu1
  have hge : ¬ (kx : Int) ≥ 9223372036854775808 + z := by omega
  have hge2 : ¬ 9223372036854775808 + z ≤ (kx : Int) := by omega
  have HLT : Hid (¬ kx < ky) := by show ¬ (_ < _); omega
  have hk9 : kx < 9223372036854775808 ∧ ky < 9223372036854775808 := by omega
  clear hkx hky hz hu hu9
  obtain ⟨p, hp⟩ : ∃ p, w.heap.size = p := ⟨_, rfl⟩
  obtain ⟨w2, hw2⟩ : ∃ w2, (w.alloc (.cells #[.int .i64 x1, .int .u64 (x2 : Int), .bool false] 29)).alloc (.cells #[.int .i64 y1, .int .u64 (y2 : Int), .bool true] 29) = w2 := ⟨_, rfl⟩
  have hx0 : Box w2 p 29 #[.int .i64 x1, .int .u64 (x2 : Int), .bool false] := by rw [← hw2, ← hp]; exact (Box.new w _ _).alloc _
  have hy0 : Box w2 (p + 1) 29 #[.int .i64 y1, .int .u64 (y2 : Int), .bool true] := by rw [← hw2, ← hp]; simpa using Box.new (w.alloc (.cells #[.int .i64 x1, .int .u64 (x2 : Int), .bool false] 29)) 29 #[.int .i64 y1, .int .u64 (y2 : Int), .bool true]
  have hB : Below w.heap.size w w2 := by rw [← hw2]; exact ((Below.refl _ w).alloc (Nat.le_refl _) _).alloc (by simp) _
  have HX_a2 := Lib.hid hx0
  have HX_b2 := Lib.hid hy0
  have HB2 := Lib.hid hB
  have HS_a : Hid (w.heap.size ≤ p) := by show _ ≤ _; omega
  have HS_b : Hid (w.heap.size ≤ p + 1) := by show _ ≤ _; omega
  have HPP := Lib.hid hp
  have HW := Lib.hid hw2
  clear hx0 hy0 hB hp hw2
  go_enter Try.func5, Try.ntmps5
  go_upto_region 1 with fail
  simp only [HPP.out, HW.out]
  clear HPP HW
  go_wp2_with fail
  refine (pshown_any _).mono ?_
  rintro e w3 ⟨rfl, hb⟩
  have HX_a3 := Lib.hid (show Box w3 p 29 #[.int .i64 x1, .int .u64 (x2 : Int), .bool false] from HX_a2.out.of (hb.block _ HX_a2.out.lt))
  have HX_b3 := Lib.hid (show Box w3 (p + 1) 29 #[.int .i64 y1, .int .u64 (y2 : Int), .bool true] from HX_b2.out.of (hb.block _ HX_b2.out.lt))
  clear HX_a2 HX_b2
  have HB3 := Lib.hid (HB2.out.trans (hb.mono HB2.out.size))
  clear hb HB2
  have c9 : w3.cell? ⟨p, 1, none⟩ = some (.int .u64 (x2 : Int)) := HX_a3.out.cell 1
  have f9 := HX_a3.out.frozen 1
  go_upto_region 3 with (fail)
  obtain ⟨w4, hw9⟩ : ∃ w9, w3.setCell ⟨p, 1, none⟩ (.int .u64 (qx : Int)) = w9 := ⟨_, rfl⟩
  have HX_a4 := Lib.hid (show Box w4 p 29 #[.int .i64 x1, .int .u64 (qx : Int), .bool false] by rw [← hw9]; exact HX_a3.out.put 1 _)
  have HX_b4 := Lib.hid (show Box w4 (p + 1) 29 #[.int .i64 y1, .int .u64 (y2 : Int), .bool true] by rw [← hw9]; exact HX_b3.out.far (a := ⟨p, 1, none⟩) (by first | (show p + 1 ≠ p; omega) | (show p ≠ p + 1; omega)) _)
  have HB4 := Lib.hid (show Below w.heap.size w w4 by rw [← hw9]; exact HB3.out.setCell (p := ⟨p, 1, none⟩) (by show w.heap.size ≤ p; exact HS_a.out) _)
  simp only [hw9]
  clear c9 f9 hw9 HB3 HX_a3 HX_b3
  have c9 : w4.cell? ⟨p + 1, 1, none⟩ = some (.int .u64 (y2 : Int)) := HX_b4.out.cell 1
  have f9 := HX_b4.out.frozen 1
  go_upto_region 4 with (fail)
  obtain ⟨w5, hw9⟩ : ∃ w9, w4.setCell ⟨p + 1, 1, none⟩ (.int .u64 (qy : Int)) = w9 := ⟨_, rfl⟩
  have HX_a5 := Lib.hid (show Box w5 p 29 #[.int .i64 x1, .int .u64 (qx : Int), .bool false] by rw [← hw9]; exact HX_a4.out.far (a := ⟨p + 1, 1, none⟩) (by first | (show p + 1 ≠ p; omega) | (show p ≠ p + 1; omega)) _)
  have HX_b5 := Lib.hid (show Box w5 (p + 1) 29 #[.int .i64 y1, .int .u64 (qy : Int), .bool true] by rw [← hw9]; exact HX_b4.out.put 1 _)
  have HB5 := Lib.hid (show Below w.heap.size w w5 by rw [← hw9]; exact HB4.out.setCell (p := ⟨p + 1, 1, none⟩) (by show w.heap.size ≤ p + 1; exact HS_b.out) _)
  simp only [hw9]
  clear c9 f9 hw9 HB4 HX_a4 HX_b4
  have c_a0 : w5.cell? ⟨p, 0, none⟩ = some (.int .i64 x1) := HX_a5.out.cell 0
  have c_a1 : w5.cell? ⟨p, 1, none⟩ = some (.int .u64 (qx : Int)) := HX_a5.out.cell 1
  have c_a2 : w5.cell? ⟨p, 2, none⟩ = some (.bool false) := HX_a5.out.cell 2
  go_wp2_with fail
  refine (KX.out _).mono ?_
  rintro e w6 ⟨rfl, hb0⟩
  have hb := hb0.below
  clear hb0
  have HX_a6 := Lib.hid (show Box w6 p 29 #[.int .i64 x1, .int .u64 (qx : Int), .bool false] from HX_a5.out.of (hb.block _ HX_a5.out.lt))
  have HX_b6 := Lib.hid (show Box w6 (p + 1) 29 #[.int .i64 y1, .int .u64 (qy : Int), .bool true] from HX_b5.out.of (hb.block _ HX_b5.out.lt))
  clear HX_a5 HX_b5
  have HB6 := Lib.hid (HB5.out.trans (hb.mono HB5.out.size))
  clear hb HB5
  clear c_a0 c_a1 c_a2
  have c_b0 : w6.cell? ⟨p + 1, 0, none⟩ = some (.int .i64 y1) := HX_b6.out.cell 0
  have c_b1 : w6.cell? ⟨p + 1, 1, none⟩ = some (.int .u64 (qy : Int)) := HX_b6.out.cell 1
  have c_b2 : w6.cell? ⟨p + 1, 2, none⟩ = some (.bool true) := HX_b6.out.cell 2
  go_wp2_with fail
  refine (KY.out _).mono ?_
  rintro e w7 ⟨rfl, hb0⟩
  have hb := hb0.below
  clear hb0
  have HX_a7 := Lib.hid (show Box w7 p 29 #[.int .i64 x1, .int .u64 (qx : Int), .bool false] from HX_a6.out.of (hb.block _ HX_a6.out.lt))
  have HX_b7 := Lib.hid (show Box w7 (p + 1) 29 #[.int .i64 y1, .int .u64 (qy : Int), .bool true] from HX_b6.out.of (hb.block _ HX_b6.out.lt))
  clear HX_a6 HX_b6
  have HB7 := Lib.hid (HB6.out.trans (hb.mono HB6.out.size))
  clear hb HB6
  clear c_b0 c_b1 c_b2
  have c_a1 := HX_a7.out.cell 1
  have c_a2 := HX_a7.out.cell 2
  have c_b1 := HX_b7.out.cell 1
  have c_b2 := HX_b7.out.cell 2
  go_wp2_with fail
  refine (HBl.out _).mono ?_
  rintro e w10 ⟨rfl, rfl⟩
  go_wp2_with fail
  refine (HBl.out _).mono ?_
  rintro e w11 ⟨rfl, rfl⟩
  go_wp2_with fail
  go_ret
  refine ⟨?_, HB7.out⟩
  simp [HLT.out]
set_option maxHeartbeats 4000000 in
theorem keys_false_false (x1 : Int) (x2 : Nat) (y1 : Int) (y2 : Nat) (c : Int) (w : World) :
    Calls Try.prog 5 #[.agg #[.int .i64 x1, .int .u64 (x2 : Int), .bool false], .agg #[.int .i64 y1, .int .u64 (y2 : Int), .bool false], .int .i64 c] w fun e w' => e = .returned (.bool true) ∧ Below w.heap.size w w' := by
  have hrx := rem_62 x2
  have hry := rem_62 y2
  obtain ⟨qx, hqx⟩ : ∃ q, q = x2 % 4611686018427387904 := ⟨_, rfl⟩
  obtain ⟨qy, hqy⟩ : ∃ q, q = y2 % 4611686018427387904 := ⟨_, rfl⟩
  have hx9 : qx < 4611686018427387904 := by omega
  have hy9 : qy < 4611686018427387904 := by omega
  rw [← hqx] at hrx
  rw [← hqy] at hry
  clear hqx hqy
  have KX := Lib.hid (fun W => key_any (x1, qx, false) W)
  have KY := Lib.hid (fun W => key_any (y1, qy, false) W)
  rw [pkey_low _ _ _ hx9] at KX
  rw [pkey_low _ _ _ hy9] at KY
  obtain ⟨kx, hkx⟩ : ∃ k, k = qx + if false then 0 else 4611686018427387904 := ⟨_, rfl⟩
  obtain ⟨ky, hky⟩ : ∃ k, k = qy + if false then 0 else 4611686018427387904 := ⟨_, rfl⟩
  rw [← hkx] at KX
  rw [← hky] at KY
  rw [if_neg (by decide)] at hkx
  rw [if_neg (by decide)] at hky
  obtain ⟨z, hz⟩ : ∃ z, z = c % 2147483648 := ⟨_, rfl⟩
  have hz9 : 0 ≤ z ∧ z < 2147483648 := by omega
  have hu1 : IntKind.u64.wrap c = c % 18446744073709551616 := by rw [IntKind.wrap_u64]
  obtain ⟨u, hu⟩ : ∃ u, u = c % 18446744073709551616 := ⟨_, rfl⟩
  have hu9 : 0 ≤ u ∧ u < 18446744073709551616 := by omega
  have hu3 : u.tmod 2147483648 = z := by rw [Int.tmod_eq_emod_of_nonneg hu9.1]; omega
  have HBl : Hid (∀ W, Calls Try.prog 13 #[.int .i64 c] W fun e w' => e = .returned (.int .u64 (9223372036854775808 + z)) ∧ w' = W) := fun W => by
    have := blank_any c W
    unfold blankI at this
    rw [← hz] at this
    exact this
  rw [← hu] at hu1
  have hge : ¬ (kx : Int) ≥ 9223372036854775808 + z := by omega
  have hge2 : ¬ 9223372036854775808 + z ≤ (kx : Int) := by omega
  have HLT : Hid (kx < ky ↔ qx < qy) := by show _ ↔ _; omega
  have hk9 : kx < 9223372036854775808 ∧ ky < 9223372036854775808 := by omega
  clear hkx hky hz hu hu9
  obtain ⟨p, hp⟩ : ∃ p, w.heap.size = p := ⟨_, rfl⟩
  obtain ⟨w2, hw2⟩ : ∃ w2, (w.alloc (.cells #[.int .i64 x1, .int .u64 (x2 : Int), .bool false] 29)).alloc (.cells #[.int .i64 y1, .int .u64 (y2 : Int), .bool false] 29) = w2 := ⟨_, rfl⟩
  have hx0 : Box w2 p 29 #[.int .i64 x1, .int .u64 (x2 : Int), .bool false] := by rw [← hw2, ← hp]; exact (Box.new w _ _).alloc _
  have hy0 : Box w2 (p + 1) 29 #[.int .i64 y1, .int .u64 (y2 : Int), .bool false] := by rw [← hw2, ← hp]; simpa using Box.new (w.alloc (.cells #[.int .i64 x1, .int .u64 (x2 : Int), .bool false] 29)) 29 #[.int .i64 y1, .int .u64 (y2 : Int), .bool false]
  have hB : Below w.heap.size w w2 := by rw [← hw2]; exact ((Below.refl _ w).alloc (Nat.le_refl _) _).alloc (by simp) _
  have HX_a2 := Lib.hid hx0
  have HX_b2 := Lib.hid hy0
  have HB2 := Lib.hid hB
  have HS_a : Hid (w.heap.size ≤ p) := by show _ ≤ _; omega
  have HS_b : Hid (w.heap.size ≤ p + 1) := by show _ ≤ _; omega
  have HPP := Lib.hid hp
  have HW := Lib.hid hw2
  clear hx0 hy0 hB hp hw2
  go_enter Try.func5, Try.ntmps5
  go_upto_region 1 with fail
  simp only [HPP.out, HW.out]
  clear HPP HW
  go_wp2_with fail
  refine (pshown_any _).mono ?_
  rintro e w3 ⟨rfl, hb⟩
  have HX_a3 := Lib.hid (show Box w3 p 29 #[.int .i64 x1, .int .u64 (x2 : Int), .bool false] from HX_a2.out.of (hb.block _ HX_a2.out.lt))
  have HX_b3 := Lib.hid (show Box w3 (p + 1) 29 #[.int .i64 y1, .int .u64 (y2 : Int), .bool false] from HX_b2.out.of (hb.block _ HX_b2.out.lt))
  clear HX_a2 HX_b2
  have HB3 := Lib.hid (HB2.out.trans (hb.mono HB2.out.size))
  clear hb HB2
  have c9 : w3.cell? ⟨p, 1, none⟩ = some (.int .u64 (x2 : Int)) := HX_a3.out.cell 1
  have f9 := HX_a3.out.frozen 1
  go_upto_region 3 with (fail)
  obtain ⟨w4, hw9⟩ : ∃ w9, w3.setCell ⟨p, 1, none⟩ (.int .u64 (qx : Int)) = w9 := ⟨_, rfl⟩
  have HX_a4 := Lib.hid (show Box w4 p 29 #[.int .i64 x1, .int .u64 (qx : Int), .bool false] by rw [← hw9]; exact HX_a3.out.put 1 _)
  have HX_b4 := Lib.hid (show Box w4 (p + 1) 29 #[.int .i64 y1, .int .u64 (y2 : Int), .bool false] by rw [← hw9]; exact HX_b3.out.far (a := ⟨p, 1, none⟩) (by first | (show p + 1 ≠ p; omega) | (show p ≠ p + 1; omega)) _)
  have HB4 := Lib.hid (show Below w.heap.size w w4 by rw [← hw9]; exact HB3.out.setCell (p := ⟨p, 1, none⟩) (by show w.heap.size ≤ p; exact HS_a.out) _)
  simp only [hw9]
  clear c9 f9 hw9 HB3 HX_a3 HX_b3
  have c9 : w4.cell? ⟨p + 1, 1, none⟩ = some (.int .u64 (y2 : Int)) := HX_b4.out.cell 1
  have f9 := HX_b4.out.frozen 1
  go_upto_region 4 with (fail)
  obtain ⟨w5, hw9⟩ : ∃ w9, w4.setCell ⟨p + 1, 1, none⟩ (.int .u64 (qy : Int)) = w9 := ⟨_, rfl⟩
  have HX_a5 := Lib.hid (show Box w5 p 29 #[.int .i64 x1, .int .u64 (qx : Int), .bool false] by rw [← hw9]; exact HX_a4.out.far (a := ⟨p + 1, 1, none⟩) (by first | (show p + 1 ≠ p; omega) | (show p ≠ p + 1; omega)) _)
  have HX_b5 := Lib.hid (show Box w5 (p + 1) 29 #[.int .i64 y1, .int .u64 (qy : Int), .bool false] by rw [← hw9]; exact HX_b4.out.put 1 _)
  have HB5 := Lib.hid (show Below w.heap.size w w5 by rw [← hw9]; exact HB4.out.setCell (p := ⟨p + 1, 1, none⟩) (by show w.heap.size ≤ p + 1; exact HS_b.out) _)
  simp only [hw9]
  clear c9 f9 hw9 HB4 HX_a4 HX_b4
  have c_a0 : w5.cell? ⟨p, 0, none⟩ = some (.int .i64 x1) := HX_a5.out.cell 0
  have c_a1 : w5.cell? ⟨p, 1, none⟩ = some (.int .u64 (qx : Int)) := HX_a5.out.cell 1
  have c_a2 : w5.cell? ⟨p, 2, none⟩ = some (.bool false) := HX_a5.out.cell 2
  go_wp2_with fail
  refine (KX.out _).mono ?_
  rintro e w6 ⟨rfl, hb0⟩
  have hb := hb0.below
  clear hb0
  have HX_a6 := Lib.hid (show Box w6 p 29 #[.int .i64 x1, .int .u64 (qx : Int), .bool false] from HX_a5.out.of (hb.block _ HX_a5.out.lt))
  have HX_b6 := Lib.hid (show Box w6 (p + 1) 29 #[.int .i64 y1, .int .u64 (qy : Int), .bool false] from HX_b5.out.of (hb.block _ HX_b5.out.lt))
  clear HX_a5 HX_b5
  have HB6 := Lib.hid (HB5.out.trans (hb.mono HB5.out.size))
  clear hb HB5
  clear c_a0 c_a1 c_a2
  have c_b0 : w6.cell? ⟨p + 1, 0, none⟩ = some (.int .i64 y1) := HX_b6.out.cell 0
  have c_b1 : w6.cell? ⟨p + 1, 1, none⟩ = some (.int .u64 (qy : Int)) := HX_b6.out.cell 1
  have c_b2 : w6.cell? ⟨p + 1, 2, none⟩ = some (.bool false) := HX_b6.out.cell 2
  go_wp2_with fail
  refine (KY.out _).mono ?_
  rintro e w7 ⟨rfl, hb0⟩
  have hb := hb0.below
  clear hb0
  have HX_a7 := Lib.hid (show Box w7 p 29 #[.int .i64 x1, .int .u64 (qx : Int), .bool false] from HX_a6.out.of (hb.block _ HX_a6.out.lt))
  have HX_b7 := Lib.hid (show Box w7 (p + 1) 29 #[.int .i64 y1, .int .u64 (qy : Int), .bool false] from HX_b6.out.of (hb.block _ HX_b6.out.lt))
  clear HX_a6 HX_b6
  have HB7 := Lib.hid (HB6.out.trans (hb.mono HB6.out.size))
  clear hb HB6
  clear c_b0 c_b1 c_b2
  have c_a1 := HX_a7.out.cell 1
  have c_a2 := HX_a7.out.cell 2
  have c_b1 := HX_b7.out.cell 1
  have c_b2 := HX_b7.out.cell 2
  go_wp2_with fail
  refine (HBl.out _).mono ?_
  rintro e w10 ⟨rfl, rfl⟩
  go_wp2_with fail
  refine (HBl.out _).mono ?_
  rintro e w11 ⟨rfl, rfl⟩
  go_wp2_with fail
  go_ret
  refine ⟨?_, HB7.out⟩
  simp [HLT.out]
theorem keys_law (x y : Pi) (c : Int) (w : World) :
    Calls Try.prog 5 #[.agg (pc x).toArray, .agg (pc y).toArray, .int .i64 c] w fun e w' => e = .returned (.bool true) ∧ Below w.heap.size w w' := by
  obtain ⟨x1, x2, x3⟩ := x
  obtain ⟨y1, y2, y3⟩ := y
  cases x3 <;> cases y3
  · exact keys_false_false x1 x2 y1 y2 c w
  · exact keys_false_true x1 x2 y1 y2 c w
  · exact keys_true_false x1 x2 y1 y2 c w
  · exact keys_true_true x1 x2 y1 y2 c w
end Go.Proofs.Ytigifbijmchdcaa
