/- The walk of the law on what is too long: a key or a value of more than seven bytes is told so. Conditions: numbers and lengths are ints. -/
import Derived.Test.YtpnjeoilkaimmaaOpLaw
import Derived.Test.YtpnjeoilkaimmaaOpMore
import Derived.Test.YtpnjeoilkaimmaaOpRefS
import Derived.Test.YtpnjeoilkaimmaaRng
namespace Go.Proofs.Ytpnjeoilkaimmaa
open Go.RowKit Go.ChangeShapes Go.WideShapes Go.ChangeAt

theorem tdiv_rng (f : Int) (hf : -9223372036854775808 ≤ f ∧ f ≤ 9223372036854775807) : -9223372036854775808 ≤ f.tdiv 256 ∧ f.tdiv 256 ≤ 9223372036854775807 := by
  rcases Int.le_total 0 f with h | h
  · rw [Int.tdiv_eq_ediv_of_nonneg h]; omega
  · have e : f = -(-f) := by omega
    rw [e, Int.neg_tdiv, Int.tdiv_eq_ediv_of_nonneg (by omega)]; omega
theorem any_u8 (n : Int) : ∃ a : UInt8, n % 256 = (a.toNat : Int) := ⟨UInt8.ofNat (n % 256).toNat, by rw [u8_back _ (by omega)]; omega⟩
theorem prs_key (k : Int) (key : List UInt8) (h : k = 1 ∨ k = 2 ∨ k = 4) (hl : key.length ≤ 255) :
    prs (ltr k :: UInt8.ofNat key.length :: key) = if key.length ≤ 7 then (⟨k, wd (BA key), 0, 0⟩, 0) else (.z, 4) := by
  have hk : knd (ltr k) = k := knd_ltr k (by omega) (by omega)
  have ht := tex_in (UInt8.ofNat key.length) key [] (u8_back _ (by omega))
  rw [List.append_nil] at ht
  have hb : bdy k (UInt8.ofNat key.length :: key) = some (0, [], key) := by
    unfold bdy; rw [if_neg (by omega), if_neg (by omega), ht]
  unfold prs
  simp only
  rw [hk, if_neg (show ¬ k = 0 by omega), hb]
  simp only
  have z0 : wd (BA []) = 0 := by decide
  by_cases h7 : key.length ≤ 7
  · rw [if_pos ⟨by simp, h7⟩, if_pos h7, z0]; rfl
  · rw [if_neg (fun h => h7 h.2), if_neg h7]
theorem prs_put (a b : UInt8) (val key : List UInt8) (hv : val.length ≤ 255) (hl : key.length ≤ 255) :
    prs (80 :: a :: b :: UInt8.ofNat val.length :: (val ++ UInt8.ofNat key.length :: key)) = if val.length ≤ 7 ∧ key.length ≤ 7 then (⟨3, wd (BA key), wd (BA val), ((a.toNat + 256 * b.toNat : Nat) : Int)⟩, 0) else (.z, 4) := by
  have ht := tex_in (UInt8.ofNat key.length) key [] (u8_back _ (by omega))
  rw [List.append_nil] at ht
  have hu := tex_in (UInt8.ofNat val.length) val (UInt8.ofNat key.length :: key) (u8_back _ (by omega))
  have hb : bdy 3 (a :: b :: UInt8.ofNat val.length :: (val ++ UInt8.ofNat key.length :: key)) = some (a.toNat + 256 * b.toNat, val, key) := by
    unfold bdy; rw [if_pos rfl]; simp only; rw [hu]; simp only; rw [ht]
  unfold prs
  simp only
  rw [show knd 80 = 3 from rfl, if_neg (by decide), hb]
set_option maxHeartbeats 4000000 in
theorem long_lo (k : Int) (key val : List UInt8) (f : Int) (w : World) (hk : k < 1) :
    Calls Try.prog 5 #[.int .i64 k, .string (BA key), .string (BA val), .int .i64 f] w fun e w' => e = .returned (.bool true) ∧ Below w.heap.size w w' := by
  have z1 : (BA key).size = key.length := rfl
  have z2 : (BA val).size = val.length := rfl
  have b1 : decide (k < 1) = true := by simp; omega
  clear hk
  go_enter Try.func5, Try.ntmps5
  go_wp2_with fail
  refine (opshown_any _).mono ?_
  rintro e w1 ⟨rfl, hb⟩
  have HB1 := Lib.hid hb
  clear hb
  go_wp2
  go_ret
  exact ⟨rfl, HB1.out⟩
set_option maxHeartbeats 4000000 in
theorem long_hi (k : Int) (key val : List UInt8) (f : Int) (w : World) (hk : 4 < k) :
    Calls Try.prog 5 #[.int .i64 k, .string (BA key), .string (BA val), .int .i64 f] w fun e w' => e = .returned (.bool true) ∧ Below w.heap.size w w' := by
  have z1 : (BA key).size = key.length := rfl
  have z2 : (BA val).size = val.length := rfl
  have b1 : decide (k < 1) = false := by simp; omega
  have b2 : decide (4 < k) = true := by simp; omega
  clear hk
  go_enter Try.func5, Try.ntmps5
  go_wp2_with fail
  refine (opshown_any _).mono ?_
  rintro e w1 ⟨rfl, hb⟩
  have HB1 := Lib.hid hb
  clear hb
  go_wp2
  go_ret
  exact ⟨rfl, HB1.out⟩
set_option maxHeartbeats 4000000 in
theorem long_key (k : Int) (key val : List UInt8) (f : Int) (w : World) (hk : 1 ≤ k) (hk4 : k ≤ 4) (hl : 255 < key.length) :
    Calls Try.prog 5 #[.int .i64 k, .string (BA key), .string (BA val), .int .i64 f] w fun e w' => e = .returned (.bool true) ∧ Below w.heap.size w w' := by
  have z1 : (BA key).size = key.length := rfl
  have z2 : (BA val).size = val.length := rfl
  have b1 : decide (k < 1) = false := by simp; omega
  have b2 : decide (4 < k) = false := by simp; omega
  have b3 : decide (255 < key.length) = true := by simp; omega
  have b3i : decide ((255 : Int) < (key.length : Int)) = true := by simp; omega
  clear hk hk4 hl
  go_enter Try.func5, Try.ntmps5
  go_wp2_with fail
  refine (opshown_any _).mono ?_
  rintro e w1 ⟨rfl, hb⟩
  have HB1 := Lib.hid hb
  clear hb
  go_wp2
  go_ret
  exact ⟨rfl, HB1.out⟩
set_option maxHeartbeats 4000000 in
theorem long_val (k : Int) (key val : List UInt8) (f : Int) (w : World) (hk : 1 ≤ k) (hk4 : k ≤ 4) (hl : key.length ≤ 255) (hv : 255 < val.length) :
    Calls Try.prog 5 #[.int .i64 k, .string (BA key), .string (BA val), .int .i64 f] w fun e w' => e = .returned (.bool true) ∧ Below w.heap.size w w' := by
  have z1 : (BA key).size = key.length := rfl
  have z2 : (BA val).size = val.length := rfl
  have b1 : decide (k < 1) = false := by simp; omega
  have b2 : decide (4 < k) = false := by simp; omega
  have b3 : decide (255 < key.length) = false := by simp; omega
  have b3i : decide ((255 : Int) < (key.length : Int)) = false := by simp; omega
  have b4 : decide (255 < val.length) = true := by simp; omega
  have b4i : decide ((255 : Int) < (val.length : Int)) = true := by simp; omega
  clear hk hk4 hl hv
  go_enter Try.func5, Try.ntmps5
  go_wp2_with fail
  refine (opshown_any _).mono ?_
  rintro e w1 ⟨rfl, hb⟩
  have HB1 := Lib.hid hb
  clear hb
  go_wp2
  go_ret
  exact ⟨rfl, HB1.out⟩
set_option maxHeartbeats 4000000 in
theorem long_1key (key val : List UInt8) (f : Int) (w : World) (hl : key.length ≤ 255) (hv : val.length ≤ 255) (hx : 7 < key.length) :
    Calls Try.prog 5 #[.int .i64 1, .string (BA key), .string (BA val), .int .i64 f] w fun e w' => e = .returned (.bool true) ∧ Below w.heap.size w w' := by
  have z1 : (BA key).size = key.length := rfl
  have z2 : (BA val).size = val.length := rfl
  have b3 : decide (255 < key.length) = false := by simp; omega
  have b3i : decide ((255 : Int) < (key.length : Int)) = false := by simp; omega
  have b4 : decide (255 < val.length) = false := by simp; omega
  have b4i : decide ((255 : Int) < (val.length : Int)) = false := by simp; omega
  have b5 : decide (7 < key.length) = true := by simp; omega
  have b5i : decide ((7 : Int) < (key.length : Int)) = true := by simp; omega
  have hex : (⟨#[63, 71, 75, 80, 68]⟩ : ByteArray).extract 1 2 = BA [71] := by rw [show (⟨#[63, 71, 75, 80, 68]⟩ : ByteArray) = BA [63, 71, 75, 80, 68] from rfl, BA_cut]; rfl
  have hp := prs_key 1 key (by decide) hl
  rw [if_neg (by omega)] at hp
  obtain ⟨S, hS⟩ : ∃ S, S = ltr 1 :: UInt8.ofNat key.length :: key := ⟨_, rfl⟩
  have HPS := Lib.hid (show BA [71] ++ BA [UInt8.ofNat key.length] ++ BA key = BA S by rw [BA_add, BA_add, hS]; rfl)
  have z80 : (BA [71]).size = 1 := rfl
  have zv : (BA [71] ++ BA [UInt8.ofNat key.length]).size = 2 := by rw [BA_add]; rfl
  have zk : (BA [UInt8.ofNat key.length]).size = 1 := rfl
  have HBK := Lib.hid (show brow [UInt8.ofNat key.length] = [.int .u8 (key.length : Int)] by unfold brow; simp only [List.map_cons, List.map_nil]; rw [u8_back _ (by omega)])
  rw [← hS] at hp
  have HP := Lib.hid (fun w => parse_any S w (by rw [hS]; simp; omega))
  unfold PsPost at HP
  rw [hp] at HP
  simp only [Ov.a, Ov.z] at HP
  have hk255 : (key.length : Int) ≤ 255 := by omega
  have hv255 : (val.length : Int) ≤ 255 := by omega
  clear hp hS hx
  go_enter Try.func5, Try.ntmps5
  go_wp2_with fail
  refine (opshown_any _).mono ?_
  rintro e w1 ⟨rfl, hb⟩
  have HB1 := Lib.hid hb
  clear hb
  have hcv2 : (convert 38 9 (.slice (some ⟨w1.heap.size, 0, none⟩) 1 1)).run Try.prog (w1.alloc (.cells #[.int .u8 (key.length : Int)] 5)) = .ok (.string (BA [UInt8.ofNat key.length])) (w1.alloc (.cells #[.int .u8 (key.length : Int)] 5)) := box_text (l := [UInt8.ofNat key.length]) (by rw [HBK.out]; exact Box.new w1 _ _)
  go_upto_region 8 with fail
  obtain ⟨w2, hw9⟩ : ∃ wy, w1.alloc (.cells #[.int .u8 (key.length : Int)] 5) = wy := ⟨_, rfl⟩
  try simp only [hw9]
  try simp only [HPS.out]
  have HB2 := Lib.hid (show Below w.heap.size w w2 by rw [← hw9]; exact HB1.out.alloc HB1.out.size _)
  clear hcv2 hw9 HB1
  go_wp2_with fail
  refine (HP.out _).mono ?_
  rintro e w3 ⟨rfl, hb⟩
  have HB3 := Lib.hid (HB2.out.trans (hb.mono HB2.out.size))
  clear hb HB2 HP
  go_upto_region 9 with fail
  obtain ⟨q, hq⟩ : ∃ q, w3.heap.size = q := ⟨_, rfl⟩
  obtain ⟨w4, hw9⟩ : ∃ wy, w3.alloc (.cells #[.int .i64 0, .int .u64 0, .int .u64 0, .int .i64 0] 24) = wy := ⟨_, rfl⟩
  have HX4 := Lib.hid (show Box w4 q 24 #[.int .i64 0, .int .u64 0, .int .u64 0, .int .i64 0] by rw [← hw9, ← hq]; exact Box.new _ _ _)
  have HB4 := Lib.hid (show Below w.heap.size w w4 by rw [← hw9]; exact HB3.out.alloc HB3.out.size _)
  try simp only [hw9, hq]
  clear hw9 hq HB3
  have o0 : w4.cell? ⟨q, 0, none⟩ = some (.int .i64 0) := HX4.out.cell 0
  have o1 : w4.cell? ⟨q, 1, none⟩ = some (.int .u64 0) := HX4.out.cell 1
  have o2 : w4.cell? ⟨q, 2, none⟩ = some (.int .u64 0) := HX4.out.cell 2
  have o3 : w4.cell? ⟨q, 3, none⟩ = some (.int .i64 0) := HX4.out.cell 3
  go_wp2
  go_ret
  exact ⟨rfl, HB4.out⟩
set_option maxHeartbeats 4000000 in
theorem long_1ok (key val : List UInt8) (f : Int) (w : World) (hl : key.length ≤ 255) (hv : val.length ≤ 255) (hx : key.length ≤ 7) :
    Calls Try.prog 5 #[.int .i64 1, .string (BA key), .string (BA val), .int .i64 f] w fun e w' => e = .returned (.bool true) ∧ Below w.heap.size w w' := by
  have z1 : (BA key).size = key.length := rfl
  have z2 : (BA val).size = val.length := rfl
  have b3 : decide (255 < key.length) = false := by simp; omega
  have b3i : decide ((255 : Int) < (key.length : Int)) = false := by simp; omega
  have b4 : decide (255 < val.length) = false := by simp; omega
  have b4i : decide ((255 : Int) < (val.length : Int)) = false := by simp; omega
  have b5 : decide (7 < key.length) = false := by simp; omega
  have b5i : decide ((7 : Int) < (key.length : Int)) = false := by simp; omega
  have hex : (⟨#[63, 71, 75, 80, 68]⟩ : ByteArray).extract 1 2 = BA [71] := by rw [show (⟨#[63, 71, 75, 80, 68]⟩ : ByteArray) = BA [63, 71, 75, 80, 68] from rfl, BA_cut]; rfl
  have hp := prs_key 1 key (by decide) hl
  rw [if_pos hx] at hp
  obtain ⟨S, hS⟩ : ∃ S, S = ltr 1 :: UInt8.ofNat key.length :: key := ⟨_, rfl⟩
  have HPS := Lib.hid (show BA [71] ++ BA [UInt8.ofNat key.length] ++ BA key = BA S by rw [BA_add, BA_add, hS]; rfl)
  have z80 : (BA [71]).size = 1 := rfl
  have zv : (BA [71] ++ BA [UInt8.ofNat key.length]).size = 2 := by rw [BA_add]; rfl
  have zk : (BA [UInt8.ofNat key.length]).size = 1 := rfl
  have HBK := Lib.hid (show brow [UInt8.ofNat key.length] = [.int .u8 (key.length : Int)] by unfold brow; simp only [List.map_cons, List.map_nil]; rw [u8_back _ (by omega)])
  rw [← hS] at hp
  have HP := Lib.hid (fun w => parse_any S w (by rw [hS]; simp; omega))
  unfold PsPost at HP
  rw [hp] at HP
  simp only [Ov.a] at HP
  have hrt := rt_word key hx
  have HTX := Lib.hid (fun w => text_yes (wd (BA key)) w (wd_small key hx) hrt)
  rw [tx_wd _ (by rw [BA_size]; exact hx)] at HTX
  have q1 : ((BA key).toList == (BA key).toList) = true := by simp
  have hk255 : (key.length : Int) ≤ 255 := by omega
  have hv255 : (val.length : Int) ≤ 255 := by omega
  clear hp hS hx hrt
  go_enter Try.func5, Try.ntmps5
  go_wp2_with fail
  refine (opshown_any _).mono ?_
  rintro e w1 ⟨rfl, hb⟩
  have HB1 := Lib.hid hb
  clear hb
  have hcv2 : (convert 38 9 (.slice (some ⟨w1.heap.size, 0, none⟩) 1 1)).run Try.prog (w1.alloc (.cells #[.int .u8 (key.length : Int)] 5)) = .ok (.string (BA [UInt8.ofNat key.length])) (w1.alloc (.cells #[.int .u8 (key.length : Int)] 5)) := box_text (l := [UInt8.ofNat key.length]) (by rw [HBK.out]; exact Box.new w1 _ _)
  go_upto_region 8 with fail
  obtain ⟨w2, hw9⟩ : ∃ wy, w1.alloc (.cells #[.int .u8 (key.length : Int)] 5) = wy := ⟨_, rfl⟩
  try simp only [hw9]
  try simp only [HPS.out]
  have HB2 := Lib.hid (show Below w.heap.size w w2 by rw [← hw9]; exact HB1.out.alloc HB1.out.size _)
  clear hcv2 hw9 HB1
  go_wp2_with fail
  refine (HP.out _).mono ?_
  rintro e w3 ⟨rfl, hb⟩
  have HB3 := Lib.hid (HB2.out.trans (hb.mono HB2.out.size))
  clear hb HB2 HP
  go_upto_region 9 with fail
  obtain ⟨q, hq⟩ : ∃ q, w3.heap.size = q := ⟨_, rfl⟩
  obtain ⟨w4, hw9⟩ : ∃ wy, w3.alloc (.cells #[.int .i64 1, .int .u64 (wd (BA key) : Nat), .int .u64 0, .int .i64 0] 24) = wy := ⟨_, rfl⟩
  have HX4 := Lib.hid (show Box w4 q 24 #[.int .i64 1, .int .u64 (wd (BA key) : Nat), .int .u64 0, .int .i64 0] by rw [← hw9, ← hq]; exact Box.new _ _ _)
  have HB4 := Lib.hid (show Below w.heap.size w w4 by rw [← hw9]; exact HB3.out.alloc HB3.out.size _)
  try simp only [hw9, hq]
  clear hw9 hq HB3
  have o0 : w4.cell? ⟨q, 0, none⟩ = some (.int .i64 1) := HX4.out.cell 0
  have o1 : w4.cell? ⟨q, 1, none⟩ = some (.int .u64 (wd (BA key) : Nat)) := HX4.out.cell 1
  have o2 : w4.cell? ⟨q, 2, none⟩ = some (.int .u64 0) := HX4.out.cell 2
  have o3 : w4.cell? ⟨q, 3, none⟩ = some (.int .i64 0) := HX4.out.cell 3
  go_wp2_with fail
  refine (HTX.out _).mono ?_
  rintro e w5 ⟨rfl, hb⟩
  have HX5 := Lib.hid (HX4.out.of (hb.block _ HX4.out.lt))
  have HB5 := Lib.hid (HB4.out.trans (hb.mono HB4.out.size))
  clear hb HB4 HX4 HTX o0 o1 o2 o3
  have o0 : w5.cell? ⟨q, 0, none⟩ = some (.int .i64 1) := HX5.out.cell 0
  have o1 : w5.cell? ⟨q, 1, none⟩ = some (.int .u64 (wd (BA key) : Nat)) := HX5.out.cell 1
  have o2 : w5.cell? ⟨q, 2, none⟩ = some (.int .u64 0) := HX5.out.cell 2
  have o3 : w5.cell? ⟨q, 3, none⟩ = some (.int .i64 0) := HX5.out.cell 3
  go_wp2
  go_ret
  exact ⟨rfl, HB5.out⟩
set_option maxHeartbeats 4000000 in
theorem long_2key (key val : List UInt8) (f : Int) (w : World) (hl : key.length ≤ 255) (hv : val.length ≤ 255) (hx : 7 < key.length) :
    Calls Try.prog 5 #[.int .i64 2, .string (BA key), .string (BA val), .int .i64 f] w fun e w' => e = .returned (.bool true) ∧ Below w.heap.size w w' := by
  have z1 : (BA key).size = key.length := rfl
  have z2 : (BA val).size = val.length := rfl
  have b3 : decide (255 < key.length) = false := by simp; omega
  have b3i : decide ((255 : Int) < (key.length : Int)) = false := by simp; omega
  have b4 : decide (255 < val.length) = false := by simp; omega
  have b4i : decide ((255 : Int) < (val.length : Int)) = false := by simp; omega
  have b5 : decide (7 < key.length) = true := by simp; omega
  have b5i : decide ((7 : Int) < (key.length : Int)) = true := by simp; omega
  have hex : (⟨#[63, 71, 75, 80, 68]⟩ : ByteArray).extract 2 3 = BA [75] := by rw [show (⟨#[63, 71, 75, 80, 68]⟩ : ByteArray) = BA [63, 71, 75, 80, 68] from rfl, BA_cut]; rfl
  have hp := prs_key 2 key (by decide) hl
  rw [if_neg (by omega)] at hp
  obtain ⟨S, hS⟩ : ∃ S, S = ltr 2 :: UInt8.ofNat key.length :: key := ⟨_, rfl⟩
  have HPS := Lib.hid (show BA [75] ++ BA [UInt8.ofNat key.length] ++ BA key = BA S by rw [BA_add, BA_add, hS]; rfl)
  have z80 : (BA [75]).size = 1 := rfl
  have zv : (BA [75] ++ BA [UInt8.ofNat key.length]).size = 2 := by rw [BA_add]; rfl
  have zk : (BA [UInt8.ofNat key.length]).size = 1 := rfl
  have HBK := Lib.hid (show brow [UInt8.ofNat key.length] = [.int .u8 (key.length : Int)] by unfold brow; simp only [List.map_cons, List.map_nil]; rw [u8_back _ (by omega)])
  rw [← hS] at hp
  have HP := Lib.hid (fun w => parse_any S w (by rw [hS]; simp; omega))
  unfold PsPost at HP
  rw [hp] at HP
  simp only [Ov.a, Ov.z] at HP
  have hk255 : (key.length : Int) ≤ 255 := by omega
  have hv255 : (val.length : Int) ≤ 255 := by omega
  clear hp hS hx
  go_enter Try.func5, Try.ntmps5
  go_wp2_with fail
  refine (opshown_any _).mono ?_
  rintro e w1 ⟨rfl, hb⟩
  have HB1 := Lib.hid hb
  clear hb
  have hcv2 : (convert 38 9 (.slice (some ⟨w1.heap.size, 0, none⟩) 1 1)).run Try.prog (w1.alloc (.cells #[.int .u8 (key.length : Int)] 5)) = .ok (.string (BA [UInt8.ofNat key.length])) (w1.alloc (.cells #[.int .u8 (key.length : Int)] 5)) := box_text (l := [UInt8.ofNat key.length]) (by rw [HBK.out]; exact Box.new w1 _ _)
  go_upto_region 8 with fail
  obtain ⟨w2, hw9⟩ : ∃ wy, w1.alloc (.cells #[.int .u8 (key.length : Int)] 5) = wy := ⟨_, rfl⟩
  try simp only [hw9]
  try simp only [HPS.out]
  have HB2 := Lib.hid (show Below w.heap.size w w2 by rw [← hw9]; exact HB1.out.alloc HB1.out.size _)
  clear hcv2 hw9 HB1
  go_wp2_with fail
  refine (HP.out _).mono ?_
  rintro e w3 ⟨rfl, hb⟩
  have HB3 := Lib.hid (HB2.out.trans (hb.mono HB2.out.size))
  clear hb HB2 HP
  go_upto_region 9 with fail
  obtain ⟨q, hq⟩ : ∃ q, w3.heap.size = q := ⟨_, rfl⟩
  obtain ⟨w4, hw9⟩ : ∃ wy, w3.alloc (.cells #[.int .i64 0, .int .u64 0, .int .u64 0, .int .i64 0] 24) = wy := ⟨_, rfl⟩
  have HX4 := Lib.hid (show Box w4 q 24 #[.int .i64 0, .int .u64 0, .int .u64 0, .int .i64 0] by rw [← hw9, ← hq]; exact Box.new _ _ _)
  have HB4 := Lib.hid (show Below w.heap.size w w4 by rw [← hw9]; exact HB3.out.alloc HB3.out.size _)
  try simp only [hw9, hq]
  clear hw9 hq HB3
  have o0 : w4.cell? ⟨q, 0, none⟩ = some (.int .i64 0) := HX4.out.cell 0
  have o1 : w4.cell? ⟨q, 1, none⟩ = some (.int .u64 0) := HX4.out.cell 1
  have o2 : w4.cell? ⟨q, 2, none⟩ = some (.int .u64 0) := HX4.out.cell 2
  have o3 : w4.cell? ⟨q, 3, none⟩ = some (.int .i64 0) := HX4.out.cell 3
  go_wp2
  go_ret
  exact ⟨rfl, HB4.out⟩
set_option maxHeartbeats 4000000 in
theorem long_2ok (key val : List UInt8) (f : Int) (w : World) (hl : key.length ≤ 255) (hv : val.length ≤ 255) (hx : key.length ≤ 7) :
    Calls Try.prog 5 #[.int .i64 2, .string (BA key), .string (BA val), .int .i64 f] w fun e w' => e = .returned (.bool true) ∧ Below w.heap.size w w' := by
  have z1 : (BA key).size = key.length := rfl
  have z2 : (BA val).size = val.length := rfl
  have b3 : decide (255 < key.length) = false := by simp; omega
  have b3i : decide ((255 : Int) < (key.length : Int)) = false := by simp; omega
  have b4 : decide (255 < val.length) = false := by simp; omega
  have b4i : decide ((255 : Int) < (val.length : Int)) = false := by simp; omega
  have b5 : decide (7 < key.length) = false := by simp; omega
  have b5i : decide ((7 : Int) < (key.length : Int)) = false := by simp; omega
  have hex : (⟨#[63, 71, 75, 80, 68]⟩ : ByteArray).extract 2 3 = BA [75] := by rw [show (⟨#[63, 71, 75, 80, 68]⟩ : ByteArray) = BA [63, 71, 75, 80, 68] from rfl, BA_cut]; rfl
  have hp := prs_key 2 key (by decide) hl
  rw [if_pos hx] at hp
  obtain ⟨S, hS⟩ : ∃ S, S = ltr 2 :: UInt8.ofNat key.length :: key := ⟨_, rfl⟩
  have HPS := Lib.hid (show BA [75] ++ BA [UInt8.ofNat key.length] ++ BA key = BA S by rw [BA_add, BA_add, hS]; rfl)
  have z80 : (BA [75]).size = 1 := rfl
  have zv : (BA [75] ++ BA [UInt8.ofNat key.length]).size = 2 := by rw [BA_add]; rfl
  have zk : (BA [UInt8.ofNat key.length]).size = 1 := rfl
  have HBK := Lib.hid (show brow [UInt8.ofNat key.length] = [.int .u8 (key.length : Int)] by unfold brow; simp only [List.map_cons, List.map_nil]; rw [u8_back _ (by omega)])
  rw [← hS] at hp
  have HP := Lib.hid (fun w => parse_any S w (by rw [hS]; simp; omega))
  unfold PsPost at HP
  rw [hp] at HP
  simp only [Ov.a] at HP
  have hrt := rt_word key hx
  have HTX := Lib.hid (fun w => text_yes (wd (BA key)) w (wd_small key hx) hrt)
  rw [tx_wd _ (by rw [BA_size]; exact hx)] at HTX
  have q1 : ((BA key).toList == (BA key).toList) = true := by simp
  have hk255 : (key.length : Int) ≤ 255 := by omega
  have hv255 : (val.length : Int) ≤ 255 := by omega
  clear hp hS hx hrt
  go_enter Try.func5, Try.ntmps5
  go_wp2_with fail
  refine (opshown_any _).mono ?_
  rintro e w1 ⟨rfl, hb⟩
  have HB1 := Lib.hid hb
  clear hb
  have hcv2 : (convert 38 9 (.slice (some ⟨w1.heap.size, 0, none⟩) 1 1)).run Try.prog (w1.alloc (.cells #[.int .u8 (key.length : Int)] 5)) = .ok (.string (BA [UInt8.ofNat key.length])) (w1.alloc (.cells #[.int .u8 (key.length : Int)] 5)) := box_text (l := [UInt8.ofNat key.length]) (by rw [HBK.out]; exact Box.new w1 _ _)
  go_upto_region 8 with fail
  obtain ⟨w2, hw9⟩ : ∃ wy, w1.alloc (.cells #[.int .u8 (key.length : Int)] 5) = wy := ⟨_, rfl⟩
  try simp only [hw9]
  try simp only [HPS.out]
  have HB2 := Lib.hid (show Below w.heap.size w w2 by rw [← hw9]; exact HB1.out.alloc HB1.out.size _)
  clear hcv2 hw9 HB1
  go_wp2_with fail
  refine (HP.out _).mono ?_
  rintro e w3 ⟨rfl, hb⟩
  have HB3 := Lib.hid (HB2.out.trans (hb.mono HB2.out.size))
  clear hb HB2 HP
  go_upto_region 9 with fail
  obtain ⟨q, hq⟩ : ∃ q, w3.heap.size = q := ⟨_, rfl⟩
  obtain ⟨w4, hw9⟩ : ∃ wy, w3.alloc (.cells #[.int .i64 2, .int .u64 (wd (BA key) : Nat), .int .u64 0, .int .i64 0] 24) = wy := ⟨_, rfl⟩
  have HX4 := Lib.hid (show Box w4 q 24 #[.int .i64 2, .int .u64 (wd (BA key) : Nat), .int .u64 0, .int .i64 0] by rw [← hw9, ← hq]; exact Box.new _ _ _)
  have HB4 := Lib.hid (show Below w.heap.size w w4 by rw [← hw9]; exact HB3.out.alloc HB3.out.size _)
  try simp only [hw9, hq]
  clear hw9 hq HB3
  have o0 : w4.cell? ⟨q, 0, none⟩ = some (.int .i64 2) := HX4.out.cell 0
  have o1 : w4.cell? ⟨q, 1, none⟩ = some (.int .u64 (wd (BA key) : Nat)) := HX4.out.cell 1
  have o2 : w4.cell? ⟨q, 2, none⟩ = some (.int .u64 0) := HX4.out.cell 2
  have o3 : w4.cell? ⟨q, 3, none⟩ = some (.int .i64 0) := HX4.out.cell 3
  go_wp2_with fail
  refine (HTX.out _).mono ?_
  rintro e w5 ⟨rfl, hb⟩
  have HX5 := Lib.hid (HX4.out.of (hb.block _ HX4.out.lt))
  have HB5 := Lib.hid (HB4.out.trans (hb.mono HB4.out.size))
  clear hb HB4 HX4 HTX o0 o1 o2 o3
  have o0 : w5.cell? ⟨q, 0, none⟩ = some (.int .i64 2) := HX5.out.cell 0
  have o1 : w5.cell? ⟨q, 1, none⟩ = some (.int .u64 (wd (BA key) : Nat)) := HX5.out.cell 1
  have o2 : w5.cell? ⟨q, 2, none⟩ = some (.int .u64 0) := HX5.out.cell 2
  have o3 : w5.cell? ⟨q, 3, none⟩ = some (.int .i64 0) := HX5.out.cell 3
  go_wp2
  go_ret
  exact ⟨rfl, HB5.out⟩
set_option maxHeartbeats 4000000 in
theorem long_4key (key val : List UInt8) (f : Int) (w : World) (hl : key.length ≤ 255) (hv : val.length ≤ 255) (hx : 7 < key.length) :
    Calls Try.prog 5 #[.int .i64 4, .string (BA key), .string (BA val), .int .i64 f] w fun e w' => e = .returned (.bool true) ∧ Below w.heap.size w w' := by
  have z1 : (BA key).size = key.length := rfl
  have z2 : (BA val).size = val.length := rfl
  have b3 : decide (255 < key.length) = false := by simp; omega
  have b3i : decide ((255 : Int) < (key.length : Int)) = false := by simp; omega
  have b4 : decide (255 < val.length) = false := by simp; omega
  have b4i : decide ((255 : Int) < (val.length : Int)) = false := by simp; omega
  have b5 : decide (7 < key.length) = true := by simp; omega
  have b5i : decide ((7 : Int) < (key.length : Int)) = true := by simp; omega
  have hex : (⟨#[63, 71, 75, 80, 68]⟩ : ByteArray).extract 4 5 = BA [68] := by rw [show (⟨#[63, 71, 75, 80, 68]⟩ : ByteArray) = BA [63, 71, 75, 80, 68] from rfl, BA_cut]; rfl
  have hp := prs_key 4 key (by decide) hl
  rw [if_neg (by omega)] at hp
  obtain ⟨S, hS⟩ : ∃ S, S = ltr 4 :: UInt8.ofNat key.length :: key := ⟨_, rfl⟩
  have HPS := Lib.hid (show BA [68] ++ BA [UInt8.ofNat key.length] ++ BA key = BA S by rw [BA_add, BA_add, hS]; rfl)
  have z80 : (BA [68]).size = 1 := rfl
  have zv : (BA [68] ++ BA [UInt8.ofNat key.length]).size = 2 := by rw [BA_add]; rfl
  have zk : (BA [UInt8.ofNat key.length]).size = 1 := rfl
  have HBK := Lib.hid (show brow [UInt8.ofNat key.length] = [.int .u8 (key.length : Int)] by unfold brow; simp only [List.map_cons, List.map_nil]; rw [u8_back _ (by omega)])
  rw [← hS] at hp
  have HP := Lib.hid (fun w => parse_any S w (by rw [hS]; simp; omega))
  unfold PsPost at HP
  rw [hp] at HP
  simp only [Ov.a, Ov.z] at HP
  have hk255 : (key.length : Int) ≤ 255 := by omega
  have hv255 : (val.length : Int) ≤ 255 := by omega
  clear hp hS hx
  go_enter Try.func5, Try.ntmps5
  go_wp2_with fail
  refine (opshown_any _).mono ?_
  rintro e w1 ⟨rfl, hb⟩
  have HB1 := Lib.hid hb
  clear hb
  have hcv2 : (convert 38 9 (.slice (some ⟨w1.heap.size, 0, none⟩) 1 1)).run Try.prog (w1.alloc (.cells #[.int .u8 (key.length : Int)] 5)) = .ok (.string (BA [UInt8.ofNat key.length])) (w1.alloc (.cells #[.int .u8 (key.length : Int)] 5)) := box_text (l := [UInt8.ofNat key.length]) (by rw [HBK.out]; exact Box.new w1 _ _)
  go_upto_region 8 with fail
  obtain ⟨w2, hw9⟩ : ∃ wy, w1.alloc (.cells #[.int .u8 (key.length : Int)] 5) = wy := ⟨_, rfl⟩
  try simp only [hw9]
  try simp only [HPS.out]
  have HB2 := Lib.hid (show Below w.heap.size w w2 by rw [← hw9]; exact HB1.out.alloc HB1.out.size _)
  clear hcv2 hw9 HB1
  go_wp2_with fail
  refine (HP.out _).mono ?_
  rintro e w3 ⟨rfl, hb⟩
  have HB3 := Lib.hid (HB2.out.trans (hb.mono HB2.out.size))
  clear hb HB2 HP
  go_upto_region 9 with fail
  obtain ⟨q, hq⟩ : ∃ q, w3.heap.size = q := ⟨_, rfl⟩
  obtain ⟨w4, hw9⟩ : ∃ wy, w3.alloc (.cells #[.int .i64 0, .int .u64 0, .int .u64 0, .int .i64 0] 24) = wy := ⟨_, rfl⟩
  have HX4 := Lib.hid (show Box w4 q 24 #[.int .i64 0, .int .u64 0, .int .u64 0, .int .i64 0] by rw [← hw9, ← hq]; exact Box.new _ _ _)
  have HB4 := Lib.hid (show Below w.heap.size w w4 by rw [← hw9]; exact HB3.out.alloc HB3.out.size _)
  try simp only [hw9, hq]
  clear hw9 hq HB3
  have o0 : w4.cell? ⟨q, 0, none⟩ = some (.int .i64 0) := HX4.out.cell 0
  have o1 : w4.cell? ⟨q, 1, none⟩ = some (.int .u64 0) := HX4.out.cell 1
  have o2 : w4.cell? ⟨q, 2, none⟩ = some (.int .u64 0) := HX4.out.cell 2
  have o3 : w4.cell? ⟨q, 3, none⟩ = some (.int .i64 0) := HX4.out.cell 3
  go_wp2
  go_ret
  exact ⟨rfl, HB4.out⟩
set_option maxHeartbeats 4000000 in
theorem long_4ok (key val : List UInt8) (f : Int) (w : World) (hl : key.length ≤ 255) (hv : val.length ≤ 255) (hx : key.length ≤ 7) :
    Calls Try.prog 5 #[.int .i64 4, .string (BA key), .string (BA val), .int .i64 f] w fun e w' => e = .returned (.bool true) ∧ Below w.heap.size w w' := by
  have z1 : (BA key).size = key.length := rfl
  have z2 : (BA val).size = val.length := rfl
  have b3 : decide (255 < key.length) = false := by simp; omega
  have b3i : decide ((255 : Int) < (key.length : Int)) = false := by simp; omega
  have b4 : decide (255 < val.length) = false := by simp; omega
  have b4i : decide ((255 : Int) < (val.length : Int)) = false := by simp; omega
  have b5 : decide (7 < key.length) = false := by simp; omega
  have b5i : decide ((7 : Int) < (key.length : Int)) = false := by simp; omega
  have hex : (⟨#[63, 71, 75, 80, 68]⟩ : ByteArray).extract 4 5 = BA [68] := by rw [show (⟨#[63, 71, 75, 80, 68]⟩ : ByteArray) = BA [63, 71, 75, 80, 68] from rfl, BA_cut]; rfl
  have hp := prs_key 4 key (by decide) hl
  rw [if_pos hx] at hp
  obtain ⟨S, hS⟩ : ∃ S, S = ltr 4 :: UInt8.ofNat key.length :: key := ⟨_, rfl⟩
  have HPS := Lib.hid (show BA [68] ++ BA [UInt8.ofNat key.length] ++ BA key = BA S by rw [BA_add, BA_add, hS]; rfl)
  have z80 : (BA [68]).size = 1 := rfl
  have zv : (BA [68] ++ BA [UInt8.ofNat key.length]).size = 2 := by rw [BA_add]; rfl
  have zk : (BA [UInt8.ofNat key.length]).size = 1 := rfl
  have HBK := Lib.hid (show brow [UInt8.ofNat key.length] = [.int .u8 (key.length : Int)] by unfold brow; simp only [List.map_cons, List.map_nil]; rw [u8_back _ (by omega)])
  rw [← hS] at hp
  have HP := Lib.hid (fun w => parse_any S w (by rw [hS]; simp; omega))
  unfold PsPost at HP
  rw [hp] at HP
  simp only [Ov.a] at HP
  have hrt := rt_word key hx
  have HTX := Lib.hid (fun w => text_yes (wd (BA key)) w (wd_small key hx) hrt)
  rw [tx_wd _ (by rw [BA_size]; exact hx)] at HTX
  have q1 : ((BA key).toList == (BA key).toList) = true := by simp
  have hk255 : (key.length : Int) ≤ 255 := by omega
  have hv255 : (val.length : Int) ≤ 255 := by omega
  clear hp hS hx hrt
  go_enter Try.func5, Try.ntmps5
  go_wp2_with fail
  refine (opshown_any _).mono ?_
  rintro e w1 ⟨rfl, hb⟩
  have HB1 := Lib.hid hb
  clear hb
  have hcv2 : (convert 38 9 (.slice (some ⟨w1.heap.size, 0, none⟩) 1 1)).run Try.prog (w1.alloc (.cells #[.int .u8 (key.length : Int)] 5)) = .ok (.string (BA [UInt8.ofNat key.length])) (w1.alloc (.cells #[.int .u8 (key.length : Int)] 5)) := box_text (l := [UInt8.ofNat key.length]) (by rw [HBK.out]; exact Box.new w1 _ _)
  go_upto_region 8 with fail
  obtain ⟨w2, hw9⟩ : ∃ wy, w1.alloc (.cells #[.int .u8 (key.length : Int)] 5) = wy := ⟨_, rfl⟩
  try simp only [hw9]
  try simp only [HPS.out]
  have HB2 := Lib.hid (show Below w.heap.size w w2 by rw [← hw9]; exact HB1.out.alloc HB1.out.size _)
  clear hcv2 hw9 HB1
  go_wp2_with fail
  refine (HP.out _).mono ?_
  rintro e w3 ⟨rfl, hb⟩
  have HB3 := Lib.hid (HB2.out.trans (hb.mono HB2.out.size))
  clear hb HB2 HP
  go_upto_region 9 with fail
  obtain ⟨q, hq⟩ : ∃ q, w3.heap.size = q := ⟨_, rfl⟩
  obtain ⟨w4, hw9⟩ : ∃ wy, w3.alloc (.cells #[.int .i64 4, .int .u64 (wd (BA key) : Nat), .int .u64 0, .int .i64 0] 24) = wy := ⟨_, rfl⟩
  have HX4 := Lib.hid (show Box w4 q 24 #[.int .i64 4, .int .u64 (wd (BA key) : Nat), .int .u64 0, .int .i64 0] by rw [← hw9, ← hq]; exact Box.new _ _ _)
  have HB4 := Lib.hid (show Below w.heap.size w w4 by rw [← hw9]; exact HB3.out.alloc HB3.out.size _)
  try simp only [hw9, hq]
  clear hw9 hq HB3
  have o0 : w4.cell? ⟨q, 0, none⟩ = some (.int .i64 4) := HX4.out.cell 0
  have o1 : w4.cell? ⟨q, 1, none⟩ = some (.int .u64 (wd (BA key) : Nat)) := HX4.out.cell 1
  have o2 : w4.cell? ⟨q, 2, none⟩ = some (.int .u64 0) := HX4.out.cell 2
  have o3 : w4.cell? ⟨q, 3, none⟩ = some (.int .i64 0) := HX4.out.cell 3
  go_wp2_with fail
  refine (HTX.out _).mono ?_
  rintro e w5 ⟨rfl, hb⟩
  have HX5 := Lib.hid (HX4.out.of (hb.block _ HX4.out.lt))
  have HB5 := Lib.hid (HB4.out.trans (hb.mono HB4.out.size))
  clear hb HB4 HX4 HTX o0 o1 o2 o3
  have o0 : w5.cell? ⟨q, 0, none⟩ = some (.int .i64 4) := HX5.out.cell 0
  have o1 : w5.cell? ⟨q, 1, none⟩ = some (.int .u64 (wd (BA key) : Nat)) := HX5.out.cell 1
  have o2 : w5.cell? ⟨q, 2, none⟩ = some (.int .u64 0) := HX5.out.cell 2
  have o3 : w5.cell? ⟨q, 3, none⟩ = some (.int .i64 0) := HX5.out.cell 3
  go_wp2
  go_ret
  exact ⟨rfl, HB5.out⟩
set_option maxHeartbeats 4000000 in
theorem long_3key (key val : List UInt8) (f : Int) (w : World) (hl : key.length ≤ 255) (hv : val.length ≤ 255) (hf : -9223372036854775808 ≤ f ∧ f ≤ 9223372036854775807) (hx : 7 < key.length) :
    Calls Try.prog 5 #[.int .i64 3, .string (BA key), .string (BA val), .int .i64 f] w fun e w' => e = .returned (.bool true) ∧ Below w.heap.size w w' := by
  have z1 : (BA key).size = key.length := rfl
  have z2 : (BA val).size = val.length := rfl
  have b3 : decide (255 < key.length) = false := by simp; omega
  have b3i : decide ((255 : Int) < (key.length : Int)) = false := by simp; omega
  have b4 : decide (255 < val.length) = false := by simp; omega
  have b4i : decide ((255 : Int) < (val.length : Int)) = false := by simp; omega
  have b5 : decide (7 < key.length) = true := by simp; omega
  have b5i : decide ((7 : Int) < (key.length : Int)) = true := by simp; omega
  have hex : (⟨#[63, 71, 75, 80, 68]⟩ : ByteArray).extract 3 4 = BA [80] := by rw [show (⟨#[63, 71, 75, 80, 68]⟩ : ByteArray) = BA [63, 71, 75, 80, 68] from rfl, BA_cut]; rfl
  obtain ⟨a, ha⟩ := any_u8 f
  obtain ⟨b, hb⟩ := any_u8 (f.tdiv 256)
  have hdw : wrap64 (f.tdiv 256) = f.tdiv 256 := by
    have := tdiv_rng f hf
    unfold wrap64; omega
  have hp := prs_put a b val key hv hl
  rw [if_neg (by omega)] at hp
  skip
  skip
  skip
  have hbr : brow [a, b, UInt8.ofNat val.length] = [.int .u8 (f % 256), .int .u8 (f.tdiv 256 % 256), .int .u8 (val.length : Int)] := by
    unfold brow
    simp only [List.map_cons, List.map_nil]
    rw [u8_back _ (by omega), ha, hb]
  have HBR := Lib.hid hbr
  obtain ⟨S, hS⟩ : ∃ S, S = 80 :: a :: b :: UInt8.ofNat val.length :: (val ++ UInt8.ofNat key.length :: key) := ⟨_, rfl⟩
  obtain ⟨P, hP⟩ : ∃ P, P = 80 :: a :: b :: UInt8.ofNat val.length :: val := ⟨_, rfl⟩
  have HPE := Lib.hid (show BA [80] ++ BA [a, b, UInt8.ofNat val.length] ++ BA val = BA P by rw [BA_add, BA_add, hP]; rfl)
  have zt : (BA [a, b, UInt8.ofNat val.length]).size = 3 := rfl
  have zp : (BA P).size = val.length + 4 := by rw [hP]; rfl
  have HPS := Lib.hid (show BA P ++ BA [UInt8.ofNat key.length] ++ BA key = BA S by rw [BA_add, BA_add, hP, hS]; simp)
  have z80 : (BA [80]).size = 1 := rfl
  have zu : (BA [80] ++ BA [a, b, UInt8.ofNat val.length]).size = 4 := by rw [BA_add]; rfl
  have zv : (BA P ++ BA [UInt8.ofNat key.length]).size = val.length + 5 := by rw [BA_add, hP]; simp [BA_size]
  have zk : (BA [UInt8.ofNat key.length]).size = 1 := rfl
  have HBK := Lib.hid (show brow [UInt8.ofNat key.length] = [.int .u8 (key.length : Int)] by unfold brow; simp only [List.map_cons, List.map_nil]; rw [u8_back _ (by omega)])
  rw [← hS] at hp
  have HP := Lib.hid (fun w => parse_any S w (by rw [hS]; simp; omega))
  unfold PsPost at HP
  rw [hp] at HP
  simp only [Ov.a, Ov.z] at HP
  have hk255 : (key.length : Int) ≤ 255 := by omega
  have hv255 : (val.length : Int) ≤ 255 := by omega
  obtain ⟨np, hne⟩ : ∃ np, np = val.length + 4 := ⟨_, rfl⟩
  obtain ⟨nq, hnf⟩ : ∃ nq, nq = val.length + 5 := ⟨_, rfl⟩
  rw [← hne] at zp
  rw [← hnf] at zv
  have hnp : np ≤ 259 := by omega
  have hnq : nq ≤ 260 := by omega
  clear hp hS hx ha hb hbr hf hP hne hnf
  go_enter Try.func5, Try.ntmps5
  go_wp2_with fail
  refine (opshown_any _).mono ?_
  rintro e w1 ⟨rfl, hb⟩
  have HB1 := Lib.hid hb
  clear hb
  have hcv1 : (convert 38 9 (.slice (some ⟨w1.heap.size, 0, none⟩) 3 3)).run Try.prog (w1.alloc (.cells #[.int .u8 (f % 256), .int .u8 (f.tdiv 256 % 256), .int .u8 (val.length : Int)] 5)) = .ok (.string (BA [a, b, UInt8.ofNat val.length])) (w1.alloc (.cells #[.int .u8 (f % 256), .int .u8 (f.tdiv 256 % 256), .int .u8 (val.length : Int)] 5)) := box_text (l := [a, b, UInt8.ofNat val.length]) (by rw [HBR.out]; exact Box.new w1 _ _)
  go_upto_region 7 with fail
  obtain ⟨w2, hw2⟩ : ∃ wy, w1.alloc (.cells #[.int .u8 (f % 256), .int .u8 (f.tdiv 256 % 256), .int .u8 (val.length : Int)] 5) = wy := ⟨_, rfl⟩
  try simp only [hw2]
  try simp only [HPE.out]
  have HB2 := Lib.hid (show Below w.heap.size w w2 by rw [← hw2]; exact HB1.out.alloc HB1.out.size _)
  clear hcv1 hw2 HB1
  have hcv2 : (convert 38 9 (.slice (some ⟨w2.heap.size, 0, none⟩) 1 1)).run Try.prog (w2.alloc (.cells #[.int .u8 (key.length : Int)] 5)) = .ok (.string (BA [UInt8.ofNat key.length])) (w2.alloc (.cells #[.int .u8 (key.length : Int)] 5)) := box_text (l := [UInt8.ofNat key.length]) (by rw [HBK.out]; exact Box.new w2 _ _)
  go_upto_region 8 with fail
  obtain ⟨w3, hw9⟩ : ∃ wy, w2.alloc (.cells #[.int .u8 (key.length : Int)] 5) = wy := ⟨_, rfl⟩
  try simp only [hw9]
  try simp only [HPS.out]
  have HB3 := Lib.hid (show Below w.heap.size w w3 by rw [← hw9]; exact HB2.out.alloc HB2.out.size _)
  clear hcv2 hw9 HB2
  go_wp2_with fail
  refine (HP.out _).mono ?_
  rintro e w4 ⟨rfl, hb⟩
  have HB4 := Lib.hid (HB3.out.trans (hb.mono HB3.out.size))
  clear hb HB3 HP
  go_upto_region 9 with fail
  obtain ⟨q, hq⟩ : ∃ q, w4.heap.size = q := ⟨_, rfl⟩
  obtain ⟨w5, hw9⟩ : ∃ wy, w4.alloc (.cells #[.int .i64 0, .int .u64 0, .int .u64 0, .int .i64 0] 24) = wy := ⟨_, rfl⟩
  have HX5 := Lib.hid (show Box w5 q 24 #[.int .i64 0, .int .u64 0, .int .u64 0, .int .i64 0] by rw [← hw9, ← hq]; exact Box.new _ _ _)
  have HB5 := Lib.hid (show Below w.heap.size w w5 by rw [← hw9]; exact HB4.out.alloc HB4.out.size _)
  try simp only [hw9, hq]
  clear hw9 hq HB4
  have o0 : w5.cell? ⟨q, 0, none⟩ = some (.int .i64 0) := HX5.out.cell 0
  have o1 : w5.cell? ⟨q, 1, none⟩ = some (.int .u64 0) := HX5.out.cell 1
  have o2 : w5.cell? ⟨q, 2, none⟩ = some (.int .u64 0) := HX5.out.cell 2
  have o3 : w5.cell? ⟨q, 3, none⟩ = some (.int .i64 0) := HX5.out.cell 3
  go_wp2
  go_ret
  exact ⟨rfl, HB5.out⟩
set_option maxHeartbeats 4000000 in
theorem long_3val (key val : List UInt8) (f : Int) (w : World) (hl : key.length ≤ 255) (hv : val.length ≤ 255) (hf : -9223372036854775808 ≤ f ∧ f ≤ 9223372036854775807) (hx : key.length ≤ 7) (hy : 7 < val.length) :
    Calls Try.prog 5 #[.int .i64 3, .string (BA key), .string (BA val), .int .i64 f] w fun e w' => e = .returned (.bool true) ∧ Below w.heap.size w w' := by
  have z1 : (BA key).size = key.length := rfl
  have z2 : (BA val).size = val.length := rfl
  have b3 : decide (255 < key.length) = false := by simp; omega
  have b3i : decide ((255 : Int) < (key.length : Int)) = false := by simp; omega
  have b4 : decide (255 < val.length) = false := by simp; omega
  have b4i : decide ((255 : Int) < (val.length : Int)) = false := by simp; omega
  have b5 : decide (7 < key.length) = false := by simp; omega
  have b5i : decide ((7 : Int) < (key.length : Int)) = false := by simp; omega
  have b6 : decide (7 < val.length) = true := by simp; omega
  have b6i : decide ((7 : Int) < (val.length : Int)) = true := by simp; omega
  have hex : (⟨#[63, 71, 75, 80, 68]⟩ : ByteArray).extract 3 4 = BA [80] := by rw [show (⟨#[63, 71, 75, 80, 68]⟩ : ByteArray) = BA [63, 71, 75, 80, 68] from rfl, BA_cut]; rfl
  obtain ⟨a, ha⟩ := any_u8 f
  obtain ⟨b, hb⟩ := any_u8 (f.tdiv 256)
  have hdw : wrap64 (f.tdiv 256) = f.tdiv 256 := by
    have := tdiv_rng f hf
    unfold wrap64; omega
  have hp := prs_put a b val key hv hl
  rw [if_neg (by omega)] at hp
  skip
  skip
  skip
  have hbr : brow [a, b, UInt8.ofNat val.length] = [.int .u8 (f % 256), .int .u8 (f.tdiv 256 % 256), .int .u8 (val.length : Int)] := by
    unfold brow
    simp only [List.map_cons, List.map_nil]
    rw [u8_back _ (by omega), ha, hb]
  have HBR := Lib.hid hbr
  obtain ⟨S, hS⟩ : ∃ S, S = 80 :: a :: b :: UInt8.ofNat val.length :: (val ++ UInt8.ofNat key.length :: key) := ⟨_, rfl⟩
  obtain ⟨P, hP⟩ : ∃ P, P = 80 :: a :: b :: UInt8.ofNat val.length :: val := ⟨_, rfl⟩
  have HPE := Lib.hid (show BA [80] ++ BA [a, b, UInt8.ofNat val.length] ++ BA val = BA P by rw [BA_add, BA_add, hP]; rfl)
  have zt : (BA [a, b, UInt8.ofNat val.length]).size = 3 := rfl
  have zp : (BA P).size = val.length + 4 := by rw [hP]; rfl
  have HPS := Lib.hid (show BA P ++ BA [UInt8.ofNat key.length] ++ BA key = BA S by rw [BA_add, BA_add, hP, hS]; simp)
  have z80 : (BA [80]).size = 1 := rfl
  have zu : (BA [80] ++ BA [a, b, UInt8.ofNat val.length]).size = 4 := by rw [BA_add]; rfl
  have zv : (BA P ++ BA [UInt8.ofNat key.length]).size = val.length + 5 := by rw [BA_add, hP]; simp [BA_size]
  have zk : (BA [UInt8.ofNat key.length]).size = 1 := rfl
  have HBK := Lib.hid (show brow [UInt8.ofNat key.length] = [.int .u8 (key.length : Int)] by unfold brow; simp only [List.map_cons, List.map_nil]; rw [u8_back _ (by omega)])
  rw [← hS] at hp
  have HP := Lib.hid (fun w => parse_any S w (by rw [hS]; simp; omega))
  unfold PsPost at HP
  rw [hp] at HP
  simp only [Ov.a, Ov.z] at HP
  have hk255 : (key.length : Int) ≤ 255 := by omega
  have hv255 : (val.length : Int) ≤ 255 := by omega
  obtain ⟨np, hne⟩ : ∃ np, np = val.length + 4 := ⟨_, rfl⟩
  obtain ⟨nq, hnf⟩ : ∃ nq, nq = val.length + 5 := ⟨_, rfl⟩
  rw [← hne] at zp
  rw [← hnf] at zv
  have hnp : np ≤ 259 := by omega
  have hnq : nq ≤ 260 := by omega
  clear hp hS hx hy ha hb hbr hf hP hne hnf
  go_enter Try.func5, Try.ntmps5
  go_wp2_with fail
  refine (opshown_any _).mono ?_
  rintro e w1 ⟨rfl, hb⟩
  have HB1 := Lib.hid hb
  clear hb
  have hcv1 : (convert 38 9 (.slice (some ⟨w1.heap.size, 0, none⟩) 3 3)).run Try.prog (w1.alloc (.cells #[.int .u8 (f % 256), .int .u8 (f.tdiv 256 % 256), .int .u8 (val.length : Int)] 5)) = .ok (.string (BA [a, b, UInt8.ofNat val.length])) (w1.alloc (.cells #[.int .u8 (f % 256), .int .u8 (f.tdiv 256 % 256), .int .u8 (val.length : Int)] 5)) := box_text (l := [a, b, UInt8.ofNat val.length]) (by rw [HBR.out]; exact Box.new w1 _ _)
  go_upto_region 7 with fail
  obtain ⟨w2, hw2⟩ : ∃ wy, w1.alloc (.cells #[.int .u8 (f % 256), .int .u8 (f.tdiv 256 % 256), .int .u8 (val.length : Int)] 5) = wy := ⟨_, rfl⟩
  try simp only [hw2]
  try simp only [HPE.out]
  have HB2 := Lib.hid (show Below w.heap.size w w2 by rw [← hw2]; exact HB1.out.alloc HB1.out.size _)
  clear hcv1 hw2 HB1
  have hcv2 : (convert 38 9 (.slice (some ⟨w2.heap.size, 0, none⟩) 1 1)).run Try.prog (w2.alloc (.cells #[.int .u8 (key.length : Int)] 5)) = .ok (.string (BA [UInt8.ofNat key.length])) (w2.alloc (.cells #[.int .u8 (key.length : Int)] 5)) := box_text (l := [UInt8.ofNat key.length]) (by rw [HBK.out]; exact Box.new w2 _ _)
  go_upto_region 8 with fail
  obtain ⟨w3, hw9⟩ : ∃ wy, w2.alloc (.cells #[.int .u8 (key.length : Int)] 5) = wy := ⟨_, rfl⟩
  try simp only [hw9]
  try simp only [HPS.out]
  have HB3 := Lib.hid (show Below w.heap.size w w3 by rw [← hw9]; exact HB2.out.alloc HB2.out.size _)
  clear hcv2 hw9 HB2
  go_wp2_with fail
  refine (HP.out _).mono ?_
  rintro e w4 ⟨rfl, hb⟩
  have HB4 := Lib.hid (HB3.out.trans (hb.mono HB3.out.size))
  clear hb HB3 HP
  go_upto_region 9 with fail
  obtain ⟨q, hq⟩ : ∃ q, w4.heap.size = q := ⟨_, rfl⟩
  obtain ⟨w5, hw9⟩ : ∃ wy, w4.alloc (.cells #[.int .i64 0, .int .u64 0, .int .u64 0, .int .i64 0] 24) = wy := ⟨_, rfl⟩
  have HX5 := Lib.hid (show Box w5 q 24 #[.int .i64 0, .int .u64 0, .int .u64 0, .int .i64 0] by rw [← hw9, ← hq]; exact Box.new _ _ _)
  have HB5 := Lib.hid (show Below w.heap.size w w5 by rw [← hw9]; exact HB4.out.alloc HB4.out.size _)
  try simp only [hw9, hq]
  clear hw9 hq HB4
  have o0 : w5.cell? ⟨q, 0, none⟩ = some (.int .i64 0) := HX5.out.cell 0
  have o1 : w5.cell? ⟨q, 1, none⟩ = some (.int .u64 0) := HX5.out.cell 1
  have o2 : w5.cell? ⟨q, 2, none⟩ = some (.int .u64 0) := HX5.out.cell 2
  have o3 : w5.cell? ⟨q, 3, none⟩ = some (.int .i64 0) := HX5.out.cell 3
  go_wp2
  go_ret
  exact ⟨rfl, HB5.out⟩
set_option maxHeartbeats 4000000 in
theorem long_3ok (key val : List UInt8) (f : Int) (w : World) (hl : key.length ≤ 255) (hv : val.length ≤ 255) (hf : -9223372036854775808 ≤ f ∧ f ≤ 9223372036854775807) (hx : key.length ≤ 7) (hy : val.length ≤ 7) :
    Calls Try.prog 5 #[.int .i64 3, .string (BA key), .string (BA val), .int .i64 f] w fun e w' => e = .returned (.bool true) ∧ Below w.heap.size w w' := by
  have z1 : (BA key).size = key.length := rfl
  have z2 : (BA val).size = val.length := rfl
  have b3 : decide (255 < key.length) = false := by simp; omega
  have b3i : decide ((255 : Int) < (key.length : Int)) = false := by simp; omega
  have b4 : decide (255 < val.length) = false := by simp; omega
  have b4i : decide ((255 : Int) < (val.length : Int)) = false := by simp; omega
  have b5 : decide (7 < key.length) = false := by simp; omega
  have b5i : decide ((7 : Int) < (key.length : Int)) = false := by simp; omega
  have b6 : decide (7 < val.length) = false := by simp; omega
  have b6i : decide ((7 : Int) < (val.length : Int)) = false := by simp; omega
  have hex : (⟨#[63, 71, 75, 80, 68]⟩ : ByteArray).extract 3 4 = BA [80] := by rw [show (⟨#[63, 71, 75, 80, 68]⟩ : ByteArray) = BA [63, 71, 75, 80, 68] from rfl, BA_cut]; rfl
  obtain ⟨a, ha⟩ := any_u8 f
  obtain ⟨b, hb⟩ := any_u8 (f.tdiv 256)
  have hdw : wrap64 (f.tdiv 256) = f.tdiv 256 := by
    have := tdiv_rng f hf
    unfold wrap64; omega
  have hp := prs_put a b val key hv hl
  rw [if_pos ⟨hy, hx⟩] at hp
  obtain ⟨fb, hfb⟩ : ∃ fb, a.toNat + 256 * b.toNat = fb := ⟨_, rfl⟩
  rw [hfb] at hp
  clear hfb
  have hbr : brow [a, b, UInt8.ofNat val.length] = [.int .u8 (f % 256), .int .u8 (f.tdiv 256 % 256), .int .u8 (val.length : Int)] := by
    unfold brow
    simp only [List.map_cons, List.map_nil]
    rw [u8_back _ (by omega), ha, hb]
  have HBR := Lib.hid hbr
  obtain ⟨S, hS⟩ : ∃ S, S = 80 :: a :: b :: UInt8.ofNat val.length :: (val ++ UInt8.ofNat key.length :: key) := ⟨_, rfl⟩
  obtain ⟨P, hP⟩ : ∃ P, P = 80 :: a :: b :: UInt8.ofNat val.length :: val := ⟨_, rfl⟩
  have HPE := Lib.hid (show BA [80] ++ BA [a, b, UInt8.ofNat val.length] ++ BA val = BA P by rw [BA_add, BA_add, hP]; rfl)
  have zt : (BA [a, b, UInt8.ofNat val.length]).size = 3 := rfl
  have zp : (BA P).size = val.length + 4 := by rw [hP]; rfl
  have HPS := Lib.hid (show BA P ++ BA [UInt8.ofNat key.length] ++ BA key = BA S by rw [BA_add, BA_add, hP, hS]; simp)
  have z80 : (BA [80]).size = 1 := rfl
  have zu : (BA [80] ++ BA [a, b, UInt8.ofNat val.length]).size = 4 := by rw [BA_add]; rfl
  have zv : (BA P ++ BA [UInt8.ofNat key.length]).size = val.length + 5 := by rw [BA_add, hP]; simp [BA_size]
  have zk : (BA [UInt8.ofNat key.length]).size = 1 := rfl
  have HBK := Lib.hid (show brow [UInt8.ofNat key.length] = [.int .u8 (key.length : Int)] by unfold brow; simp only [List.map_cons, List.map_nil]; rw [u8_back _ (by omega)])
  rw [← hS] at hp
  have HP := Lib.hid (fun w => parse_any S w (by rw [hS]; simp; omega))
  unfold PsPost at HP
  rw [hp] at HP
  simp only [Ov.a] at HP
  have hrt := rt_word key hx
  have HTX := Lib.hid (fun w => text_yes (wd (BA key)) w (wd_small key hx) hrt)
  rw [tx_wd _ (by rw [BA_size]; exact hx)] at HTX
  have q1 : ((BA key).toList == (BA key).toList) = true := by simp
  have hk255 : (key.length : Int) ≤ 255 := by omega
  have hv255 : (val.length : Int) ≤ 255 := by omega
  obtain ⟨np, hne⟩ : ∃ np, np = val.length + 4 := ⟨_, rfl⟩
  obtain ⟨nq, hnf⟩ : ∃ nq, nq = val.length + 5 := ⟨_, rfl⟩
  rw [← hne] at zp
  rw [← hnf] at zv
  have hnp : np ≤ 259 := by omega
  have hnq : nq ≤ 260 := by omega
  clear hp hS hx hy hrt ha hb hbr hf hP hne hnf
  go_enter Try.func5, Try.ntmps5
  go_wp2_with fail
  refine (opshown_any _).mono ?_
  rintro e w1 ⟨rfl, hb⟩
  have HB1 := Lib.hid hb
  clear hb
  have hcv1 : (convert 38 9 (.slice (some ⟨w1.heap.size, 0, none⟩) 3 3)).run Try.prog (w1.alloc (.cells #[.int .u8 (f % 256), .int .u8 (f.tdiv 256 % 256), .int .u8 (val.length : Int)] 5)) = .ok (.string (BA [a, b, UInt8.ofNat val.length])) (w1.alloc (.cells #[.int .u8 (f % 256), .int .u8 (f.tdiv 256 % 256), .int .u8 (val.length : Int)] 5)) := box_text (l := [a, b, UInt8.ofNat val.length]) (by rw [HBR.out]; exact Box.new w1 _ _)
  go_upto_region 7 with fail
  obtain ⟨w2, hw2⟩ : ∃ wy, w1.alloc (.cells #[.int .u8 (f % 256), .int .u8 (f.tdiv 256 % 256), .int .u8 (val.length : Int)] 5) = wy := ⟨_, rfl⟩
  try simp only [hw2]
  try simp only [HPE.out]
  have HB2 := Lib.hid (show Below w.heap.size w w2 by rw [← hw2]; exact HB1.out.alloc HB1.out.size _)
  clear hcv1 hw2 HB1
  have hcv2 : (convert 38 9 (.slice (some ⟨w2.heap.size, 0, none⟩) 1 1)).run Try.prog (w2.alloc (.cells #[.int .u8 (key.length : Int)] 5)) = .ok (.string (BA [UInt8.ofNat key.length])) (w2.alloc (.cells #[.int .u8 (key.length : Int)] 5)) := box_text (l := [UInt8.ofNat key.length]) (by rw [HBK.out]; exact Box.new w2 _ _)
  go_upto_region 8 with fail
  obtain ⟨w3, hw9⟩ : ∃ wy, w2.alloc (.cells #[.int .u8 (key.length : Int)] 5) = wy := ⟨_, rfl⟩
  try simp only [hw9]
  try simp only [HPS.out]
  have HB3 := Lib.hid (show Below w.heap.size w w3 by rw [← hw9]; exact HB2.out.alloc HB2.out.size _)
  clear hcv2 hw9 HB2
  go_wp2_with fail
  refine (HP.out _).mono ?_
  rintro e w4 ⟨rfl, hb⟩
  have HB4 := Lib.hid (HB3.out.trans (hb.mono HB3.out.size))
  clear hb HB3 HP
  go_upto_region 9 with fail
  obtain ⟨q, hq⟩ : ∃ q, w4.heap.size = q := ⟨_, rfl⟩
  obtain ⟨w5, hw9⟩ : ∃ wy, w4.alloc (.cells #[.int .i64 3, .int .u64 (wd (BA key) : Nat), .int .u64 (wd (BA val) : Nat), .int .i64 (fb : Nat)] 24) = wy := ⟨_, rfl⟩
  have HX5 := Lib.hid (show Box w5 q 24 #[.int .i64 3, .int .u64 (wd (BA key) : Nat), .int .u64 (wd (BA val) : Nat), .int .i64 (fb : Nat)] by rw [← hw9, ← hq]; exact Box.new _ _ _)
  have HB5 := Lib.hid (show Below w.heap.size w w5 by rw [← hw9]; exact HB4.out.alloc HB4.out.size _)
  try simp only [hw9, hq]
  clear hw9 hq HB4
  have o0 : w5.cell? ⟨q, 0, none⟩ = some (.int .i64 3) := HX5.out.cell 0
  have o1 : w5.cell? ⟨q, 1, none⟩ = some (.int .u64 (wd (BA key) : Nat)) := HX5.out.cell 1
  have o2 : w5.cell? ⟨q, 2, none⟩ = some (.int .u64 (wd (BA val) : Nat)) := HX5.out.cell 2
  have o3 : w5.cell? ⟨q, 3, none⟩ = some (.int .i64 (fb : Nat)) := HX5.out.cell 3
  go_wp2_with fail
  refine (HTX.out _).mono ?_
  rintro e w6 ⟨rfl, hb⟩
  have HX6 := Lib.hid (HX5.out.of (hb.block _ HX5.out.lt))
  have HB6 := Lib.hid (HB5.out.trans (hb.mono HB5.out.size))
  clear hb HB5 HX5 HTX o0 o1 o2 o3
  have o0 : w6.cell? ⟨q, 0, none⟩ = some (.int .i64 3) := HX6.out.cell 0
  have o1 : w6.cell? ⟨q, 1, none⟩ = some (.int .u64 (wd (BA key) : Nat)) := HX6.out.cell 1
  have o2 : w6.cell? ⟨q, 2, none⟩ = some (.int .u64 (wd (BA val) : Nat)) := HX6.out.cell 2
  have o3 : w6.cell? ⟨q, 3, none⟩ = some (.int .i64 (fb : Nat)) := HX6.out.cell 3
  go_wp2
  go_ret
  exact ⟨rfl, HB6.out⟩
theorem long_law (k : Int) (s1 s2 : ByteArray) (f : Int) (w : World) (hf : -9223372036854775808 ≤ f ∧ f ≤ 9223372036854775807) :
    Calls Try.prog 5 #[.int .i64 k, .string s1, .string s2, .int .i64 f] w fun e w' => e = .returned (.bool true) ∧ Below w.heap.size w w' := by
  rw [← BA_Ls s1, ← BA_Ls s2]
  generalize Ls s1 = key
  generalize Ls s2 = val
  by_cases h1 : k < 1
  · exact long_lo k key val f w h1
  by_cases h4 : 4 < k
  · exact long_hi k key val f w h4
  by_cases hl : key.length ≤ 255
  · by_cases hv : val.length ≤ 255
    · rcases (by omega : k = 1 ∨ k = 2 ∨ k = 3 ∨ k = 4) with h | h | h | h <;> subst h
      · by_cases hx : key.length ≤ 7
        · exact long_1ok key val f w hl hv hx
        · exact long_1key key val f w hl hv (by omega)
      · by_cases hx : key.length ≤ 7
        · exact long_2ok key val f w hl hv hx
        · exact long_2key key val f w hl hv (by omega)
      · by_cases hx : key.length ≤ 7
        · by_cases hy : val.length ≤ 7
          · exact long_3ok key val f w hl hv hf hx hy
          · exact long_3val key val f w hl hv hf hx (by omega)
        · exact long_3key key val f w hl hv hf (by omega)
      · by_cases hx : key.length ≤ 7
        · exact long_4ok key val f w hl hv hx
        · exact long_4key key val f w hl hv (by omega)
    · exact long_val k key val f w (by omega) (by omega) hl (by omega)
  · exact long_key k key val f w (by omega) (by omega) (by omega)
end Go.Proofs.Ytpnjeoilkaimmaa
