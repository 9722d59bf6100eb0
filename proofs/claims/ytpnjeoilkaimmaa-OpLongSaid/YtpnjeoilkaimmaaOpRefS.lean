/- Contract of the document's Bytes: an operation's bytes. Conditions: words are of 64 bits. -/
import Derived.Test.YtpnjeoilkaimmaaOpRefB
import Derived.Test.YtpnjeoilkaimmaaOpBytes
import Derived.Test.YtpnjeoilkaimmaaGrow
namespace Go.Proofs.Ytpnjeoilkaimmaa
open Go.RowKit Go.ChangeShapes Go.WideShapes Go.ChangeAt

theorem box_text {w : World} {g : Nat} {l : List UInt8} (h : Box w g 5 (brow l).toArray) :
    (convert 38 9 (.slice (some ⟨g, 0, none⟩) l.length l.length)).run Try.prog w = .ok (.string (BA l)) w := by
  have := run_convert_bytes_arg (P := Try.prog) w 38 5 Try.underlying38 Try.underlying5 g 0 l.length l.length (l.map fun b => (b.toNat : Int)) (by simp)
    (fun i hi => ?_) 9 Try.underlying9
  · rwa [brow_nums] at this
  · rw [Nat.zero_add, h.cell i]
    simp [brow, List.getD_eq_getElem?_getD, hi]
theorem rlets (k : Nat) (c : UInt8) (h : ((([32, 71, 75, 80, 68, 76] : List UInt8).drop k).take 1) = [c]) (hk : k ≤ 5) (W : World) : (Instr.slice 9 (.string ⟨#[32, 71, 75, 80, 68, 76]⟩) (some (.int .i64 (k : Int))) (some (.int .i64 ((k + 1 : Nat) : Int))) none).run Try.prog W = .ok (.string (BA [c])) W := by
  have h9 := run_slice_string (P := Try.prog) W 9 (BA [32, 71, 75, 80, 68, 76]) .i64 .i64 (k : Int) ((k + 1 : Nat) : Int) Try.underlying9 (by omega) (by omega) (by rw [BA_size]; simp; omega)
  have e : (BA [32, 71, 75, 80, 68, 76]).extract k (k + 1) = BA [c] := by rw [BA_cut, show k + 1 - k = 1 by omega, h]
  refine h9.trans ?_
  rw [← e]; rfl
set_option maxHeartbeats 1000000 in
theorem rbytes_no (o : Ov) (w : World) (hkey : o.key < 18446744073709551616) (hval : o.val < 18446744073709551616) (hr : o.r = false) :
    Calls Try.prog 16 #[o.a] w (SPost w (bts o)) := by
  have HR := Lib.hid (fun w => refright_any o w hkey hval)
  rw [hr] at HR
  have e : bts o = [] := by unfold bts; rw [if_neg (by rw [hr]; decide)]
  rw [e]
  obtain ⟨k, key, val, f⟩ := o
  clear hr hkey hval e
  simp only [Ov.a] at *
  obtain ⟨p, hp⟩ : ∃ p, w.heap.size = p := ⟨_, rfl⟩
  obtain ⟨w1, hw1⟩ : ∃ w1, w.alloc (.cells #[.int .i64 k, .int .u64 (key : Nat), .int .u64 (val : Nat), .int .i64 f] 29) = w1 := ⟨_, rfl⟩
  have HB1 := Lib.hid (show Below w.heap.size w w1 by rw [← hw1]; exact (Below.refl _ _).alloc (Nat.le_refl _) _)
  have HX1 := Lib.hid (show Box w1 p 29 #[.int .i64 k, .int .u64 (key : Nat), .int .u64 (val : Nat), .int .i64 f] by rw [← hw1, ← hp]; exact Box.new _ _ _)
  go_enter Try.func16, Try.ntmps16
  go_upto_region 1 with fail
  try simp only [hw1, hp]
  clear hw1 hp
  have c0 : w1.cell? ⟨p, 0, none⟩ = some (.int .i64 k) := HX1.out.cell 0
  have c1 : w1.cell? ⟨p, 1, none⟩ = some (.int .u64 (key : Nat)) := HX1.out.cell 1
  have c2 : w1.cell? ⟨p, 2, none⟩ = some (.int .u64 (val : Nat)) := HX1.out.cell 2
  have c3 : w1.cell? ⟨p, 3, none⟩ = some (.int .i64 f) := HX1.out.cell 3
  go_wp2_with fail
  refine (HR.out _).mono ?_
  rintro e w2 ⟨rfl, hb⟩
  have HB2 := Lib.hid (below3 HB1.out hb)
  clear hb HB1 HR
  go_wp2
  go_ret
  exact ⟨rfl, HB2.out⟩
set_option maxHeartbeats 2000000 in
theorem rbytes_1 (key : Nat) (w : World) (hkey : key < 18446744073709551616) (hr : Ov.r (⟨1, key, 0, 0⟩ : Ov) = true) :
    Calls Try.prog 16 #[.agg #[.int .i64 1, .int .u64 (key : Nat), .int .u64 0, .int .i64 0]] w (SPost w (bts (⟨1, key, 0, 0⟩ : Ov))) := by
  have HR := Lib.hid (fun w => refright_any (⟨1, key, 0, 0⟩ : Ov) w hkey (show 0 < 18446744073709551616 by decide))
  rw [hr] at HR
  have R := (Ov.r_iff _).1 hr
  have hsl := rlets 1 71 rfl (by decide)
  have hk := R.kr
  simp only at hk
  have HK := Lib.hid (fun w => counted_any key w hkey hk)
  have hkl := cnt_len key hk
  have hks : (BA (cnt key)).size = (cnt key).length := rfl
  clear hk hkey
  have HE := Lib.hid (show bts (⟨1, key, 0, 0⟩ : Ov) = [71] ++ cnt key by unfold bts; rw [if_pos hr]; simp [tail, ltr])
  obtain ⟨L, hL⟩ : ∃ L, L = bts (⟨1, key, 0, 0⟩ : Ov) := ⟨_, rfl⟩
  rw [← hL]
  have HL := Lib.hid (hL.trans HE.out)
  clear hr R HE hL
  obtain ⟨p, hp⟩ : ∃ p, w.heap.size = p := ⟨_, rfl⟩
  obtain ⟨w1, hw1⟩ : ∃ w1, w.alloc (.cells #[.int .i64 1, .int .u64 (key : Nat), .int .u64 0, .int .i64 0] 29) = w1 := ⟨_, rfl⟩
  have HB1 := Lib.hid (show Below w.heap.size w w1 by rw [← hw1]; exact (Below.refl _ _).alloc (Nat.le_refl _) _)
  have HX1 := Lib.hid (show Box w1 p 29 #[.int .i64 1, .int .u64 (key : Nat), .int .u64 0, .int .i64 0] by rw [← hw1, ← hp]; exact Box.new _ _ _)
  go_enter Try.func16, Try.ntmps16
  go_upto_region 1 with fail
  try simp only [hw1, hp]
  clear hw1 hp
  have c0 : w1.cell? ⟨p, 0, none⟩ = some (.int .i64 1) := HX1.out.cell 0
  have c1 : w1.cell? ⟨p, 1, none⟩ = some (.int .u64 (key : Nat)) := HX1.out.cell 1
  have c2 : w1.cell? ⟨p, 2, none⟩ = some (.int .u64 0) := HX1.out.cell 2
  have c3 : w1.cell? ⟨p, 3, none⟩ = some (.int .i64 0) := HX1.out.cell 3
  go_wp2_with fail
  refine (HR.out _).mono ?_
  rintro e w2 ⟨rfl, hb⟩
  clear c0 c1 c2 c3
  have HX2 := Lib.hid (HX1.out.of (hb.block _ HX1.out.lt))
  have HB2 := Lib.hid (below3 HB1.out hb)
  clear hb HB1 HR HX1
  have c0 : w2.cell? ⟨p, 0, none⟩ = some (.int .i64 1) := HX2.out.cell 0
  have c1 : w2.cell? ⟨p, 1, none⟩ = some (.int .u64 (key : Nat)) := HX2.out.cell 1
  have c2 : w2.cell? ⟨p, 2, none⟩ = some (.int .u64 0) := HX2.out.cell 2
  have c3 : w2.cell? ⟨p, 3, none⟩ = some (.int .i64 0) := HX2.out.cell 3
  have hq1 : (BA [71]).size = 1 := rfl
  go_wp2_with fail
  refine (HK.out _).mono ?_
  rintro e w3 ⟨rfl, hb⟩
  have HX3 := Lib.hid (HX2.out.of (hb.block _ HX2.out.lt))
  have HB3 := Lib.hid (below3 HB2.out hb)
  clear hb HB2 HX2 c0 c1 c2 c3
  have HQ := Lib.hid (show BA [71] ++ BA (cnt key) = BA L by rw [HL.out]; rw [BA_add])
  go_wp2
  go_ret
  exact ⟨congrArg (fun x => Ending.returned (.string x)) HQ.out, HB3.out⟩
set_option maxHeartbeats 2000000 in
theorem rbytes_2 (key : Nat) (w : World) (hkey : key < 18446744073709551616) (hr : Ov.r (⟨2, key, 0, 0⟩ : Ov) = true) :
    Calls Try.prog 16 #[.agg #[.int .i64 2, .int .u64 (key : Nat), .int .u64 0, .int .i64 0]] w (SPost w (bts (⟨2, key, 0, 0⟩ : Ov))) := by
  have HR := Lib.hid (fun w => refright_any (⟨2, key, 0, 0⟩ : Ov) w hkey (show 0 < 18446744073709551616 by decide))
  rw [hr] at HR
  have R := (Ov.r_iff _).1 hr
  have hsl := rlets 2 75 rfl (by decide)
  have hk := R.kr
  simp only at hk
  have HK := Lib.hid (fun w => counted_any key w hkey hk)
  have hkl := cnt_len key hk
  have hks : (BA (cnt key)).size = (cnt key).length := rfl
  clear hk hkey
  have HE := Lib.hid (show bts (⟨2, key, 0, 0⟩ : Ov) = [75] ++ cnt key by unfold bts; rw [if_pos hr]; simp [tail, ltr])
  obtain ⟨L, hL⟩ : ∃ L, L = bts (⟨2, key, 0, 0⟩ : Ov) := ⟨_, rfl⟩
  rw [← hL]
  have HL := Lib.hid (hL.trans HE.out)
  clear hr R HE hL
  obtain ⟨p, hp⟩ : ∃ p, w.heap.size = p := ⟨_, rfl⟩
  obtain ⟨w1, hw1⟩ : ∃ w1, w.alloc (.cells #[.int .i64 2, .int .u64 (key : Nat), .int .u64 0, .int .i64 0] 29) = w1 := ⟨_, rfl⟩
  have HB1 := Lib.hid (show Below w.heap.size w w1 by rw [← hw1]; exact (Below.refl _ _).alloc (Nat.le_refl _) _)
  have HX1 := Lib.hid (show Box w1 p 29 #[.int .i64 2, .int .u64 (key : Nat), .int .u64 0, .int .i64 0] by rw [← hw1, ← hp]; exact Box.new _ _ _)
  go_enter Try.func16, Try.ntmps16
  go_upto_region 1 with fail
  try simp only [hw1, hp]
  clear hw1 hp
  have c0 : w1.cell? ⟨p, 0, none⟩ = some (.int .i64 2) := HX1.out.cell 0
  have c1 : w1.cell? ⟨p, 1, none⟩ = some (.int .u64 (key : Nat)) := HX1.out.cell 1
  have c2 : w1.cell? ⟨p, 2, none⟩ = some (.int .u64 0) := HX1.out.cell 2
  have c3 : w1.cell? ⟨p, 3, none⟩ = some (.int .i64 0) := HX1.out.cell 3
  go_wp2_with fail
  refine (HR.out _).mono ?_
  rintro e w2 ⟨rfl, hb⟩
  clear c0 c1 c2 c3
  have HX2 := Lib.hid (HX1.out.of (hb.block _ HX1.out.lt))
  have HB2 := Lib.hid (below3 HB1.out hb)
  clear hb HB1 HR HX1
  have c0 : w2.cell? ⟨p, 0, none⟩ = some (.int .i64 2) := HX2.out.cell 0
  have c1 : w2.cell? ⟨p, 1, none⟩ = some (.int .u64 (key : Nat)) := HX2.out.cell 1
  have c2 : w2.cell? ⟨p, 2, none⟩ = some (.int .u64 0) := HX2.out.cell 2
  have c3 : w2.cell? ⟨p, 3, none⟩ = some (.int .i64 0) := HX2.out.cell 3
  have hq1 : (BA [75]).size = 1 := rfl
  go_wp2_with fail
  refine (HK.out _).mono ?_
  rintro e w3 ⟨rfl, hb⟩
  have HX3 := Lib.hid (HX2.out.of (hb.block _ HX2.out.lt))
  have HB3 := Lib.hid (below3 HB2.out hb)
  clear hb HB2 HX2 c0 c1 c2 c3
  have HQ := Lib.hid (show BA [75] ++ BA (cnt key) = BA L by rw [HL.out]; rw [BA_add])
  go_wp2
  go_ret
  exact ⟨congrArg (fun x => Ending.returned (.string x)) HQ.out, HB3.out⟩
set_option maxHeartbeats 2000000 in
theorem rbytes_3 (key : Nat) (val : Nat) (f : Int) (w : World) (hkey : key < 18446744073709551616) (hval : val < 18446744073709551616) (hr : Ov.r (⟨3, key, val, f⟩ : Ov) = true) :
    Calls Try.prog 16 #[.agg #[.int .i64 3, .int .u64 (key : Nat), .int .u64 (val : Nat), .int .i64 f]] w (SPost w (bts (⟨3, key, val, f⟩ : Ov))) := by
  have HR := Lib.hid (fun w => refright_any (⟨3, key, val, f⟩ : Ov) w hkey hval)
  rw [hr] at HR
  have R := (Ov.r_iff _).1 hr
  have hsl := rlets 3 80 rfl (by decide)
  have hk := R.kr
  simp only at hk
  have HK := Lib.hid (fun w => counted_any key w hkey hk)
  have hkl := cnt_len key hk
  have hks : (BA (cnt key)).size = (cnt key).length := rfl
  clear hk hkey
  have hv := R.vr
  have h0 := R.f0
  have h1 := R.f1
  simp only at hv h0 h1
  have HV := Lib.hid (fun w => counted_any val w hval hv)
  have hvl := cnt_len val hv
  have hvs : (BA (cnt val)).size = (cnt val).length := rfl
  have HF := Lib.hid (brow_two f h0 h1)
  clear hv hval
  have HE := Lib.hid (show bts (⟨3, key, val, f⟩ : Ov) = [80] ++ [UInt8.ofNat (f.toNat % 256), UInt8.ofNat (f.toNat / 256)] ++ cnt val ++ cnt key by unfold bts; rw [if_pos hr]; simp [tail, ltr])
  obtain ⟨L, hL⟩ : ∃ L, L = bts (⟨3, key, val, f⟩ : Ov) := ⟨_, rfl⟩
  rw [← hL]
  have HL := Lib.hid (hL.trans HE.out)
  clear hr R HE hL
  obtain ⟨p, hp⟩ : ∃ p, w.heap.size = p := ⟨_, rfl⟩
  obtain ⟨w1, hw1⟩ : ∃ w1, w.alloc (.cells #[.int .i64 3, .int .u64 (key : Nat), .int .u64 (val : Nat), .int .i64 f] 29) = w1 := ⟨_, rfl⟩
  have HB1 := Lib.hid (show Below w.heap.size w w1 by rw [← hw1]; exact (Below.refl _ _).alloc (Nat.le_refl _) _)
  have HX1 := Lib.hid (show Box w1 p 29 #[.int .i64 3, .int .u64 (key : Nat), .int .u64 (val : Nat), .int .i64 f] by rw [← hw1, ← hp]; exact Box.new _ _ _)
  go_enter Try.func16, Try.ntmps16
  go_upto_region 1 with fail
  try simp only [hw1, hp]
  clear hw1 hp
  have c0 : w1.cell? ⟨p, 0, none⟩ = some (.int .i64 3) := HX1.out.cell 0
  have c1 : w1.cell? ⟨p, 1, none⟩ = some (.int .u64 (key : Nat)) := HX1.out.cell 1
  have c2 : w1.cell? ⟨p, 2, none⟩ = some (.int .u64 (val : Nat)) := HX1.out.cell 2
  have c3 : w1.cell? ⟨p, 3, none⟩ = some (.int .i64 f) := HX1.out.cell 3
  go_wp2_with fail
  refine (HR.out _).mono ?_
  rintro e w2 ⟨rfl, hb⟩
  clear c0 c1 c2 c3
  have HX2 := Lib.hid (HX1.out.of (hb.block _ HX1.out.lt))
  have HB2 := Lib.hid (below3 HB1.out hb)
  clear hb HB1 HR HX1
  have c0 : w2.cell? ⟨p, 0, none⟩ = some (.int .i64 3) := HX2.out.cell 0
  have c1 : w2.cell? ⟨p, 1, none⟩ = some (.int .u64 (key : Nat)) := HX2.out.cell 1
  have c2 : w2.cell? ⟨p, 2, none⟩ = some (.int .u64 (val : Nat)) := HX2.out.cell 2
  have c3 : w2.cell? ⟨p, 3, none⟩ = some (.int .i64 f) := HX2.out.cell 3
  have hq1 : (BA [80]).size = 1 := rfl
  have hm : f.tmod 256 = f % 256 := Int.tmod_eq_emod_of_nonneg h0
  have hd : f.tdiv 256 = f / 256 := Int.tdiv_eq_ediv_of_nonneg h0
  go_upto_region 6 with fail
  obtain ⟨q, hq⟩ : ∃ q, w2.heap.size = q := ⟨_, rfl⟩
  obtain ⟨w3, hw3⟩ : ∃ w3, w2.alloc (.cells #[.int .u8 (f % 256), .int .u8 (f / 256)] 5) = w3 := ⟨_, rfl⟩
  try simp only [hw3, hq]
  have HX3 := Lib.hid (show Box w3 p 29 #[.int .i64 3, .int .u64 (key : Nat), .int .u64 (val : Nat), .int .i64 f] by rw [← hw3]; exact HX2.out.alloc _)
  have HB3 := Lib.hid (show Below w.heap.size w w3 by rw [← hw3]; exact HB2.out.alloc HB2.out.size _)
  have HQ3 := Lib.hid (show Box w3 q 5 (brow [UInt8.ofNat (f.toNat % 256), UInt8.ofNat (f.toNat / 256)]).toArray by rw [HF.out, ← hw3, ← hq]; exact Box.new _ _ _)
  have hcv : ∀ G : Gr w3, (convert 38 9 (.slice (some ⟨q, 0, none⟩) 2 2)).run Try.prog G.w' = .ok (.string (BA [UInt8.ofNat (f.toNat % 256), UInt8.ofNat (f.toNat / 256)])) G.w' := fun G => box_text (l := [UInt8.ofNat (f.toNat % 256), UInt8.ofNat (f.toNat / 256)]) (HQ3.out.only G.ok (not_nobody _))
  have hq2 : (BA [UInt8.ofNat (f.toNat % 256), UInt8.ofNat (f.toNat / 256)]).size = 2 := rfl
  obtain ⟨D, hD⟩ : ∃ D, D = [UInt8.ofNat (f.toNat % 256), UInt8.ofNat (f.toNat / 256)] := ⟨_, rfl⟩
  rw [← hD] at hcv hq2
  have HD := Lib.hid hD
  clear hD h0 h1 hm hd hw3 hq c0 c1 c2 c3
  have hq3 : (BA [80] ++ BA D).size = 3 := by rw [BA_add, BA_size, List.length_append, ← BA_size D, hq2]; rfl
  have c0 := Gr.cell (show w3.cell? ⟨p, 0, none⟩ = some (.int .i64 3) from HX3.out.cell 0)
  have c1 := Gr.cell (show w3.cell? ⟨p, 1, none⟩ = some (.int .u64 (key : Nat)) from HX3.out.cell 1)
  have c2 := Gr.cell (show w3.cell? ⟨p, 2, none⟩ = some (.int .u64 (val : Nat)) from HX3.out.cell 2)
  have c3 := Gr.cell (show w3.cell? ⟨p, 3, none⟩ = some (.int .i64 f) from HX3.out.cell 3)
  refine wp_region_grow (by kernel_rfl) (by kernel_rfl) ?_
  repeat (go_big_quiet_step (first | (go_at_call 28; exact Gr.blw (HV.out _))))
  refine wpQuiet_nil ?_
  intro w12 hw12
  obtain ⟨G, hG⟩ := hw12
  subst hG
  have HX4 := Lib.hid (HX3.out.only G.ok (not_nobody _))
  have HB4 := Lib.hid (HB3.out.trans (G.ok.none.mono HB3.out.size))
  obtain ⟨w4, hw4⟩ : ∃ w4, G.w' = w4 := ⟨_, rfl⟩
  simp only [hw4] at *
  clear HX3 HB3 c0 c1 c2 c3 hcv
  have c0 : w4.cell? ⟨p, 0, none⟩ = some (.int .i64 3) := HX4.out.cell 0
  have c1 : w4.cell? ⟨p, 1, none⟩ = some (.int .u64 (key : Nat)) := HX4.out.cell 1
  have c2 : w4.cell? ⟨p, 2, none⟩ = some (.int .u64 (val : Nat)) := HX4.out.cell 2
  have c3 : w4.cell? ⟨p, 3, none⟩ = some (.int .i64 f) := HX4.out.cell 3
  go_wp2_with fail
  refine (HK.out _).mono ?_
  rintro e w5 ⟨rfl, hb⟩
  have HB5 := Lib.hid (below3 HB4.out hb)
  have HQ := Lib.hid (show BA [80] ++ BA D ++ BA (cnt val) ++ BA (cnt key) = BA L by rw [HL.out, HD.out, BA_add, BA_add, BA_add])
  have hq4 : (BA [80] ++ BA D ++ BA (cnt val)).size = 3 + (cnt val).length := by rw [BA_add, BA_add, BA_size, List.length_append, List.length_append, ← BA_size D, hq2]; rfl
  go_wp2
  go_ret
  exact ⟨congrArg (fun x => Ending.returned (.string x)) HQ.out, HB5.out⟩
set_option maxHeartbeats 2000000 in
theorem rbytes_4 (key : Nat) (w : World) (hkey : key < 18446744073709551616) (hr : Ov.r (⟨4, key, 0, 0⟩ : Ov) = true) :
    Calls Try.prog 16 #[.agg #[.int .i64 4, .int .u64 (key : Nat), .int .u64 0, .int .i64 0]] w (SPost w (bts (⟨4, key, 0, 0⟩ : Ov))) := by
  have HR := Lib.hid (fun w => refright_any (⟨4, key, 0, 0⟩ : Ov) w hkey (show 0 < 18446744073709551616 by decide))
  rw [hr] at HR
  have R := (Ov.r_iff _).1 hr
  have hsl := rlets 4 68 rfl (by decide)
  have hk := R.kr
  simp only at hk
  have HK := Lib.hid (fun w => counted_any key w hkey hk)
  have hkl := cnt_len key hk
  have hks : (BA (cnt key)).size = (cnt key).length := rfl
  clear hk hkey
  have HE := Lib.hid (show bts (⟨4, key, 0, 0⟩ : Ov) = [68] ++ cnt key by unfold bts; rw [if_pos hr]; simp [tail, ltr])
  obtain ⟨L, hL⟩ : ∃ L, L = bts (⟨4, key, 0, 0⟩ : Ov) := ⟨_, rfl⟩
  rw [← hL]
  have HL := Lib.hid (hL.trans HE.out)
  clear hr R HE hL
  obtain ⟨p, hp⟩ : ∃ p, w.heap.size = p := ⟨_, rfl⟩
  obtain ⟨w1, hw1⟩ : ∃ w1, w.alloc (.cells #[.int .i64 4, .int .u64 (key : Nat), .int .u64 0, .int .i64 0] 29) = w1 := ⟨_, rfl⟩
  have HB1 := Lib.hid (show Below w.heap.size w w1 by rw [← hw1]; exact (Below.refl _ _).alloc (Nat.le_refl _) _)
  have HX1 := Lib.hid (show Box w1 p 29 #[.int .i64 4, .int .u64 (key : Nat), .int .u64 0, .int .i64 0] by rw [← hw1, ← hp]; exact Box.new _ _ _)
  go_enter Try.func16, Try.ntmps16
  go_upto_region 1 with fail
  try simp only [hw1, hp]
  clear hw1 hp
  have c0 : w1.cell? ⟨p, 0, none⟩ = some (.int .i64 4) := HX1.out.cell 0
  have c1 : w1.cell? ⟨p, 1, none⟩ = some (.int .u64 (key : Nat)) := HX1.out.cell 1
  have c2 : w1.cell? ⟨p, 2, none⟩ = some (.int .u64 0) := HX1.out.cell 2
  have c3 : w1.cell? ⟨p, 3, none⟩ = some (.int .i64 0) := HX1.out.cell 3
  go_wp2_with fail
  refine (HR.out _).mono ?_
  rintro e w2 ⟨rfl, hb⟩
  clear c0 c1 c2 c3
  have HX2 := Lib.hid (HX1.out.of (hb.block _ HX1.out.lt))
  have HB2 := Lib.hid (below3 HB1.out hb)
  clear hb HB1 HR HX1
  have c0 : w2.cell? ⟨p, 0, none⟩ = some (.int .i64 4) := HX2.out.cell 0
  have c1 : w2.cell? ⟨p, 1, none⟩ = some (.int .u64 (key : Nat)) := HX2.out.cell 1
  have c2 : w2.cell? ⟨p, 2, none⟩ = some (.int .u64 0) := HX2.out.cell 2
  have c3 : w2.cell? ⟨p, 3, none⟩ = some (.int .i64 0) := HX2.out.cell 3
  have hq1 : (BA [68]).size = 1 := rfl
  go_wp2_with fail
  refine (HK.out _).mono ?_
  rintro e w3 ⟨rfl, hb⟩
  have HX3 := Lib.hid (HX2.out.of (hb.block _ HX2.out.lt))
  have HB3 := Lib.hid (below3 HB2.out hb)
  clear hb HB2 HX2 c0 c1 c2 c3
  have HQ := Lib.hid (show BA [68] ++ BA (cnt key) = BA L by rw [HL.out]; rw [BA_add])
  go_wp2
  go_ret
  exact ⟨congrArg (fun x => Ending.returned (.string x)) HQ.out, HB3.out⟩
set_option maxHeartbeats 2000000 in
theorem rbytes_5 (w : World) (hr : Ov.r (⟨5, 0, 0, 0⟩ : Ov) = true) :
    Calls Try.prog 16 #[.agg #[.int .i64 5, .int .u64 0, .int .u64 0, .int .i64 0]] w (SPost w (bts (⟨5, 0, 0, 0⟩ : Ov))) := by
  have HR := Lib.hid (fun w => refright_any (⟨5, 0, 0, 0⟩ : Ov) w (by decide) (show 0 < 18446744073709551616 by decide))
  rw [hr] at HR
  have R := (Ov.r_iff _).1 hr
  have hsl := rlets 5 76 rfl (by decide)
  have HE := Lib.hid (show bts (⟨5, 0, 0, 0⟩ : Ov) = [76] by unfold bts; rw [if_pos hr]; simp [tail, ltr])
  obtain ⟨L, hL⟩ : ∃ L, L = bts (⟨5, 0, 0, 0⟩ : Ov) := ⟨_, rfl⟩
  rw [← hL]
  have HL := Lib.hid (hL.trans HE.out)
  clear hr R HE hL
  obtain ⟨p, hp⟩ : ∃ p, w.heap.size = p := ⟨_, rfl⟩
  obtain ⟨w1, hw1⟩ : ∃ w1, w.alloc (.cells #[.int .i64 5, .int .u64 0, .int .u64 0, .int .i64 0] 29) = w1 := ⟨_, rfl⟩
  have HB1 := Lib.hid (show Below w.heap.size w w1 by rw [← hw1]; exact (Below.refl _ _).alloc (Nat.le_refl _) _)
  have HX1 := Lib.hid (show Box w1 p 29 #[.int .i64 5, .int .u64 0, .int .u64 0, .int .i64 0] by rw [← hw1, ← hp]; exact Box.new _ _ _)
  go_enter Try.func16, Try.ntmps16
  go_upto_region 1 with fail
  try simp only [hw1, hp]
  clear hw1 hp
  have c0 : w1.cell? ⟨p, 0, none⟩ = some (.int .i64 5) := HX1.out.cell 0
  have c1 : w1.cell? ⟨p, 1, none⟩ = some (.int .u64 0) := HX1.out.cell 1
  have c2 : w1.cell? ⟨p, 2, none⟩ = some (.int .u64 0) := HX1.out.cell 2
  have c3 : w1.cell? ⟨p, 3, none⟩ = some (.int .i64 0) := HX1.out.cell 3
  go_wp2_with fail
  refine (HR.out _).mono ?_
  rintro e w2 ⟨rfl, hb⟩
  clear c0 c1 c2 c3
  have HX2 := Lib.hid (HX1.out.of (hb.block _ HX1.out.lt))
  have HB2 := Lib.hid (below3 HB1.out hb)
  clear hb HB1 HR HX1
  have c0 : w2.cell? ⟨p, 0, none⟩ = some (.int .i64 5) := HX2.out.cell 0
  have c1 : w2.cell? ⟨p, 1, none⟩ = some (.int .u64 0) := HX2.out.cell 1
  have c2 : w2.cell? ⟨p, 2, none⟩ = some (.int .u64 0) := HX2.out.cell 2
  have c3 : w2.cell? ⟨p, 3, none⟩ = some (.int .i64 0) := HX2.out.cell 3
  have HQ := Lib.hid (show BA [76] = BA L by rw [HL.out]; skip)
  go_wp2
  go_ret
  exact ⟨congrArg (fun x => Ending.returned (.string x)) HQ.out, HB2.out⟩
theorem rbytes_any (o : Ov) (w : World) (hkey : o.key < 18446744073709551616) (hval : o.val < 18446744073709551616) : Calls Try.prog 16 #[o.a] w (SPost w (bts o)) := by
  cases hr : o.r
  · exact rbytes_no o w hkey hval hr
  have R := (Ov.r_iff o).1 hr
  obtain ⟨k, key, val, f⟩ := o
  have h1 := R.lo
  have h2 := R.hi
  have h3 := R.put
  have h4 := R.len
  simp only at h1 h2 h3 h4 hkey hval
  by_cases e3 : k = 3
  · subst e3
    exact rbytes_3 key val f w hkey hval hr
  obtain ⟨rfl, rfl⟩ := h3 e3
  rcases (by omega : k = 1 ∨ k = 2 ∨ k = 4 ∨ k = 5) with h | h | h | h <;> subst h
  · exact rbytes_1 key w hkey hr
  · exact rbytes_2 key w hkey hr
  · exact rbytes_4 key w hkey hr
  · obtain rfl := h4 rfl
    exact rbytes_5 w hr
end Go.Proofs.Ytpnjeoilkaimmaa
