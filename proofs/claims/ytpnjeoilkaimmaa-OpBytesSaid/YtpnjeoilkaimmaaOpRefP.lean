/- Contract of the document's Parse: it returns what the bytes say. Conditions: lengths are ints. -/
import Derived.Test.YtpnjeoilkaimmaaOpRefB
import Derived.Test.YtpnjeoilkaimmaaOpParse
namespace Go.Proofs.Ytpnjeoilkaimmaa
open Go.RowKit Go.ChangeShapes Go.WideShapes Go.ChangeAt

theorem inforop (a b c d : Value) : (Try.prog.info? 29).map (·.size) = some (#[a, b, c, d] : Array Value).toList.length := by
  have h : (Try.prog.info? 29).map (·.size) = some 4 := by kernel_rfl
  exact h
theorem prs_no {c : UInt8} {r : List UInt8} {k : Int} (hk : knd c = k) (h0 : k ≠ 0) (h : bdy k r = none) : prs (c :: r) = (.z, 3) := by
  unfold prs; simp only; rw [hk, if_neg h0, h]
theorem prs_yes {c : UInt8} {r v x : List UInt8} {k : Int} {f : Nat} (hk : knd c = k) (h0 : k ≠ 0) (h : bdy k r = some (f, v, x)) (hv : v.length ≤ 7) (hx : x.length ≤ 7) : prs (c :: r) = (⟨k, wd (BA x), wd (BA v), f⟩, 0) := by
  unfold prs; simp only; rw [hk, if_neg h0, h]; simp only; rw [if_pos ⟨hv, hx⟩]
theorem prs_long {c : UInt8} {r v x : List UInt8} {k : Int} {f : Nat} (hk : knd c = k) (h0 : k ≠ 0) (h : bdy k r = some (f, v, x)) (hl : ¬ (v.length ≤ 7 ∧ x.length ≤ 7)) : prs (c :: r) = (.z, 4) := by
  unfold prs; simp only; rw [hk, if_neg h0, h]; simp only; rw [if_neg hl]
theorem prs_kind0 {l : List UInt8} (hk : Kd l = 0) : prs l = (Ov.z, 3) := by
  cases l with
  | nil => rfl
  | cons c r => unfold prs; simp only; rw [if_pos (show knd c = 0 from hk)]
theorem wv_few {l : List UInt8} (h : l.length ≤ 7) : wv (BA l) = wd (BA l) := by rw [wv_wv', wv'_few h]
theorem we_few {l : List UInt8} (h : l.length ≤ 7) : we (BA l) = 0 := by unfold we; rw [BA_size, if_pos h]
theorem we_far {l : List UInt8} (h : ¬ l.length ≤ 7) : we (BA l) = 4 := by unfold we; rw [BA_size, if_neg h]
theorem rest_one (c : UInt8) (r : List UInt8) (W : World) : (Instr.slice 9 (.string (BA (c :: r))) (some (.int .i64 1)) none none).run Try.prog W = .ok (.string (BA r)) W := by
  have h9 := run_slice_string_from_if (P := Try.prog) W 9 (BA (c :: r)) .i64 1 Try.underlying9
  rw [h9, if_pos (by rw [BA_size, List.length_cons]; omega)]
  have := BA_rest (c :: r) 1
  rw [List.length_cons, List.drop_succ_cons, List.drop_zero] at this
  rw [← this]; rfl
theorem rest_two (a b : UInt8) (r : List UInt8) (W : World) : (Instr.slice 9 (.string (BA (a :: b :: r))) (some (.int .i64 2)) none none).run Try.prog W = .ok (.string (BA r)) W := by
  have h9 := run_slice_string_from_if (P := Try.prog) W 9 (BA (a :: b :: r)) .i64 2 Try.underlying9
  rw [h9, if_pos (by rw [BA_size, List.length_cons, List.length_cons]; omega)]
  have := BA_rest (a :: b :: r) 2
  rw [List.length_cons, List.length_cons, List.drop_succ_cons, List.drop_succ_cons, List.drop_zero] at this
  rw [← this]; rfl
theorem index_two (a b : UInt8) (r : List UInt8) (W : World) : (Instr.index 9 (.string (BA (a :: b :: r))) (.int .i64 1)).run Try.prog W = .ok (.int .u8 (b.toNat : Int)) W := by
  rw [run_index_string W 9 (BA (a :: b :: r)) .i64 1 Try.underlying9, dif_pos (by rw [BA_size, List.length_cons, List.length_cons]; omega)]
  rfl
theorem index_one (a : UInt8) (r : List UInt8) (W : World) : (Instr.index 9 (.string (BA (a :: r))) (.int .i64 0)).run Try.prog W = .ok (.int .u8 (a.toNat : Int)) W := by
  rw [run_index_string W 9 (BA (a :: r)) .i64 0 Try.underlying9, dif_pos (by rw [BA_size, List.length_cons]; omega)]
  rfl
theorem BA_two (a b : UInt8) (r : List UInt8) (h : 1 < (BA (a :: b :: r)).size) : ((BA (a :: b :: r))[1]'h) = b := rfl
attribute [local go_sem] BA_head BA_two BA_len
set_option maxHeartbeats 2000000 in
theorem rparse_0 (l : List UInt8) (w : World) (hk : Kd l = 0) :
    Calls Try.prog 11 #[.string (BA l)] w (PsPost w l) := by
  have HX := Lib.hid (show (Ov.z, (3 : Int)) = prs l from (prs_kind0 hk).symm)
  have K := Lib.hid (fun w => rkind_any l w)
  have hk0 : Kd l = 0 := hk
  rw [hk0] at K
  clear hk0
  clear hk
  obtain ⟨p, hp⟩ : ∃ p, w.heap.size = p := ⟨_, rfl⟩
  obtain ⟨w1, hw1⟩ : ∃ w1, w.alloc (.cells #[.int .i64 0, .int .u64 0, .int .u64 0, .int .i64 0] 29) = w1 := ⟨_, rfl⟩
  have HZ1 := Lib.hid (show Box w1 p 29 #[.int .i64 0, .int .u64 0, .int .u64 0, .int .i64 0] by rw [← hw1, ← hp]; exact Box.new _ _ _)
  have HB1 := Lib.hid (show Below p w w1 by rw [← hw1, ← hp]; exact (Below.refl _ _).alloc (Nat.le_refl _) _)
  have HP := Lib.hid hp
  have HW := Lib.hid hw1
  clear hp hw1
  go_enter Try.func11, Try.ntmps11
  go_wp2_with fail
  rw [HW.out, HP.out]
  refine (K.out _).mono ?_
  rintro e w2 ⟨rfl, hb⟩
  have HZ2 := Lib.hid (HZ1.out.of (hb.block _ HZ1.out.lt))
  have HB2 := Lib.hid (HB1.out.trans (hb.mono (by have := HZ1.out.lt; omega)))
  clear hb K HZ1 HB1 HW
  go_upto_region 2 with fail
  obtain ⟨q, hq⟩ : ∃ q, w2.heap.size = q := ⟨_, rfl⟩
  obtain ⟨w3, hw3⟩ : ∃ w3, w2.alloc (.cells #[.int .i64 0, .int .u64 0, .int .u64 0, .int .i64 0] 29) = w3 := ⟨_, rfl⟩
  try simp only [hw3, hq]
  have HO3 := Lib.hid (show Box w3 q 29 #[.int .i64 0, .int .u64 0, .int .u64 0, .int .i64 0] by rw [← hw3, ← hq]; exact Box.new _ _ _)
  have HZ3 := Lib.hid (show Box w3 p 29 #[.int .i64 0, .int .u64 0, .int .u64 0, .int .i64 0] by rw [← hw3]; exact HZ2.out.alloc _)
  have HB3 := Lib.hid (show Below p w w3 by rw [← hw3]; exact HB2.out.alloc (by have := HZ2.out.lt; omega) _)
  have HN := Lib.hid (show p < q by have h1 := HZ2.out.lt; omega)
  clear hq hw3 HZ2 HB2
  have o0 : w3.cell? ⟨q, 0, none⟩ = some (.int .i64 0) := HO3.out.cell 0
  have o1 : w3.cell? ⟨q, 1, none⟩ = some (.int .u64 0) := HO3.out.cell 1
  have o2 : w3.cell? ⟨q, 2, none⟩ = some (.int .u64 0) := HO3.out.cell 2
  have o3 : w3.cell? ⟨q, 3, none⟩ = some (.int .i64 0) := HO3.out.cell 3
  have z0 : w3.cell? ⟨p, 0, none⟩ = some (.int .i64 0) := HZ3.out.cell 0
  have fz0 := HZ3.out.frozen 0
  have z1 : w3.cell? ⟨p, 1, none⟩ = some (.int .u64 0) := HZ3.out.cell 1
  have fz1 := HZ3.out.frozen 1
  have z2 : w3.cell? ⟨p, 2, none⟩ = some (.int .u64 0) := HZ3.out.cell 2
  have fz2 := HZ3.out.frozen 2
  have z3 : w3.cell? ⟨p, 3, none⟩ = some (.int .i64 0) := HZ3.out.cell 3
  have fz3 := HZ3.out.frozen 3
  go_wp2
  obtain ⟨wz, hwz⟩ : ∃ wz, (((w3.setCell ⟨p, 0, none⟩ (.int .i64 0)).setCell ⟨p, 1, none⟩ (.int .u64 0)).setCell ⟨p, 2, none⟩ (.int .u64 0)).setCell ⟨p, 3, none⟩ (.int .i64 0) = wz := ⟨_, rfl⟩
  have hx : Box wz p 29 #[.int .i64 0, .int .u64 0, .int .u64 0, .int .i64 0] := by
    rw [← hwz]
    exact (((HZ3.out.put 0 _).put 1 _).put 2 _).put 3 _
  have hb : Below p w wz := by
    rw [← hwz]
    exact (((HB3.out.setCell (p := ⟨p, 0, none⟩) (Nat.le_refl _) _).setCell (p := ⟨p, 1, none⟩) (Nat.le_refl _) _).setCell (p := ⟨p, 2, none⟩) (Nat.le_refl _) _).setCell (p := ⟨p, 3, none⟩) (Nat.le_refl _) _
  rw [hwz]
  exact bodyPost_ret (v := .tuple #[.agg #[.int .i64 0, .int .u64 0, .int .u64 0, .int .i64 0], .int .i64 3]) (results_ct Try.results11 rfl rfl (load_box hx Try.underlying29 rfl (inforop _ _ _ _))) rfl (PsPost.mk (o := ⟨0, 0, 0, (0 : Nat)⟩) HX.out (HP.out ▸ hb))
set_option maxHeartbeats 2000000 in
theorem rparse_1n (c : UInt8) (r : List UInt8)  (w : World) (hk : knd c = 1) (ht : tex r = none) :
    Calls Try.prog 11 #[.string (BA (c :: r))] w (PsPost w (c :: r)) := by
  have HX := Lib.hid (show (Ov.z, (3 : Int)) = prs (c :: r) from (prs_no hk (by decide) (by unfold bdy; rw [if_neg (by decide), if_neg (by decide), ht])).symm)
  have K := Lib.hid (fun w => rkind_any (c :: r) w)
  have hk0 : Kd (c :: r) = 1 := hk
  rw [hk0] at K
  clear hk0
  have HT := Lib.hid (fun w => rtext_any r w)
  unfold TxPost at HT
  rw [ht] at HT
  have hs1 := rest_one c r
  have he0 := BA_none
  clear hk ht
  obtain ⟨p, hp⟩ : ∃ p, w.heap.size = p := ⟨_, rfl⟩
  obtain ⟨w1, hw1⟩ : ∃ w1, w.alloc (.cells #[.int .i64 0, .int .u64 0, .int .u64 0, .int .i64 0] 29) = w1 := ⟨_, rfl⟩
  have HZ1 := Lib.hid (show Box w1 p 29 #[.int .i64 0, .int .u64 0, .int .u64 0, .int .i64 0] by rw [← hw1, ← hp]; exact Box.new _ _ _)
  have HB1 := Lib.hid (show Below p w w1 by rw [← hw1, ← hp]; exact (Below.refl _ _).alloc (Nat.le_refl _) _)
  have HP := Lib.hid hp
  have HW := Lib.hid hw1
  clear hp hw1
  go_enter Try.func11, Try.ntmps11
  go_wp2_with fail
  rw [HW.out, HP.out]
  refine (K.out _).mono ?_
  rintro e w2 ⟨rfl, hb⟩
  have HZ2 := Lib.hid (HZ1.out.of (hb.block _ HZ1.out.lt))
  have HB2 := Lib.hid (HB1.out.trans (hb.mono (by have := HZ1.out.lt; omega)))
  clear hb K HZ1 HB1 HW
  go_upto_region 2 with fail
  obtain ⟨q, hq⟩ : ∃ q, w2.heap.size = q := ⟨_, rfl⟩
  obtain ⟨w3, hw3⟩ : ∃ w3, w2.alloc (.cells #[.int .i64 1, .int .u64 0, .int .u64 0, .int .i64 0] 29) = w3 := ⟨_, rfl⟩
  try simp only [hw3, hq]
  have HO3 := Lib.hid (show Box w3 q 29 #[.int .i64 1, .int .u64 0, .int .u64 0, .int .i64 0] by rw [← hw3, ← hq]; exact Box.new _ _ _)
  have HZ3 := Lib.hid (show Box w3 p 29 #[.int .i64 0, .int .u64 0, .int .u64 0, .int .i64 0] by rw [← hw3]; exact HZ2.out.alloc _)
  have HB3 := Lib.hid (show Below p w w3 by rw [← hw3]; exact HB2.out.alloc (by have := HZ2.out.lt; omega) _)
  have HN := Lib.hid (show p < q by have h1 := HZ2.out.lt; omega)
  clear hq hw3 HZ2 HB2
  have o0 : w3.cell? ⟨q, 0, none⟩ = some (.int .i64 1) := HO3.out.cell 0
  have o1 : w3.cell? ⟨q, 1, none⟩ = some (.int .u64 0) := HO3.out.cell 1
  have o2 : w3.cell? ⟨q, 2, none⟩ = some (.int .u64 0) := HO3.out.cell 2
  have o3 : w3.cell? ⟨q, 3, none⟩ = some (.int .i64 0) := HO3.out.cell 3
  go_wp2_with fail
  refine (HT.out _).mono ?_
  rintro e w4 ⟨rfl, hb⟩
  have HZ4 := Lib.hid (HZ3.out.of (hb.block _ HZ3.out.lt))
  have HO4 := Lib.hid (HO3.out.of (hb.block _ HO3.out.lt))
  have HB4 := Lib.hid (HB3.out.trans (hb.mono (by have := HZ3.out.lt; omega)))
  clear hb HZ3 HO3 HB3
  clear o0 o1 o2 o3
  have o0 : w4.cell? ⟨q, 0, none⟩ = some (.int .i64 1) := HO4.out.cell 0
  have o1 : w4.cell? ⟨q, 1, none⟩ = some (.int .u64 0) := HO4.out.cell 1
  have o2 : w4.cell? ⟨q, 2, none⟩ = some (.int .u64 0) := HO4.out.cell 2
  have o3 : w4.cell? ⟨q, 3, none⟩ = some (.int .i64 0) := HO4.out.cell 3
  have z0 : w4.cell? ⟨p, 0, none⟩ = some (.int .i64 0) := HZ4.out.cell 0
  have fz0 := HZ4.out.frozen 0
  have z1 : w4.cell? ⟨p, 1, none⟩ = some (.int .u64 0) := HZ4.out.cell 1
  have fz1 := HZ4.out.frozen 1
  have z2 : w4.cell? ⟨p, 2, none⟩ = some (.int .u64 0) := HZ4.out.cell 2
  have fz2 := HZ4.out.frozen 2
  have z3 : w4.cell? ⟨p, 3, none⟩ = some (.int .i64 0) := HZ4.out.cell 3
  have fz3 := HZ4.out.frozen 3
  go_wp2
  obtain ⟨wz, hwz⟩ : ∃ wz, (((w4.setCell ⟨p, 0, none⟩ (.int .i64 0)).setCell ⟨p, 1, none⟩ (.int .u64 0)).setCell ⟨p, 2, none⟩ (.int .u64 0)).setCell ⟨p, 3, none⟩ (.int .i64 0) = wz := ⟨_, rfl⟩
  have hx : Box wz p 29 #[.int .i64 0, .int .u64 0, .int .u64 0, .int .i64 0] := by
    rw [← hwz]
    exact (((HZ4.out.put 0 _).put 1 _).put 2 _).put 3 _
  have hb : Below p w wz := by
    rw [← hwz]
    exact (((HB4.out.setCell (p := ⟨p, 0, none⟩) (Nat.le_refl _) _).setCell (p := ⟨p, 1, none⟩) (Nat.le_refl _) _).setCell (p := ⟨p, 2, none⟩) (Nat.le_refl _) _).setCell (p := ⟨p, 3, none⟩) (Nat.le_refl _) _
  rw [hwz]
  exact bodyPost_ret (v := .tuple #[.agg #[.int .i64 0, .int .u64 0, .int .u64 0, .int .i64 0], .int .i64 3]) (results_ct Try.results11 rfl rfl (load_box hx Try.underlying29 rfl (inforop _ _ _ _))) rfl (PsPost.mk (o := ⟨0, 0, 0, (0 : Nat)⟩) HX.out (HP.out ▸ hb))
set_option maxHeartbeats 2000000 in
theorem rparse_1m (c : UInt8) (r : List UInt8) (x q : List UInt8) (b : UInt8)  (w : World) (hk : knd c = 1) (ht : tex r = some (x, b :: q)) :
    Calls Try.prog 11 #[.string (BA (c :: r))] w (PsPost w (c :: r)) := by
  have HX := Lib.hid (show (Ov.z, (3 : Int)) = prs (c :: r) from (prs_no hk (by decide) (by unfold bdy; rw [if_neg (by decide), if_neg (by decide), ht])).symm)
  have K := Lib.hid (fun w => rkind_any (c :: r) w)
  have hk0 : Kd (c :: r) = 1 := hk
  rw [hk0] at K
  clear hk0
  have HT := Lib.hid (fun w => rtext_any r w)
  unfold TxPost at HT
  rw [ht] at HT
  have hs1 := rest_one c r
  have he1 := BA_some b q
  clear hk ht
  obtain ⟨p, hp⟩ : ∃ p, w.heap.size = p := ⟨_, rfl⟩
  obtain ⟨w1, hw1⟩ : ∃ w1, w.alloc (.cells #[.int .i64 0, .int .u64 0, .int .u64 0, .int .i64 0] 29) = w1 := ⟨_, rfl⟩
  have HZ1 := Lib.hid (show Box w1 p 29 #[.int .i64 0, .int .u64 0, .int .u64 0, .int .i64 0] by rw [← hw1, ← hp]; exact Box.new _ _ _)
  have HB1 := Lib.hid (show Below p w w1 by rw [← hw1, ← hp]; exact (Below.refl _ _).alloc (Nat.le_refl _) _)
  have HP := Lib.hid hp
  have HW := Lib.hid hw1
  clear hp hw1
  go_enter Try.func11, Try.ntmps11
  go_wp2_with fail
  rw [HW.out, HP.out]
  refine (K.out _).mono ?_
  rintro e w2 ⟨rfl, hb⟩
  have HZ2 := Lib.hid (HZ1.out.of (hb.block _ HZ1.out.lt))
  have HB2 := Lib.hid (HB1.out.trans (hb.mono (by have := HZ1.out.lt; omega)))
  clear hb K HZ1 HB1 HW
  go_upto_region 2 with fail
  obtain ⟨q, hq⟩ : ∃ q, w2.heap.size = q := ⟨_, rfl⟩
  obtain ⟨w3, hw3⟩ : ∃ w3, w2.alloc (.cells #[.int .i64 1, .int .u64 0, .int .u64 0, .int .i64 0] 29) = w3 := ⟨_, rfl⟩
  try simp only [hw3, hq]
  have HO3 := Lib.hid (show Box w3 q 29 #[.int .i64 1, .int .u64 0, .int .u64 0, .int .i64 0] by rw [← hw3, ← hq]; exact Box.new _ _ _)
  have HZ3 := Lib.hid (show Box w3 p 29 #[.int .i64 0, .int .u64 0, .int .u64 0, .int .i64 0] by rw [← hw3]; exact HZ2.out.alloc _)
  have HB3 := Lib.hid (show Below p w w3 by rw [← hw3]; exact HB2.out.alloc (by have := HZ2.out.lt; omega) _)
  have HN := Lib.hid (show p < q by have h1 := HZ2.out.lt; omega)
  clear hq hw3 HZ2 HB2
  have o0 : w3.cell? ⟨q, 0, none⟩ = some (.int .i64 1) := HO3.out.cell 0
  have o1 : w3.cell? ⟨q, 1, none⟩ = some (.int .u64 0) := HO3.out.cell 1
  have o2 : w3.cell? ⟨q, 2, none⟩ = some (.int .u64 0) := HO3.out.cell 2
  have o3 : w3.cell? ⟨q, 3, none⟩ = some (.int .i64 0) := HO3.out.cell 3
  go_wp2_with fail
  refine (HT.out _).mono ?_
  rintro e w4 ⟨rfl, hb⟩
  have HZ4 := Lib.hid (HZ3.out.of (hb.block _ HZ3.out.lt))
  have HO4 := Lib.hid (HO3.out.of (hb.block _ HO3.out.lt))
  have HB4 := Lib.hid (HB3.out.trans (hb.mono (by have := HZ3.out.lt; omega)))
  clear hb HZ3 HO3 HB3
  clear o0 o1 o2 o3
  have o0 : w4.cell? ⟨q, 0, none⟩ = some (.int .i64 1) := HO4.out.cell 0
  have o1 : w4.cell? ⟨q, 1, none⟩ = some (.int .u64 0) := HO4.out.cell 1
  have o2 : w4.cell? ⟨q, 2, none⟩ = some (.int .u64 0) := HO4.out.cell 2
  have o3 : w4.cell? ⟨q, 3, none⟩ = some (.int .i64 0) := HO4.out.cell 3
  have z0 : w4.cell? ⟨p, 0, none⟩ = some (.int .i64 0) := HZ4.out.cell 0
  have fz0 := HZ4.out.frozen 0
  have z1 : w4.cell? ⟨p, 1, none⟩ = some (.int .u64 0) := HZ4.out.cell 1
  have fz1 := HZ4.out.frozen 1
  have z2 : w4.cell? ⟨p, 2, none⟩ = some (.int .u64 0) := HZ4.out.cell 2
  have fz2 := HZ4.out.frozen 2
  have z3 : w4.cell? ⟨p, 3, none⟩ = some (.int .i64 0) := HZ4.out.cell 3
  have fz3 := HZ4.out.frozen 3
  go_wp2
  obtain ⟨wz, hwz⟩ : ∃ wz, (((w4.setCell ⟨p, 0, none⟩ (.int .i64 0)).setCell ⟨p, 1, none⟩ (.int .u64 0)).setCell ⟨p, 2, none⟩ (.int .u64 0)).setCell ⟨p, 3, none⟩ (.int .i64 0) = wz := ⟨_, rfl⟩
  have hx : Box wz p 29 #[.int .i64 0, .int .u64 0, .int .u64 0, .int .i64 0] := by
    rw [← hwz]
    exact (((HZ4.out.put 0 _).put 1 _).put 2 _).put 3 _
  have hb : Below p w wz := by
    rw [← hwz]
    exact (((HB4.out.setCell (p := ⟨p, 0, none⟩) (Nat.le_refl _) _).setCell (p := ⟨p, 1, none⟩) (Nat.le_refl _) _).setCell (p := ⟨p, 2, none⟩) (Nat.le_refl _) _).setCell (p := ⟨p, 3, none⟩) (Nat.le_refl _) _
  rw [hwz]
  exact bodyPost_ret (v := .tuple #[.agg #[.int .i64 0, .int .u64 0, .int .u64 0, .int .i64 0], .int .i64 3]) (results_ct Try.results11 rfl rfl (load_box hx Try.underlying29 rfl (inforop _ _ _ _))) rfl (PsPost.mk (o := ⟨0, 0, 0, (0 : Nat)⟩) HX.out (HP.out ▸ hb))
set_option maxHeartbeats 2000000 in
theorem rparse_1key (c : UInt8) (r : List UInt8) (x : List UInt8)  (w : World) (hk : knd c = 1) (ht : tex r = some (x, [])) (nk : x.length ≤ 9223372036854775807) (hx : ¬ x.length ≤ 7) :
    Calls Try.prog 11 #[.string (BA (c :: r))] w (PsPost w (c :: r)) := by
  have HX := Lib.hid (show (Ov.z, (4 : Int)) = prs (c :: r) from (prs_long hk (by decide) (by unfold bdy; rw [if_neg (by decide), if_neg (by decide), ht]) (fun h => hx h.2)).symm)
  have K := Lib.hid (fun w => rkind_any (c :: r) w)
  have hk0 : Kd (c :: r) = 1 := hk
  rw [hk0] at K
  clear hk0
  have HT := Lib.hid (fun w => rtext_any r w)
  unfold TxPost at HT
  rw [ht] at HT
  have hs1 := rest_one c r
  have he0 := BA_none
  have nv : ([] : List UInt8).length ≤ 9223372036854775807 := by simp
  have hv : ([] : List UInt8).length ≤ 7 := by simp
  have hkl := Lib.hid (show (BA x).size ≤ 9223372036854775807 from nk)
  have hvl := Lib.hid (show (BA []).size ≤ 9223372036854775807 from nv)
  have hke := Lib.hid (we_far hx)
  have hve := Lib.hid (rfl : we (BA []) = we (BA []))
  clear hk ht nk nv hx hv
  obtain ⟨p, hp⟩ : ∃ p, w.heap.size = p := ⟨_, rfl⟩
  obtain ⟨w1, hw1⟩ : ∃ w1, w.alloc (.cells #[.int .i64 0, .int .u64 0, .int .u64 0, .int .i64 0] 29) = w1 := ⟨_, rfl⟩
  have HZ1 := Lib.hid (show Box w1 p 29 #[.int .i64 0, .int .u64 0, .int .u64 0, .int .i64 0] by rw [← hw1, ← hp]; exact Box.new _ _ _)
  have HB1 := Lib.hid (show Below p w w1 by rw [← hw1, ← hp]; exact (Below.refl _ _).alloc (Nat.le_refl _) _)
  have HP := Lib.hid hp
  have HW := Lib.hid hw1
  clear hp hw1
  go_enter Try.func11, Try.ntmps11
  go_wp2_with fail
  rw [HW.out, HP.out]
  refine (K.out _).mono ?_
  rintro e w2 ⟨rfl, hb⟩
  have HZ2 := Lib.hid (HZ1.out.of (hb.block _ HZ1.out.lt))
  have HB2 := Lib.hid (HB1.out.trans (hb.mono (by have := HZ1.out.lt; omega)))
  clear hb K HZ1 HB1 HW
  go_upto_region 2 with fail
  obtain ⟨q, hq⟩ : ∃ q, w2.heap.size = q := ⟨_, rfl⟩
  obtain ⟨w3, hw3⟩ : ∃ w3, w2.alloc (.cells #[.int .i64 1, .int .u64 0, .int .u64 0, .int .i64 0] 29) = w3 := ⟨_, rfl⟩
  try simp only [hw3, hq]
  have HO3 := Lib.hid (show Box w3 q 29 #[.int .i64 1, .int .u64 0, .int .u64 0, .int .i64 0] by rw [← hw3, ← hq]; exact Box.new _ _ _)
  have HZ3 := Lib.hid (show Box w3 p 29 #[.int .i64 0, .int .u64 0, .int .u64 0, .int .i64 0] by rw [← hw3]; exact HZ2.out.alloc _)
  have HB3 := Lib.hid (show Below p w w3 by rw [← hw3]; exact HB2.out.alloc (by have := HZ2.out.lt; omega) _)
  have HN := Lib.hid (show p < q by have h1 := HZ2.out.lt; omega)
  clear hq hw3 HZ2 HB2
  have o0 : w3.cell? ⟨q, 0, none⟩ = some (.int .i64 1) := HO3.out.cell 0
  have o1 : w3.cell? ⟨q, 1, none⟩ = some (.int .u64 0) := HO3.out.cell 1
  have o2 : w3.cell? ⟨q, 2, none⟩ = some (.int .u64 0) := HO3.out.cell 2
  have o3 : w3.cell? ⟨q, 3, none⟩ = some (.int .i64 0) := HO3.out.cell 3
  go_wp2_with fail
  refine (HT.out _).mono ?_
  rintro e w4 ⟨rfl, hb⟩
  have HZ4 := Lib.hid (HZ3.out.of (hb.block _ HZ3.out.lt))
  have HO4 := Lib.hid (HO3.out.of (hb.block _ HO3.out.lt))
  have HB4 := Lib.hid (HB3.out.trans (hb.mono (by have := HZ3.out.lt; omega)))
  clear hb HZ3 HO3 HB3
  clear o0 o1 o2 o3
  have o0 : w4.cell? ⟨q, 0, none⟩ = some (.int .i64 1) := HO4.out.cell 0
  have o1 : w4.cell? ⟨q, 1, none⟩ = some (.int .u64 0) := HO4.out.cell 1
  have o2 : w4.cell? ⟨q, 2, none⟩ = some (.int .u64 0) := HO4.out.cell 2
  have o3 : w4.cell? ⟨q, 3, none⟩ = some (.int .i64 0) := HO4.out.cell 3
  go_wp2_with fail
  refine (refWord_any (BA x) _ hkl.out).mono ?_
  rintro e w5 ⟨rfl, hb⟩
  rw [hke.out]
  have HZ5 := Lib.hid (HZ4.out.of (hb.block _ HZ4.out.lt))
  have HO5 := Lib.hid (HO4.out.of (hb.block _ HO4.out.lt))
  have HB5 := Lib.hid (HB4.out.trans (hb.mono (by have := HZ4.out.lt; omega)))
  clear hb HZ4 HO4 HB4
  clear o0 o1 o2 o3
  have o0 : w5.cell? ⟨q, 0, none⟩ = some (.int .i64 1) := HO5.out.cell 0
  have o1 : w5.cell? ⟨q, 1, none⟩ = some (.int .u64 0) := HO5.out.cell 1
  have o2 : w5.cell? ⟨q, 2, none⟩ = some (.int .u64 0) := HO5.out.cell 2
  have o3 : w5.cell? ⟨q, 3, none⟩ = some (.int .i64 0) := HO5.out.cell 3
  go_wp2_with fail
  refine (refWord_any (BA []) _ hvl.out).mono ?_
  rintro e w6 ⟨rfl, hb⟩
  have HZ6 := Lib.hid (HZ5.out.of (hb.block _ HZ5.out.lt))
  have HO6 := Lib.hid (HO5.out.of (hb.block _ HO5.out.lt))
  have HB6 := Lib.hid (HB5.out.trans (hb.mono (by have := HZ5.out.lt; omega)))
  clear hb HZ5 HO5 HB5
  clear o0 o1 o2 o3
  have o0 : w6.cell? ⟨q, 0, none⟩ = some (.int .i64 1) := HO6.out.cell 0
  have o1 : w6.cell? ⟨q, 1, none⟩ = some (.int .u64 0) := HO6.out.cell 1
  have o2 : w6.cell? ⟨q, 2, none⟩ = some (.int .u64 0) := HO6.out.cell 2
  have o3 : w6.cell? ⟨q, 3, none⟩ = some (.int .i64 0) := HO6.out.cell 3
  have z0 : w6.cell? ⟨p, 0, none⟩ = some (.int .i64 0) := HZ6.out.cell 0
  have fz0 := HZ6.out.frozen 0
  have z1 : w6.cell? ⟨p, 1, none⟩ = some (.int .u64 0) := HZ6.out.cell 1
  have fz1 := HZ6.out.frozen 1
  have z2 : w6.cell? ⟨p, 2, none⟩ = some (.int .u64 0) := HZ6.out.cell 2
  have fz2 := HZ6.out.frozen 2
  have z3 : w6.cell? ⟨p, 3, none⟩ = some (.int .i64 0) := HZ6.out.cell 3
  have fz3 := HZ6.out.frozen 3
  go_wp2
  obtain ⟨wz, hwz⟩ : ∃ wz, (((w6.setCell ⟨p, 0, none⟩ (.int .i64 0)).setCell ⟨p, 1, none⟩ (.int .u64 0)).setCell ⟨p, 2, none⟩ (.int .u64 0)).setCell ⟨p, 3, none⟩ (.int .i64 0) = wz := ⟨_, rfl⟩
  have hx : Box wz p 29 #[.int .i64 0, .int .u64 0, .int .u64 0, .int .i64 0] := by
    rw [← hwz]
    exact (((HZ6.out.put 0 _).put 1 _).put 2 _).put 3 _
  have hb : Below p w wz := by
    rw [← hwz]
    exact (((HB6.out.setCell (p := ⟨p, 0, none⟩) (Nat.le_refl _) _).setCell (p := ⟨p, 1, none⟩) (Nat.le_refl _) _).setCell (p := ⟨p, 2, none⟩) (Nat.le_refl _) _).setCell (p := ⟨p, 3, none⟩) (Nat.le_refl _) _
  rw [hwz]
  exact bodyPost_ret (v := .tuple #[.agg #[.int .i64 0, .int .u64 0, .int .u64 0, .int .i64 0], .int .i64 4]) (results_ct Try.results11 rfl rfl (load_box hx Try.underlying29 rfl (inforop _ _ _ _))) rfl (PsPost.mk (o := ⟨0, 0, 0, (0 : Nat)⟩) HX.out (HP.out ▸ hb))
set_option maxHeartbeats 2000000 in
theorem rparse_1ok (c : UInt8) (r : List UInt8) (x : List UInt8)  (w : World) (hk : knd c = 1) (ht : tex r = some (x, [])) (nk : x.length ≤ 9223372036854775807) (hx : x.length ≤ 7) :
    Calls Try.prog 11 #[.string (BA (c :: r))] w (PsPost w (c :: r)) := by
  have HX := Lib.hid (show ((⟨1, wd (BA x), wd (BA []), (0 : Nat)⟩ : Ov), (0 : Int)) = prs (c :: r) from (prs_yes hk (by decide) (by unfold bdy; rw [if_neg (by decide), if_neg (by decide), ht]) (by simp) hx).symm)
  have K := Lib.hid (fun w => rkind_any (c :: r) w)
  have hk0 : Kd (c :: r) = 1 := hk
  rw [hk0] at K
  clear hk0
  have HT := Lib.hid (fun w => rtext_any r w)
  unfold TxPost at HT
  rw [ht] at HT
  have hs1 := rest_one c r
  have he0 := BA_none
  have nv : ([] : List UInt8).length ≤ 9223372036854775807 := by simp
  have hv : ([] : List UInt8).length ≤ 7 := by simp
  have hkl := Lib.hid (show (BA x).size ≤ 9223372036854775807 from nk)
  have hvl := Lib.hid (show (BA []).size ≤ 9223372036854775807 from nv)
  have hke := Lib.hid (we_few hx)
  have hve := Lib.hid (we_few hv)
  have hkw := Lib.hid (wv_few hx)
  have hvw := Lib.hid (wv_few hv)
  clear hk ht nk nv hx hv
  obtain ⟨p, hp⟩ : ∃ p, w.heap.size = p := ⟨_, rfl⟩
  obtain ⟨w1, hw1⟩ : ∃ w1, w.alloc (.cells #[.int .i64 0, .int .u64 0, .int .u64 0, .int .i64 0] 29) = w1 := ⟨_, rfl⟩
  have HZ1 := Lib.hid (show Box w1 p 29 #[.int .i64 0, .int .u64 0, .int .u64 0, .int .i64 0] by rw [← hw1, ← hp]; exact Box.new _ _ _)
  have HB1 := Lib.hid (show Below p w w1 by rw [← hw1, ← hp]; exact (Below.refl _ _).alloc (Nat.le_refl _) _)
  have HP := Lib.hid hp
  have HW := Lib.hid hw1
  clear hp hw1
  go_enter Try.func11, Try.ntmps11
  go_wp2_with fail
  rw [HW.out, HP.out]
  refine (K.out _).mono ?_
  rintro e w2 ⟨rfl, hb⟩
  have HZ2 := Lib.hid (HZ1.out.of (hb.block _ HZ1.out.lt))
  have HB2 := Lib.hid (HB1.out.trans (hb.mono (by have := HZ1.out.lt; omega)))
  clear hb K HZ1 HB1 HW
  go_upto_region 2 with fail
  obtain ⟨q, hq⟩ : ∃ q, w2.heap.size = q := ⟨_, rfl⟩
  obtain ⟨w3, hw3⟩ : ∃ w3, w2.alloc (.cells #[.int .i64 1, .int .u64 0, .int .u64 0, .int .i64 0] 29) = w3 := ⟨_, rfl⟩
  try simp only [hw3, hq]
  have HO3 := Lib.hid (show Box w3 q 29 #[.int .i64 1, .int .u64 0, .int .u64 0, .int .i64 0] by rw [← hw3, ← hq]; exact Box.new _ _ _)
  have HZ3 := Lib.hid (show Box w3 p 29 #[.int .i64 0, .int .u64 0, .int .u64 0, .int .i64 0] by rw [← hw3]; exact HZ2.out.alloc _)
  have HB3 := Lib.hid (show Below p w w3 by rw [← hw3]; exact HB2.out.alloc (by have := HZ2.out.lt; omega) _)
  have HN := Lib.hid (show p < q by have h1 := HZ2.out.lt; omega)
  clear hq hw3 HZ2 HB2
  have o0 : w3.cell? ⟨q, 0, none⟩ = some (.int .i64 1) := HO3.out.cell 0
  have o1 : w3.cell? ⟨q, 1, none⟩ = some (.int .u64 0) := HO3.out.cell 1
  have o2 : w3.cell? ⟨q, 2, none⟩ = some (.int .u64 0) := HO3.out.cell 2
  have o3 : w3.cell? ⟨q, 3, none⟩ = some (.int .i64 0) := HO3.out.cell 3
  go_wp2_with fail
  refine (HT.out _).mono ?_
  rintro e w4 ⟨rfl, hb⟩
  have HZ4 := Lib.hid (HZ3.out.of (hb.block _ HZ3.out.lt))
  have HO4 := Lib.hid (HO3.out.of (hb.block _ HO3.out.lt))
  have HB4 := Lib.hid (HB3.out.trans (hb.mono (by have := HZ3.out.lt; omega)))
  clear hb HZ3 HO3 HB3
  clear o0 o1 o2 o3
  have o0 : w4.cell? ⟨q, 0, none⟩ = some (.int .i64 1) := HO4.out.cell 0
  have o1 : w4.cell? ⟨q, 1, none⟩ = some (.int .u64 0) := HO4.out.cell 1
  have o2 : w4.cell? ⟨q, 2, none⟩ = some (.int .u64 0) := HO4.out.cell 2
  have o3 : w4.cell? ⟨q, 3, none⟩ = some (.int .i64 0) := HO4.out.cell 3
  go_wp2_with fail
  refine (refWord_any (BA x) _ hkl.out).mono ?_
  rintro e w5 ⟨rfl, hb⟩
  rw [hke.out]
  have HZ5 := Lib.hid (HZ4.out.of (hb.block _ HZ4.out.lt))
  have HO5 := Lib.hid (HO4.out.of (hb.block _ HO4.out.lt))
  have HB5 := Lib.hid (HB4.out.trans (hb.mono (by have := HZ4.out.lt; omega)))
  clear hb HZ4 HO4 HB4
  clear o0 o1 o2 o3
  have o0 : w5.cell? ⟨q, 0, none⟩ = some (.int .i64 1) := HO5.out.cell 0
  have o1 : w5.cell? ⟨q, 1, none⟩ = some (.int .u64 0) := HO5.out.cell 1
  have o2 : w5.cell? ⟨q, 2, none⟩ = some (.int .u64 0) := HO5.out.cell 2
  have o3 : w5.cell? ⟨q, 3, none⟩ = some (.int .i64 0) := HO5.out.cell 3
  go_wp2_with fail
  refine (refWord_any (BA []) _ hvl.out).mono ?_
  rintro e w6 ⟨rfl, hb⟩
  rw [hve.out]
  have HZ6 := Lib.hid (HZ5.out.of (hb.block _ HZ5.out.lt))
  have HO6 := Lib.hid (HO5.out.of (hb.block _ HO5.out.lt))
  have HB6 := Lib.hid (HB5.out.trans (hb.mono (by have := HZ5.out.lt; omega)))
  clear hb HZ5 HO5 HB5
  clear o0 o1 o2 o3
  have o0 : w6.cell? ⟨q, 0, none⟩ = some (.int .i64 1) := HO6.out.cell 0
  have o1 : w6.cell? ⟨q, 1, none⟩ = some (.int .u64 0) := HO6.out.cell 1
  have o2 : w6.cell? ⟨q, 2, none⟩ = some (.int .u64 0) := HO6.out.cell 2
  have o3 : w6.cell? ⟨q, 3, none⟩ = some (.int .i64 0) := HO6.out.cell 3
  simp only [hkw.out, hvw.out]
  have f9 := HO6.out.frozen 1
  go_upto_region 22 with (fail)
  obtain ⟨w7, hw9⟩ : ∃ wy, w6.setCell ⟨q, 1, none⟩ (.int .u64 (wd (BA x) : Nat)) = wy := ⟨_, rfl⟩
  try simp only [hw9]
  have HO7 := Lib.hid (show Box w7 q 29 #[.int .i64 1, .int .u64 (wd (BA x) : Nat), .int .u64 0, .int .i64 0] by rw [← hw9]; exact HO6.out.put 1 _)
  have HZ7 := Lib.hid (show Box w7 p 29 #[.int .i64 0, .int .u64 0, .int .u64 0, .int .i64 0] by rw [← hw9]; exact HZ6.out.far (a := ⟨q, 1, none⟩) (by show p ≠ q; have := HN.out; omega) _)
  have HB7 := Lib.hid (show Below p w w7 by rw [← hw9]; exact HB6.out.setCell (p := ⟨q, 1, none⟩) (by show p ≤ q; have := HN.out; omega) _)
  clear f9 hw9 HO6 HZ6 HB6
  clear o0 o1 o2 o3
  have o0 : w7.cell? ⟨q, 0, none⟩ = some (.int .i64 1) := HO7.out.cell 0
  have o1 : w7.cell? ⟨q, 1, none⟩ = some (.int .u64 (wd (BA x) : Nat)) := HO7.out.cell 1
  have o2 : w7.cell? ⟨q, 2, none⟩ = some (.int .u64 0) := HO7.out.cell 2
  have o3 : w7.cell? ⟨q, 3, none⟩ = some (.int .i64 0) := HO7.out.cell 3
  have f9 := HO7.out.frozen 2
  go_upto_region 23 with (fail)
  obtain ⟨w8, hw9⟩ : ∃ wy, w7.setCell ⟨q, 2, none⟩ (.int .u64 (wd (BA []) : Nat)) = wy := ⟨_, rfl⟩
  try simp only [hw9]
  have HO8 := Lib.hid (show Box w8 q 29 #[.int .i64 1, .int .u64 (wd (BA x) : Nat), .int .u64 (wd (BA []) : Nat), .int .i64 0] by rw [← hw9]; exact HO7.out.put 2 _)
  have HZ8 := Lib.hid (show Box w8 p 29 #[.int .i64 0, .int .u64 0, .int .u64 0, .int .i64 0] by rw [← hw9]; exact HZ7.out.far (a := ⟨q, 2, none⟩) (by show p ≠ q; have := HN.out; omega) _)
  have HB8 := Lib.hid (show Below p w w8 by rw [← hw9]; exact HB7.out.setCell (p := ⟨q, 2, none⟩) (by show p ≤ q; have := HN.out; omega) _)
  clear f9 hw9 HO7 HZ7 HB7
  clear o0 o1 o2 o3
  have o0 : w8.cell? ⟨q, 0, none⟩ = some (.int .i64 1) := HO8.out.cell 0
  have o1 : w8.cell? ⟨q, 1, none⟩ = some (.int .u64 (wd (BA x) : Nat)) := HO8.out.cell 1
  have o2 : w8.cell? ⟨q, 2, none⟩ = some (.int .u64 (wd (BA []) : Nat)) := HO8.out.cell 2
  have o3 : w8.cell? ⟨q, 3, none⟩ = some (.int .i64 0) := HO8.out.cell 3
  have z0 : w8.cell? ⟨p, 0, none⟩ = some (.int .i64 0) := HZ8.out.cell 0
  have fz0 := HZ8.out.frozen 0
  have z1 : w8.cell? ⟨p, 1, none⟩ = some (.int .u64 0) := HZ8.out.cell 1
  have fz1 := HZ8.out.frozen 1
  have z2 : w8.cell? ⟨p, 2, none⟩ = some (.int .u64 0) := HZ8.out.cell 2
  have fz2 := HZ8.out.frozen 2
  have z3 : w8.cell? ⟨p, 3, none⟩ = some (.int .i64 0) := HZ8.out.cell 3
  have fz3 := HZ8.out.frozen 3
  go_wp2
  obtain ⟨wz, hwz⟩ : ∃ wz, (((w8.setCell ⟨p, 0, none⟩ (.int .i64 1)).setCell ⟨p, 1, none⟩ (.int .u64 (wd (BA x) : Nat))).setCell ⟨p, 2, none⟩ (.int .u64 (wd (BA []) : Nat))).setCell ⟨p, 3, none⟩ (.int .i64 0) = wz := ⟨_, rfl⟩
  have hx : Box wz p 29 #[.int .i64 1, .int .u64 (wd (BA x) : Nat), .int .u64 (wd (BA []) : Nat), .int .i64 0] := by
    rw [← hwz]
    exact (((HZ8.out.put 0 _).put 1 _).put 2 _).put 3 _
  have hb : Below p w wz := by
    rw [← hwz]
    exact (((HB8.out.setCell (p := ⟨p, 0, none⟩) (Nat.le_refl _) _).setCell (p := ⟨p, 1, none⟩) (Nat.le_refl _) _).setCell (p := ⟨p, 2, none⟩) (Nat.le_refl _) _).setCell (p := ⟨p, 3, none⟩) (Nat.le_refl _) _
  rw [hwz]
  exact bodyPost_ret (v := .tuple #[.agg #[.int .i64 1, .int .u64 (wd (BA x) : Nat), .int .u64 (wd (BA []) : Nat), .int .i64 0], .int .i64 0]) (results_ct Try.results11 rfl rfl (load_box hx Try.underlying29 rfl (inforop _ _ _ _))) rfl (PsPost.mk (o := ⟨1, wd (BA x), wd (BA []), (0 : Nat)⟩) HX.out (HP.out ▸ hb))
set_option maxHeartbeats 2000000 in
theorem rparse_2n (c : UInt8) (r : List UInt8)  (w : World) (hk : knd c = 2) (ht : tex r = none) :
    Calls Try.prog 11 #[.string (BA (c :: r))] w (PsPost w (c :: r)) := by
  have HX := Lib.hid (show (Ov.z, (3 : Int)) = prs (c :: r) from (prs_no hk (by decide) (by unfold bdy; rw [if_neg (by decide), if_neg (by decide), ht])).symm)
  have K := Lib.hid (fun w => rkind_any (c :: r) w)
  have hk0 : Kd (c :: r) = 2 := hk
  rw [hk0] at K
  clear hk0
  have HT := Lib.hid (fun w => rtext_any r w)
  unfold TxPost at HT
  rw [ht] at HT
  have hs1 := rest_one c r
  have he0 := BA_none
  clear hk ht
  obtain ⟨p, hp⟩ : ∃ p, w.heap.size = p := ⟨_, rfl⟩
  obtain ⟨w1, hw1⟩ : ∃ w1, w.alloc (.cells #[.int .i64 0, .int .u64 0, .int .u64 0, .int .i64 0] 29) = w1 := ⟨_, rfl⟩
  have HZ1 := Lib.hid (show Box w1 p 29 #[.int .i64 0, .int .u64 0, .int .u64 0, .int .i64 0] by rw [← hw1, ← hp]; exact Box.new _ _ _)
  have HB1 := Lib.hid (show Below p w w1 by rw [← hw1, ← hp]; exact (Below.refl _ _).alloc (Nat.le_refl _) _)
  have HP := Lib.hid hp
  have HW := Lib.hid hw1
  clear hp hw1
  go_enter Try.func11, Try.ntmps11
  go_wp2_with fail
  rw [HW.out, HP.out]
  refine (K.out _).mono ?_
  rintro e w2 ⟨rfl, hb⟩
  have HZ2 := Lib.hid (HZ1.out.of (hb.block _ HZ1.out.lt))
  have HB2 := Lib.hid (HB1.out.trans (hb.mono (by have := HZ1.out.lt; omega)))
  clear hb K HZ1 HB1 HW
  go_upto_region 2 with fail
  obtain ⟨q, hq⟩ : ∃ q, w2.heap.size = q := ⟨_, rfl⟩
  obtain ⟨w3, hw3⟩ : ∃ w3, w2.alloc (.cells #[.int .i64 2, .int .u64 0, .int .u64 0, .int .i64 0] 29) = w3 := ⟨_, rfl⟩
  try simp only [hw3, hq]
  have HO3 := Lib.hid (show Box w3 q 29 #[.int .i64 2, .int .u64 0, .int .u64 0, .int .i64 0] by rw [← hw3, ← hq]; exact Box.new _ _ _)
  have HZ3 := Lib.hid (show Box w3 p 29 #[.int .i64 0, .int .u64 0, .int .u64 0, .int .i64 0] by rw [← hw3]; exact HZ2.out.alloc _)
  have HB3 := Lib.hid (show Below p w w3 by rw [← hw3]; exact HB2.out.alloc (by have := HZ2.out.lt; omega) _)
  have HN := Lib.hid (show p < q by have h1 := HZ2.out.lt; omega)
  clear hq hw3 HZ2 HB2
  have o0 : w3.cell? ⟨q, 0, none⟩ = some (.int .i64 2) := HO3.out.cell 0
  have o1 : w3.cell? ⟨q, 1, none⟩ = some (.int .u64 0) := HO3.out.cell 1
  have o2 : w3.cell? ⟨q, 2, none⟩ = some (.int .u64 0) := HO3.out.cell 2
  have o3 : w3.cell? ⟨q, 3, none⟩ = some (.int .i64 0) := HO3.out.cell 3
  go_wp2_with fail
  refine (HT.out _).mono ?_
  rintro e w4 ⟨rfl, hb⟩
  have HZ4 := Lib.hid (HZ3.out.of (hb.block _ HZ3.out.lt))
  have HO4 := Lib.hid (HO3.out.of (hb.block _ HO3.out.lt))
  have HB4 := Lib.hid (HB3.out.trans (hb.mono (by have := HZ3.out.lt; omega)))
  clear hb HZ3 HO3 HB3
  clear o0 o1 o2 o3
  have o0 : w4.cell? ⟨q, 0, none⟩ = some (.int .i64 2) := HO4.out.cell 0
  have o1 : w4.cell? ⟨q, 1, none⟩ = some (.int .u64 0) := HO4.out.cell 1
  have o2 : w4.cell? ⟨q, 2, none⟩ = some (.int .u64 0) := HO4.out.cell 2
  have o3 : w4.cell? ⟨q, 3, none⟩ = some (.int .i64 0) := HO4.out.cell 3
  have z0 : w4.cell? ⟨p, 0, none⟩ = some (.int .i64 0) := HZ4.out.cell 0
  have fz0 := HZ4.out.frozen 0
  have z1 : w4.cell? ⟨p, 1, none⟩ = some (.int .u64 0) := HZ4.out.cell 1
  have fz1 := HZ4.out.frozen 1
  have z2 : w4.cell? ⟨p, 2, none⟩ = some (.int .u64 0) := HZ4.out.cell 2
  have fz2 := HZ4.out.frozen 2
  have z3 : w4.cell? ⟨p, 3, none⟩ = some (.int .i64 0) := HZ4.out.cell 3
  have fz3 := HZ4.out.frozen 3
  go_wp2
  obtain ⟨wz, hwz⟩ : ∃ wz, (((w4.setCell ⟨p, 0, none⟩ (.int .i64 0)).setCell ⟨p, 1, none⟩ (.int .u64 0)).setCell ⟨p, 2, none⟩ (.int .u64 0)).setCell ⟨p, 3, none⟩ (.int .i64 0) = wz := ⟨_, rfl⟩
  have hx : Box wz p 29 #[.int .i64 0, .int .u64 0, .int .u64 0, .int .i64 0] := by
    rw [← hwz]
    exact (((HZ4.out.put 0 _).put 1 _).put 2 _).put 3 _
  have hb : Below p w wz := by
    rw [← hwz]
    exact (((HB4.out.setCell (p := ⟨p, 0, none⟩) (Nat.le_refl _) _).setCell (p := ⟨p, 1, none⟩) (Nat.le_refl _) _).setCell (p := ⟨p, 2, none⟩) (Nat.le_refl _) _).setCell (p := ⟨p, 3, none⟩) (Nat.le_refl _) _
  rw [hwz]
  exact bodyPost_ret (v := .tuple #[.agg #[.int .i64 0, .int .u64 0, .int .u64 0, .int .i64 0], .int .i64 3]) (results_ct Try.results11 rfl rfl (load_box hx Try.underlying29 rfl (inforop _ _ _ _))) rfl (PsPost.mk (o := ⟨0, 0, 0, (0 : Nat)⟩) HX.out (HP.out ▸ hb))
set_option maxHeartbeats 2000000 in
theorem rparse_2m (c : UInt8) (r : List UInt8) (x q : List UInt8) (b : UInt8)  (w : World) (hk : knd c = 2) (ht : tex r = some (x, b :: q)) :
    Calls Try.prog 11 #[.string (BA (c :: r))] w (PsPost w (c :: r)) := by
  have HX := Lib.hid (show (Ov.z, (3 : Int)) = prs (c :: r) from (prs_no hk (by decide) (by unfold bdy; rw [if_neg (by decide), if_neg (by decide), ht])).symm)
  have K := Lib.hid (fun w => rkind_any (c :: r) w)
  have hk0 : Kd (c :: r) = 2 := hk
  rw [hk0] at K
  clear hk0
  have HT := Lib.hid (fun w => rtext_any r w)
  unfold TxPost at HT
  rw [ht] at HT
  have hs1 := rest_one c r
  have he1 := BA_some b q
  clear hk ht
  obtain ⟨p, hp⟩ : ∃ p, w.heap.size = p := ⟨_, rfl⟩
  obtain ⟨w1, hw1⟩ : ∃ w1, w.alloc (.cells #[.int .i64 0, .int .u64 0, .int .u64 0, .int .i64 0] 29) = w1 := ⟨_, rfl⟩
  have HZ1 := Lib.hid (show Box w1 p 29 #[.int .i64 0, .int .u64 0, .int .u64 0, .int .i64 0] by rw [← hw1, ← hp]; exact Box.new _ _ _)
  have HB1 := Lib.hid (show Below p w w1 by rw [← hw1, ← hp]; exact (Below.refl _ _).alloc (Nat.le_refl _) _)
  have HP := Lib.hid hp
  have HW := Lib.hid hw1
  clear hp hw1
  go_enter Try.func11, Try.ntmps11
  go_wp2_with fail
  rw [HW.out, HP.out]
  refine (K.out _).mono ?_
  rintro e w2 ⟨rfl, hb⟩
  have HZ2 := Lib.hid (HZ1.out.of (hb.block _ HZ1.out.lt))
  have HB2 := Lib.hid (HB1.out.trans (hb.mono (by have := HZ1.out.lt; omega)))
  clear hb K HZ1 HB1 HW
  go_upto_region 2 with fail
  obtain ⟨q, hq⟩ : ∃ q, w2.heap.size = q := ⟨_, rfl⟩
  obtain ⟨w3, hw3⟩ : ∃ w3, w2.alloc (.cells #[.int .i64 2, .int .u64 0, .int .u64 0, .int .i64 0] 29) = w3 := ⟨_, rfl⟩
  try simp only [hw3, hq]
  have HO3 := Lib.hid (show Box w3 q 29 #[.int .i64 2, .int .u64 0, .int .u64 0, .int .i64 0] by rw [← hw3, ← hq]; exact Box.new _ _ _)
  have HZ3 := Lib.hid (show Box w3 p 29 #[.int .i64 0, .int .u64 0, .int .u64 0, .int .i64 0] by rw [← hw3]; exact HZ2.out.alloc _)
  have HB3 := Lib.hid (show Below p w w3 by rw [← hw3]; exact HB2.out.alloc (by have := HZ2.out.lt; omega) _)
  have HN := Lib.hid (show p < q by have h1 := HZ2.out.lt; omega)
  clear hq hw3 HZ2 HB2
  have o0 : w3.cell? ⟨q, 0, none⟩ = some (.int .i64 2) := HO3.out.cell 0
  have o1 : w3.cell? ⟨q, 1, none⟩ = some (.int .u64 0) := HO3.out.cell 1
  have o2 : w3.cell? ⟨q, 2, none⟩ = some (.int .u64 0) := HO3.out.cell 2
  have o3 : w3.cell? ⟨q, 3, none⟩ = some (.int .i64 0) := HO3.out.cell 3
  go_wp2_with fail
  refine (HT.out _).mono ?_
  rintro e w4 ⟨rfl, hb⟩
  have HZ4 := Lib.hid (HZ3.out.of (hb.block _ HZ3.out.lt))
  have HO4 := Lib.hid (HO3.out.of (hb.block _ HO3.out.lt))
  have HB4 := Lib.hid (HB3.out.trans (hb.mono (by have := HZ3.out.lt; omega)))
  clear hb HZ3 HO3 HB3
  clear o0 o1 o2 o3
  have o0 : w4.cell? ⟨q, 0, none⟩ = some (.int .i64 2) := HO4.out.cell 0
  have o1 : w4.cell? ⟨q, 1, none⟩ = some (.int .u64 0) := HO4.out.cell 1
  have o2 : w4.cell? ⟨q, 2, none⟩ = some (.int .u64 0) := HO4.out.cell 2
  have o3 : w4.cell? ⟨q, 3, none⟩ = some (.int .i64 0) := HO4.out.cell 3
  have z0 : w4.cell? ⟨p, 0, none⟩ = some (.int .i64 0) := HZ4.out.cell 0
  have fz0 := HZ4.out.frozen 0
  have z1 : w4.cell? ⟨p, 1, none⟩ = some (.int .u64 0) := HZ4.out.cell 1
  have fz1 := HZ4.out.frozen 1
  have z2 : w4.cell? ⟨p, 2, none⟩ = some (.int .u64 0) := HZ4.out.cell 2
  have fz2 := HZ4.out.frozen 2
  have z3 : w4.cell? ⟨p, 3, none⟩ = some (.int .i64 0) := HZ4.out.cell 3
  have fz3 := HZ4.out.frozen 3
  go_wp2
  obtain ⟨wz, hwz⟩ : ∃ wz, (((w4.setCell ⟨p, 0, none⟩ (.int .i64 0)).setCell ⟨p, 1, none⟩ (.int .u64 0)).setCell ⟨p, 2, none⟩ (.int .u64 0)).setCell ⟨p, 3, none⟩ (.int .i64 0) = wz := ⟨_, rfl⟩
  have hx : Box wz p 29 #[.int .i64 0, .int .u64 0, .int .u64 0, .int .i64 0] := by
    rw [← hwz]
    exact (((HZ4.out.put 0 _).put 1 _).put 2 _).put 3 _
  have hb : Below p w wz := by
    rw [← hwz]
    exact (((HB4.out.setCell (p := ⟨p, 0, none⟩) (Nat.le_refl _) _).setCell (p := ⟨p, 1, none⟩) (Nat.le_refl _) _).setCell (p := ⟨p, 2, none⟩) (Nat.le_refl _) _).setCell (p := ⟨p, 3, none⟩) (Nat.le_refl _) _
  rw [hwz]
  exact bodyPost_ret (v := .tuple #[.agg #[.int .i64 0, .int .u64 0, .int .u64 0, .int .i64 0], .int .i64 3]) (results_ct Try.results11 rfl rfl (load_box hx Try.underlying29 rfl (inforop _ _ _ _))) rfl (PsPost.mk (o := ⟨0, 0, 0, (0 : Nat)⟩) HX.out (HP.out ▸ hb))
set_option maxHeartbeats 2000000 in
theorem rparse_2key (c : UInt8) (r : List UInt8) (x : List UInt8)  (w : World) (hk : knd c = 2) (ht : tex r = some (x, [])) (nk : x.length ≤ 9223372036854775807) (hx : ¬ x.length ≤ 7) :
    Calls Try.prog 11 #[.string (BA (c :: r))] w (PsPost w (c :: r)) := by
  have HX := Lib.hid (show (Ov.z, (4 : Int)) = prs (c :: r) from (prs_long hk (by decide) (by unfold bdy; rw [if_neg (by decide), if_neg (by decide), ht]) (fun h => hx h.2)).symm)
  have K := Lib.hid (fun w => rkind_any (c :: r) w)
  have hk0 : Kd (c :: r) = 2 := hk
  rw [hk0] at K
  clear hk0
  have HT := Lib.hid (fun w => rtext_any r w)
  unfold TxPost at HT
  rw [ht] at HT
  have hs1 := rest_one c r
  have he0 := BA_none
  have nv : ([] : List UInt8).length ≤ 9223372036854775807 := by simp
  have hv : ([] : List UInt8).length ≤ 7 := by simp
  have hkl := Lib.hid (show (BA x).size ≤ 9223372036854775807 from nk)
  have hvl := Lib.hid (show (BA []).size ≤ 9223372036854775807 from nv)
  have hke := Lib.hid (we_far hx)
  have hve := Lib.hid (rfl : we (BA []) = we (BA []))
  clear hk ht nk nv hx hv
  obtain ⟨p, hp⟩ : ∃ p, w.heap.size = p := ⟨_, rfl⟩
  obtain ⟨w1, hw1⟩ : ∃ w1, w.alloc (.cells #[.int .i64 0, .int .u64 0, .int .u64 0, .int .i64 0] 29) = w1 := ⟨_, rfl⟩
  have HZ1 := Lib.hid (show Box w1 p 29 #[.int .i64 0, .int .u64 0, .int .u64 0, .int .i64 0] by rw [← hw1, ← hp]; exact Box.new _ _ _)
  have HB1 := Lib.hid (show Below p w w1 by rw [← hw1, ← hp]; exact (Below.refl _ _).alloc (Nat.le_refl _) _)
  have HP := Lib.hid hp
  have HW := Lib.hid hw1
  clear hp hw1
  go_enter Try.func11, Try.ntmps11
  go_wp2_with fail
  rw [HW.out, HP.out]
  refine (K.out _).mono ?_
  rintro e w2 ⟨rfl, hb⟩
  have HZ2 := Lib.hid (HZ1.out.of (hb.block _ HZ1.out.lt))
  have HB2 := Lib.hid (HB1.out.trans (hb.mono (by have := HZ1.out.lt; omega)))
  clear hb K HZ1 HB1 HW
  go_upto_region 2 with fail
  obtain ⟨q, hq⟩ : ∃ q, w2.heap.size = q := ⟨_, rfl⟩
  obtain ⟨w3, hw3⟩ : ∃ w3, w2.alloc (.cells #[.int .i64 2, .int .u64 0, .int .u64 0, .int .i64 0] 29) = w3 := ⟨_, rfl⟩
  try simp only [hw3, hq]
  have HO3 := Lib.hid (show Box w3 q 29 #[.int .i64 2, .int .u64 0, .int .u64 0, .int .i64 0] by rw [← hw3, ← hq]; exact Box.new _ _ _)
  have HZ3 := Lib.hid (show Box w3 p 29 #[.int .i64 0, .int .u64 0, .int .u64 0, .int .i64 0] by rw [← hw3]; exact HZ2.out.alloc _)
  have HB3 := Lib.hid (show Below p w w3 by rw [← hw3]; exact HB2.out.alloc (by have := HZ2.out.lt; omega) _)
  have HN := Lib.hid (show p < q by have h1 := HZ2.out.lt; omega)
  clear hq hw3 HZ2 HB2
  have o0 : w3.cell? ⟨q, 0, none⟩ = some (.int .i64 2) := HO3.out.cell 0
  have o1 : w3.cell? ⟨q, 1, none⟩ = some (.int .u64 0) := HO3.out.cell 1
  have o2 : w3.cell? ⟨q, 2, none⟩ = some (.int .u64 0) := HO3.out.cell 2
  have o3 : w3.cell? ⟨q, 3, none⟩ = some (.int .i64 0) := HO3.out.cell 3
  go_wp2_with fail
  refine (HT.out _).mono ?_
  rintro e w4 ⟨rfl, hb⟩
  have HZ4 := Lib.hid (HZ3.out.of (hb.block _ HZ3.out.lt))
  have HO4 := Lib.hid (HO3.out.of (hb.block _ HO3.out.lt))
  have HB4 := Lib.hid (HB3.out.trans (hb.mono (by have := HZ3.out.lt; omega)))
  clear hb HZ3 HO3 HB3
  clear o0 o1 o2 o3
  have o0 : w4.cell? ⟨q, 0, none⟩ = some (.int .i64 2) := HO4.out.cell 0
  have o1 : w4.cell? ⟨q, 1, none⟩ = some (.int .u64 0) := HO4.out.cell 1
  have o2 : w4.cell? ⟨q, 2, none⟩ = some (.int .u64 0) := HO4.out.cell 2
  have o3 : w4.cell? ⟨q, 3, none⟩ = some (.int .i64 0) := HO4.out.cell 3
  go_wp2_with fail
  refine (refWord_any (BA x) _ hkl.out).mono ?_
  rintro e w5 ⟨rfl, hb⟩
  rw [hke.out]
  have HZ5 := Lib.hid (HZ4.out.of (hb.block _ HZ4.out.lt))
  have HO5 := Lib.hid (HO4.out.of (hb.block _ HO4.out.lt))
  have HB5 := Lib.hid (HB4.out.trans (hb.mono (by have := HZ4.out.lt; omega)))
  clear hb HZ4 HO4 HB4
  clear o0 o1 o2 o3
  have o0 : w5.cell? ⟨q, 0, none⟩ = some (.int .i64 2) := HO5.out.cell 0
  have o1 : w5.cell? ⟨q, 1, none⟩ = some (.int .u64 0) := HO5.out.cell 1
  have o2 : w5.cell? ⟨q, 2, none⟩ = some (.int .u64 0) := HO5.out.cell 2
  have o3 : w5.cell? ⟨q, 3, none⟩ = some (.int .i64 0) := HO5.out.cell 3
  go_wp2_with fail
  refine (refWord_any (BA []) _ hvl.out).mono ?_
  rintro e w6 ⟨rfl, hb⟩
  have HZ6 := Lib.hid (HZ5.out.of (hb.block _ HZ5.out.lt))
  have HO6 := Lib.hid (HO5.out.of (hb.block _ HO5.out.lt))
  have HB6 := Lib.hid (HB5.out.trans (hb.mono (by have := HZ5.out.lt; omega)))
  clear hb HZ5 HO5 HB5
  clear o0 o1 o2 o3
  have o0 : w6.cell? ⟨q, 0, none⟩ = some (.int .i64 2) := HO6.out.cell 0
  have o1 : w6.cell? ⟨q, 1, none⟩ = some (.int .u64 0) := HO6.out.cell 1
  have o2 : w6.cell? ⟨q, 2, none⟩ = some (.int .u64 0) := HO6.out.cell 2
  have o3 : w6.cell? ⟨q, 3, none⟩ = some (.int .i64 0) := HO6.out.cell 3
  have z0 : w6.cell? ⟨p, 0, none⟩ = some (.int .i64 0) := HZ6.out.cell 0
  have fz0 := HZ6.out.frozen 0
  have z1 : w6.cell? ⟨p, 1, none⟩ = some (.int .u64 0) := HZ6.out.cell 1
  have fz1 := HZ6.out.frozen 1
  have z2 : w6.cell? ⟨p, 2, none⟩ = some (.int .u64 0) := HZ6.out.cell 2
  have fz2 := HZ6.out.frozen 2
  have z3 : w6.cell? ⟨p, 3, none⟩ = some (.int .i64 0) := HZ6.out.cell 3
  have fz3 := HZ6.out.frozen 3
  go_wp2
  obtain ⟨wz, hwz⟩ : ∃ wz, (((w6.setCell ⟨p, 0, none⟩ (.int .i64 0)).setCell ⟨p, 1, none⟩ (.int .u64 0)).setCell ⟨p, 2, none⟩ (.int .u64 0)).setCell ⟨p, 3, none⟩ (.int .i64 0) = wz := ⟨_, rfl⟩
  have hx : Box wz p 29 #[.int .i64 0, .int .u64 0, .int .u64 0, .int .i64 0] := by
    rw [← hwz]
    exact (((HZ6.out.put 0 _).put 1 _).put 2 _).put 3 _
  have hb : Below p w wz := by
    rw [← hwz]
    exact (((HB6.out.setCell (p := ⟨p, 0, none⟩) (Nat.le_refl _) _).setCell (p := ⟨p, 1, none⟩) (Nat.le_refl _) _).setCell (p := ⟨p, 2, none⟩) (Nat.le_refl _) _).setCell (p := ⟨p, 3, none⟩) (Nat.le_refl _) _
  rw [hwz]
  exact bodyPost_ret (v := .tuple #[.agg #[.int .i64 0, .int .u64 0, .int .u64 0, .int .i64 0], .int .i64 4]) (results_ct Try.results11 rfl rfl (load_box hx Try.underlying29 rfl (inforop _ _ _ _))) rfl (PsPost.mk (o := ⟨0, 0, 0, (0 : Nat)⟩) HX.out (HP.out ▸ hb))
set_option maxHeartbeats 2000000 in
theorem rparse_2ok (c : UInt8) (r : List UInt8) (x : List UInt8)  (w : World) (hk : knd c = 2) (ht : tex r = some (x, [])) (nk : x.length ≤ 9223372036854775807) (hx : x.length ≤ 7) :
    Calls Try.prog 11 #[.string (BA (c :: r))] w (PsPost w (c :: r)) := by
  have HX := Lib.hid (show ((⟨2, wd (BA x), wd (BA []), (0 : Nat)⟩ : Ov), (0 : Int)) = prs (c :: r) from (prs_yes hk (by decide) (by unfold bdy; rw [if_neg (by decide), if_neg (by decide), ht]) (by simp) hx).symm)
  have K := Lib.hid (fun w => rkind_any (c :: r) w)
  have hk0 : Kd (c :: r) = 2 := hk
  rw [hk0] at K
  clear hk0
  have HT := Lib.hid (fun w => rtext_any r w)
  unfold TxPost at HT
  rw [ht] at HT
  have hs1 := rest_one c r
  have he0 := BA_none
  have nv : ([] : List UInt8).length ≤ 9223372036854775807 := by simp
  have hv : ([] : List UInt8).length ≤ 7 := by simp
  have hkl := Lib.hid (show (BA x).size ≤ 9223372036854775807 from nk)
  have hvl := Lib.hid (show (BA []).size ≤ 9223372036854775807 from nv)
  have hke := Lib.hid (we_few hx)
  have hve := Lib.hid (we_few hv)
  have hkw := Lib.hid (wv_few hx)
  have hvw := Lib.hid (wv_few hv)
  clear hk ht nk nv hx hv
  obtain ⟨p, hp⟩ : ∃ p, w.heap.size = p := ⟨_, rfl⟩
  obtain ⟨w1, hw1⟩ : ∃ w1, w.alloc (.cells #[.int .i64 0, .int .u64 0, .int .u64 0, .int .i64 0] 29) = w1 := ⟨_, rfl⟩
  have HZ1 := Lib.hid (show Box w1 p 29 #[.int .i64 0, .int .u64 0, .int .u64 0, .int .i64 0] by rw [← hw1, ← hp]; exact Box.new _ _ _)
  have HB1 := Lib.hid (show Below p w w1 by rw [← hw1, ← hp]; exact (Below.refl _ _).alloc (Nat.le_refl _) _)
  have HP := Lib.hid hp
  have HW := Lib.hid hw1
  clear hp hw1
  go_enter Try.func11, Try.ntmps11
  go_wp2_with fail
  rw [HW.out, HP.out]
  refine (K.out _).mono ?_
  rintro e w2 ⟨rfl, hb⟩
  have HZ2 := Lib.hid (HZ1.out.of (hb.block _ HZ1.out.lt))
  have HB2 := Lib.hid (HB1.out.trans (hb.mono (by have := HZ1.out.lt; omega)))
  clear hb K HZ1 HB1 HW
  go_upto_region 2 with fail
  obtain ⟨q, hq⟩ : ∃ q, w2.heap.size = q := ⟨_, rfl⟩
  obtain ⟨w3, hw3⟩ : ∃ w3, w2.alloc (.cells #[.int .i64 2, .int .u64 0, .int .u64 0, .int .i64 0] 29) = w3 := ⟨_, rfl⟩
  try simp only [hw3, hq]
  have HO3 := Lib.hid (show Box w3 q 29 #[.int .i64 2, .int .u64 0, .int .u64 0, .int .i64 0] by rw [← hw3, ← hq]; exact Box.new _ _ _)
  have HZ3 := Lib.hid (show Box w3 p 29 #[.int .i64 0, .int .u64 0, .int .u64 0, .int .i64 0] by rw [← hw3]; exact HZ2.out.alloc _)
  have HB3 := Lib.hid (show Below p w w3 by rw [← hw3]; exact HB2.out.alloc (by have := HZ2.out.lt; omega) _)
  have HN := Lib.hid (show p < q by have h1 := HZ2.out.lt; omega)
  clear hq hw3 HZ2 HB2
  have o0 : w3.cell? ⟨q, 0, none⟩ = some (.int .i64 2) := HO3.out.cell 0
  have o1 : w3.cell? ⟨q, 1, none⟩ = some (.int .u64 0) := HO3.out.cell 1
  have o2 : w3.cell? ⟨q, 2, none⟩ = some (.int .u64 0) := HO3.out.cell 2
  have o3 : w3.cell? ⟨q, 3, none⟩ = some (.int .i64 0) := HO3.out.cell 3
  go_wp2_with fail
  refine (HT.out _).mono ?_
  rintro e w4 ⟨rfl, hb⟩
  have HZ4 := Lib.hid (HZ3.out.of (hb.block _ HZ3.out.lt))
  have HO4 := Lib.hid (HO3.out.of (hb.block _ HO3.out.lt))
  have HB4 := Lib.hid (HB3.out.trans (hb.mono (by have := HZ3.out.lt; omega)))
  clear hb HZ3 HO3 HB3
  clear o0 o1 o2 o3
  have o0 : w4.cell? ⟨q, 0, none⟩ = some (.int .i64 2) := HO4.out.cell 0
  have o1 : w4.cell? ⟨q, 1, none⟩ = some (.int .u64 0) := HO4.out.cell 1
  have o2 : w4.cell? ⟨q, 2, none⟩ = some (.int .u64 0) := HO4.out.cell 2
  have o3 : w4.cell? ⟨q, 3, none⟩ = some (.int .i64 0) := HO4.out.cell 3
  go_wp2_with fail
  refine (refWord_any (BA x) _ hkl.out).mono ?_
  rintro e w5 ⟨rfl, hb⟩
  rw [hke.out]
  have HZ5 := Lib.hid (HZ4.out.of (hb.block _ HZ4.out.lt))
  have HO5 := Lib.hid (HO4.out.of (hb.block _ HO4.out.lt))
  have HB5 := Lib.hid (HB4.out.trans (hb.mono (by have := HZ4.out.lt; omega)))
  clear hb HZ4 HO4 HB4
  clear o0 o1 o2 o3
  have o0 : w5.cell? ⟨q, 0, none⟩ = some (.int .i64 2) := HO5.out.cell 0
  have o1 : w5.cell? ⟨q, 1, none⟩ = some (.int .u64 0) := HO5.out.cell 1
  have o2 : w5.cell? ⟨q, 2, none⟩ = some (.int .u64 0) := HO5.out.cell 2
  have o3 : w5.cell? ⟨q, 3, none⟩ = some (.int .i64 0) := HO5.out.cell 3
  go_wp2_with fail
  refine (refWord_any (BA []) _ hvl.out).mono ?_
  rintro e w6 ⟨rfl, hb⟩
  rw [hve.out]
  have HZ6 := Lib.hid (HZ5.out.of (hb.block _ HZ5.out.lt))
  have HO6 := Lib.hid (HO5.out.of (hb.block _ HO5.out.lt))
  have HB6 := Lib.hid (HB5.out.trans (hb.mono (by have := HZ5.out.lt; omega)))
  clear hb HZ5 HO5 HB5
  clear o0 o1 o2 o3
  have o0 : w6.cell? ⟨q, 0, none⟩ = some (.int .i64 2) := HO6.out.cell 0
  have o1 : w6.cell? ⟨q, 1, none⟩ = some (.int .u64 0) := HO6.out.cell 1
  have o2 : w6.cell? ⟨q, 2, none⟩ = some (.int .u64 0) := HO6.out.cell 2
  have o3 : w6.cell? ⟨q, 3, none⟩ = some (.int .i64 0) := HO6.out.cell 3
  simp only [hkw.out, hvw.out]
  have f9 := HO6.out.frozen 1
  go_upto_region 22 with (fail)
  obtain ⟨w7, hw9⟩ : ∃ wy, w6.setCell ⟨q, 1, none⟩ (.int .u64 (wd (BA x) : Nat)) = wy := ⟨_, rfl⟩
  try simp only [hw9]
  have HO7 := Lib.hid (show Box w7 q 29 #[.int .i64 2, .int .u64 (wd (BA x) : Nat), .int .u64 0, .int .i64 0] by rw [← hw9]; exact HO6.out.put 1 _)
  have HZ7 := Lib.hid (show Box w7 p 29 #[.int .i64 0, .int .u64 0, .int .u64 0, .int .i64 0] by rw [← hw9]; exact HZ6.out.far (a := ⟨q, 1, none⟩) (by show p ≠ q; have := HN.out; omega) _)
  have HB7 := Lib.hid (show Below p w w7 by rw [← hw9]; exact HB6.out.setCell (p := ⟨q, 1, none⟩) (by show p ≤ q; have := HN.out; omega) _)
  clear f9 hw9 HO6 HZ6 HB6
  clear o0 o1 o2 o3
  have o0 : w7.cell? ⟨q, 0, none⟩ = some (.int .i64 2) := HO7.out.cell 0
  have o1 : w7.cell? ⟨q, 1, none⟩ = some (.int .u64 (wd (BA x) : Nat)) := HO7.out.cell 1
  have o2 : w7.cell? ⟨q, 2, none⟩ = some (.int .u64 0) := HO7.out.cell 2
  have o3 : w7.cell? ⟨q, 3, none⟩ = some (.int .i64 0) := HO7.out.cell 3
  have f9 := HO7.out.frozen 2
  go_upto_region 23 with (fail)
  obtain ⟨w8, hw9⟩ : ∃ wy, w7.setCell ⟨q, 2, none⟩ (.int .u64 (wd (BA []) : Nat)) = wy := ⟨_, rfl⟩
  try simp only [hw9]
  have HO8 := Lib.hid (show Box w8 q 29 #[.int .i64 2, .int .u64 (wd (BA x) : Nat), .int .u64 (wd (BA []) : Nat), .int .i64 0] by rw [← hw9]; exact HO7.out.put 2 _)
  have HZ8 := Lib.hid (show Box w8 p 29 #[.int .i64 0, .int .u64 0, .int .u64 0, .int .i64 0] by rw [← hw9]; exact HZ7.out.far (a := ⟨q, 2, none⟩) (by show p ≠ q; have := HN.out; omega) _)
  have HB8 := Lib.hid (show Below p w w8 by rw [← hw9]; exact HB7.out.setCell (p := ⟨q, 2, none⟩) (by show p ≤ q; have := HN.out; omega) _)
  clear f9 hw9 HO7 HZ7 HB7
  clear o0 o1 o2 o3
  have o0 : w8.cell? ⟨q, 0, none⟩ = some (.int .i64 2) := HO8.out.cell 0
  have o1 : w8.cell? ⟨q, 1, none⟩ = some (.int .u64 (wd (BA x) : Nat)) := HO8.out.cell 1
  have o2 : w8.cell? ⟨q, 2, none⟩ = some (.int .u64 (wd (BA []) : Nat)) := HO8.out.cell 2
  have o3 : w8.cell? ⟨q, 3, none⟩ = some (.int .i64 0) := HO8.out.cell 3
  have z0 : w8.cell? ⟨p, 0, none⟩ = some (.int .i64 0) := HZ8.out.cell 0
  have fz0 := HZ8.out.frozen 0
  have z1 : w8.cell? ⟨p, 1, none⟩ = some (.int .u64 0) := HZ8.out.cell 1
  have fz1 := HZ8.out.frozen 1
  have z2 : w8.cell? ⟨p, 2, none⟩ = some (.int .u64 0) := HZ8.out.cell 2
  have fz2 := HZ8.out.frozen 2
  have z3 : w8.cell? ⟨p, 3, none⟩ = some (.int .i64 0) := HZ8.out.cell 3
  have fz3 := HZ8.out.frozen 3
  go_wp2
  obtain ⟨wz, hwz⟩ : ∃ wz, (((w8.setCell ⟨p, 0, none⟩ (.int .i64 2)).setCell ⟨p, 1, none⟩ (.int .u64 (wd (BA x) : Nat))).setCell ⟨p, 2, none⟩ (.int .u64 (wd (BA []) : Nat))).setCell ⟨p, 3, none⟩ (.int .i64 0) = wz := ⟨_, rfl⟩
  have hx : Box wz p 29 #[.int .i64 2, .int .u64 (wd (BA x) : Nat), .int .u64 (wd (BA []) : Nat), .int .i64 0] := by
    rw [← hwz]
    exact (((HZ8.out.put 0 _).put 1 _).put 2 _).put 3 _
  have hb : Below p w wz := by
    rw [← hwz]
    exact (((HB8.out.setCell (p := ⟨p, 0, none⟩) (Nat.le_refl _) _).setCell (p := ⟨p, 1, none⟩) (Nat.le_refl _) _).setCell (p := ⟨p, 2, none⟩) (Nat.le_refl _) _).setCell (p := ⟨p, 3, none⟩) (Nat.le_refl _) _
  rw [hwz]
  exact bodyPost_ret (v := .tuple #[.agg #[.int .i64 2, .int .u64 (wd (BA x) : Nat), .int .u64 (wd (BA []) : Nat), .int .i64 0], .int .i64 0]) (results_ct Try.results11 rfl rfl (load_box hx Try.underlying29 rfl (inforop _ _ _ _))) rfl (PsPost.mk (o := ⟨2, wd (BA x), wd (BA []), (0 : Nat)⟩) HX.out (HP.out ▸ hb))
set_option maxHeartbeats 2000000 in
theorem rparse_4n (c : UInt8) (r : List UInt8)  (w : World) (hk : knd c = 4) (ht : tex r = none) :
    Calls Try.prog 11 #[.string (BA (c :: r))] w (PsPost w (c :: r)) := by
  have HX := Lib.hid (show (Ov.z, (3 : Int)) = prs (c :: r) from (prs_no hk (by decide) (by unfold bdy; rw [if_neg (by decide), if_neg (by decide), ht])).symm)
  have K := Lib.hid (fun w => rkind_any (c :: r) w)
  have hk0 : Kd (c :: r) = 4 := hk
  rw [hk0] at K
  clear hk0
  have HT := Lib.hid (fun w => rtext_any r w)
  unfold TxPost at HT
  rw [ht] at HT
  have hs1 := rest_one c r
  have he0 := BA_none
  clear hk ht
  obtain ⟨p, hp⟩ : ∃ p, w.heap.size = p := ⟨_, rfl⟩
  obtain ⟨w1, hw1⟩ : ∃ w1, w.alloc (.cells #[.int .i64 0, .int .u64 0, .int .u64 0, .int .i64 0] 29) = w1 := ⟨_, rfl⟩
  have HZ1 := Lib.hid (show Box w1 p 29 #[.int .i64 0, .int .u64 0, .int .u64 0, .int .i64 0] by rw [← hw1, ← hp]; exact Box.new _ _ _)
  have HB1 := Lib.hid (show Below p w w1 by rw [← hw1, ← hp]; exact (Below.refl _ _).alloc (Nat.le_refl _) _)
  have HP := Lib.hid hp
  have HW := Lib.hid hw1
  clear hp hw1
  go_enter Try.func11, Try.ntmps11
  go_wp2_with fail
  rw [HW.out, HP.out]
  refine (K.out _).mono ?_
  rintro e w2 ⟨rfl, hb⟩
  have HZ2 := Lib.hid (HZ1.out.of (hb.block _ HZ1.out.lt))
  have HB2 := Lib.hid (HB1.out.trans (hb.mono (by have := HZ1.out.lt; omega)))
  clear hb K HZ1 HB1 HW
  go_upto_region 2 with fail
  obtain ⟨q, hq⟩ : ∃ q, w2.heap.size = q := ⟨_, rfl⟩
  obtain ⟨w3, hw3⟩ : ∃ w3, w2.alloc (.cells #[.int .i64 4, .int .u64 0, .int .u64 0, .int .i64 0] 29) = w3 := ⟨_, rfl⟩
  try simp only [hw3, hq]
  have HO3 := Lib.hid (show Box w3 q 29 #[.int .i64 4, .int .u64 0, .int .u64 0, .int .i64 0] by rw [← hw3, ← hq]; exact Box.new _ _ _)
  have HZ3 := Lib.hid (show Box w3 p 29 #[.int .i64 0, .int .u64 0, .int .u64 0, .int .i64 0] by rw [← hw3]; exact HZ2.out.alloc _)
  have HB3 := Lib.hid (show Below p w w3 by rw [← hw3]; exact HB2.out.alloc (by have := HZ2.out.lt; omega) _)
  have HN := Lib.hid (show p < q by have h1 := HZ2.out.lt; omega)
  clear hq hw3 HZ2 HB2
  have o0 : w3.cell? ⟨q, 0, none⟩ = some (.int .i64 4) := HO3.out.cell 0
  have o1 : w3.cell? ⟨q, 1, none⟩ = some (.int .u64 0) := HO3.out.cell 1
  have o2 : w3.cell? ⟨q, 2, none⟩ = some (.int .u64 0) := HO3.out.cell 2
  have o3 : w3.cell? ⟨q, 3, none⟩ = some (.int .i64 0) := HO3.out.cell 3
  go_wp2_with fail
  refine (HT.out _).mono ?_
  rintro e w4 ⟨rfl, hb⟩
  have HZ4 := Lib.hid (HZ3.out.of (hb.block _ HZ3.out.lt))
  have HO4 := Lib.hid (HO3.out.of (hb.block _ HO3.out.lt))
  have HB4 := Lib.hid (HB3.out.trans (hb.mono (by have := HZ3.out.lt; omega)))
  clear hb HZ3 HO3 HB3
  clear o0 o1 o2 o3
  have o0 : w4.cell? ⟨q, 0, none⟩ = some (.int .i64 4) := HO4.out.cell 0
  have o1 : w4.cell? ⟨q, 1, none⟩ = some (.int .u64 0) := HO4.out.cell 1
  have o2 : w4.cell? ⟨q, 2, none⟩ = some (.int .u64 0) := HO4.out.cell 2
  have o3 : w4.cell? ⟨q, 3, none⟩ = some (.int .i64 0) := HO4.out.cell 3
  have z0 : w4.cell? ⟨p, 0, none⟩ = some (.int .i64 0) := HZ4.out.cell 0
  have fz0 := HZ4.out.frozen 0
  have z1 : w4.cell? ⟨p, 1, none⟩ = some (.int .u64 0) := HZ4.out.cell 1
  have fz1 := HZ4.out.frozen 1
  have z2 : w4.cell? ⟨p, 2, none⟩ = some (.int .u64 0) := HZ4.out.cell 2
  have fz2 := HZ4.out.frozen 2
  have z3 : w4.cell? ⟨p, 3, none⟩ = some (.int .i64 0) := HZ4.out.cell 3
  have fz3 := HZ4.out.frozen 3
  go_wp2
  obtain ⟨wz, hwz⟩ : ∃ wz, (((w4.setCell ⟨p, 0, none⟩ (.int .i64 0)).setCell ⟨p, 1, none⟩ (.int .u64 0)).setCell ⟨p, 2, none⟩ (.int .u64 0)).setCell ⟨p, 3, none⟩ (.int .i64 0) = wz := ⟨_, rfl⟩
  have hx : Box wz p 29 #[.int .i64 0, .int .u64 0, .int .u64 0, .int .i64 0] := by
    rw [← hwz]
    exact (((HZ4.out.put 0 _).put 1 _).put 2 _).put 3 _
  have hb : Below p w wz := by
    rw [← hwz]
    exact (((HB4.out.setCell (p := ⟨p, 0, none⟩) (Nat.le_refl _) _).setCell (p := ⟨p, 1, none⟩) (Nat.le_refl _) _).setCell (p := ⟨p, 2, none⟩) (Nat.le_refl _) _).setCell (p := ⟨p, 3, none⟩) (Nat.le_refl _) _
  rw [hwz]
  exact bodyPost_ret (v := .tuple #[.agg #[.int .i64 0, .int .u64 0, .int .u64 0, .int .i64 0], .int .i64 3]) (results_ct Try.results11 rfl rfl (load_box hx Try.underlying29 rfl (inforop _ _ _ _))) rfl (PsPost.mk (o := ⟨0, 0, 0, (0 : Nat)⟩) HX.out (HP.out ▸ hb))
set_option maxHeartbeats 2000000 in
theorem rparse_4m (c : UInt8) (r : List UInt8) (x q : List UInt8) (b : UInt8)  (w : World) (hk : knd c = 4) (ht : tex r = some (x, b :: q)) :
    Calls Try.prog 11 #[.string (BA (c :: r))] w (PsPost w (c :: r)) := by
  have HX := Lib.hid (show (Ov.z, (3 : Int)) = prs (c :: r) from (prs_no hk (by decide) (by unfold bdy; rw [if_neg (by decide), if_neg (by decide), ht])).symm)
  have K := Lib.hid (fun w => rkind_any (c :: r) w)
  have hk0 : Kd (c :: r) = 4 := hk
  rw [hk0] at K
  clear hk0
  have HT := Lib.hid (fun w => rtext_any r w)
  unfold TxPost at HT
  rw [ht] at HT
  have hs1 := rest_one c r
  have he1 := BA_some b q
  clear hk ht
  obtain ⟨p, hp⟩ : ∃ p, w.heap.size = p := ⟨_, rfl⟩
  obtain ⟨w1, hw1⟩ : ∃ w1, w.alloc (.cells #[.int .i64 0, .int .u64 0, .int .u64 0, .int .i64 0] 29) = w1 := ⟨_, rfl⟩
  have HZ1 := Lib.hid (show Box w1 p 29 #[.int .i64 0, .int .u64 0, .int .u64 0, .int .i64 0] by rw [← hw1, ← hp]; exact Box.new _ _ _)
  have HB1 := Lib.hid (show Below p w w1 by rw [← hw1, ← hp]; exact (Below.refl _ _).alloc (Nat.le_refl _) _)
  have HP := Lib.hid hp
  have HW := Lib.hid hw1
  clear hp hw1
  go_enter Try.func11, Try.ntmps11
  go_wp2_with fail
  rw [HW.out, HP.out]
  refine (K.out _).mono ?_
  rintro e w2 ⟨rfl, hb⟩
  have HZ2 := Lib.hid (HZ1.out.of (hb.block _ HZ1.out.lt))
  have HB2 := Lib.hid (HB1.out.trans (hb.mono (by have := HZ1.out.lt; omega)))
  clear hb K HZ1 HB1 HW
  go_upto_region 2 with fail
  obtain ⟨q, hq⟩ : ∃ q, w2.heap.size = q := ⟨_, rfl⟩
  obtain ⟨w3, hw3⟩ : ∃ w3, w2.alloc (.cells #[.int .i64 4, .int .u64 0, .int .u64 0, .int .i64 0] 29) = w3 := ⟨_, rfl⟩
  try simp only [hw3, hq]
  have HO3 := Lib.hid (show Box w3 q 29 #[.int .i64 4, .int .u64 0, .int .u64 0, .int .i64 0] by rw [← hw3, ← hq]; exact Box.new _ _ _)
  have HZ3 := Lib.hid (show Box w3 p 29 #[.int .i64 0, .int .u64 0, .int .u64 0, .int .i64 0] by rw [← hw3]; exact HZ2.out.alloc _)
  have HB3 := Lib.hid (show Below p w w3 by rw [← hw3]; exact HB2.out.alloc (by have := HZ2.out.lt; omega) _)
  have HN := Lib.hid (show p < q by have h1 := HZ2.out.lt; omega)
  clear hq hw3 HZ2 HB2
  have o0 : w3.cell? ⟨q, 0, none⟩ = some (.int .i64 4) := HO3.out.cell 0
  have o1 : w3.cell? ⟨q, 1, none⟩ = some (.int .u64 0) := HO3.out.cell 1
  have o2 : w3.cell? ⟨q, 2, none⟩ = some (.int .u64 0) := HO3.out.cell 2
  have o3 : w3.cell? ⟨q, 3, none⟩ = some (.int .i64 0) := HO3.out.cell 3
  go_wp2_with fail
  refine (HT.out _).mono ?_
  rintro e w4 ⟨rfl, hb⟩
  have HZ4 := Lib.hid (HZ3.out.of (hb.block _ HZ3.out.lt))
  have HO4 := Lib.hid (HO3.out.of (hb.block _ HO3.out.lt))
  have HB4 := Lib.hid (HB3.out.trans (hb.mono (by have := HZ3.out.lt; omega)))
  clear hb HZ3 HO3 HB3
  clear o0 o1 o2 o3
  have o0 : w4.cell? ⟨q, 0, none⟩ = some (.int .i64 4) := HO4.out.cell 0
  have o1 : w4.cell? ⟨q, 1, none⟩ = some (.int .u64 0) := HO4.out.cell 1
  have o2 : w4.cell? ⟨q, 2, none⟩ = some (.int .u64 0) := HO4.out.cell 2
  have o3 : w4.cell? ⟨q, 3, none⟩ = some (.int .i64 0) := HO4.out.cell 3
  have z0 : w4.cell? ⟨p, 0, none⟩ = some (.int .i64 0) := HZ4.out.cell 0
  have fz0 := HZ4.out.frozen 0
  have z1 : w4.cell? ⟨p, 1, none⟩ = some (.int .u64 0) := HZ4.out.cell 1
  have fz1 := HZ4.out.frozen 1
  have z2 : w4.cell? ⟨p, 2, none⟩ = some (.int .u64 0) := HZ4.out.cell 2
  have fz2 := HZ4.out.frozen 2
  have z3 : w4.cell? ⟨p, 3, none⟩ = some (.int .i64 0) := HZ4.out.cell 3
  have fz3 := HZ4.out.frozen 3
  go_wp2
  obtain ⟨wz, hwz⟩ : ∃ wz, (((w4.setCell ⟨p, 0, none⟩ (.int .i64 0)).setCell ⟨p, 1, none⟩ (.int .u64 0)).setCell ⟨p, 2, none⟩ (.int .u64 0)).setCell ⟨p, 3, none⟩ (.int .i64 0) = wz := ⟨_, rfl⟩
  have hx : Box wz p 29 #[.int .i64 0, .int .u64 0, .int .u64 0, .int .i64 0] := by
    rw [← hwz]
    exact (((HZ4.out.put 0 _).put 1 _).put 2 _).put 3 _
  have hb : Below p w wz := by
    rw [← hwz]
    exact (((HB4.out.setCell (p := ⟨p, 0, none⟩) (Nat.le_refl _) _).setCell (p := ⟨p, 1, none⟩) (Nat.le_refl _) _).setCell (p := ⟨p, 2, none⟩) (Nat.le_refl _) _).setCell (p := ⟨p, 3, none⟩) (Nat.le_refl _) _
  rw [hwz]
  exact bodyPost_ret (v := .tuple #[.agg #[.int .i64 0, .int .u64 0, .int .u64 0, .int .i64 0], .int .i64 3]) (results_ct Try.results11 rfl rfl (load_box hx Try.underlying29 rfl (inforop _ _ _ _))) rfl (PsPost.mk (o := ⟨0, 0, 0, (0 : Nat)⟩) HX.out (HP.out ▸ hb))
set_option maxHeartbeats 2000000 in
theorem rparse_4key (c : UInt8) (r : List UInt8) (x : List UInt8)  (w : World) (hk : knd c = 4) (ht : tex r = some (x, [])) (nk : x.length ≤ 9223372036854775807) (hx : ¬ x.length ≤ 7) :
    Calls Try.prog 11 #[.string (BA (c :: r))] w (PsPost w (c :: r)) := by
  have HX := Lib.hid (show (Ov.z, (4 : Int)) = prs (c :: r) from (prs_long hk (by decide) (by unfold bdy; rw [if_neg (by decide), if_neg (by decide), ht]) (fun h => hx h.2)).symm)
  have K := Lib.hid (fun w => rkind_any (c :: r) w)
  have hk0 : Kd (c :: r) = 4 := hk
  rw [hk0] at K
  clear hk0
  have HT := Lib.hid (fun w => rtext_any r w)
  unfold TxPost at HT
  rw [ht] at HT
  have hs1 := rest_one c r
  have he0 := BA_none
  have nv : ([] : List UInt8).length ≤ 9223372036854775807 := by simp
  have hv : ([] : List UInt8).length ≤ 7 := by simp
  have hkl := Lib.hid (show (BA x).size ≤ 9223372036854775807 from nk)
  have hvl := Lib.hid (show (BA []).size ≤ 9223372036854775807 from nv)
  have hke := Lib.hid (we_far hx)
  have hve := Lib.hid (rfl : we (BA []) = we (BA []))
  clear hk ht nk nv hx hv
  obtain ⟨p, hp⟩ : ∃ p, w.heap.size = p := ⟨_, rfl⟩
  obtain ⟨w1, hw1⟩ : ∃ w1, w.alloc (.cells #[.int .i64 0, .int .u64 0, .int .u64 0, .int .i64 0] 29) = w1 := ⟨_, rfl⟩
  have HZ1 := Lib.hid (show Box w1 p 29 #[.int .i64 0, .int .u64 0, .int .u64 0, .int .i64 0] by rw [← hw1, ← hp]; exact Box.new _ _ _)
  have HB1 := Lib.hid (show Below p w w1 by rw [← hw1, ← hp]; exact (Below.refl _ _).alloc (Nat.le_refl _) _)
  have HP := Lib.hid hp
  have HW := Lib.hid hw1
  clear hp hw1
  go_enter Try.func11, Try.ntmps11
  go_wp2_with fail
  rw [HW.out, HP.out]
  refine (K.out _).mono ?_
  rintro e w2 ⟨rfl, hb⟩
  have HZ2 := Lib.hid (HZ1.out.of (hb.block _ HZ1.out.lt))
  have HB2 := Lib.hid (HB1.out.trans (hb.mono (by have := HZ1.out.lt; omega)))
  clear hb K HZ1 HB1 HW
  go_upto_region 2 with fail
  obtain ⟨q, hq⟩ : ∃ q, w2.heap.size = q := ⟨_, rfl⟩
  obtain ⟨w3, hw3⟩ : ∃ w3, w2.alloc (.cells #[.int .i64 4, .int .u64 0, .int .u64 0, .int .i64 0] 29) = w3 := ⟨_, rfl⟩
  try simp only [hw3, hq]
  have HO3 := Lib.hid (show Box w3 q 29 #[.int .i64 4, .int .u64 0, .int .u64 0, .int .i64 0] by rw [← hw3, ← hq]; exact Box.new _ _ _)
  have HZ3 := Lib.hid (show Box w3 p 29 #[.int .i64 0, .int .u64 0, .int .u64 0, .int .i64 0] by rw [← hw3]; exact HZ2.out.alloc _)
  have HB3 := Lib.hid (show Below p w w3 by rw [← hw3]; exact HB2.out.alloc (by have := HZ2.out.lt; omega) _)
  have HN := Lib.hid (show p < q by have h1 := HZ2.out.lt; omega)
  clear hq hw3 HZ2 HB2
  have o0 : w3.cell? ⟨q, 0, none⟩ = some (.int .i64 4) := HO3.out.cell 0
  have o1 : w3.cell? ⟨q, 1, none⟩ = some (.int .u64 0) := HO3.out.cell 1
  have o2 : w3.cell? ⟨q, 2, none⟩ = some (.int .u64 0) := HO3.out.cell 2
  have o3 : w3.cell? ⟨q, 3, none⟩ = some (.int .i64 0) := HO3.out.cell 3
  go_wp2_with fail
  refine (HT.out _).mono ?_
  rintro e w4 ⟨rfl, hb⟩
  have HZ4 := Lib.hid (HZ3.out.of (hb.block _ HZ3.out.lt))
  have HO4 := Lib.hid (HO3.out.of (hb.block _ HO3.out.lt))
  have HB4 := Lib.hid (HB3.out.trans (hb.mono (by have := HZ3.out.lt; omega)))
  clear hb HZ3 HO3 HB3
  clear o0 o1 o2 o3
  have o0 : w4.cell? ⟨q, 0, none⟩ = some (.int .i64 4) := HO4.out.cell 0
  have o1 : w4.cell? ⟨q, 1, none⟩ = some (.int .u64 0) := HO4.out.cell 1
  have o2 : w4.cell? ⟨q, 2, none⟩ = some (.int .u64 0) := HO4.out.cell 2
  have o3 : w4.cell? ⟨q, 3, none⟩ = some (.int .i64 0) := HO4.out.cell 3
  go_wp2_with fail
  refine (refWord_any (BA x) _ hkl.out).mono ?_
  rintro e w5 ⟨rfl, hb⟩
  rw [hke.out]
  have HZ5 := Lib.hid (HZ4.out.of (hb.block _ HZ4.out.lt))
  have HO5 := Lib.hid (HO4.out.of (hb.block _ HO4.out.lt))
  have HB5 := Lib.hid (HB4.out.trans (hb.mono (by have := HZ4.out.lt; omega)))
  clear hb HZ4 HO4 HB4
  clear o0 o1 o2 o3
  have o0 : w5.cell? ⟨q, 0, none⟩ = some (.int .i64 4) := HO5.out.cell 0
  have o1 : w5.cell? ⟨q, 1, none⟩ = some (.int .u64 0) := HO5.out.cell 1
  have o2 : w5.cell? ⟨q, 2, none⟩ = some (.int .u64 0) := HO5.out.cell 2
  have o3 : w5.cell? ⟨q, 3, none⟩ = some (.int .i64 0) := HO5.out.cell 3
  go_wp2_with fail
  refine (refWord_any (BA []) _ hvl.out).mono ?_
  rintro e w6 ⟨rfl, hb⟩
  have HZ6 := Lib.hid (HZ5.out.of (hb.block _ HZ5.out.lt))
  have HO6 := Lib.hid (HO5.out.of (hb.block _ HO5.out.lt))
  have HB6 := Lib.hid (HB5.out.trans (hb.mono (by have := HZ5.out.lt; omega)))
  clear hb HZ5 HO5 HB5
  clear o0 o1 o2 o3
  have o0 : w6.cell? ⟨q, 0, none⟩ = some (.int .i64 4) := HO6.out.cell 0
  have o1 : w6.cell? ⟨q, 1, none⟩ = some (.int .u64 0) := HO6.out.cell 1
  have o2 : w6.cell? ⟨q, 2, none⟩ = some (.int .u64 0) := HO6.out.cell 2
  have o3 : w6.cell? ⟨q, 3, none⟩ = some (.int .i64 0) := HO6.out.cell 3
  have z0 : w6.cell? ⟨p, 0, none⟩ = some (.int .i64 0) := HZ6.out.cell 0
  have fz0 := HZ6.out.frozen 0
  have z1 : w6.cell? ⟨p, 1, none⟩ = some (.int .u64 0) := HZ6.out.cell 1
  have fz1 := HZ6.out.frozen 1
  have z2 : w6.cell? ⟨p, 2, none⟩ = some (.int .u64 0) := HZ6.out.cell 2
  have fz2 := HZ6.out.frozen 2
  have z3 : w6.cell? ⟨p, 3, none⟩ = some (.int .i64 0) := HZ6.out.cell 3
  have fz3 := HZ6.out.frozen 3
  go_wp2
  obtain ⟨wz, hwz⟩ : ∃ wz, (((w6.setCell ⟨p, 0, none⟩ (.int .i64 0)).setCell ⟨p, 1, none⟩ (.int .u64 0)).setCell ⟨p, 2, none⟩ (.int .u64 0)).setCell ⟨p, 3, none⟩ (.int .i64 0) = wz := ⟨_, rfl⟩
  have hx : Box wz p 29 #[.int .i64 0, .int .u64 0, .int .u64 0, .int .i64 0] := by
    rw [← hwz]
    exact (((HZ6.out.put 0 _).put 1 _).put 2 _).put 3 _
  have hb : Below p w wz := by
    rw [← hwz]
    exact (((HB6.out.setCell (p := ⟨p, 0, none⟩) (Nat.le_refl _) _).setCell (p := ⟨p, 1, none⟩) (Nat.le_refl _) _).setCell (p := ⟨p, 2, none⟩) (Nat.le_refl _) _).setCell (p := ⟨p, 3, none⟩) (Nat.le_refl _) _
  rw [hwz]
  exact bodyPost_ret (v := .tuple #[.agg #[.int .i64 0, .int .u64 0, .int .u64 0, .int .i64 0], .int .i64 4]) (results_ct Try.results11 rfl rfl (load_box hx Try.underlying29 rfl (inforop _ _ _ _))) rfl (PsPost.mk (o := ⟨0, 0, 0, (0 : Nat)⟩) HX.out (HP.out ▸ hb))
set_option maxHeartbeats 2000000 in
theorem rparse_4ok (c : UInt8) (r : List UInt8) (x : List UInt8)  (w : World) (hk : knd c = 4) (ht : tex r = some (x, [])) (nk : x.length ≤ 9223372036854775807) (hx : x.length ≤ 7) :
    Calls Try.prog 11 #[.string (BA (c :: r))] w (PsPost w (c :: r)) := by
  have HX := Lib.hid (show ((⟨4, wd (BA x), wd (BA []), (0 : Nat)⟩ : Ov), (0 : Int)) = prs (c :: r) from (prs_yes hk (by decide) (by unfold bdy; rw [if_neg (by decide), if_neg (by decide), ht]) (by simp) hx).symm)
  have K := Lib.hid (fun w => rkind_any (c :: r) w)
  have hk0 : Kd (c :: r) = 4 := hk
  rw [hk0] at K
  clear hk0
  have HT := Lib.hid (fun w => rtext_any r w)
  unfold TxPost at HT
  rw [ht] at HT
  have hs1 := rest_one c r
  have he0 := BA_none
  have nv : ([] : List UInt8).length ≤ 9223372036854775807 := by simp
  have hv : ([] : List UInt8).length ≤ 7 := by simp
  have hkl := Lib.hid (show (BA x).size ≤ 9223372036854775807 from nk)
  have hvl := Lib.hid (show (BA []).size ≤ 9223372036854775807 from nv)
  have hke := Lib.hid (we_few hx)
  have hve := Lib.hid (we_few hv)
  have hkw := Lib.hid (wv_few hx)
  have hvw := Lib.hid (wv_few hv)
  clear hk ht nk nv hx hv
  obtain ⟨p, hp⟩ : ∃ p, w.heap.size = p := ⟨_, rfl⟩
  obtain ⟨w1, hw1⟩ : ∃ w1, w.alloc (.cells #[.int .i64 0, .int .u64 0, .int .u64 0, .int .i64 0] 29) = w1 := ⟨_, rfl⟩
  have HZ1 := Lib.hid (show Box w1 p 29 #[.int .i64 0, .int .u64 0, .int .u64 0, .int .i64 0] by rw [← hw1, ← hp]; exact Box.new _ _ _)
  have HB1 := Lib.hid (show Below p w w1 by rw [← hw1, ← hp]; exact (Below.refl _ _).alloc (Nat.le_refl _) _)
  have HP := Lib.hid hp
  have HW := Lib.hid hw1
  clear hp hw1
  go_enter Try.func11, Try.ntmps11
  go_wp2_with fail
  rw [HW.out, HP.out]
  refine (K.out _).mono ?_
  rintro e w2 ⟨rfl, hb⟩
  have HZ2 := Lib.hid (HZ1.out.of (hb.block _ HZ1.out.lt))
  have HB2 := Lib.hid (HB1.out.trans (hb.mono (by have := HZ1.out.lt; omega)))
  clear hb K HZ1 HB1 HW
  go_upto_region 2 with fail
  obtain ⟨q, hq⟩ : ∃ q, w2.heap.size = q := ⟨_, rfl⟩
  obtain ⟨w3, hw3⟩ : ∃ w3, w2.alloc (.cells #[.int .i64 4, .int .u64 0, .int .u64 0, .int .i64 0] 29) = w3 := ⟨_, rfl⟩
  try simp only [hw3, hq]
  have HO3 := Lib.hid (show Box w3 q 29 #[.int .i64 4, .int .u64 0, .int .u64 0, .int .i64 0] by rw [← hw3, ← hq]; exact Box.new _ _ _)
  have HZ3 := Lib.hid (show Box w3 p 29 #[.int .i64 0, .int .u64 0, .int .u64 0, .int .i64 0] by rw [← hw3]; exact HZ2.out.alloc _)
  have HB3 := Lib.hid (show Below p w w3 by rw [← hw3]; exact HB2.out.alloc (by have := HZ2.out.lt; omega) _)
  have HN := Lib.hid (show p < q by have h1 := HZ2.out.lt; omega)
  clear hq hw3 HZ2 HB2
  have o0 : w3.cell? ⟨q, 0, none⟩ = some (.int .i64 4) := HO3.out.cell 0
  have o1 : w3.cell? ⟨q, 1, none⟩ = some (.int .u64 0) := HO3.out.cell 1
  have o2 : w3.cell? ⟨q, 2, none⟩ = some (.int .u64 0) := HO3.out.cell 2
  have o3 : w3.cell? ⟨q, 3, none⟩ = some (.int .i64 0) := HO3.out.cell 3
  go_wp2_with fail
  refine (HT.out _).mono ?_
  rintro e w4 ⟨rfl, hb⟩
  have HZ4 := Lib.hid (HZ3.out.of (hb.block _ HZ3.out.lt))
  have HO4 := Lib.hid (HO3.out.of (hb.block _ HO3.out.lt))
  have HB4 := Lib.hid (HB3.out.trans (hb.mono (by have := HZ3.out.lt; omega)))
  clear hb HZ3 HO3 HB3
  clear o0 o1 o2 o3
  have o0 : w4.cell? ⟨q, 0, none⟩ = some (.int .i64 4) := HO4.out.cell 0
  have o1 : w4.cell? ⟨q, 1, none⟩ = some (.int .u64 0) := HO4.out.cell 1
  have o2 : w4.cell? ⟨q, 2, none⟩ = some (.int .u64 0) := HO4.out.cell 2
  have o3 : w4.cell? ⟨q, 3, none⟩ = some (.int .i64 0) := HO4.out.cell 3
  go_wp2_with fail
  refine (refWord_any (BA x) _ hkl.out).mono ?_
  rintro e w5 ⟨rfl, hb⟩
  rw [hke.out]
  have HZ5 := Lib.hid (HZ4.out.of (hb.block _ HZ4.out.lt))
  have HO5 := Lib.hid (HO4.out.of (hb.block _ HO4.out.lt))
  have HB5 := Lib.hid (HB4.out.trans (hb.mono (by have := HZ4.out.lt; omega)))
  clear hb HZ4 HO4 HB4
  clear o0 o1 o2 o3
  have o0 : w5.cell? ⟨q, 0, none⟩ = some (.int .i64 4) := HO5.out.cell 0
  have o1 : w5.cell? ⟨q, 1, none⟩ = some (.int .u64 0) := HO5.out.cell 1
  have o2 : w5.cell? ⟨q, 2, none⟩ = some (.int .u64 0) := HO5.out.cell 2
  have o3 : w5.cell? ⟨q, 3, none⟩ = some (.int .i64 0) := HO5.out.cell 3
  go_wp2_with fail
  refine (refWord_any (BA []) _ hvl.out).mono ?_
  rintro e w6 ⟨rfl, hb⟩
  rw [hve.out]
  have HZ6 := Lib.hid (HZ5.out.of (hb.block _ HZ5.out.lt))
  have HO6 := Lib.hid (HO5.out.of (hb.block _ HO5.out.lt))
  have HB6 := Lib.hid (HB5.out.trans (hb.mono (by have := HZ5.out.lt; omega)))
  clear hb HZ5 HO5 HB5
  clear o0 o1 o2 o3
  have o0 : w6.cell? ⟨q, 0, none⟩ = some (.int .i64 4) := HO6.out.cell 0
  have o1 : w6.cell? ⟨q, 1, none⟩ = some (.int .u64 0) := HO6.out.cell 1
  have o2 : w6.cell? ⟨q, 2, none⟩ = some (.int .u64 0) := HO6.out.cell 2
  have o3 : w6.cell? ⟨q, 3, none⟩ = some (.int .i64 0) := HO6.out.cell 3
  simp only [hkw.out, hvw.out]
  have f9 := HO6.out.frozen 1
  go_upto_region 22 with (fail)
  obtain ⟨w7, hw9⟩ : ∃ wy, w6.setCell ⟨q, 1, none⟩ (.int .u64 (wd (BA x) : Nat)) = wy := ⟨_, rfl⟩
  try simp only [hw9]
  have HO7 := Lib.hid (show Box w7 q 29 #[.int .i64 4, .int .u64 (wd (BA x) : Nat), .int .u64 0, .int .i64 0] by rw [← hw9]; exact HO6.out.put 1 _)
  have HZ7 := Lib.hid (show Box w7 p 29 #[.int .i64 0, .int .u64 0, .int .u64 0, .int .i64 0] by rw [← hw9]; exact HZ6.out.far (a := ⟨q, 1, none⟩) (by show p ≠ q; have := HN.out; omega) _)
  have HB7 := Lib.hid (show Below p w w7 by rw [← hw9]; exact HB6.out.setCell (p := ⟨q, 1, none⟩) (by show p ≤ q; have := HN.out; omega) _)
  clear f9 hw9 HO6 HZ6 HB6
  clear o0 o1 o2 o3
  have o0 : w7.cell? ⟨q, 0, none⟩ = some (.int .i64 4) := HO7.out.cell 0
  have o1 : w7.cell? ⟨q, 1, none⟩ = some (.int .u64 (wd (BA x) : Nat)) := HO7.out.cell 1
  have o2 : w7.cell? ⟨q, 2, none⟩ = some (.int .u64 0) := HO7.out.cell 2
  have o3 : w7.cell? ⟨q, 3, none⟩ = some (.int .i64 0) := HO7.out.cell 3
  have f9 := HO7.out.frozen 2
  go_upto_region 23 with (fail)
  obtain ⟨w8, hw9⟩ : ∃ wy, w7.setCell ⟨q, 2, none⟩ (.int .u64 (wd (BA []) : Nat)) = wy := ⟨_, rfl⟩
  try simp only [hw9]
  have HO8 := Lib.hid (show Box w8 q 29 #[.int .i64 4, .int .u64 (wd (BA x) : Nat), .int .u64 (wd (BA []) : Nat), .int .i64 0] by rw [← hw9]; exact HO7.out.put 2 _)
  have HZ8 := Lib.hid (show Box w8 p 29 #[.int .i64 0, .int .u64 0, .int .u64 0, .int .i64 0] by rw [← hw9]; exact HZ7.out.far (a := ⟨q, 2, none⟩) (by show p ≠ q; have := HN.out; omega) _)
  have HB8 := Lib.hid (show Below p w w8 by rw [← hw9]; exact HB7.out.setCell (p := ⟨q, 2, none⟩) (by show p ≤ q; have := HN.out; omega) _)
  clear f9 hw9 HO7 HZ7 HB7
  clear o0 o1 o2 o3
  have o0 : w8.cell? ⟨q, 0, none⟩ = some (.int .i64 4) := HO8.out.cell 0
  have o1 : w8.cell? ⟨q, 1, none⟩ = some (.int .u64 (wd (BA x) : Nat)) := HO8.out.cell 1
  have o2 : w8.cell? ⟨q, 2, none⟩ = some (.int .u64 (wd (BA []) : Nat)) := HO8.out.cell 2
  have o3 : w8.cell? ⟨q, 3, none⟩ = some (.int .i64 0) := HO8.out.cell 3
  have z0 : w8.cell? ⟨p, 0, none⟩ = some (.int .i64 0) := HZ8.out.cell 0
  have fz0 := HZ8.out.frozen 0
  have z1 : w8.cell? ⟨p, 1, none⟩ = some (.int .u64 0) := HZ8.out.cell 1
  have fz1 := HZ8.out.frozen 1
  have z2 : w8.cell? ⟨p, 2, none⟩ = some (.int .u64 0) := HZ8.out.cell 2
  have fz2 := HZ8.out.frozen 2
  have z3 : w8.cell? ⟨p, 3, none⟩ = some (.int .i64 0) := HZ8.out.cell 3
  have fz3 := HZ8.out.frozen 3
  go_wp2
  obtain ⟨wz, hwz⟩ : ∃ wz, (((w8.setCell ⟨p, 0, none⟩ (.int .i64 4)).setCell ⟨p, 1, none⟩ (.int .u64 (wd (BA x) : Nat))).setCell ⟨p, 2, none⟩ (.int .u64 (wd (BA []) : Nat))).setCell ⟨p, 3, none⟩ (.int .i64 0) = wz := ⟨_, rfl⟩
  have hx : Box wz p 29 #[.int .i64 4, .int .u64 (wd (BA x) : Nat), .int .u64 (wd (BA []) : Nat), .int .i64 0] := by
    rw [← hwz]
    exact (((HZ8.out.put 0 _).put 1 _).put 2 _).put 3 _
  have hb : Below p w wz := by
    rw [← hwz]
    exact (((HB8.out.setCell (p := ⟨p, 0, none⟩) (Nat.le_refl _) _).setCell (p := ⟨p, 1, none⟩) (Nat.le_refl _) _).setCell (p := ⟨p, 2, none⟩) (Nat.le_refl _) _).setCell (p := ⟨p, 3, none⟩) (Nat.le_refl _) _
  rw [hwz]
  exact bodyPost_ret (v := .tuple #[.agg #[.int .i64 4, .int .u64 (wd (BA x) : Nat), .int .u64 (wd (BA []) : Nat), .int .i64 0], .int .i64 0]) (results_ct Try.results11 rfl rfl (load_box hx Try.underlying29 rfl (inforop _ _ _ _))) rfl (PsPost.mk (o := ⟨4, wd (BA x), wd (BA []), (0 : Nat)⟩) HX.out (HP.out ▸ hb))
set_option maxHeartbeats 2000000 in
theorem rparse_5m (c : UInt8) (b : UInt8) (q : List UInt8)  (w : World) (hk : knd c = 5) :
    Calls Try.prog 11 #[.string (BA (c :: (b :: q)))] w (PsPost w (c :: (b :: q))) := by
  have HX := Lib.hid (show (Ov.z, (3 : Int)) = prs (c :: (b :: q)) from (prs_no hk (by decide) (by unfold bdy; rw [if_neg (by decide), if_pos rfl, if_neg (by simp)])).symm)
  have K := Lib.hid (fun w => rkind_any (c :: (b :: q)) w)
  have hk0 : Kd (c :: (b :: q)) = 5 := hk
  rw [hk0] at K
  clear hk0
  have hs1 := rest_one c (b :: q)
  have he1 := BA_some b q
  clear hk
  obtain ⟨p, hp⟩ : ∃ p, w.heap.size = p := ⟨_, rfl⟩
  obtain ⟨w1, hw1⟩ : ∃ w1, w.alloc (.cells #[.int .i64 0, .int .u64 0, .int .u64 0, .int .i64 0] 29) = w1 := ⟨_, rfl⟩
  have HZ1 := Lib.hid (show Box w1 p 29 #[.int .i64 0, .int .u64 0, .int .u64 0, .int .i64 0] by rw [← hw1, ← hp]; exact Box.new _ _ _)
  have HB1 := Lib.hid (show Below p w w1 by rw [← hw1, ← hp]; exact (Below.refl _ _).alloc (Nat.le_refl _) _)
  have HP := Lib.hid hp
  have HW := Lib.hid hw1
  clear hp hw1
  go_enter Try.func11, Try.ntmps11
  go_wp2_with fail
  rw [HW.out, HP.out]
  refine (K.out _).mono ?_
  rintro e w2 ⟨rfl, hb⟩
  have HZ2 := Lib.hid (HZ1.out.of (hb.block _ HZ1.out.lt))
  have HB2 := Lib.hid (HB1.out.trans (hb.mono (by have := HZ1.out.lt; omega)))
  clear hb K HZ1 HB1 HW
  go_upto_region 2 with fail
  obtain ⟨q, hq⟩ : ∃ q, w2.heap.size = q := ⟨_, rfl⟩
  obtain ⟨w3, hw3⟩ : ∃ w3, w2.alloc (.cells #[.int .i64 5, .int .u64 0, .int .u64 0, .int .i64 0] 29) = w3 := ⟨_, rfl⟩
  try simp only [hw3, hq]
  have HO3 := Lib.hid (show Box w3 q 29 #[.int .i64 5, .int .u64 0, .int .u64 0, .int .i64 0] by rw [← hw3, ← hq]; exact Box.new _ _ _)
  have HZ3 := Lib.hid (show Box w3 p 29 #[.int .i64 0, .int .u64 0, .int .u64 0, .int .i64 0] by rw [← hw3]; exact HZ2.out.alloc _)
  have HB3 := Lib.hid (show Below p w w3 by rw [← hw3]; exact HB2.out.alloc (by have := HZ2.out.lt; omega) _)
  have HN := Lib.hid (show p < q by have h1 := HZ2.out.lt; omega)
  clear hq hw3 HZ2 HB2
  have o0 : w3.cell? ⟨q, 0, none⟩ = some (.int .i64 5) := HO3.out.cell 0
  have o1 : w3.cell? ⟨q, 1, none⟩ = some (.int .u64 0) := HO3.out.cell 1
  have o2 : w3.cell? ⟨q, 2, none⟩ = some (.int .u64 0) := HO3.out.cell 2
  have o3 : w3.cell? ⟨q, 3, none⟩ = some (.int .i64 0) := HO3.out.cell 3
  have z0 : w3.cell? ⟨p, 0, none⟩ = some (.int .i64 0) := HZ3.out.cell 0
  have fz0 := HZ3.out.frozen 0
  have z1 : w3.cell? ⟨p, 1, none⟩ = some (.int .u64 0) := HZ3.out.cell 1
  have fz1 := HZ3.out.frozen 1
  have z2 : w3.cell? ⟨p, 2, none⟩ = some (.int .u64 0) := HZ3.out.cell 2
  have fz2 := HZ3.out.frozen 2
  have z3 : w3.cell? ⟨p, 3, none⟩ = some (.int .i64 0) := HZ3.out.cell 3
  have fz3 := HZ3.out.frozen 3
  go_wp2
  obtain ⟨wz, hwz⟩ : ∃ wz, (((w3.setCell ⟨p, 0, none⟩ (.int .i64 0)).setCell ⟨p, 1, none⟩ (.int .u64 0)).setCell ⟨p, 2, none⟩ (.int .u64 0)).setCell ⟨p, 3, none⟩ (.int .i64 0) = wz := ⟨_, rfl⟩
  have hx : Box wz p 29 #[.int .i64 0, .int .u64 0, .int .u64 0, .int .i64 0] := by
    rw [← hwz]
    exact (((HZ3.out.put 0 _).put 1 _).put 2 _).put 3 _
  have hb : Below p w wz := by
    rw [← hwz]
    exact (((HB3.out.setCell (p := ⟨p, 0, none⟩) (Nat.le_refl _) _).setCell (p := ⟨p, 1, none⟩) (Nat.le_refl _) _).setCell (p := ⟨p, 2, none⟩) (Nat.le_refl _) _).setCell (p := ⟨p, 3, none⟩) (Nat.le_refl _) _
  rw [hwz]
  exact bodyPost_ret (v := .tuple #[.agg #[.int .i64 0, .int .u64 0, .int .u64 0, .int .i64 0], .int .i64 3]) (results_ct Try.results11 rfl rfl (load_box hx Try.underlying29 rfl (inforop _ _ _ _))) rfl (PsPost.mk (o := ⟨0, 0, 0, (0 : Nat)⟩) HX.out (HP.out ▸ hb))
set_option maxHeartbeats 2000000 in
theorem rparse_5ok (c : UInt8)  (w : World) (hk : knd c = 5) :
    Calls Try.prog 11 #[.string (BA (c :: []))] w (PsPost w (c :: [])) := by
  have HX := Lib.hid (show ((⟨5, wd (BA []), wd (BA []), (0 : Nat)⟩ : Ov), (0 : Int)) = prs (c :: []) from (prs_yes hk (by decide) (by unfold bdy; rw [if_neg (by decide), if_pos rfl, if_pos rfl]) (by simp) (by simp)).symm)
  have K := Lib.hid (fun w => rkind_any (c :: []) w)
  have hk0 : Kd (c :: []) = 5 := hk
  rw [hk0] at K
  clear hk0
  have hs1 := rest_one c []
  have he0 := BA_none
  have nk : ([] : List UInt8).length ≤ 9223372036854775807 := by simp
  have nv : ([] : List UInt8).length ≤ 9223372036854775807 := by simp
  have hx : ([] : List UInt8).length ≤ 7 := by simp
  have hv : ([] : List UInt8).length ≤ 7 := by simp
  have hkl := Lib.hid (show (BA []).size ≤ 9223372036854775807 from nk)
  have hvl := Lib.hid (show (BA []).size ≤ 9223372036854775807 from nv)
  have hke := Lib.hid (we_few hx)
  have hve := Lib.hid (we_few hv)
  have hkw := Lib.hid (wv_few hx)
  have hvw := Lib.hid (wv_few hv)
  clear hk nk nv hx hv
  obtain ⟨p, hp⟩ : ∃ p, w.heap.size = p := ⟨_, rfl⟩
  obtain ⟨w1, hw1⟩ : ∃ w1, w.alloc (.cells #[.int .i64 0, .int .u64 0, .int .u64 0, .int .i64 0] 29) = w1 := ⟨_, rfl⟩
  have HZ1 := Lib.hid (show Box w1 p 29 #[.int .i64 0, .int .u64 0, .int .u64 0, .int .i64 0] by rw [← hw1, ← hp]; exact Box.new _ _ _)
  have HB1 := Lib.hid (show Below p w w1 by rw [← hw1, ← hp]; exact (Below.refl _ _).alloc (Nat.le_refl _) _)
  have HP := Lib.hid hp
  have HW := Lib.hid hw1
  clear hp hw1
  go_enter Try.func11, Try.ntmps11
  go_wp2_with fail
  rw [HW.out, HP.out]
  refine (K.out _).mono ?_
  rintro e w2 ⟨rfl, hb⟩
  have HZ2 := Lib.hid (HZ1.out.of (hb.block _ HZ1.out.lt))
  have HB2 := Lib.hid (HB1.out.trans (hb.mono (by have := HZ1.out.lt; omega)))
  clear hb K HZ1 HB1 HW
  go_upto_region 2 with fail
  obtain ⟨q, hq⟩ : ∃ q, w2.heap.size = q := ⟨_, rfl⟩
  obtain ⟨w3, hw3⟩ : ∃ w3, w2.alloc (.cells #[.int .i64 5, .int .u64 0, .int .u64 0, .int .i64 0] 29) = w3 := ⟨_, rfl⟩
  try simp only [hw3, hq]
  have HO3 := Lib.hid (show Box w3 q 29 #[.int .i64 5, .int .u64 0, .int .u64 0, .int .i64 0] by rw [← hw3, ← hq]; exact Box.new _ _ _)
  have HZ3 := Lib.hid (show Box w3 p 29 #[.int .i64 0, .int .u64 0, .int .u64 0, .int .i64 0] by rw [← hw3]; exact HZ2.out.alloc _)
  have HB3 := Lib.hid (show Below p w w3 by rw [← hw3]; exact HB2.out.alloc (by have := HZ2.out.lt; omega) _)
  have HN := Lib.hid (show p < q by have h1 := HZ2.out.lt; omega)
  clear hq hw3 HZ2 HB2
  have o0 : w3.cell? ⟨q, 0, none⟩ = some (.int .i64 5) := HO3.out.cell 0
  have o1 : w3.cell? ⟨q, 1, none⟩ = some (.int .u64 0) := HO3.out.cell 1
  have o2 : w3.cell? ⟨q, 2, none⟩ = some (.int .u64 0) := HO3.out.cell 2
  have o3 : w3.cell? ⟨q, 3, none⟩ = some (.int .i64 0) := HO3.out.cell 3
  go_wp2_with fail
  refine (refWord_any (BA []) _ hkl.out).mono ?_
  rintro e w4 ⟨rfl, hb⟩
  rw [hke.out]
  have HZ4 := Lib.hid (HZ3.out.of (hb.block _ HZ3.out.lt))
  have HO4 := Lib.hid (HO3.out.of (hb.block _ HO3.out.lt))
  have HB4 := Lib.hid (HB3.out.trans (hb.mono (by have := HZ3.out.lt; omega)))
  clear hb HZ3 HO3 HB3
  clear o0 o1 o2 o3
  have o0 : w4.cell? ⟨q, 0, none⟩ = some (.int .i64 5) := HO4.out.cell 0
  have o1 : w4.cell? ⟨q, 1, none⟩ = some (.int .u64 0) := HO4.out.cell 1
  have o2 : w4.cell? ⟨q, 2, none⟩ = some (.int .u64 0) := HO4.out.cell 2
  have o3 : w4.cell? ⟨q, 3, none⟩ = some (.int .i64 0) := HO4.out.cell 3
  go_wp2_with fail
  refine (refWord_any (BA []) _ hvl.out).mono ?_
  rintro e w5 ⟨rfl, hb⟩
  rw [hve.out]
  have HZ5 := Lib.hid (HZ4.out.of (hb.block _ HZ4.out.lt))
  have HO5 := Lib.hid (HO4.out.of (hb.block _ HO4.out.lt))
  have HB5 := Lib.hid (HB4.out.trans (hb.mono (by have := HZ4.out.lt; omega)))
  clear hb HZ4 HO4 HB4
  clear o0 o1 o2 o3
  have o0 : w5.cell? ⟨q, 0, none⟩ = some (.int .i64 5) := HO5.out.cell 0
  have o1 : w5.cell? ⟨q, 1, none⟩ = some (.int .u64 0) := HO5.out.cell 1
  have o2 : w5.cell? ⟨q, 2, none⟩ = some (.int .u64 0) := HO5.out.cell 2
  have o3 : w5.cell? ⟨q, 3, none⟩ = some (.int .i64 0) := HO5.out.cell 3
  simp only [hkw.out]
  have f9 := HO5.out.frozen 1
  go_upto_region 22 with (fail)
  obtain ⟨w6, hw9⟩ : ∃ wy, w5.setCell ⟨q, 1, none⟩ (.int .u64 (wd (BA []) : Nat)) = wy := ⟨_, rfl⟩
  try simp only [hw9]
  have HO6 := Lib.hid (show Box w6 q 29 #[.int .i64 5, .int .u64 (wd (BA []) : Nat), .int .u64 0, .int .i64 0] by rw [← hw9]; exact HO5.out.put 1 _)
  have HZ6 := Lib.hid (show Box w6 p 29 #[.int .i64 0, .int .u64 0, .int .u64 0, .int .i64 0] by rw [← hw9]; exact HZ5.out.far (a := ⟨q, 1, none⟩) (by show p ≠ q; have := HN.out; omega) _)
  have HB6 := Lib.hid (show Below p w w6 by rw [← hw9]; exact HB5.out.setCell (p := ⟨q, 1, none⟩) (by show p ≤ q; have := HN.out; omega) _)
  clear f9 hw9 HO5 HZ5 HB5
  clear o0 o1 o2 o3
  have o0 : w6.cell? ⟨q, 0, none⟩ = some (.int .i64 5) := HO6.out.cell 0
  have o1 : w6.cell? ⟨q, 1, none⟩ = some (.int .u64 (wd (BA []) : Nat)) := HO6.out.cell 1
  have o2 : w6.cell? ⟨q, 2, none⟩ = some (.int .u64 0) := HO6.out.cell 2
  have o3 : w6.cell? ⟨q, 3, none⟩ = some (.int .i64 0) := HO6.out.cell 3
  have f9 := HO6.out.frozen 2
  go_upto_region 23 with (fail)
  obtain ⟨w7, hw9⟩ : ∃ wy, w6.setCell ⟨q, 2, none⟩ (.int .u64 (wd (BA []) : Nat)) = wy := ⟨_, rfl⟩
  try simp only [hw9]
  have HO7 := Lib.hid (show Box w7 q 29 #[.int .i64 5, .int .u64 (wd (BA []) : Nat), .int .u64 (wd (BA []) : Nat), .int .i64 0] by rw [← hw9]; exact HO6.out.put 2 _)
  have HZ7 := Lib.hid (show Box w7 p 29 #[.int .i64 0, .int .u64 0, .int .u64 0, .int .i64 0] by rw [← hw9]; exact HZ6.out.far (a := ⟨q, 2, none⟩) (by show p ≠ q; have := HN.out; omega) _)
  have HB7 := Lib.hid (show Below p w w7 by rw [← hw9]; exact HB6.out.setCell (p := ⟨q, 2, none⟩) (by show p ≤ q; have := HN.out; omega) _)
  clear f9 hw9 HO6 HZ6 HB6
  clear o0 o1 o2 o3
  have o0 : w7.cell? ⟨q, 0, none⟩ = some (.int .i64 5) := HO7.out.cell 0
  have o1 : w7.cell? ⟨q, 1, none⟩ = some (.int .u64 (wd (BA []) : Nat)) := HO7.out.cell 1
  have o2 : w7.cell? ⟨q, 2, none⟩ = some (.int .u64 (wd (BA []) : Nat)) := HO7.out.cell 2
  have o3 : w7.cell? ⟨q, 3, none⟩ = some (.int .i64 0) := HO7.out.cell 3
  have z0 : w7.cell? ⟨p, 0, none⟩ = some (.int .i64 0) := HZ7.out.cell 0
  have fz0 := HZ7.out.frozen 0
  have z1 : w7.cell? ⟨p, 1, none⟩ = some (.int .u64 0) := HZ7.out.cell 1
  have fz1 := HZ7.out.frozen 1
  have z2 : w7.cell? ⟨p, 2, none⟩ = some (.int .u64 0) := HZ7.out.cell 2
  have fz2 := HZ7.out.frozen 2
  have z3 : w7.cell? ⟨p, 3, none⟩ = some (.int .i64 0) := HZ7.out.cell 3
  have fz3 := HZ7.out.frozen 3
  go_wp2
  obtain ⟨wz, hwz⟩ : ∃ wz, (((w7.setCell ⟨p, 0, none⟩ (.int .i64 5)).setCell ⟨p, 1, none⟩ (.int .u64 (wd (BA []) : Nat))).setCell ⟨p, 2, none⟩ (.int .u64 (wd (BA []) : Nat))).setCell ⟨p, 3, none⟩ (.int .i64 0) = wz := ⟨_, rfl⟩
  have hx : Box wz p 29 #[.int .i64 5, .int .u64 (wd (BA []) : Nat), .int .u64 (wd (BA []) : Nat), .int .i64 0] := by
    rw [← hwz]
    exact (((HZ7.out.put 0 _).put 1 _).put 2 _).put 3 _
  have hb : Below p w wz := by
    rw [← hwz]
    exact (((HB7.out.setCell (p := ⟨p, 0, none⟩) (Nat.le_refl _) _).setCell (p := ⟨p, 1, none⟩) (Nat.le_refl _) _).setCell (p := ⟨p, 2, none⟩) (Nat.le_refl _) _).setCell (p := ⟨p, 3, none⟩) (Nat.le_refl _) _
  rw [hwz]
  exact bodyPost_ret (v := .tuple #[.agg #[.int .i64 5, .int .u64 (wd (BA []) : Nat), .int .u64 (wd (BA []) : Nat), .int .i64 0], .int .i64 0]) (results_ct Try.results11 rfl rfl (load_box hx Try.underlying29 rfl (inforop _ _ _ _))) rfl (PsPost.mk (o := ⟨5, wd (BA []), wd (BA []), (0 : Nat)⟩) HX.out (HP.out ▸ hb))
set_option maxHeartbeats 2000000 in
theorem rparse_3e (c : UInt8)  (w : World) (hk : knd c = 3) :
    Calls Try.prog 11 #[.string (BA (c :: []))] w (PsPost w (c :: [])) := by
  have HX := Lib.hid (show (Ov.z, (3 : Int)) = prs (c :: []) from (prs_no hk (by decide) (by unfold bdy; rw [if_pos rfl])).symm)
  have K := Lib.hid (fun w => rkind_any (c :: []) w)
  have hk0 : Kd (c :: []) = 3 := hk
  rw [hk0] at K
  clear hk0
  have hs1 := rest_one c []
  clear hk
  obtain ⟨p, hp⟩ : ∃ p, w.heap.size = p := ⟨_, rfl⟩
  obtain ⟨w1, hw1⟩ : ∃ w1, w.alloc (.cells #[.int .i64 0, .int .u64 0, .int .u64 0, .int .i64 0] 29) = w1 := ⟨_, rfl⟩
  have HZ1 := Lib.hid (show Box w1 p 29 #[.int .i64 0, .int .u64 0, .int .u64 0, .int .i64 0] by rw [← hw1, ← hp]; exact Box.new _ _ _)
  have HB1 := Lib.hid (show Below p w w1 by rw [← hw1, ← hp]; exact (Below.refl _ _).alloc (Nat.le_refl _) _)
  have HP := Lib.hid hp
  have HW := Lib.hid hw1
  clear hp hw1
  go_enter Try.func11, Try.ntmps11
  go_wp2_with fail
  rw [HW.out, HP.out]
  refine (K.out _).mono ?_
  rintro e w2 ⟨rfl, hb⟩
  have HZ2 := Lib.hid (HZ1.out.of (hb.block _ HZ1.out.lt))
  have HB2 := Lib.hid (HB1.out.trans (hb.mono (by have := HZ1.out.lt; omega)))
  clear hb K HZ1 HB1 HW
  go_upto_region 2 with fail
  obtain ⟨q, hq⟩ : ∃ q, w2.heap.size = q := ⟨_, rfl⟩
  obtain ⟨w3, hw3⟩ : ∃ w3, w2.alloc (.cells #[.int .i64 3, .int .u64 0, .int .u64 0, .int .i64 0] 29) = w3 := ⟨_, rfl⟩
  try simp only [hw3, hq]
  have HO3 := Lib.hid (show Box w3 q 29 #[.int .i64 3, .int .u64 0, .int .u64 0, .int .i64 0] by rw [← hw3, ← hq]; exact Box.new _ _ _)
  have HZ3 := Lib.hid (show Box w3 p 29 #[.int .i64 0, .int .u64 0, .int .u64 0, .int .i64 0] by rw [← hw3]; exact HZ2.out.alloc _)
  have HB3 := Lib.hid (show Below p w w3 by rw [← hw3]; exact HB2.out.alloc (by have := HZ2.out.lt; omega) _)
  have HN := Lib.hid (show p < q by have h1 := HZ2.out.lt; omega)
  clear hq hw3 HZ2 HB2
  have o0 : w3.cell? ⟨q, 0, none⟩ = some (.int .i64 3) := HO3.out.cell 0
  have o1 : w3.cell? ⟨q, 1, none⟩ = some (.int .u64 0) := HO3.out.cell 1
  have o2 : w3.cell? ⟨q, 2, none⟩ = some (.int .u64 0) := HO3.out.cell 2
  have o3 : w3.cell? ⟨q, 3, none⟩ = some (.int .i64 0) := HO3.out.cell 3
  have z0 : w3.cell? ⟨p, 0, none⟩ = some (.int .i64 0) := HZ3.out.cell 0
  have fz0 := HZ3.out.frozen 0
  have z1 : w3.cell? ⟨p, 1, none⟩ = some (.int .u64 0) := HZ3.out.cell 1
  have fz1 := HZ3.out.frozen 1
  have z2 : w3.cell? ⟨p, 2, none⟩ = some (.int .u64 0) := HZ3.out.cell 2
  have fz2 := HZ3.out.frozen 2
  have z3 : w3.cell? ⟨p, 3, none⟩ = some (.int .i64 0) := HZ3.out.cell 3
  have fz3 := HZ3.out.frozen 3
  go_wp2
  obtain ⟨wz, hwz⟩ : ∃ wz, (((w3.setCell ⟨p, 0, none⟩ (.int .i64 0)).setCell ⟨p, 1, none⟩ (.int .u64 0)).setCell ⟨p, 2, none⟩ (.int .u64 0)).setCell ⟨p, 3, none⟩ (.int .i64 0) = wz := ⟨_, rfl⟩
  have hx : Box wz p 29 #[.int .i64 0, .int .u64 0, .int .u64 0, .int .i64 0] := by
    rw [← hwz]
    exact (((HZ3.out.put 0 _).put 1 _).put 2 _).put 3 _
  have hb : Below p w wz := by
    rw [← hwz]
    exact (((HB3.out.setCell (p := ⟨p, 0, none⟩) (Nat.le_refl _) _).setCell (p := ⟨p, 1, none⟩) (Nat.le_refl _) _).setCell (p := ⟨p, 2, none⟩) (Nat.le_refl _) _).setCell (p := ⟨p, 3, none⟩) (Nat.le_refl _) _
  rw [hwz]
  exact bodyPost_ret (v := .tuple #[.agg #[.int .i64 0, .int .u64 0, .int .u64 0, .int .i64 0], .int .i64 3]) (results_ct Try.results11 rfl rfl (load_box hx Try.underlying29 rfl (inforop _ _ _ _))) rfl (PsPost.mk (o := ⟨0, 0, 0, (0 : Nat)⟩) HX.out (HP.out ▸ hb))
set_option maxHeartbeats 2000000 in
theorem rparse_3o (c : UInt8) (a : UInt8)  (w : World) (hk : knd c = 3) :
    Calls Try.prog 11 #[.string (BA (c :: [a]))] w (PsPost w (c :: [a])) := by
  have HX := Lib.hid (show (Ov.z, (3 : Int)) = prs (c :: [a]) from (prs_no hk (by decide) (by unfold bdy; rw [if_pos rfl])).symm)
  have K := Lib.hid (fun w => rkind_any (c :: [a]) w)
  have hk0 : Kd (c :: [a]) = 3 := hk
  rw [hk0] at K
  clear hk0
  have hs1 := rest_one c [a]
  clear hk
  obtain ⟨p, hp⟩ : ∃ p, w.heap.size = p := ⟨_, rfl⟩
  obtain ⟨w1, hw1⟩ : ∃ w1, w.alloc (.cells #[.int .i64 0, .int .u64 0, .int .u64 0, .int .i64 0] 29) = w1 := ⟨_, rfl⟩
  have HZ1 := Lib.hid (show Box w1 p 29 #[.int .i64 0, .int .u64 0, .int .u64 0, .int .i64 0] by rw [← hw1, ← hp]; exact Box.new _ _ _)
  have HB1 := Lib.hid (show Below p w w1 by rw [← hw1, ← hp]; exact (Below.refl _ _).alloc (Nat.le_refl _) _)
  have HP := Lib.hid hp
  have HW := Lib.hid hw1
  clear hp hw1
  go_enter Try.func11, Try.ntmps11
  go_wp2_with fail
  rw [HW.out, HP.out]
  refine (K.out _).mono ?_
  rintro e w2 ⟨rfl, hb⟩
  have HZ2 := Lib.hid (HZ1.out.of (hb.block _ HZ1.out.lt))
  have HB2 := Lib.hid (HB1.out.trans (hb.mono (by have := HZ1.out.lt; omega)))
  clear hb K HZ1 HB1 HW
  go_upto_region 2 with fail
  obtain ⟨q, hq⟩ : ∃ q, w2.heap.size = q := ⟨_, rfl⟩
  obtain ⟨w3, hw3⟩ : ∃ w3, w2.alloc (.cells #[.int .i64 3, .int .u64 0, .int .u64 0, .int .i64 0] 29) = w3 := ⟨_, rfl⟩
  try simp only [hw3, hq]
  have HO3 := Lib.hid (show Box w3 q 29 #[.int .i64 3, .int .u64 0, .int .u64 0, .int .i64 0] by rw [← hw3, ← hq]; exact Box.new _ _ _)
  have HZ3 := Lib.hid (show Box w3 p 29 #[.int .i64 0, .int .u64 0, .int .u64 0, .int .i64 0] by rw [← hw3]; exact HZ2.out.alloc _)
  have HB3 := Lib.hid (show Below p w w3 by rw [← hw3]; exact HB2.out.alloc (by have := HZ2.out.lt; omega) _)
  have HN := Lib.hid (show p < q by have h1 := HZ2.out.lt; omega)
  clear hq hw3 HZ2 HB2
  have o0 : w3.cell? ⟨q, 0, none⟩ = some (.int .i64 3) := HO3.out.cell 0
  have o1 : w3.cell? ⟨q, 1, none⟩ = some (.int .u64 0) := HO3.out.cell 1
  have o2 : w3.cell? ⟨q, 2, none⟩ = some (.int .u64 0) := HO3.out.cell 2
  have o3 : w3.cell? ⟨q, 3, none⟩ = some (.int .i64 0) := HO3.out.cell 3
  have z0 : w3.cell? ⟨p, 0, none⟩ = some (.int .i64 0) := HZ3.out.cell 0
  have fz0 := HZ3.out.frozen 0
  have z1 : w3.cell? ⟨p, 1, none⟩ = some (.int .u64 0) := HZ3.out.cell 1
  have fz1 := HZ3.out.frozen 1
  have z2 : w3.cell? ⟨p, 2, none⟩ = some (.int .u64 0) := HZ3.out.cell 2
  have fz2 := HZ3.out.frozen 2
  have z3 : w3.cell? ⟨p, 3, none⟩ = some (.int .i64 0) := HZ3.out.cell 3
  have fz3 := HZ3.out.frozen 3
  go_wp2
  obtain ⟨wz, hwz⟩ : ∃ wz, (((w3.setCell ⟨p, 0, none⟩ (.int .i64 0)).setCell ⟨p, 1, none⟩ (.int .u64 0)).setCell ⟨p, 2, none⟩ (.int .u64 0)).setCell ⟨p, 3, none⟩ (.int .i64 0) = wz := ⟨_, rfl⟩
  have hx : Box wz p 29 #[.int .i64 0, .int .u64 0, .int .u64 0, .int .i64 0] := by
    rw [← hwz]
    exact (((HZ3.out.put 0 _).put 1 _).put 2 _).put 3 _
  have hb : Below p w wz := by
    rw [← hwz]
    exact (((HB3.out.setCell (p := ⟨p, 0, none⟩) (Nat.le_refl _) _).setCell (p := ⟨p, 1, none⟩) (Nat.le_refl _) _).setCell (p := ⟨p, 2, none⟩) (Nat.le_refl _) _).setCell (p := ⟨p, 3, none⟩) (Nat.le_refl _) _
  rw [hwz]
  exact bodyPost_ret (v := .tuple #[.agg #[.int .i64 0, .int .u64 0, .int .u64 0, .int .i64 0], .int .i64 3]) (results_ct Try.results11 rfl rfl (load_box hx Try.underlying29 rfl (inforop _ _ _ _))) rfl (PsPost.mk (o := ⟨0, 0, 0, (0 : Nat)⟩) HX.out (HP.out ▸ hb))
set_option maxHeartbeats 2000000 in
theorem rparse_3n (c a b : UInt8) (r : List UInt8)  (w : World) (hk : knd c = 3) (ht : tex r = none) :
    Calls Try.prog 11 #[.string (BA (c :: (a :: b :: r)))] w (PsPost w (c :: (a :: b :: r))) := by
  have HX := Lib.hid (show (Ov.z, (3 : Int)) = prs (c :: (a :: b :: r)) from (prs_no hk (by decide) (by unfold bdy; rw [if_pos rfl]; simp only; rw [ht])).symm)
  have K := Lib.hid (fun w => rkind_any (c :: (a :: b :: r)) w)
  have hk0 : Kd (c :: (a :: b :: r)) = 3 := hk
  rw [hk0] at K
  clear hk0
  have hs1 := rest_one c (a :: b :: r)
  have hi1 := index_one a (b :: r)
  have hi2 := index_two a b r
  have hs2 := rest_two a b r
  have ha := UInt8.toNat_lt a
  have hb9 := UInt8.toNat_lt b
  have d2 : decide ((r.length : Int) + 1 + 1 < 2) = false := by simp; omega
  have v1 : IntKind.i64.wrap (a.toNat : Int) = (a.toNat : Int) := by rw [IntKind.wrap_i64]; omega
  have v2 : IntKind.i64.wrap (b.toNat : Int) = (b.toNat : Int) := by rw [IntKind.wrap_i64]; omega
  have v3 : IntKind.i64.wrap (256 * (b.toNat : Int)) = 256 * (b.toNat : Int) := by rw [IntKind.wrap_i64]; omega
  have v4 : IntKind.i64.wrap ((a.toNat : Int) + 256 * (b.toNat : Int)) = ((a.toNat + 256 * b.toNat : Nat) : Int) := by rw [IntKind.wrap_i64]; omega
  have v5 : wrap64 (256 * (b.toNat : Int)) = 256 * (b.toNat : Int) := by unfold wrap64; omega
  have v6 : wrap64 ((a.toNat : Int) + 256 * (b.toNat : Int)) = ((a.toNat + 256 * b.toNat : Nat) : Int) := by unfold wrap64; omega
  obtain ⟨f, hf⟩ : ∃ f, a.toNat + 256 * b.toNat = f := ⟨_, rfl⟩
  rw [hf] at v4 v6
  clear hf ha hb9
  have HT := Lib.hid (fun w => rtext_any r w)
  unfold TxPost at HT
  rw [ht] at HT
  have he0 := BA_none
  clear hk ht
  obtain ⟨p, hp⟩ : ∃ p, w.heap.size = p := ⟨_, rfl⟩
  obtain ⟨w1, hw1⟩ : ∃ w1, w.alloc (.cells #[.int .i64 0, .int .u64 0, .int .u64 0, .int .i64 0] 29) = w1 := ⟨_, rfl⟩
  have HZ1 := Lib.hid (show Box w1 p 29 #[.int .i64 0, .int .u64 0, .int .u64 0, .int .i64 0] by rw [← hw1, ← hp]; exact Box.new _ _ _)
  have HB1 := Lib.hid (show Below p w w1 by rw [← hw1, ← hp]; exact (Below.refl _ _).alloc (Nat.le_refl _) _)
  have HP := Lib.hid hp
  have HW := Lib.hid hw1
  clear hp hw1
  go_enter Try.func11, Try.ntmps11
  go_wp2_with fail
  rw [HW.out, HP.out]
  refine (K.out _).mono ?_
  rintro e w2 ⟨rfl, hb⟩
  have HZ2 := Lib.hid (HZ1.out.of (hb.block _ HZ1.out.lt))
  have HB2 := Lib.hid (HB1.out.trans (hb.mono (by have := HZ1.out.lt; omega)))
  clear hb K HZ1 HB1 HW
  go_upto_region 2 with fail
  obtain ⟨q, hq⟩ : ∃ q, w2.heap.size = q := ⟨_, rfl⟩
  obtain ⟨w3, hw3⟩ : ∃ w3, w2.alloc (.cells #[.int .i64 3, .int .u64 0, .int .u64 0, .int .i64 0] 29) = w3 := ⟨_, rfl⟩
  try simp only [hw3, hq]
  have HO3 := Lib.hid (show Box w3 q 29 #[.int .i64 3, .int .u64 0, .int .u64 0, .int .i64 0] by rw [← hw3, ← hq]; exact Box.new _ _ _)
  have HZ3 := Lib.hid (show Box w3 p 29 #[.int .i64 0, .int .u64 0, .int .u64 0, .int .i64 0] by rw [← hw3]; exact HZ2.out.alloc _)
  have HB3 := Lib.hid (show Below p w w3 by rw [← hw3]; exact HB2.out.alloc (by have := HZ2.out.lt; omega) _)
  have HN := Lib.hid (show p < q by have h1 := HZ2.out.lt; omega)
  clear hq hw3 HZ2 HB2
  have o0 : w3.cell? ⟨q, 0, none⟩ = some (.int .i64 3) := HO3.out.cell 0
  have o1 : w3.cell? ⟨q, 1, none⟩ = some (.int .u64 0) := HO3.out.cell 1
  have o2 : w3.cell? ⟨q, 2, none⟩ = some (.int .u64 0) := HO3.out.cell 2
  have o3 : w3.cell? ⟨q, 3, none⟩ = some (.int .i64 0) := HO3.out.cell 3
  have f9 := HO3.out.frozen 3
  go_upto_region 11 with (fail)
  go_region
  obtain ⟨w4, hw9⟩ : ∃ w9, (w3.setCell ⟨q, 3, none⟩ (.int .i64 (f : Nat))).drew = w9 := ⟨_, rfl⟩
  try simp only [hw9]
  have HO4 := Lib.hid (show Box w4 q 29 #[.int .i64 3, .int .u64 0, .int .u64 0, .int .i64 (f : Nat)] by rw [← hw9]; exact (HO3.out.put 3 _).drewN 1)
  have HZ4 := Lib.hid (show Box w4 p 29 #[.int .i64 0, .int .u64 0, .int .u64 0, .int .i64 0] by rw [← hw9]; exact (HZ3.out.far (a := ⟨q, 3, none⟩) (by show p ≠ q; have := HN.out; omega) _).drewN 1)
  have HB4 := Lib.hid (show Below p w w4 by rw [← hw9]; exact below_drewN (HB3.out.setCell (p := ⟨q, 3, none⟩) (by show p ≤ q; have := HN.out; omega) _) 1)
  clear f9 hw9 HO3 HZ3 HB3
  clear o0 o1 o2 o3
  have o0 : w4.cell? ⟨q, 0, none⟩ = some (.int .i64 3) := HO4.out.cell 0
  have o1 : w4.cell? ⟨q, 1, none⟩ = some (.int .u64 0) := HO4.out.cell 1
  have o2 : w4.cell? ⟨q, 2, none⟩ = some (.int .u64 0) := HO4.out.cell 2
  have o3 : w4.cell? ⟨q, 3, none⟩ = some (.int .i64 (f : Nat)) := HO4.out.cell 3
  go_wp2_with fail
  refine (HT.out _).mono ?_
  rintro e w5 ⟨rfl, hb⟩
  have HZ5 := Lib.hid (HZ4.out.of (hb.block _ HZ4.out.lt))
  have HO5 := Lib.hid (HO4.out.of (hb.block _ HO4.out.lt))
  have HB5 := Lib.hid (HB4.out.trans (hb.mono (by have := HZ4.out.lt; omega)))
  clear hb HZ4 HO4 HB4
  clear o0 o1 o2 o3
  have o0 : w5.cell? ⟨q, 0, none⟩ = some (.int .i64 3) := HO5.out.cell 0
  have o1 : w5.cell? ⟨q, 1, none⟩ = some (.int .u64 0) := HO5.out.cell 1
  have o2 : w5.cell? ⟨q, 2, none⟩ = some (.int .u64 0) := HO5.out.cell 2
  have o3 : w5.cell? ⟨q, 3, none⟩ = some (.int .i64 (f : Nat)) := HO5.out.cell 3
  have z0 : w5.cell? ⟨p, 0, none⟩ = some (.int .i64 0) := HZ5.out.cell 0
  have fz0 := HZ5.out.frozen 0
  have z1 : w5.cell? ⟨p, 1, none⟩ = some (.int .u64 0) := HZ5.out.cell 1
  have fz1 := HZ5.out.frozen 1
  have z2 : w5.cell? ⟨p, 2, none⟩ = some (.int .u64 0) := HZ5.out.cell 2
  have fz2 := HZ5.out.frozen 2
  have z3 : w5.cell? ⟨p, 3, none⟩ = some (.int .i64 0) := HZ5.out.cell 3
  have fz3 := HZ5.out.frozen 3
  go_wp2
  obtain ⟨wz, hwz⟩ : ∃ wz, (((w5.setCell ⟨p, 0, none⟩ (.int .i64 0)).setCell ⟨p, 1, none⟩ (.int .u64 0)).setCell ⟨p, 2, none⟩ (.int .u64 0)).setCell ⟨p, 3, none⟩ (.int .i64 0) = wz := ⟨_, rfl⟩
  have hx : Box wz p 29 #[.int .i64 0, .int .u64 0, .int .u64 0, .int .i64 0] := by
    rw [← hwz]
    exact (((HZ5.out.put 0 _).put 1 _).put 2 _).put 3 _
  have hb : Below p w wz := by
    rw [← hwz]
    exact (((HB5.out.setCell (p := ⟨p, 0, none⟩) (Nat.le_refl _) _).setCell (p := ⟨p, 1, none⟩) (Nat.le_refl _) _).setCell (p := ⟨p, 2, none⟩) (Nat.le_refl _) _).setCell (p := ⟨p, 3, none⟩) (Nat.le_refl _) _
  rw [hwz]
  exact bodyPost_ret (v := .tuple #[.agg #[.int .i64 0, .int .u64 0, .int .u64 0, .int .i64 0], .int .i64 3]) (results_ct Try.results11 rfl rfl (load_box hx Try.underlying29 rfl (inforop _ _ _ _))) rfl (PsPost.mk (o := ⟨0, 0, 0, (0 : Nat)⟩) HX.out (HP.out ▸ hb))
set_option maxHeartbeats 2000000 in
theorem rparse_3u (c a b : UInt8) (r : List UInt8) (v q : List UInt8)  (w : World) (hk : knd c = 3) (ht : tex r = some (v, q)) (hu : tex q = none) :
    Calls Try.prog 11 #[.string (BA (c :: (a :: b :: r)))] w (PsPost w (c :: (a :: b :: r))) := by
  have HX := Lib.hid (show (Ov.z, (3 : Int)) = prs (c :: (a :: b :: r)) from (prs_no hk (by decide) (by unfold bdy; rw [if_pos rfl]; simp only; rw [ht]; simp only; rw [hu])).symm)
  have K := Lib.hid (fun w => rkind_any (c :: (a :: b :: r)) w)
  have hk0 : Kd (c :: (a :: b :: r)) = 3 := hk
  rw [hk0] at K
  clear hk0
  have hs1 := rest_one c (a :: b :: r)
  have hi1 := index_one a (b :: r)
  have hi2 := index_two a b r
  have hs2 := rest_two a b r
  have ha := UInt8.toNat_lt a
  have hb9 := UInt8.toNat_lt b
  have d2 : decide ((r.length : Int) + 1 + 1 < 2) = false := by simp; omega
  have v1 : IntKind.i64.wrap (a.toNat : Int) = (a.toNat : Int) := by rw [IntKind.wrap_i64]; omega
  have v2 : IntKind.i64.wrap (b.toNat : Int) = (b.toNat : Int) := by rw [IntKind.wrap_i64]; omega
  have v3 : IntKind.i64.wrap (256 * (b.toNat : Int)) = 256 * (b.toNat : Int) := by rw [IntKind.wrap_i64]; omega
  have v4 : IntKind.i64.wrap ((a.toNat : Int) + 256 * (b.toNat : Int)) = ((a.toNat + 256 * b.toNat : Nat) : Int) := by rw [IntKind.wrap_i64]; omega
  have v5 : wrap64 (256 * (b.toNat : Int)) = 256 * (b.toNat : Int) := by unfold wrap64; omega
  have v6 : wrap64 ((a.toNat : Int) + 256 * (b.toNat : Int)) = ((a.toNat + 256 * b.toNat : Nat) : Int) := by unfold wrap64; omega
  obtain ⟨f, hf⟩ : ∃ f, a.toNat + 256 * b.toNat = f := ⟨_, rfl⟩
  rw [hf] at v4 v6
  clear hf ha hb9
  have HT := Lib.hid (fun w => rtext_any r w)
  unfold TxPost at HT
  rw [ht] at HT
  have HU := Lib.hid (fun w => rtext_any q w)
  unfold TxPost at HU
  rw [hu] at HU
  have he0 := BA_none
  clear hk ht hu
  obtain ⟨p, hp⟩ : ∃ p, w.heap.size = p := ⟨_, rfl⟩
  obtain ⟨w1, hw1⟩ : ∃ w1, w.alloc (.cells #[.int .i64 0, .int .u64 0, .int .u64 0, .int .i64 0] 29) = w1 := ⟨_, rfl⟩
  have HZ1 := Lib.hid (show Box w1 p 29 #[.int .i64 0, .int .u64 0, .int .u64 0, .int .i64 0] by rw [← hw1, ← hp]; exact Box.new _ _ _)
  have HB1 := Lib.hid (show Below p w w1 by rw [← hw1, ← hp]; exact (Below.refl _ _).alloc (Nat.le_refl _) _)
  have HP := Lib.hid hp
  have HW := Lib.hid hw1
  clear hp hw1
  go_enter Try.func11, Try.ntmps11
  go_wp2_with fail
  rw [HW.out, HP.out]
  refine (K.out _).mono ?_
  rintro e w2 ⟨rfl, hb⟩
  have HZ2 := Lib.hid (HZ1.out.of (hb.block _ HZ1.out.lt))
  have HB2 := Lib.hid (HB1.out.trans (hb.mono (by have := HZ1.out.lt; omega)))
  clear hb K HZ1 HB1 HW
  go_upto_region 2 with fail
  obtain ⟨q, hq⟩ : ∃ q, w2.heap.size = q := ⟨_, rfl⟩
  obtain ⟨w3, hw3⟩ : ∃ w3, w2.alloc (.cells #[.int .i64 3, .int .u64 0, .int .u64 0, .int .i64 0] 29) = w3 := ⟨_, rfl⟩
  try simp only [hw3, hq]
  have HO3 := Lib.hid (show Box w3 q 29 #[.int .i64 3, .int .u64 0, .int .u64 0, .int .i64 0] by rw [← hw3, ← hq]; exact Box.new _ _ _)
  have HZ3 := Lib.hid (show Box w3 p 29 #[.int .i64 0, .int .u64 0, .int .u64 0, .int .i64 0] by rw [← hw3]; exact HZ2.out.alloc _)
  have HB3 := Lib.hid (show Below p w w3 by rw [← hw3]; exact HB2.out.alloc (by have := HZ2.out.lt; omega) _)
  have HN := Lib.hid (show p < q by have h1 := HZ2.out.lt; omega)
  clear hq hw3 HZ2 HB2
  have o0 : w3.cell? ⟨q, 0, none⟩ = some (.int .i64 3) := HO3.out.cell 0
  have o1 : w3.cell? ⟨q, 1, none⟩ = some (.int .u64 0) := HO3.out.cell 1
  have o2 : w3.cell? ⟨q, 2, none⟩ = some (.int .u64 0) := HO3.out.cell 2
  have o3 : w3.cell? ⟨q, 3, none⟩ = some (.int .i64 0) := HO3.out.cell 3
  have f9 := HO3.out.frozen 3
  go_upto_region 11 with (fail)
  go_region
  obtain ⟨w4, hw9⟩ : ∃ w9, (w3.setCell ⟨q, 3, none⟩ (.int .i64 (f : Nat))).drew = w9 := ⟨_, rfl⟩
  try simp only [hw9]
  have HO4 := Lib.hid (show Box w4 q 29 #[.int .i64 3, .int .u64 0, .int .u64 0, .int .i64 (f : Nat)] by rw [← hw9]; exact (HO3.out.put 3 _).drewN 1)
  have HZ4 := Lib.hid (show Box w4 p 29 #[.int .i64 0, .int .u64 0, .int .u64 0, .int .i64 0] by rw [← hw9]; exact (HZ3.out.far (a := ⟨q, 3, none⟩) (by show p ≠ q; have := HN.out; omega) _).drewN 1)
  have HB4 := Lib.hid (show Below p w w4 by rw [← hw9]; exact below_drewN (HB3.out.setCell (p := ⟨q, 3, none⟩) (by show p ≤ q; have := HN.out; omega) _) 1)
  clear f9 hw9 HO3 HZ3 HB3
  clear o0 o1 o2 o3
  have o0 : w4.cell? ⟨q, 0, none⟩ = some (.int .i64 3) := HO4.out.cell 0
  have o1 : w4.cell? ⟨q, 1, none⟩ = some (.int .u64 0) := HO4.out.cell 1
  have o2 : w4.cell? ⟨q, 2, none⟩ = some (.int .u64 0) := HO4.out.cell 2
  have o3 : w4.cell? ⟨q, 3, none⟩ = some (.int .i64 (f : Nat)) := HO4.out.cell 3
  go_wp2_with fail
  refine (HT.out _).mono ?_
  rintro e w5 ⟨rfl, hb⟩
  have HZ5 := Lib.hid (HZ4.out.of (hb.block _ HZ4.out.lt))
  have HO5 := Lib.hid (HO4.out.of (hb.block _ HO4.out.lt))
  have HB5 := Lib.hid (HB4.out.trans (hb.mono (by have := HZ4.out.lt; omega)))
  clear hb HZ4 HO4 HB4
  clear o0 o1 o2 o3
  have o0 : w5.cell? ⟨q, 0, none⟩ = some (.int .i64 3) := HO5.out.cell 0
  have o1 : w5.cell? ⟨q, 1, none⟩ = some (.int .u64 0) := HO5.out.cell 1
  have o2 : w5.cell? ⟨q, 2, none⟩ = some (.int .u64 0) := HO5.out.cell 2
  have o3 : w5.cell? ⟨q, 3, none⟩ = some (.int .i64 (f : Nat)) := HO5.out.cell 3
  go_wp2_with fail
  refine (HU.out _).mono ?_
  rintro e w6 ⟨rfl, hb⟩
  have HZ6 := Lib.hid (HZ5.out.of (hb.block _ HZ5.out.lt))
  have HO6 := Lib.hid (HO5.out.of (hb.block _ HO5.out.lt))
  have HB6 := Lib.hid (HB5.out.trans (hb.mono (by have := HZ5.out.lt; omega)))
  clear hb HZ5 HO5 HB5
  clear o0 o1 o2 o3
  have o0 : w6.cell? ⟨q, 0, none⟩ = some (.int .i64 3) := HO6.out.cell 0
  have o1 : w6.cell? ⟨q, 1, none⟩ = some (.int .u64 0) := HO6.out.cell 1
  have o2 : w6.cell? ⟨q, 2, none⟩ = some (.int .u64 0) := HO6.out.cell 2
  have o3 : w6.cell? ⟨q, 3, none⟩ = some (.int .i64 (f : Nat)) := HO6.out.cell 3
  have z0 : w6.cell? ⟨p, 0, none⟩ = some (.int .i64 0) := HZ6.out.cell 0
  have fz0 := HZ6.out.frozen 0
  have z1 : w6.cell? ⟨p, 1, none⟩ = some (.int .u64 0) := HZ6.out.cell 1
  have fz1 := HZ6.out.frozen 1
  have z2 : w6.cell? ⟨p, 2, none⟩ = some (.int .u64 0) := HZ6.out.cell 2
  have fz2 := HZ6.out.frozen 2
  have z3 : w6.cell? ⟨p, 3, none⟩ = some (.int .i64 0) := HZ6.out.cell 3
  have fz3 := HZ6.out.frozen 3
  go_wp2
  obtain ⟨wz, hwz⟩ : ∃ wz, (((w6.setCell ⟨p, 0, none⟩ (.int .i64 0)).setCell ⟨p, 1, none⟩ (.int .u64 0)).setCell ⟨p, 2, none⟩ (.int .u64 0)).setCell ⟨p, 3, none⟩ (.int .i64 0) = wz := ⟨_, rfl⟩
  have hx : Box wz p 29 #[.int .i64 0, .int .u64 0, .int .u64 0, .int .i64 0] := by
    rw [← hwz]
    exact (((HZ6.out.put 0 _).put 1 _).put 2 _).put 3 _
  have hb : Below p w wz := by
    rw [← hwz]
    exact (((HB6.out.setCell (p := ⟨p, 0, none⟩) (Nat.le_refl _) _).setCell (p := ⟨p, 1, none⟩) (Nat.le_refl _) _).setCell (p := ⟨p, 2, none⟩) (Nat.le_refl _) _).setCell (p := ⟨p, 3, none⟩) (Nat.le_refl _) _
  rw [hwz]
  exact bodyPost_ret (v := .tuple #[.agg #[.int .i64 0, .int .u64 0, .int .u64 0, .int .i64 0], .int .i64 3]) (results_ct Try.results11 rfl rfl (load_box hx Try.underlying29 rfl (inforop _ _ _ _))) rfl (PsPost.mk (o := ⟨0, 0, 0, (0 : Nat)⟩) HX.out (HP.out ▸ hb))
set_option maxHeartbeats 2000000 in
theorem rparse_3m (c a b : UInt8) (r : List UInt8) (v q x p9 : List UInt8) (d : UInt8)  (w : World) (hk : knd c = 3) (ht : tex r = some (v, q)) (hu : tex q = some (x, d :: p9)) :
    Calls Try.prog 11 #[.string (BA (c :: (a :: b :: r)))] w (PsPost w (c :: (a :: b :: r))) := by
  have HX := Lib.hid (show (Ov.z, (3 : Int)) = prs (c :: (a :: b :: r)) from (prs_no hk (by decide) (by unfold bdy; rw [if_pos rfl]; simp only; rw [ht]; simp only; rw [hu])).symm)
  have K := Lib.hid (fun w => rkind_any (c :: (a :: b :: r)) w)
  have hk0 : Kd (c :: (a :: b :: r)) = 3 := hk
  rw [hk0] at K
  clear hk0
  have hs1 := rest_one c (a :: b :: r)
  have hi1 := index_one a (b :: r)
  have hi2 := index_two a b r
  have hs2 := rest_two a b r
  have ha := UInt8.toNat_lt a
  have hb9 := UInt8.toNat_lt b
  have d2 : decide ((r.length : Int) + 1 + 1 < 2) = false := by simp; omega
  have v1 : IntKind.i64.wrap (a.toNat : Int) = (a.toNat : Int) := by rw [IntKind.wrap_i64]; omega
  have v2 : IntKind.i64.wrap (b.toNat : Int) = (b.toNat : Int) := by rw [IntKind.wrap_i64]; omega
  have v3 : IntKind.i64.wrap (256 * (b.toNat : Int)) = 256 * (b.toNat : Int) := by rw [IntKind.wrap_i64]; omega
  have v4 : IntKind.i64.wrap ((a.toNat : Int) + 256 * (b.toNat : Int)) = ((a.toNat + 256 * b.toNat : Nat) : Int) := by rw [IntKind.wrap_i64]; omega
  have v5 : wrap64 (256 * (b.toNat : Int)) = 256 * (b.toNat : Int) := by unfold wrap64; omega
  have v6 : wrap64 ((a.toNat : Int) + 256 * (b.toNat : Int)) = ((a.toNat + 256 * b.toNat : Nat) : Int) := by unfold wrap64; omega
  obtain ⟨f, hf⟩ : ∃ f, a.toNat + 256 * b.toNat = f := ⟨_, rfl⟩
  rw [hf] at v4 v6
  clear hf ha hb9
  have HT := Lib.hid (fun w => rtext_any r w)
  unfold TxPost at HT
  rw [ht] at HT
  have HU := Lib.hid (fun w => rtext_any q w)
  unfold TxPost at HU
  rw [hu] at HU
  have he1 := BA_some d p9
  clear hk ht hu
  obtain ⟨p, hp⟩ : ∃ p, w.heap.size = p := ⟨_, rfl⟩
  obtain ⟨w1, hw1⟩ : ∃ w1, w.alloc (.cells #[.int .i64 0, .int .u64 0, .int .u64 0, .int .i64 0] 29) = w1 := ⟨_, rfl⟩
  have HZ1 := Lib.hid (show Box w1 p 29 #[.int .i64 0, .int .u64 0, .int .u64 0, .int .i64 0] by rw [← hw1, ← hp]; exact Box.new _ _ _)
  have HB1 := Lib.hid (show Below p w w1 by rw [← hw1, ← hp]; exact (Below.refl _ _).alloc (Nat.le_refl _) _)
  have HP := Lib.hid hp
  have HW := Lib.hid hw1
  clear hp hw1
  go_enter Try.func11, Try.ntmps11
  go_wp2_with fail
  rw [HW.out, HP.out]
  refine (K.out _).mono ?_
  rintro e w2 ⟨rfl, hb⟩
  have HZ2 := Lib.hid (HZ1.out.of (hb.block _ HZ1.out.lt))
  have HB2 := Lib.hid (HB1.out.trans (hb.mono (by have := HZ1.out.lt; omega)))
  clear hb K HZ1 HB1 HW
  go_upto_region 2 with fail
  obtain ⟨q, hq⟩ : ∃ q, w2.heap.size = q := ⟨_, rfl⟩
  obtain ⟨w3, hw3⟩ : ∃ w3, w2.alloc (.cells #[.int .i64 3, .int .u64 0, .int .u64 0, .int .i64 0] 29) = w3 := ⟨_, rfl⟩
  try simp only [hw3, hq]
  have HO3 := Lib.hid (show Box w3 q 29 #[.int .i64 3, .int .u64 0, .int .u64 0, .int .i64 0] by rw [← hw3, ← hq]; exact Box.new _ _ _)
  have HZ3 := Lib.hid (show Box w3 p 29 #[.int .i64 0, .int .u64 0, .int .u64 0, .int .i64 0] by rw [← hw3]; exact HZ2.out.alloc _)
  have HB3 := Lib.hid (show Below p w w3 by rw [← hw3]; exact HB2.out.alloc (by have := HZ2.out.lt; omega) _)
  have HN := Lib.hid (show p < q by have h1 := HZ2.out.lt; omega)
  clear hq hw3 HZ2 HB2
  have o0 : w3.cell? ⟨q, 0, none⟩ = some (.int .i64 3) := HO3.out.cell 0
  have o1 : w3.cell? ⟨q, 1, none⟩ = some (.int .u64 0) := HO3.out.cell 1
  have o2 : w3.cell? ⟨q, 2, none⟩ = some (.int .u64 0) := HO3.out.cell 2
  have o3 : w3.cell? ⟨q, 3, none⟩ = some (.int .i64 0) := HO3.out.cell 3
  have f9 := HO3.out.frozen 3
  go_upto_region 11 with (fail)
  go_region
  obtain ⟨w4, hw9⟩ : ∃ w9, (w3.setCell ⟨q, 3, none⟩ (.int .i64 (f : Nat))).drew = w9 := ⟨_, rfl⟩
  try simp only [hw9]
  have HO4 := Lib.hid (show Box w4 q 29 #[.int .i64 3, .int .u64 0, .int .u64 0, .int .i64 (f : Nat)] by rw [← hw9]; exact (HO3.out.put 3 _).drewN 1)
  have HZ4 := Lib.hid (show Box w4 p 29 #[.int .i64 0, .int .u64 0, .int .u64 0, .int .i64 0] by rw [← hw9]; exact (HZ3.out.far (a := ⟨q, 3, none⟩) (by show p ≠ q; have := HN.out; omega) _).drewN 1)
  have HB4 := Lib.hid (show Below p w w4 by rw [← hw9]; exact below_drewN (HB3.out.setCell (p := ⟨q, 3, none⟩) (by show p ≤ q; have := HN.out; omega) _) 1)
  clear f9 hw9 HO3 HZ3 HB3
  clear o0 o1 o2 o3
  have o0 : w4.cell? ⟨q, 0, none⟩ = some (.int .i64 3) := HO4.out.cell 0
  have o1 : w4.cell? ⟨q, 1, none⟩ = some (.int .u64 0) := HO4.out.cell 1
  have o2 : w4.cell? ⟨q, 2, none⟩ = some (.int .u64 0) := HO4.out.cell 2
  have o3 : w4.cell? ⟨q, 3, none⟩ = some (.int .i64 (f : Nat)) := HO4.out.cell 3
  go_wp2_with fail
  refine (HT.out _).mono ?_
  rintro e w5 ⟨rfl, hb⟩
  have HZ5 := Lib.hid (HZ4.out.of (hb.block _ HZ4.out.lt))
  have HO5 := Lib.hid (HO4.out.of (hb.block _ HO4.out.lt))
  have HB5 := Lib.hid (HB4.out.trans (hb.mono (by have := HZ4.out.lt; omega)))
  clear hb HZ4 HO4 HB4
  clear o0 o1 o2 o3
  have o0 : w5.cell? ⟨q, 0, none⟩ = some (.int .i64 3) := HO5.out.cell 0
  have o1 : w5.cell? ⟨q, 1, none⟩ = some (.int .u64 0) := HO5.out.cell 1
  have o2 : w5.cell? ⟨q, 2, none⟩ = some (.int .u64 0) := HO5.out.cell 2
  have o3 : w5.cell? ⟨q, 3, none⟩ = some (.int .i64 (f : Nat)) := HO5.out.cell 3
  go_wp2_with fail
  refine (HU.out _).mono ?_
  rintro e w6 ⟨rfl, hb⟩
  have HZ6 := Lib.hid (HZ5.out.of (hb.block _ HZ5.out.lt))
  have HO6 := Lib.hid (HO5.out.of (hb.block _ HO5.out.lt))
  have HB6 := Lib.hid (HB5.out.trans (hb.mono (by have := HZ5.out.lt; omega)))
  clear hb HZ5 HO5 HB5
  clear o0 o1 o2 o3
  have o0 : w6.cell? ⟨q, 0, none⟩ = some (.int .i64 3) := HO6.out.cell 0
  have o1 : w6.cell? ⟨q, 1, none⟩ = some (.int .u64 0) := HO6.out.cell 1
  have o2 : w6.cell? ⟨q, 2, none⟩ = some (.int .u64 0) := HO6.out.cell 2
  have o3 : w6.cell? ⟨q, 3, none⟩ = some (.int .i64 (f : Nat)) := HO6.out.cell 3
  have z0 : w6.cell? ⟨p, 0, none⟩ = some (.int .i64 0) := HZ6.out.cell 0
  have fz0 := HZ6.out.frozen 0
  have z1 : w6.cell? ⟨p, 1, none⟩ = some (.int .u64 0) := HZ6.out.cell 1
  have fz1 := HZ6.out.frozen 1
  have z2 : w6.cell? ⟨p, 2, none⟩ = some (.int .u64 0) := HZ6.out.cell 2
  have fz2 := HZ6.out.frozen 2
  have z3 : w6.cell? ⟨p, 3, none⟩ = some (.int .i64 0) := HZ6.out.cell 3
  have fz3 := HZ6.out.frozen 3
  go_wp2
  obtain ⟨wz, hwz⟩ : ∃ wz, (((w6.setCell ⟨p, 0, none⟩ (.int .i64 0)).setCell ⟨p, 1, none⟩ (.int .u64 0)).setCell ⟨p, 2, none⟩ (.int .u64 0)).setCell ⟨p, 3, none⟩ (.int .i64 0) = wz := ⟨_, rfl⟩
  have hx : Box wz p 29 #[.int .i64 0, .int .u64 0, .int .u64 0, .int .i64 0] := by
    rw [← hwz]
    exact (((HZ6.out.put 0 _).put 1 _).put 2 _).put 3 _
  have hb : Below p w wz := by
    rw [← hwz]
    exact (((HB6.out.setCell (p := ⟨p, 0, none⟩) (Nat.le_refl _) _).setCell (p := ⟨p, 1, none⟩) (Nat.le_refl _) _).setCell (p := ⟨p, 2, none⟩) (Nat.le_refl _) _).setCell (p := ⟨p, 3, none⟩) (Nat.le_refl _) _
  rw [hwz]
  exact bodyPost_ret (v := .tuple #[.agg #[.int .i64 0, .int .u64 0, .int .u64 0, .int .i64 0], .int .i64 3]) (results_ct Try.results11 rfl rfl (load_box hx Try.underlying29 rfl (inforop _ _ _ _))) rfl (PsPost.mk (o := ⟨0, 0, 0, (0 : Nat)⟩) HX.out (HP.out ▸ hb))
set_option maxHeartbeats 2000000 in
theorem rparse_3key (c a b : UInt8) (r : List UInt8) (v q x : List UInt8)  (w : World) (hk : knd c = 3) (ht : tex r = some (v, q)) (hu : tex q = some (x, [])) (nk : x.length ≤ 9223372036854775807) (nv : v.length ≤ 9223372036854775807) (hx : ¬ x.length ≤ 7) :
    Calls Try.prog 11 #[.string (BA (c :: (a :: b :: r)))] w (PsPost w (c :: (a :: b :: r))) := by
  have HX := Lib.hid (show (Ov.z, (4 : Int)) = prs (c :: (a :: b :: r)) from (prs_long hk (by decide) (by unfold bdy; rw [if_pos rfl]; simp only; rw [ht]; simp only; rw [hu]) (fun h => hx h.2)).symm)
  have K := Lib.hid (fun w => rkind_any (c :: (a :: b :: r)) w)
  have hk0 : Kd (c :: (a :: b :: r)) = 3 := hk
  rw [hk0] at K
  clear hk0
  have hs1 := rest_one c (a :: b :: r)
  have hi1 := index_one a (b :: r)
  have hi2 := index_two a b r
  have hs2 := rest_two a b r
  have ha := UInt8.toNat_lt a
  have hb9 := UInt8.toNat_lt b
  have d2 : decide ((r.length : Int) + 1 + 1 < 2) = false := by simp; omega
  have v1 : IntKind.i64.wrap (a.toNat : Int) = (a.toNat : Int) := by rw [IntKind.wrap_i64]; omega
  have v2 : IntKind.i64.wrap (b.toNat : Int) = (b.toNat : Int) := by rw [IntKind.wrap_i64]; omega
  have v3 : IntKind.i64.wrap (256 * (b.toNat : Int)) = 256 * (b.toNat : Int) := by rw [IntKind.wrap_i64]; omega
  have v4 : IntKind.i64.wrap ((a.toNat : Int) + 256 * (b.toNat : Int)) = ((a.toNat + 256 * b.toNat : Nat) : Int) := by rw [IntKind.wrap_i64]; omega
  have v5 : wrap64 (256 * (b.toNat : Int)) = 256 * (b.toNat : Int) := by unfold wrap64; omega
  have v6 : wrap64 ((a.toNat : Int) + 256 * (b.toNat : Int)) = ((a.toNat + 256 * b.toNat : Nat) : Int) := by unfold wrap64; omega
  obtain ⟨f, hf⟩ : ∃ f, a.toNat + 256 * b.toNat = f := ⟨_, rfl⟩
  rw [hf] at v4 v6
  clear hf ha hb9
  have HT := Lib.hid (fun w => rtext_any r w)
  unfold TxPost at HT
  rw [ht] at HT
  have HU := Lib.hid (fun w => rtext_any q w)
  unfold TxPost at HU
  rw [hu] at HU
  have he0 := BA_none
  have hkl := Lib.hid (show (BA x).size ≤ 9223372036854775807 from nk)
  have hvl := Lib.hid (show (BA v).size ≤ 9223372036854775807 from nv)
  have hke := Lib.hid (we_far hx)
  have hve := Lib.hid (rfl : we (BA v) = we (BA v))
  clear hk ht hu nk nv hx
  obtain ⟨p, hp⟩ : ∃ p, w.heap.size = p := ⟨_, rfl⟩
  obtain ⟨w1, hw1⟩ : ∃ w1, w.alloc (.cells #[.int .i64 0, .int .u64 0, .int .u64 0, .int .i64 0] 29) = w1 := ⟨_, rfl⟩
  have HZ1 := Lib.hid (show Box w1 p 29 #[.int .i64 0, .int .u64 0, .int .u64 0, .int .i64 0] by rw [← hw1, ← hp]; exact Box.new _ _ _)
  have HB1 := Lib.hid (show Below p w w1 by rw [← hw1, ← hp]; exact (Below.refl _ _).alloc (Nat.le_refl _) _)
  have HP := Lib.hid hp
  have HW := Lib.hid hw1
  clear hp hw1
  go_enter Try.func11, Try.ntmps11
  go_wp2_with fail
  rw [HW.out, HP.out]
  refine (K.out _).mono ?_
  rintro e w2 ⟨rfl, hb⟩
  have HZ2 := Lib.hid (HZ1.out.of (hb.block _ HZ1.out.lt))
  have HB2 := Lib.hid (HB1.out.trans (hb.mono (by have := HZ1.out.lt; omega)))
  clear hb K HZ1 HB1 HW
  go_upto_region 2 with fail
  obtain ⟨q, hq⟩ : ∃ q, w2.heap.size = q := ⟨_, rfl⟩
  obtain ⟨w3, hw3⟩ : ∃ w3, w2.alloc (.cells #[.int .i64 3, .int .u64 0, .int .u64 0, .int .i64 0] 29) = w3 := ⟨_, rfl⟩
  try simp only [hw3, hq]
  have HO3 := Lib.hid (show Box w3 q 29 #[.int .i64 3, .int .u64 0, .int .u64 0, .int .i64 0] by rw [← hw3, ← hq]; exact Box.new _ _ _)
  have HZ3 := Lib.hid (show Box w3 p 29 #[.int .i64 0, .int .u64 0, .int .u64 0, .int .i64 0] by rw [← hw3]; exact HZ2.out.alloc _)
  have HB3 := Lib.hid (show Below p w w3 by rw [← hw3]; exact HB2.out.alloc (by have := HZ2.out.lt; omega) _)
  have HN := Lib.hid (show p < q by have h1 := HZ2.out.lt; omega)
  clear hq hw3 HZ2 HB2
  have o0 : w3.cell? ⟨q, 0, none⟩ = some (.int .i64 3) := HO3.out.cell 0
  have o1 : w3.cell? ⟨q, 1, none⟩ = some (.int .u64 0) := HO3.out.cell 1
  have o2 : w3.cell? ⟨q, 2, none⟩ = some (.int .u64 0) := HO3.out.cell 2
  have o3 : w3.cell? ⟨q, 3, none⟩ = some (.int .i64 0) := HO3.out.cell 3
  have f9 := HO3.out.frozen 3
  go_upto_region 11 with (fail)
  go_region
  obtain ⟨w4, hw9⟩ : ∃ w9, (w3.setCell ⟨q, 3, none⟩ (.int .i64 (f : Nat))).drew = w9 := ⟨_, rfl⟩
  try simp only [hw9]
  have HO4 := Lib.hid (show Box w4 q 29 #[.int .i64 3, .int .u64 0, .int .u64 0, .int .i64 (f : Nat)] by rw [← hw9]; exact (HO3.out.put 3 _).drewN 1)
  have HZ4 := Lib.hid (show Box w4 p 29 #[.int .i64 0, .int .u64 0, .int .u64 0, .int .i64 0] by rw [← hw9]; exact (HZ3.out.far (a := ⟨q, 3, none⟩) (by show p ≠ q; have := HN.out; omega) _).drewN 1)
  have HB4 := Lib.hid (show Below p w w4 by rw [← hw9]; exact below_drewN (HB3.out.setCell (p := ⟨q, 3, none⟩) (by show p ≤ q; have := HN.out; omega) _) 1)
  clear f9 hw9 HO3 HZ3 HB3
  clear o0 o1 o2 o3
  have o0 : w4.cell? ⟨q, 0, none⟩ = some (.int .i64 3) := HO4.out.cell 0
  have o1 : w4.cell? ⟨q, 1, none⟩ = some (.int .u64 0) := HO4.out.cell 1
  have o2 : w4.cell? ⟨q, 2, none⟩ = some (.int .u64 0) := HO4.out.cell 2
  have o3 : w4.cell? ⟨q, 3, none⟩ = some (.int .i64 (f : Nat)) := HO4.out.cell 3
  go_wp2_with fail
  refine (HT.out _).mono ?_
  rintro e w5 ⟨rfl, hb⟩
  have HZ5 := Lib.hid (HZ4.out.of (hb.block _ HZ4.out.lt))
  have HO5 := Lib.hid (HO4.out.of (hb.block _ HO4.out.lt))
  have HB5 := Lib.hid (HB4.out.trans (hb.mono (by have := HZ4.out.lt; omega)))
  clear hb HZ4 HO4 HB4
  clear o0 o1 o2 o3
  have o0 : w5.cell? ⟨q, 0, none⟩ = some (.int .i64 3) := HO5.out.cell 0
  have o1 : w5.cell? ⟨q, 1, none⟩ = some (.int .u64 0) := HO5.out.cell 1
  have o2 : w5.cell? ⟨q, 2, none⟩ = some (.int .u64 0) := HO5.out.cell 2
  have o3 : w5.cell? ⟨q, 3, none⟩ = some (.int .i64 (f : Nat)) := HO5.out.cell 3
  go_wp2_with fail
  refine (HU.out _).mono ?_
  rintro e w6 ⟨rfl, hb⟩
  have HZ6 := Lib.hid (HZ5.out.of (hb.block _ HZ5.out.lt))
  have HO6 := Lib.hid (HO5.out.of (hb.block _ HO5.out.lt))
  have HB6 := Lib.hid (HB5.out.trans (hb.mono (by have := HZ5.out.lt; omega)))
  clear hb HZ5 HO5 HB5
  clear o0 o1 o2 o3
  have o0 : w6.cell? ⟨q, 0, none⟩ = some (.int .i64 3) := HO6.out.cell 0
  have o1 : w6.cell? ⟨q, 1, none⟩ = some (.int .u64 0) := HO6.out.cell 1
  have o2 : w6.cell? ⟨q, 2, none⟩ = some (.int .u64 0) := HO6.out.cell 2
  have o3 : w6.cell? ⟨q, 3, none⟩ = some (.int .i64 (f : Nat)) := HO6.out.cell 3
  go_wp2_with fail
  refine (refWord_any (BA x) _ hkl.out).mono ?_
  rintro e w7 ⟨rfl, hb⟩
  rw [hke.out]
  have HZ7 := Lib.hid (HZ6.out.of (hb.block _ HZ6.out.lt))
  have HO7 := Lib.hid (HO6.out.of (hb.block _ HO6.out.lt))
  have HB7 := Lib.hid (HB6.out.trans (hb.mono (by have := HZ6.out.lt; omega)))
  clear hb HZ6 HO6 HB6
  clear o0 o1 o2 o3
  have o0 : w7.cell? ⟨q, 0, none⟩ = some (.int .i64 3) := HO7.out.cell 0
  have o1 : w7.cell? ⟨q, 1, none⟩ = some (.int .u64 0) := HO7.out.cell 1
  have o2 : w7.cell? ⟨q, 2, none⟩ = some (.int .u64 0) := HO7.out.cell 2
  have o3 : w7.cell? ⟨q, 3, none⟩ = some (.int .i64 (f : Nat)) := HO7.out.cell 3
  go_wp2_with fail
  refine (refWord_any (BA v) _ hvl.out).mono ?_
  rintro e w8 ⟨rfl, hb⟩
  have HZ8 := Lib.hid (HZ7.out.of (hb.block _ HZ7.out.lt))
  have HO8 := Lib.hid (HO7.out.of (hb.block _ HO7.out.lt))
  have HB8 := Lib.hid (HB7.out.trans (hb.mono (by have := HZ7.out.lt; omega)))
  clear hb HZ7 HO7 HB7
  clear o0 o1 o2 o3
  have o0 : w8.cell? ⟨q, 0, none⟩ = some (.int .i64 3) := HO8.out.cell 0
  have o1 : w8.cell? ⟨q, 1, none⟩ = some (.int .u64 0) := HO8.out.cell 1
  have o2 : w8.cell? ⟨q, 2, none⟩ = some (.int .u64 0) := HO8.out.cell 2
  have o3 : w8.cell? ⟨q, 3, none⟩ = some (.int .i64 (f : Nat)) := HO8.out.cell 3
  have z0 : w8.cell? ⟨p, 0, none⟩ = some (.int .i64 0) := HZ8.out.cell 0
  have fz0 := HZ8.out.frozen 0
  have z1 : w8.cell? ⟨p, 1, none⟩ = some (.int .u64 0) := HZ8.out.cell 1
  have fz1 := HZ8.out.frozen 1
  have z2 : w8.cell? ⟨p, 2, none⟩ = some (.int .u64 0) := HZ8.out.cell 2
  have fz2 := HZ8.out.frozen 2
  have z3 : w8.cell? ⟨p, 3, none⟩ = some (.int .i64 0) := HZ8.out.cell 3
  have fz3 := HZ8.out.frozen 3
  go_wp2
  obtain ⟨wz, hwz⟩ : ∃ wz, (((w8.setCell ⟨p, 0, none⟩ (.int .i64 0)).setCell ⟨p, 1, none⟩ (.int .u64 0)).setCell ⟨p, 2, none⟩ (.int .u64 0)).setCell ⟨p, 3, none⟩ (.int .i64 0) = wz := ⟨_, rfl⟩
  have hx : Box wz p 29 #[.int .i64 0, .int .u64 0, .int .u64 0, .int .i64 0] := by
    rw [← hwz]
    exact (((HZ8.out.put 0 _).put 1 _).put 2 _).put 3 _
  have hb : Below p w wz := by
    rw [← hwz]
    exact (((HB8.out.setCell (p := ⟨p, 0, none⟩) (Nat.le_refl _) _).setCell (p := ⟨p, 1, none⟩) (Nat.le_refl _) _).setCell (p := ⟨p, 2, none⟩) (Nat.le_refl _) _).setCell (p := ⟨p, 3, none⟩) (Nat.le_refl _) _
  rw [hwz]
  exact bodyPost_ret (v := .tuple #[.agg #[.int .i64 0, .int .u64 0, .int .u64 0, .int .i64 0], .int .i64 4]) (results_ct Try.results11 rfl rfl (load_box hx Try.underlying29 rfl (inforop _ _ _ _))) rfl (PsPost.mk (o := ⟨0, 0, 0, (0 : Nat)⟩) HX.out (HP.out ▸ hb))
set_option maxHeartbeats 2000000 in
theorem rparse_3val (c a b : UInt8) (r : List UInt8) (v q x : List UInt8)  (w : World) (hk : knd c = 3) (ht : tex r = some (v, q)) (hu : tex q = some (x, [])) (nk : x.length ≤ 9223372036854775807) (nv : v.length ≤ 9223372036854775807) (hx : x.length ≤ 7) (hv : ¬ v.length ≤ 7) :
    Calls Try.prog 11 #[.string (BA (c :: (a :: b :: r)))] w (PsPost w (c :: (a :: b :: r))) := by
  have HX := Lib.hid (show (Ov.z, (4 : Int)) = prs (c :: (a :: b :: r)) from (prs_long hk (by decide) (by unfold bdy; rw [if_pos rfl]; simp only; rw [ht]; simp only; rw [hu]) (fun h => hv h.1)).symm)
  have K := Lib.hid (fun w => rkind_any (c :: (a :: b :: r)) w)
  have hk0 : Kd (c :: (a :: b :: r)) = 3 := hk
  rw [hk0] at K
  clear hk0
  have hs1 := rest_one c (a :: b :: r)
  have hi1 := index_one a (b :: r)
  have hi2 := index_two a b r
  have hs2 := rest_two a b r
  have ha := UInt8.toNat_lt a
  have hb9 := UInt8.toNat_lt b
  have d2 : decide ((r.length : Int) + 1 + 1 < 2) = false := by simp; omega
  have v1 : IntKind.i64.wrap (a.toNat : Int) = (a.toNat : Int) := by rw [IntKind.wrap_i64]; omega
  have v2 : IntKind.i64.wrap (b.toNat : Int) = (b.toNat : Int) := by rw [IntKind.wrap_i64]; omega
  have v3 : IntKind.i64.wrap (256 * (b.toNat : Int)) = 256 * (b.toNat : Int) := by rw [IntKind.wrap_i64]; omega
  have v4 : IntKind.i64.wrap ((a.toNat : Int) + 256 * (b.toNat : Int)) = ((a.toNat + 256 * b.toNat : Nat) : Int) := by rw [IntKind.wrap_i64]; omega
  have v5 : wrap64 (256 * (b.toNat : Int)) = 256 * (b.toNat : Int) := by unfold wrap64; omega
  have v6 : wrap64 ((a.toNat : Int) + 256 * (b.toNat : Int)) = ((a.toNat + 256 * b.toNat : Nat) : Int) := by unfold wrap64; omega
  obtain ⟨f, hf⟩ : ∃ f, a.toNat + 256 * b.toNat = f := ⟨_, rfl⟩
  rw [hf] at v4 v6
  clear hf ha hb9
  have HT := Lib.hid (fun w => rtext_any r w)
  unfold TxPost at HT
  rw [ht] at HT
  have HU := Lib.hid (fun w => rtext_any q w)
  unfold TxPost at HU
  rw [hu] at HU
  have he0 := BA_none
  have hkl := Lib.hid (show (BA x).size ≤ 9223372036854775807 from nk)
  have hvl := Lib.hid (show (BA v).size ≤ 9223372036854775807 from nv)
  have hke := Lib.hid (we_few hx)
  have hve := Lib.hid (we_far hv)
  clear hk ht hu nk nv hx hv
  obtain ⟨p, hp⟩ : ∃ p, w.heap.size = p := ⟨_, rfl⟩
  obtain ⟨w1, hw1⟩ : ∃ w1, w.alloc (.cells #[.int .i64 0, .int .u64 0, .int .u64 0, .int .i64 0] 29) = w1 := ⟨_, rfl⟩
  have HZ1 := Lib.hid (show Box w1 p 29 #[.int .i64 0, .int .u64 0, .int .u64 0, .int .i64 0] by rw [← hw1, ← hp]; exact Box.new _ _ _)
  have HB1 := Lib.hid (show Below p w w1 by rw [← hw1, ← hp]; exact (Below.refl _ _).alloc (Nat.le_refl _) _)
  have HP := Lib.hid hp
  have HW := Lib.hid hw1
  clear hp hw1
  go_enter Try.func11, Try.ntmps11
  go_wp2_with fail
  rw [HW.out, HP.out]
  refine (K.out _).mono ?_
  rintro e w2 ⟨rfl, hb⟩
  have HZ2 := Lib.hid (HZ1.out.of (hb.block _ HZ1.out.lt))
  have HB2 := Lib.hid (HB1.out.trans (hb.mono (by have := HZ1.out.lt; omega)))
  clear hb K HZ1 HB1 HW
  go_upto_region 2 with fail
  obtain ⟨q, hq⟩ : ∃ q, w2.heap.size = q := ⟨_, rfl⟩
  obtain ⟨w3, hw3⟩ : ∃ w3, w2.alloc (.cells #[.int .i64 3, .int .u64 0, .int .u64 0, .int .i64 0] 29) = w3 := ⟨_, rfl⟩
  try simp only [hw3, hq]
  have HO3 := Lib.hid (show Box w3 q 29 #[.int .i64 3, .int .u64 0, .int .u64 0, .int .i64 0] by rw [← hw3, ← hq]; exact Box.new _ _ _)
  have HZ3 := Lib.hid (show Box w3 p 29 #[.int .i64 0, .int .u64 0, .int .u64 0, .int .i64 0] by rw [← hw3]; exact HZ2.out.alloc _)
  have HB3 := Lib.hid (show Below p w w3 by rw [← hw3]; exact HB2.out.alloc (by have := HZ2.out.lt; omega) _)
  have HN := Lib.hid (show p < q by have h1 := HZ2.out.lt; omega)
  clear hq hw3 HZ2 HB2
  have o0 : w3.cell? ⟨q, 0, none⟩ = some (.int .i64 3) := HO3.out.cell 0
  have o1 : w3.cell? ⟨q, 1, none⟩ = some (.int .u64 0) := HO3.out.cell 1
  have o2 : w3.cell? ⟨q, 2, none⟩ = some (.int .u64 0) := HO3.out.cell 2
  have o3 : w3.cell? ⟨q, 3, none⟩ = some (.int .i64 0) := HO3.out.cell 3
  have f9 := HO3.out.frozen 3
  go_upto_region 11 with (fail)
  go_region
  obtain ⟨w4, hw9⟩ : ∃ w9, (w3.setCell ⟨q, 3, none⟩ (.int .i64 (f : Nat))).drew = w9 := ⟨_, rfl⟩
  try simp only [hw9]
  have HO4 := Lib.hid (show Box w4 q 29 #[.int .i64 3, .int .u64 0, .int .u64 0, .int .i64 (f : Nat)] by rw [← hw9]; exact (HO3.out.put 3 _).drewN 1)
  have HZ4 := Lib.hid (show Box w4 p 29 #[.int .i64 0, .int .u64 0, .int .u64 0, .int .i64 0] by rw [← hw9]; exact (HZ3.out.far (a := ⟨q, 3, none⟩) (by show p ≠ q; have := HN.out; omega) _).drewN 1)
  have HB4 := Lib.hid (show Below p w w4 by rw [← hw9]; exact below_drewN (HB3.out.setCell (p := ⟨q, 3, none⟩) (by show p ≤ q; have := HN.out; omega) _) 1)
  clear f9 hw9 HO3 HZ3 HB3
  clear o0 o1 o2 o3
  have o0 : w4.cell? ⟨q, 0, none⟩ = some (.int .i64 3) := HO4.out.cell 0
  have o1 : w4.cell? ⟨q, 1, none⟩ = some (.int .u64 0) := HO4.out.cell 1
  have o2 : w4.cell? ⟨q, 2, none⟩ = some (.int .u64 0) := HO4.out.cell 2
  have o3 : w4.cell? ⟨q, 3, none⟩ = some (.int .i64 (f : Nat)) := HO4.out.cell 3
  go_wp2_with fail
  refine (HT.out _).mono ?_
  rintro e w5 ⟨rfl, hb⟩
  have HZ5 := Lib.hid (HZ4.out.of (hb.block _ HZ4.out.lt))
  have HO5 := Lib.hid (HO4.out.of (hb.block _ HO4.out.lt))
  have HB5 := Lib.hid (HB4.out.trans (hb.mono (by have := HZ4.out.lt; omega)))
  clear hb HZ4 HO4 HB4
  clear o0 o1 o2 o3
  have o0 : w5.cell? ⟨q, 0, none⟩ = some (.int .i64 3) := HO5.out.cell 0
  have o1 : w5.cell? ⟨q, 1, none⟩ = some (.int .u64 0) := HO5.out.cell 1
  have o2 : w5.cell? ⟨q, 2, none⟩ = some (.int .u64 0) := HO5.out.cell 2
  have o3 : w5.cell? ⟨q, 3, none⟩ = some (.int .i64 (f : Nat)) := HO5.out.cell 3
  go_wp2_with fail
  refine (HU.out _).mono ?_
  rintro e w6 ⟨rfl, hb⟩
  have HZ6 := Lib.hid (HZ5.out.of (hb.block _ HZ5.out.lt))
  have HO6 := Lib.hid (HO5.out.of (hb.block _ HO5.out.lt))
  have HB6 := Lib.hid (HB5.out.trans (hb.mono (by have := HZ5.out.lt; omega)))
  clear hb HZ5 HO5 HB5
  clear o0 o1 o2 o3
  have o0 : w6.cell? ⟨q, 0, none⟩ = some (.int .i64 3) := HO6.out.cell 0
  have o1 : w6.cell? ⟨q, 1, none⟩ = some (.int .u64 0) := HO6.out.cell 1
  have o2 : w6.cell? ⟨q, 2, none⟩ = some (.int .u64 0) := HO6.out.cell 2
  have o3 : w6.cell? ⟨q, 3, none⟩ = some (.int .i64 (f : Nat)) := HO6.out.cell 3
  go_wp2_with fail
  refine (refWord_any (BA x) _ hkl.out).mono ?_
  rintro e w7 ⟨rfl, hb⟩
  rw [hke.out]
  have HZ7 := Lib.hid (HZ6.out.of (hb.block _ HZ6.out.lt))
  have HO7 := Lib.hid (HO6.out.of (hb.block _ HO6.out.lt))
  have HB7 := Lib.hid (HB6.out.trans (hb.mono (by have := HZ6.out.lt; omega)))
  clear hb HZ6 HO6 HB6
  clear o0 o1 o2 o3
  have o0 : w7.cell? ⟨q, 0, none⟩ = some (.int .i64 3) := HO7.out.cell 0
  have o1 : w7.cell? ⟨q, 1, none⟩ = some (.int .u64 0) := HO7.out.cell 1
  have o2 : w7.cell? ⟨q, 2, none⟩ = some (.int .u64 0) := HO7.out.cell 2
  have o3 : w7.cell? ⟨q, 3, none⟩ = some (.int .i64 (f : Nat)) := HO7.out.cell 3
  go_wp2_with fail
  refine (refWord_any (BA v) _ hvl.out).mono ?_
  rintro e w8 ⟨rfl, hb⟩
  rw [hve.out]
  have HZ8 := Lib.hid (HZ7.out.of (hb.block _ HZ7.out.lt))
  have HO8 := Lib.hid (HO7.out.of (hb.block _ HO7.out.lt))
  have HB8 := Lib.hid (HB7.out.trans (hb.mono (by have := HZ7.out.lt; omega)))
  clear hb HZ7 HO7 HB7
  clear o0 o1 o2 o3
  have o0 : w8.cell? ⟨q, 0, none⟩ = some (.int .i64 3) := HO8.out.cell 0
  have o1 : w8.cell? ⟨q, 1, none⟩ = some (.int .u64 0) := HO8.out.cell 1
  have o2 : w8.cell? ⟨q, 2, none⟩ = some (.int .u64 0) := HO8.out.cell 2
  have o3 : w8.cell? ⟨q, 3, none⟩ = some (.int .i64 (f : Nat)) := HO8.out.cell 3
  have z0 : w8.cell? ⟨p, 0, none⟩ = some (.int .i64 0) := HZ8.out.cell 0
  have fz0 := HZ8.out.frozen 0
  have z1 : w8.cell? ⟨p, 1, none⟩ = some (.int .u64 0) := HZ8.out.cell 1
  have fz1 := HZ8.out.frozen 1
  have z2 : w8.cell? ⟨p, 2, none⟩ = some (.int .u64 0) := HZ8.out.cell 2
  have fz2 := HZ8.out.frozen 2
  have z3 : w8.cell? ⟨p, 3, none⟩ = some (.int .i64 0) := HZ8.out.cell 3
  have fz3 := HZ8.out.frozen 3
  go_wp2
  obtain ⟨wz, hwz⟩ : ∃ wz, (((w8.setCell ⟨p, 0, none⟩ (.int .i64 0)).setCell ⟨p, 1, none⟩ (.int .u64 0)).setCell ⟨p, 2, none⟩ (.int .u64 0)).setCell ⟨p, 3, none⟩ (.int .i64 0) = wz := ⟨_, rfl⟩
  have hx : Box wz p 29 #[.int .i64 0, .int .u64 0, .int .u64 0, .int .i64 0] := by
    rw [← hwz]
    exact (((HZ8.out.put 0 _).put 1 _).put 2 _).put 3 _
  have hb : Below p w wz := by
    rw [← hwz]
    exact (((HB8.out.setCell (p := ⟨p, 0, none⟩) (Nat.le_refl _) _).setCell (p := ⟨p, 1, none⟩) (Nat.le_refl _) _).setCell (p := ⟨p, 2, none⟩) (Nat.le_refl _) _).setCell (p := ⟨p, 3, none⟩) (Nat.le_refl _) _
  rw [hwz]
  exact bodyPost_ret (v := .tuple #[.agg #[.int .i64 0, .int .u64 0, .int .u64 0, .int .i64 0], .int .i64 4]) (results_ct Try.results11 rfl rfl (load_box hx Try.underlying29 rfl (inforop _ _ _ _))) rfl (PsPost.mk (o := ⟨0, 0, 0, (0 : Nat)⟩) HX.out (HP.out ▸ hb))
set_option maxHeartbeats 2000000 in
theorem rparse_3ok (c a b : UInt8) (r : List UInt8) (v q x : List UInt8)  (w : World) (hk : knd c = 3) (ht : tex r = some (v, q)) (hu : tex q = some (x, [])) (nk : x.length ≤ 9223372036854775807) (nv : v.length ≤ 9223372036854775807) (hx : x.length ≤ 7) (hv : v.length ≤ 7) :
    Calls Try.prog 11 #[.string (BA (c :: (a :: b :: r)))] w (PsPost w (c :: (a :: b :: r))) := by
  have HX := Lib.hid (show ((⟨3, wd (BA x), wd (BA v), ((a.toNat + 256 * b.toNat) : Nat)⟩ : Ov), (0 : Int)) = prs (c :: (a :: b :: r)) from (prs_yes hk (by decide) (by unfold bdy; rw [if_pos rfl]; simp only; rw [ht]; simp only; rw [hu]) hv hx).symm)
  have K := Lib.hid (fun w => rkind_any (c :: (a :: b :: r)) w)
  have hk0 : Kd (c :: (a :: b :: r)) = 3 := hk
  rw [hk0] at K
  clear hk0
  have hs1 := rest_one c (a :: b :: r)
  have hi1 := index_one a (b :: r)
  have hi2 := index_two a b r
  have hs2 := rest_two a b r
  have ha := UInt8.toNat_lt a
  have hb9 := UInt8.toNat_lt b
  have d2 : decide ((r.length : Int) + 1 + 1 < 2) = false := by simp; omega
  have v1 : IntKind.i64.wrap (a.toNat : Int) = (a.toNat : Int) := by rw [IntKind.wrap_i64]; omega
  have v2 : IntKind.i64.wrap (b.toNat : Int) = (b.toNat : Int) := by rw [IntKind.wrap_i64]; omega
  have v3 : IntKind.i64.wrap (256 * (b.toNat : Int)) = 256 * (b.toNat : Int) := by rw [IntKind.wrap_i64]; omega
  have v4 : IntKind.i64.wrap ((a.toNat : Int) + 256 * (b.toNat : Int)) = ((a.toNat + 256 * b.toNat : Nat) : Int) := by rw [IntKind.wrap_i64]; omega
  have v5 : wrap64 (256 * (b.toNat : Int)) = 256 * (b.toNat : Int) := by unfold wrap64; omega
  have v6 : wrap64 ((a.toNat : Int) + 256 * (b.toNat : Int)) = ((a.toNat + 256 * b.toNat : Nat) : Int) := by unfold wrap64; omega
  obtain ⟨f, hf⟩ : ∃ f, a.toNat + 256 * b.toNat = f := ⟨_, rfl⟩
  rw [hf] at HX v4 v6
  clear hf ha hb9
  have HT := Lib.hid (fun w => rtext_any r w)
  unfold TxPost at HT
  rw [ht] at HT
  have HU := Lib.hid (fun w => rtext_any q w)
  unfold TxPost at HU
  rw [hu] at HU
  have he0 := BA_none
  have hkl := Lib.hid (show (BA x).size ≤ 9223372036854775807 from nk)
  have hvl := Lib.hid (show (BA v).size ≤ 9223372036854775807 from nv)
  have hke := Lib.hid (we_few hx)
  have hve := Lib.hid (we_few hv)
  have hkw := Lib.hid (wv_few hx)
  have hvw := Lib.hid (wv_few hv)
  clear hk ht hu nk nv hx hv
  obtain ⟨p, hp⟩ : ∃ p, w.heap.size = p := ⟨_, rfl⟩
  obtain ⟨w1, hw1⟩ : ∃ w1, w.alloc (.cells #[.int .i64 0, .int .u64 0, .int .u64 0, .int .i64 0] 29) = w1 := ⟨_, rfl⟩
  have HZ1 := Lib.hid (show Box w1 p 29 #[.int .i64 0, .int .u64 0, .int .u64 0, .int .i64 0] by rw [← hw1, ← hp]; exact Box.new _ _ _)
  have HB1 := Lib.hid (show Below p w w1 by rw [← hw1, ← hp]; exact (Below.refl _ _).alloc (Nat.le_refl _) _)
  have HP := Lib.hid hp
  have HW := Lib.hid hw1
  clear hp hw1
  go_enter Try.func11, Try.ntmps11
  go_wp2_with fail
  rw [HW.out, HP.out]
  refine (K.out _).mono ?_
  rintro e w2 ⟨rfl, hb⟩
  have HZ2 := Lib.hid (HZ1.out.of (hb.block _ HZ1.out.lt))
  have HB2 := Lib.hid (HB1.out.trans (hb.mono (by have := HZ1.out.lt; omega)))
  clear hb K HZ1 HB1 HW
  go_upto_region 2 with fail
  obtain ⟨q, hq⟩ : ∃ q, w2.heap.size = q := ⟨_, rfl⟩
  obtain ⟨w3, hw3⟩ : ∃ w3, w2.alloc (.cells #[.int .i64 3, .int .u64 0, .int .u64 0, .int .i64 0] 29) = w3 := ⟨_, rfl⟩
  try simp only [hw3, hq]
  have HO3 := Lib.hid (show Box w3 q 29 #[.int .i64 3, .int .u64 0, .int .u64 0, .int .i64 0] by rw [← hw3, ← hq]; exact Box.new _ _ _)
  have HZ3 := Lib.hid (show Box w3 p 29 #[.int .i64 0, .int .u64 0, .int .u64 0, .int .i64 0] by rw [← hw3]; exact HZ2.out.alloc _)
  have HB3 := Lib.hid (show Below p w w3 by rw [← hw3]; exact HB2.out.alloc (by have := HZ2.out.lt; omega) _)
  have HN := Lib.hid (show p < q by have h1 := HZ2.out.lt; omega)
  clear hq hw3 HZ2 HB2
  have o0 : w3.cell? ⟨q, 0, none⟩ = some (.int .i64 3) := HO3.out.cell 0
  have o1 : w3.cell? ⟨q, 1, none⟩ = some (.int .u64 0) := HO3.out.cell 1
  have o2 : w3.cell? ⟨q, 2, none⟩ = some (.int .u64 0) := HO3.out.cell 2
  have o3 : w3.cell? ⟨q, 3, none⟩ = some (.int .i64 0) := HO3.out.cell 3
  have f9 := HO3.out.frozen 3
  go_upto_region 11 with (fail)
  go_region
  obtain ⟨w4, hw9⟩ : ∃ w9, (w3.setCell ⟨q, 3, none⟩ (.int .i64 (f : Nat))).drew = w9 := ⟨_, rfl⟩
  try simp only [hw9]
  have HO4 := Lib.hid (show Box w4 q 29 #[.int .i64 3, .int .u64 0, .int .u64 0, .int .i64 (f : Nat)] by rw [← hw9]; exact (HO3.out.put 3 _).drewN 1)
  have HZ4 := Lib.hid (show Box w4 p 29 #[.int .i64 0, .int .u64 0, .int .u64 0, .int .i64 0] by rw [← hw9]; exact (HZ3.out.far (a := ⟨q, 3, none⟩) (by show p ≠ q; have := HN.out; omega) _).drewN 1)
  have HB4 := Lib.hid (show Below p w w4 by rw [← hw9]; exact below_drewN (HB3.out.setCell (p := ⟨q, 3, none⟩) (by show p ≤ q; have := HN.out; omega) _) 1)
  clear f9 hw9 HO3 HZ3 HB3
  clear o0 o1 o2 o3
  have o0 : w4.cell? ⟨q, 0, none⟩ = some (.int .i64 3) := HO4.out.cell 0
  have o1 : w4.cell? ⟨q, 1, none⟩ = some (.int .u64 0) := HO4.out.cell 1
  have o2 : w4.cell? ⟨q, 2, none⟩ = some (.int .u64 0) := HO4.out.cell 2
  have o3 : w4.cell? ⟨q, 3, none⟩ = some (.int .i64 (f : Nat)) := HO4.out.cell 3
  go_wp2_with fail
  refine (HT.out _).mono ?_
  rintro e w5 ⟨rfl, hb⟩
  have HZ5 := Lib.hid (HZ4.out.of (hb.block _ HZ4.out.lt))
  have HO5 := Lib.hid (HO4.out.of (hb.block _ HO4.out.lt))
  have HB5 := Lib.hid (HB4.out.trans (hb.mono (by have := HZ4.out.lt; omega)))
  clear hb HZ4 HO4 HB4
  clear o0 o1 o2 o3
  have o0 : w5.cell? ⟨q, 0, none⟩ = some (.int .i64 3) := HO5.out.cell 0
  have o1 : w5.cell? ⟨q, 1, none⟩ = some (.int .u64 0) := HO5.out.cell 1
  have o2 : w5.cell? ⟨q, 2, none⟩ = some (.int .u64 0) := HO5.out.cell 2
  have o3 : w5.cell? ⟨q, 3, none⟩ = some (.int .i64 (f : Nat)) := HO5.out.cell 3
  go_wp2_with fail
  refine (HU.out _).mono ?_
  rintro e w6 ⟨rfl, hb⟩
  have HZ6 := Lib.hid (HZ5.out.of (hb.block _ HZ5.out.lt))
  have HO6 := Lib.hid (HO5.out.of (hb.block _ HO5.out.lt))
  have HB6 := Lib.hid (HB5.out.trans (hb.mono (by have := HZ5.out.lt; omega)))
  clear hb HZ5 HO5 HB5
  clear o0 o1 o2 o3
  have o0 : w6.cell? ⟨q, 0, none⟩ = some (.int .i64 3) := HO6.out.cell 0
  have o1 : w6.cell? ⟨q, 1, none⟩ = some (.int .u64 0) := HO6.out.cell 1
  have o2 : w6.cell? ⟨q, 2, none⟩ = some (.int .u64 0) := HO6.out.cell 2
  have o3 : w6.cell? ⟨q, 3, none⟩ = some (.int .i64 (f : Nat)) := HO6.out.cell 3
  go_wp2_with fail
  refine (refWord_any (BA x) _ hkl.out).mono ?_
  rintro e w7 ⟨rfl, hb⟩
  rw [hke.out]
  have HZ7 := Lib.hid (HZ6.out.of (hb.block _ HZ6.out.lt))
  have HO7 := Lib.hid (HO6.out.of (hb.block _ HO6.out.lt))
  have HB7 := Lib.hid (HB6.out.trans (hb.mono (by have := HZ6.out.lt; omega)))
  clear hb HZ6 HO6 HB6
  clear o0 o1 o2 o3
  have o0 : w7.cell? ⟨q, 0, none⟩ = some (.int .i64 3) := HO7.out.cell 0
  have o1 : w7.cell? ⟨q, 1, none⟩ = some (.int .u64 0) := HO7.out.cell 1
  have o2 : w7.cell? ⟨q, 2, none⟩ = some (.int .u64 0) := HO7.out.cell 2
  have o3 : w7.cell? ⟨q, 3, none⟩ = some (.int .i64 (f : Nat)) := HO7.out.cell 3
  go_wp2_with fail
  refine (refWord_any (BA v) _ hvl.out).mono ?_
  rintro e w8 ⟨rfl, hb⟩
  rw [hve.out]
  have HZ8 := Lib.hid (HZ7.out.of (hb.block _ HZ7.out.lt))
  have HO8 := Lib.hid (HO7.out.of (hb.block _ HO7.out.lt))
  have HB8 := Lib.hid (HB7.out.trans (hb.mono (by have := HZ7.out.lt; omega)))
  clear hb HZ7 HO7 HB7
  clear o0 o1 o2 o3
  have o0 : w8.cell? ⟨q, 0, none⟩ = some (.int .i64 3) := HO8.out.cell 0
  have o1 : w8.cell? ⟨q, 1, none⟩ = some (.int .u64 0) := HO8.out.cell 1
  have o2 : w8.cell? ⟨q, 2, none⟩ = some (.int .u64 0) := HO8.out.cell 2
  have o3 : w8.cell? ⟨q, 3, none⟩ = some (.int .i64 (f : Nat)) := HO8.out.cell 3
  simp only [hkw.out, hvw.out]
  have f9 := HO8.out.frozen 1
  go_upto_region 22 with (fail)
  obtain ⟨w9, hw9⟩ : ∃ wy, w8.setCell ⟨q, 1, none⟩ (.int .u64 (wd (BA x) : Nat)) = wy := ⟨_, rfl⟩
  try simp only [hw9]
  have HO9 := Lib.hid (show Box w9 q 29 #[.int .i64 3, .int .u64 (wd (BA x) : Nat), .int .u64 0, .int .i64 (f : Nat)] by rw [← hw9]; exact HO8.out.put 1 _)
  have HZ9 := Lib.hid (show Box w9 p 29 #[.int .i64 0, .int .u64 0, .int .u64 0, .int .i64 0] by rw [← hw9]; exact HZ8.out.far (a := ⟨q, 1, none⟩) (by show p ≠ q; have := HN.out; omega) _)
  have HB9 := Lib.hid (show Below p w w9 by rw [← hw9]; exact HB8.out.setCell (p := ⟨q, 1, none⟩) (by show p ≤ q; have := HN.out; omega) _)
  clear f9 hw9 HO8 HZ8 HB8
  clear o0 o1 o2 o3
  have o0 : w9.cell? ⟨q, 0, none⟩ = some (.int .i64 3) := HO9.out.cell 0
  have o1 : w9.cell? ⟨q, 1, none⟩ = some (.int .u64 (wd (BA x) : Nat)) := HO9.out.cell 1
  have o2 : w9.cell? ⟨q, 2, none⟩ = some (.int .u64 0) := HO9.out.cell 2
  have o3 : w9.cell? ⟨q, 3, none⟩ = some (.int .i64 (f : Nat)) := HO9.out.cell 3
  have f9 := HO9.out.frozen 2
  go_upto_region 23 with (fail)
  obtain ⟨w10, hw9⟩ : ∃ wy, w9.setCell ⟨q, 2, none⟩ (.int .u64 (wd (BA v) : Nat)) = wy := ⟨_, rfl⟩
  try simp only [hw9]
  have HO10 := Lib.hid (show Box w10 q 29 #[.int .i64 3, .int .u64 (wd (BA x) : Nat), .int .u64 (wd (BA v) : Nat), .int .i64 (f : Nat)] by rw [← hw9]; exact HO9.out.put 2 _)
  have HZ10 := Lib.hid (show Box w10 p 29 #[.int .i64 0, .int .u64 0, .int .u64 0, .int .i64 0] by rw [← hw9]; exact HZ9.out.far (a := ⟨q, 2, none⟩) (by show p ≠ q; have := HN.out; omega) _)
  have HB10 := Lib.hid (show Below p w w10 by rw [← hw9]; exact HB9.out.setCell (p := ⟨q, 2, none⟩) (by show p ≤ q; have := HN.out; omega) _)
  clear f9 hw9 HO9 HZ9 HB9
  clear o0 o1 o2 o3
  have o0 : w10.cell? ⟨q, 0, none⟩ = some (.int .i64 3) := HO10.out.cell 0
  have o1 : w10.cell? ⟨q, 1, none⟩ = some (.int .u64 (wd (BA x) : Nat)) := HO10.out.cell 1
  have o2 : w10.cell? ⟨q, 2, none⟩ = some (.int .u64 (wd (BA v) : Nat)) := HO10.out.cell 2
  have o3 : w10.cell? ⟨q, 3, none⟩ = some (.int .i64 (f : Nat)) := HO10.out.cell 3
  have z0 : w10.cell? ⟨p, 0, none⟩ = some (.int .i64 0) := HZ10.out.cell 0
  have fz0 := HZ10.out.frozen 0
  have z1 : w10.cell? ⟨p, 1, none⟩ = some (.int .u64 0) := HZ10.out.cell 1
  have fz1 := HZ10.out.frozen 1
  have z2 : w10.cell? ⟨p, 2, none⟩ = some (.int .u64 0) := HZ10.out.cell 2
  have fz2 := HZ10.out.frozen 2
  have z3 : w10.cell? ⟨p, 3, none⟩ = some (.int .i64 0) := HZ10.out.cell 3
  have fz3 := HZ10.out.frozen 3
  go_wp2
  obtain ⟨wz, hwz⟩ : ∃ wz, (((w10.setCell ⟨p, 0, none⟩ (.int .i64 3)).setCell ⟨p, 1, none⟩ (.int .u64 (wd (BA x) : Nat))).setCell ⟨p, 2, none⟩ (.int .u64 (wd (BA v) : Nat))).setCell ⟨p, 3, none⟩ (.int .i64 (f : Nat)) = wz := ⟨_, rfl⟩
  have hx : Box wz p 29 #[.int .i64 3, .int .u64 (wd (BA x) : Nat), .int .u64 (wd (BA v) : Nat), .int .i64 (f : Nat)] := by
    rw [← hwz]
    exact (((HZ10.out.put 0 _).put 1 _).put 2 _).put 3 _
  have hb : Below p w wz := by
    rw [← hwz]
    exact (((HB10.out.setCell (p := ⟨p, 0, none⟩) (Nat.le_refl _) _).setCell (p := ⟨p, 1, none⟩) (Nat.le_refl _) _).setCell (p := ⟨p, 2, none⟩) (Nat.le_refl _) _).setCell (p := ⟨p, 3, none⟩) (Nat.le_refl _) _
  rw [hwz]
  exact bodyPost_ret (v := .tuple #[.agg #[.int .i64 3, .int .u64 (wd (BA x) : Nat), .int .u64 (wd (BA v) : Nat), .int .i64 (f : Nat)], .int .i64 0]) (results_ct Try.results11 rfl rfl (load_box hx Try.underlying29 rfl (inforop _ _ _ _))) rfl (PsPost.mk (o := ⟨3, wd (BA x), wd (BA v), (f : Nat)⟩) HX.out (HP.out ▸ hb))
theorem tex_len {l x q : List UInt8} (h : tex l = some (x, q)) : x.length ≤ l.length ∧ q.length ≤ l.length := by
  obtain ⟨b, _, rfl⟩ := tex_out h
  simp; omega
theorem rparse_any (l : List UInt8) (w : World) (hl : l.length ≤ 9223372036854775807) : Calls Try.prog 11 #[.string (BA l)] w (PsPost w l) := by
  cases l with
  | nil => exact rparse_0 [] w rfl
  | cons c r =>
    rw [List.length_cons] at hl
    rcases (by have := knd_cases c; omega : knd c = 0 ∨ knd c = 1 ∨ knd c = 2 ∨ knd c = 3 ∨ knd c = 4 ∨ knd c = 5) with hk | hk | hk | hk | hk | hk
    · exact rparse_0 (c :: r) w hk
    · rcases ht : tex r with _ | ⟨x, q⟩
      · exact rparse_1n c r w hk ht
      · have h1 := tex_len ht
        cases q with
        | cons b q => exact rparse_1m c r x q b w hk ht
        | nil =>
          by_cases hx : x.length ≤ 7
          · exact rparse_1ok c r x w hk ht (by omega) hx
          · exact rparse_1key c r x w hk ht (by omega) hx
    · rcases ht : tex r with _ | ⟨x, q⟩
      · exact rparse_2n c r w hk ht
      · have h1 := tex_len ht
        cases q with
        | cons b q => exact rparse_2m c r x q b w hk ht
        | nil =>
          by_cases hx : x.length ≤ 7
          · exact rparse_2ok c r x w hk ht (by omega) hx
          · exact rparse_2key c r x w hk ht (by omega) hx
    · match r with
      | [] => exact rparse_3e c w hk
      | [a] => exact rparse_3o c a w hk
      | a :: b :: r =>
        simp only [List.length_cons] at hl
        rcases ht : tex r with _ | ⟨v, q⟩
        · exact rparse_3n c a b r w hk ht
        · have h1 := tex_len ht
          rcases hu : tex q with _ | ⟨x, p⟩
          · exact rparse_3u c a b r v q w hk ht hu
          · have h2 := tex_len hu
            cases p with
            | cons d p => exact rparse_3m c a b r v q x p d w hk ht hu
            | nil =>
              by_cases hx : x.length ≤ 7
              · by_cases hv : v.length ≤ 7
                · exact rparse_3ok c a b r v q x w hk ht hu (by omega) (by omega) hx hv
                · exact rparse_3val c a b r v q x w hk ht hu (by omega) (by omega) hx hv
              · exact rparse_3key c a b r v q x w hk ht hu (by omega) (by omega) hx
    · rcases ht : tex r with _ | ⟨x, q⟩
      · exact rparse_4n c r w hk ht
      · have h1 := tex_len ht
        cases q with
        | cons b q => exact rparse_4m c r x q b w hk ht
        | nil =>
          by_cases hx : x.length ≤ 7
          · exact rparse_4ok c r x w hk ht (by omega) hx
          · exact rparse_4key c r x w hk ht (by omega) hx
    · cases r with
      | nil => exact rparse_5ok c w hk
      | cons b q => exact rparse_5m c b q w hk
end Go.Proofs.Ytpnjeoilkaimmaa
