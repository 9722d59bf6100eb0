/- Contract of op.Parse: it returns what the bytes say. Conditions: lengths are ints. -/
import Derived.Test.YtpnjeoilkaimmaaOpRead
import Derived.Test.YtpnjeoilkaimmaaResults
import Derived.Deep.Cut
namespace Go.Proofs.Ytpnjeoilkaimmaa
open Go.RowKit Go.ChangeShapes Go.WideShapes Go.ChangeAt

def Ov.cs (o : Ov) : Array Value := #[.int .i64 o.k, .int .u64 o.key, .int .u64 o.val, .int .i64 o.f]
theorem infoop (a b c d : Value) : (Try.prog.info? 24).map (·.size) = some (#[a, b, c, d] : Array Value).toList.length := by
  have h : (Try.prog.info? 24).map (·.size) = some 4 := by kernel_rfl
  exact h
def PsPost (w : World) (l : List UInt8) (e : Ending) (w' : World) : Prop := e = .returned (.tuple #[(prs l).1.a, .int .i64 (prs l).2]) ∧ Below w.heap.size w w'
theorem PsPost.mk {w w' : World} {l : List UInt8} {o : Ov} {x : Int} (h : (o, x) = prs l) (hb : Below w.heap.size w w') : PsPost w l (.returned (.tuple #[o.a, .int .i64 x])) w' := by
  unfold PsPost; rw [← h]; exact ⟨rfl, hb⟩
theorem tail_len (l : List UInt8) : (Rd.one ⟨l, false, false⟩).2.l.length ≤ l.length := by
  cases l <;> simp [Rd.one]
theorem Rd.one_len (r : Rd) : r.one.2.l.length ≤ r.l.length := by
  unfold Rd.one; split <;> simp_all
theorem Rd.take_len (r : Rd) (n : Nat) : (r.take n).2.l.length ≤ r.l.length := by
  unfold Rd.take; split
  · simp
  · exact Nat.le_refl _
theorem Rd.word_len (r : Rd) : r.word.2.l.length ≤ r.l.length := Nat.le_trans (Rd.take_len r.one.2 _) (Rd.one_len r)
theorem Rd.num_len (r : Rd) : r.num.2.l.length ≤ r.l.length := Nat.le_trans (Rd.one_len r.one.2) (Rd.one_len r)
set_option maxHeartbeats 2000000 in
theorem parse_k1 (l : List UInt8) (w : World) (hl : l.length ≤ 9223372036854775807) (hk : Rd.kd ⟨l, false, false⟩ = 1) :
    Calls Try.prog 10 #[.string (BA l)] w (PsPost w l) := by
  have HF := Lib.hid (ways_prs l)
  rw [hk] at HF
  have hl2 := Nat.le_trans (tail_len l) hl
  obtain ⟨p, hp⟩ : ∃ p, w.heap.size = p := ⟨_, rfl⟩
  obtain ⟨wa, hwa⟩ : ∃ wa, ((w.alloc (.cells #[.int .i64 0, .int .u64 0, .int .u64 0, .int .i64 0] 24)).alloc (.cells #[.string (BA l), .bool false, .bool false] 48)) = wa := ⟨_, rfl⟩
  have hz : Box wa p 24 #[.int .i64 0, .int .u64 0, .int .u64 0, .int .i64 0] := by rw [← hwa, ← hp]; exact (Box.new w _ _).alloc _
  have hr : Box wa (p + 1) 48 (Rd.cs ⟨l, false, false⟩) := by
    have h := Box.new (w.alloc (.cells #[.int .i64 0, .int .u64 0, .int .u64 0, .int .i64 0] 24)) 48 #[.string (BA l), .bool false, .bool false]
    rw [hwa, World.size_alloc, hp] at h
    exact h
  have HB := Lib.hid (show Below p w wa by rw [← hwa, ← hp]; exact ((Below.refl _ _).alloc (Nat.le_refl _) _).alloc (by simp) _)
  have K := Lib.hid (rd_kind (p + 1) ⟨l, false, false⟩ wa hr)
  rw [hk] at K
  have HZ := Lib.hid hz
  have HW := Lib.hid hwa
  have HP := Lib.hid hp
  generalize (Rd.one ⟨l, false, false⟩).2 = R at *
  clear hz hr hwa hp hk hl
  go_enter Try.func10, Try.ntmps10
  go_wp2_with fail
  rw [HW.out, HP.out]
  refine K.out.mono ?_
  rintro e w2 ⟨rfl, hb, ho⟩
  have HR := Lib.hid hb
  have hn : p ≠ p + 1 := by omega
  have HZ2 := Lib.hid (HZ.out.only ho (just_ne hn))
  have HB2 := Lib.hid (below_only HB.out ho (by have := HZ.out.lt; omega) (fun i hi e => by have e : i = p + 1 := e; omega))
  clear hb ho K HZ HB hn HW
  go_upto_region 3 with fail
  obtain ⟨q, hq⟩ : ∃ q, w2.heap.size = q := ⟨_, rfl⟩
  obtain ⟨w3, hw3⟩ : ∃ w3, w2.alloc (.cells #[.int .i64 1, .int .u64 0, .int .u64 0, .int .i64 0] 24) = w3 := ⟨_, rfl⟩
  simp only [hw3, hq]
  have HO3 := Lib.hid (show Box w3 q 24 #[.int .i64 1, .int .u64 0, .int .u64 0, .int .i64 0] by rw [← hw3, ← hq]; exact Box.new _ _ _)
  have HZ3 := Lib.hid (show Box w3 p 24 #[.int .i64 0, .int .u64 0, .int .u64 0, .int .i64 0] by rw [← hw3]; exact HZ2.out.alloc _)
  have HR3 := Lib.hid (show Box w3 (p + 1) 48 R.cs by rw [← hw3]; exact HR.out.alloc _)
  have HB3 := Lib.hid (show Below p w w3 by rw [← hw3]; exact HB2.out.alloc (by have := HZ2.out.lt; omega) _)
  have HN := Lib.hid (show p < q ∧ p + 1 < q by have h1 := HR.out.lt; omega)
  clear hq hw3 HZ2 HR HB2
  have o0 : w3.cell? ⟨q, 0, none⟩ = some (.int .i64 1) := HO3.out.cell 0
  go_wp2_with fail
  refine (rd_word (p + 1) R w3 HR3.out hl2).mono ?_
  rintro e w4 ⟨rfl, hb, ho⟩
  clear o0
  have HR4 := Lib.hid hb
  have HO4 := Lib.hid (HO3.out.only ho (just_ne (by have := HN.out; omega)))
  have HZ4 := Lib.hid (HZ3.out.only ho (just_ne (by omega)))
  have HB4 := Lib.hid (below_only HB3.out ho (by have := HN.out; have := HO3.out.lt; omega) (fun i hi e => by have e : i = p + 1 := e; omega))
  clear hb ho HO3 HZ3 HB3 HR3
  have c9 : w4.cell? ⟨q, 1, none⟩ = some (.int .u64 0) := HO4.out.cell 1
  have f9 := HO4.out.frozen 1
  go_upto_region 11 with fail
  obtain ⟨w5, hw9⟩ : ∃ w9, w4.setCell ⟨q, 1, none⟩ (.int .u64 (R.word.1 : Nat)) = w9 := ⟨_, rfl⟩
  simp only [hw9]
  have HO5 := Lib.hid (show Box w5 q 24 #[.int .i64 1, .int .u64 (R.word.1 : Nat), .int .u64 0, .int .i64 0] by rw [← hw9]; exact HO4.out.put 1 _)
  have HZ5 := Lib.hid (show Box w5 p 24 #[.int .i64 0, .int .u64 0, .int .u64 0, .int .i64 0] by rw [← hw9]; exact HZ4.out.far (a := ⟨q, 1, none⟩) (by show p ≠ q; have := HN.out; omega) _)
  have HR5 := Lib.hid (show Box w5 (p + 1) 48 (R.word.2).cs by rw [← hw9]; exact HR4.out.far (a := ⟨q, 1, none⟩) (by show p + 1 ≠ q; have := HN.out; omega) _)
  have HB5 := Lib.hid (show Below p w w5 by rw [← hw9]; exact HB4.out.setCell (p := ⟨q, 1, none⟩) (by show p ≤ q; have := HN.out; omega) _)
  clear c9 f9 hw9 HO4 HZ4 HR4 HB4
  have HF2 := Lib.hid (show Rd.fin 1 ((0 : Nat), (0 : Nat), R.word.1, R.word.2) = prs l by rw [← HF.out]; unfold Rd.ways; rw [if_neg (by decide), if_pos (by decide)])
  clear HF
  generalize R.word.1 = v_key at *
  generalize R.word.2 = Z at *
  obtain ⟨l9, c9, g9⟩ := Z
  have r0 : w5.cell? ⟨p + 1, 0, none⟩ = some (.string (BA l9)) := HR5.out.cell 0
  have r1 : w5.cell? ⟨p + 1, 1, none⟩ = some (.bool c9) := HR5.out.cell 1
  have r2 : w5.cell? ⟨p + 1, 2, none⟩ = some (.bool g9) := HR5.out.cell 2
  have o0 : w5.cell? ⟨q, 0, none⟩ = some (.int .i64 1) := HO5.out.cell 0
  have z0 : w5.cell? ⟨p, 0, none⟩ = some (.int .i64 0) := HZ5.out.cell 0
  have fz0 := HZ5.out.frozen 0
  have z1 : w5.cell? ⟨p, 1, none⟩ = some (.int .u64 0) := HZ5.out.cell 1
  have fz1 := HZ5.out.frozen 1
  have z2 : w5.cell? ⟨p, 2, none⟩ = some (.int .u64 0) := HZ5.out.cell 2
  have fz2 := HZ5.out.frozen 2
  have z3 : w5.cell? ⟨p, 3, none⟩ = some (.int .i64 0) := HZ5.out.cell 3
  have fz3 := HZ5.out.frozen 3
  cases c9
  · cases l9 with
    | nil =>
      cases g9
      · skip
        have HX := Lib.hid (show (({ k := 1, key := v_key, val := (0 : Nat), f := ((0 : Nat) : Nat) } : Ov), (0 : Int)) = prs l by rw [← HF2.out]; exact (Rd.fin_out (k := 1) (p := ((0 : Nat), (0 : Nat), v_key, ⟨[], false, false⟩)) (by decide) rfl rfl).symm)
        clear HF2
        have he : (BA []).toList.isEmpty = true := by rw [BA_toList]; rfl
        have o1 : w5.cell? ⟨q, 1, none⟩ = some (.int .u64 (v_key : Nat)) := HO5.out.cell 1
        have o2 : w5.cell? ⟨q, 2, none⟩ = some (.int .u64 0) := HO5.out.cell 2
        have o3 : w5.cell? ⟨q, 3, none⟩ = some (.int .i64 0) := HO5.out.cell 3
        go_wp2
        obtain ⟨wz, hwz⟩ : ∃ wz, (((w5.setCell ⟨p, 0, none⟩ (.int .i64 1)).setCell ⟨p, 1, none⟩ (.int .u64 (v_key : Nat))).setCell ⟨p, 2, none⟩ (.int .u64 0)).setCell ⟨p, 3, none⟩ (.int .i64 0) = wz := ⟨_, rfl⟩
        have hx : Box wz p 24 #[.int .i64 1, .int .u64 (v_key : Nat), .int .u64 0, .int .i64 0] := by
          rw [← hwz]
          exact (((HZ5.out.put 0 _).put 1 _).put 2 _).put 3 _
        have hb : Below p w wz := by
          rw [← hwz]
          exact (((HB5.out.setCell (p := ⟨p, 0, none⟩) (Nat.le_refl _) _).setCell (p := ⟨p, 1, none⟩) (Nat.le_refl _) _).setCell (p := ⟨p, 2, none⟩) (Nat.le_refl _) _).setCell (p := ⟨p, 3, none⟩) (Nat.le_refl _) _
        rw [hwz]
        exact bodyPost_ret (v := .tuple #[.agg #[.int .i64 1, .int .u64 (v_key : Nat), .int .u64 0, .int .i64 0], .int .i64 0]) (results_ct Try.results10 rfl rfl (load_box hx Try.underlying24 rfl (infoop _ _ _ _))) rfl (PsPost.mk (o := ⟨1, v_key, (0 : Nat), ((0 : Nat) : Nat)⟩) HX.out (HP.out ▸ hb))

      · skip
        have HX := Lib.hid (show (({ k := 0, key := 0, val := 0, f := (0 : Nat) } : Ov), (4 : Int)) = prs l by rw [← HF2.out]; exact (Rd.fin_out (k := 1) (p := ((0 : Nat), (0 : Nat), v_key, ⟨[], false, true⟩)) (by decide) rfl rfl).symm)
        clear HF2
        have he : (BA []).toList.isEmpty = true := by rw [BA_toList]; rfl
        go_wp2
        obtain ⟨wz, hwz⟩ : ∃ wz, (((w5.setCell ⟨p, 0, none⟩ (.int .i64 0)).setCell ⟨p, 1, none⟩ (.int .u64 0)).setCell ⟨p, 2, none⟩ (.int .u64 0)).setCell ⟨p, 3, none⟩ (.int .i64 0) = wz := ⟨_, rfl⟩
        have hx : Box wz p 24 #[.int .i64 0, .int .u64 0, .int .u64 0, .int .i64 0] := by
          rw [← hwz]
          exact (((HZ5.out.put 0 _).put 1 _).put 2 _).put 3 _
        have hb : Below p w wz := by
          rw [← hwz]
          exact (((HB5.out.setCell (p := ⟨p, 0, none⟩) (Nat.le_refl _) _).setCell (p := ⟨p, 1, none⟩) (Nat.le_refl _) _).setCell (p := ⟨p, 2, none⟩) (Nat.le_refl _) _).setCell (p := ⟨p, 3, none⟩) (Nat.le_refl _) _
        rw [hwz]
        exact bodyPost_ret (v := .tuple #[.agg #[.int .i64 0, .int .u64 0, .int .u64 0, .int .i64 0], .int .i64 4]) (results_ct Try.results10 rfl rfl (load_box hx Try.underlying24 rfl (infoop _ _ _ _))) rfl (PsPost.mk (o := ⟨0, 0, 0, (0 : Nat)⟩) HX.out (HP.out ▸ hb))

    | cons b9 q9 =>
      skip
      have HX := Lib.hid (show (({ k := 0, key := 0, val := 0, f := (0 : Nat) } : Ov), (3 : Int)) = prs l by rw [← HF2.out]; exact (Rd.fin_form (.inr (.inr (by simp)))).symm)
      clear HF2
      have he : (BA (b9 :: q9)).toList.isEmpty = false := by rw [BA_toList]; rfl
      go_wp2
      obtain ⟨wz, hwz⟩ : ∃ wz, (((w5.setCell ⟨p, 0, none⟩ (.int .i64 0)).setCell ⟨p, 1, none⟩ (.int .u64 0)).setCell ⟨p, 2, none⟩ (.int .u64 0)).setCell ⟨p, 3, none⟩ (.int .i64 0) = wz := ⟨_, rfl⟩
      have hx : Box wz p 24 #[.int .i64 0, .int .u64 0, .int .u64 0, .int .i64 0] := by
        rw [← hwz]
        exact (((HZ5.out.put 0 _).put 1 _).put 2 _).put 3 _
      have hb : Below p w wz := by
        rw [← hwz]
        exact (((HB5.out.setCell (p := ⟨p, 0, none⟩) (Nat.le_refl _) _).setCell (p := ⟨p, 1, none⟩) (Nat.le_refl _) _).setCell (p := ⟨p, 2, none⟩) (Nat.le_refl _) _).setCell (p := ⟨p, 3, none⟩) (Nat.le_refl _) _
      rw [hwz]
      exact bodyPost_ret (v := .tuple #[.agg #[.int .i64 0, .int .u64 0, .int .u64 0, .int .i64 0], .int .i64 3]) (results_ct Try.results10 rfl rfl (load_box hx Try.underlying24 rfl (infoop _ _ _ _))) rfl (PsPost.mk (o := ⟨0, 0, 0, (0 : Nat)⟩) HX.out (HP.out ▸ hb))

  · skip
    have HX := Lib.hid (show (({ k := 0, key := 0, val := 0, f := (0 : Nat) } : Ov), (3 : Int)) = prs l by rw [← HF2.out]; exact (Rd.fin_form (.inr (.inl rfl))).symm)
    clear HF2
    go_wp2
    obtain ⟨wz, hwz⟩ : ∃ wz, (((w5.setCell ⟨p, 0, none⟩ (.int .i64 0)).setCell ⟨p, 1, none⟩ (.int .u64 0)).setCell ⟨p, 2, none⟩ (.int .u64 0)).setCell ⟨p, 3, none⟩ (.int .i64 0) = wz := ⟨_, rfl⟩
    have hx : Box wz p 24 #[.int .i64 0, .int .u64 0, .int .u64 0, .int .i64 0] := by
      rw [← hwz]
      exact (((HZ5.out.put 0 _).put 1 _).put 2 _).put 3 _
    have hb : Below p w wz := by
      rw [← hwz]
      exact (((HB5.out.setCell (p := ⟨p, 0, none⟩) (Nat.le_refl _) _).setCell (p := ⟨p, 1, none⟩) (Nat.le_refl _) _).setCell (p := ⟨p, 2, none⟩) (Nat.le_refl _) _).setCell (p := ⟨p, 3, none⟩) (Nat.le_refl _) _
    rw [hwz]
    exact bodyPost_ret (v := .tuple #[.agg #[.int .i64 0, .int .u64 0, .int .u64 0, .int .i64 0], .int .i64 3]) (results_ct Try.results10 rfl rfl (load_box hx Try.underlying24 rfl (infoop _ _ _ _))) rfl (PsPost.mk (o := ⟨0, 0, 0, (0 : Nat)⟩) HX.out (HP.out ▸ hb))

set_option maxHeartbeats 2000000 in
theorem parse_k2 (l : List UInt8) (w : World) (hl : l.length ≤ 9223372036854775807) (hk : Rd.kd ⟨l, false, false⟩ = 2) :
    Calls Try.prog 10 #[.string (BA l)] w (PsPost w l) := by
  have HF := Lib.hid (ways_prs l)
  rw [hk] at HF
  have hl2 := Nat.le_trans (tail_len l) hl
  obtain ⟨p, hp⟩ : ∃ p, w.heap.size = p := ⟨_, rfl⟩
  obtain ⟨wa, hwa⟩ : ∃ wa, ((w.alloc (.cells #[.int .i64 0, .int .u64 0, .int .u64 0, .int .i64 0] 24)).alloc (.cells #[.string (BA l), .bool false, .bool false] 48)) = wa := ⟨_, rfl⟩
  have hz : Box wa p 24 #[.int .i64 0, .int .u64 0, .int .u64 0, .int .i64 0] := by rw [← hwa, ← hp]; exact (Box.new w _ _).alloc _
  have hr : Box wa (p + 1) 48 (Rd.cs ⟨l, false, false⟩) := by
    have h := Box.new (w.alloc (.cells #[.int .i64 0, .int .u64 0, .int .u64 0, .int .i64 0] 24)) 48 #[.string (BA l), .bool false, .bool false]
    rw [hwa, World.size_alloc, hp] at h
    exact h
  have HB := Lib.hid (show Below p w wa by rw [← hwa, ← hp]; exact ((Below.refl _ _).alloc (Nat.le_refl _) _).alloc (by simp) _)
  have K := Lib.hid (rd_kind (p + 1) ⟨l, false, false⟩ wa hr)
  rw [hk] at K
  have HZ := Lib.hid hz
  have HW := Lib.hid hwa
  have HP := Lib.hid hp
  generalize (Rd.one ⟨l, false, false⟩).2 = R at *
  clear hz hr hwa hp hk hl
  go_enter Try.func10, Try.ntmps10
  go_wp2_with fail
  rw [HW.out, HP.out]
  refine K.out.mono ?_
  rintro e w2 ⟨rfl, hb, ho⟩
  have HR := Lib.hid hb
  have hn : p ≠ p + 1 := by omega
  have HZ2 := Lib.hid (HZ.out.only ho (just_ne hn))
  have HB2 := Lib.hid (below_only HB.out ho (by have := HZ.out.lt; omega) (fun i hi e => by have e : i = p + 1 := e; omega))
  clear hb ho K HZ HB hn HW
  go_upto_region 3 with fail
  obtain ⟨q, hq⟩ : ∃ q, w2.heap.size = q := ⟨_, rfl⟩
  obtain ⟨w3, hw3⟩ : ∃ w3, w2.alloc (.cells #[.int .i64 2, .int .u64 0, .int .u64 0, .int .i64 0] 24) = w3 := ⟨_, rfl⟩
  simp only [hw3, hq]
  have HO3 := Lib.hid (show Box w3 q 24 #[.int .i64 2, .int .u64 0, .int .u64 0, .int .i64 0] by rw [← hw3, ← hq]; exact Box.new _ _ _)
  have HZ3 := Lib.hid (show Box w3 p 24 #[.int .i64 0, .int .u64 0, .int .u64 0, .int .i64 0] by rw [← hw3]; exact HZ2.out.alloc _)
  have HR3 := Lib.hid (show Box w3 (p + 1) 48 R.cs by rw [← hw3]; exact HR.out.alloc _)
  have HB3 := Lib.hid (show Below p w w3 by rw [← hw3]; exact HB2.out.alloc (by have := HZ2.out.lt; omega) _)
  have HN := Lib.hid (show p < q ∧ p + 1 < q by have h1 := HR.out.lt; omega)
  clear hq hw3 HZ2 HR HB2
  have o0 : w3.cell? ⟨q, 0, none⟩ = some (.int .i64 2) := HO3.out.cell 0
  go_wp2_with fail
  refine (rd_word (p + 1) R w3 HR3.out hl2).mono ?_
  rintro e w4 ⟨rfl, hb, ho⟩
  clear o0
  have HR4 := Lib.hid hb
  have HO4 := Lib.hid (HO3.out.only ho (just_ne (by have := HN.out; omega)))
  have HZ4 := Lib.hid (HZ3.out.only ho (just_ne (by omega)))
  have HB4 := Lib.hid (below_only HB3.out ho (by have := HN.out; have := HO3.out.lt; omega) (fun i hi e => by have e : i = p + 1 := e; omega))
  clear hb ho HO3 HZ3 HB3 HR3
  have c9 : w4.cell? ⟨q, 1, none⟩ = some (.int .u64 0) := HO4.out.cell 1
  have f9 := HO4.out.frozen 1
  go_upto_region 11 with fail
  obtain ⟨w5, hw9⟩ : ∃ w9, w4.setCell ⟨q, 1, none⟩ (.int .u64 (R.word.1 : Nat)) = w9 := ⟨_, rfl⟩
  simp only [hw9]
  have HO5 := Lib.hid (show Box w5 q 24 #[.int .i64 2, .int .u64 (R.word.1 : Nat), .int .u64 0, .int .i64 0] by rw [← hw9]; exact HO4.out.put 1 _)
  have HZ5 := Lib.hid (show Box w5 p 24 #[.int .i64 0, .int .u64 0, .int .u64 0, .int .i64 0] by rw [← hw9]; exact HZ4.out.far (a := ⟨q, 1, none⟩) (by show p ≠ q; have := HN.out; omega) _)
  have HR5 := Lib.hid (show Box w5 (p + 1) 48 (R.word.2).cs by rw [← hw9]; exact HR4.out.far (a := ⟨q, 1, none⟩) (by show p + 1 ≠ q; have := HN.out; omega) _)
  have HB5 := Lib.hid (show Below p w w5 by rw [← hw9]; exact HB4.out.setCell (p := ⟨q, 1, none⟩) (by show p ≤ q; have := HN.out; omega) _)
  clear c9 f9 hw9 HO4 HZ4 HR4 HB4
  have HF2 := Lib.hid (show Rd.fin 2 ((0 : Nat), (0 : Nat), R.word.1, R.word.2) = prs l by rw [← HF.out]; unfold Rd.ways; rw [if_neg (by decide), if_pos (by decide)])
  clear HF
  generalize R.word.1 = v_key at *
  generalize R.word.2 = Z at *
  obtain ⟨l9, c9, g9⟩ := Z
  have r0 : w5.cell? ⟨p + 1, 0, none⟩ = some (.string (BA l9)) := HR5.out.cell 0
  have r1 : w5.cell? ⟨p + 1, 1, none⟩ = some (.bool c9) := HR5.out.cell 1
  have r2 : w5.cell? ⟨p + 1, 2, none⟩ = some (.bool g9) := HR5.out.cell 2
  have o0 : w5.cell? ⟨q, 0, none⟩ = some (.int .i64 2) := HO5.out.cell 0
  have z0 : w5.cell? ⟨p, 0, none⟩ = some (.int .i64 0) := HZ5.out.cell 0
  have fz0 := HZ5.out.frozen 0
  have z1 : w5.cell? ⟨p, 1, none⟩ = some (.int .u64 0) := HZ5.out.cell 1
  have fz1 := HZ5.out.frozen 1
  have z2 : w5.cell? ⟨p, 2, none⟩ = some (.int .u64 0) := HZ5.out.cell 2
  have fz2 := HZ5.out.frozen 2
  have z3 : w5.cell? ⟨p, 3, none⟩ = some (.int .i64 0) := HZ5.out.cell 3
  have fz3 := HZ5.out.frozen 3
  cases c9
  · cases l9 with
    | nil =>
      cases g9
      · skip
        have HX := Lib.hid (show (({ k := 2, key := v_key, val := (0 : Nat), f := ((0 : Nat) : Nat) } : Ov), (0 : Int)) = prs l by rw [← HF2.out]; exact (Rd.fin_out (k := 2) (p := ((0 : Nat), (0 : Nat), v_key, ⟨[], false, false⟩)) (by decide) rfl rfl).symm)
        clear HF2
        have he : (BA []).toList.isEmpty = true := by rw [BA_toList]; rfl
        have o1 : w5.cell? ⟨q, 1, none⟩ = some (.int .u64 (v_key : Nat)) := HO5.out.cell 1
        have o2 : w5.cell? ⟨q, 2, none⟩ = some (.int .u64 0) := HO5.out.cell 2
        have o3 : w5.cell? ⟨q, 3, none⟩ = some (.int .i64 0) := HO5.out.cell 3
        go_wp2
        obtain ⟨wz, hwz⟩ : ∃ wz, (((w5.setCell ⟨p, 0, none⟩ (.int .i64 2)).setCell ⟨p, 1, none⟩ (.int .u64 (v_key : Nat))).setCell ⟨p, 2, none⟩ (.int .u64 0)).setCell ⟨p, 3, none⟩ (.int .i64 0) = wz := ⟨_, rfl⟩
        have hx : Box wz p 24 #[.int .i64 2, .int .u64 (v_key : Nat), .int .u64 0, .int .i64 0] := by
          rw [← hwz]
          exact (((HZ5.out.put 0 _).put 1 _).put 2 _).put 3 _
        have hb : Below p w wz := by
          rw [← hwz]
          exact (((HB5.out.setCell (p := ⟨p, 0, none⟩) (Nat.le_refl _) _).setCell (p := ⟨p, 1, none⟩) (Nat.le_refl _) _).setCell (p := ⟨p, 2, none⟩) (Nat.le_refl _) _).setCell (p := ⟨p, 3, none⟩) (Nat.le_refl _) _
        rw [hwz]
        exact bodyPost_ret (v := .tuple #[.agg #[.int .i64 2, .int .u64 (v_key : Nat), .int .u64 0, .int .i64 0], .int .i64 0]) (results_ct Try.results10 rfl rfl (load_box hx Try.underlying24 rfl (infoop _ _ _ _))) rfl (PsPost.mk (o := ⟨2, v_key, (0 : Nat), ((0 : Nat) : Nat)⟩) HX.out (HP.out ▸ hb))

      · skip
        have HX := Lib.hid (show (({ k := 0, key := 0, val := 0, f := (0 : Nat) } : Ov), (4 : Int)) = prs l by rw [← HF2.out]; exact (Rd.fin_out (k := 2) (p := ((0 : Nat), (0 : Nat), v_key, ⟨[], false, true⟩)) (by decide) rfl rfl).symm)
        clear HF2
        have he : (BA []).toList.isEmpty = true := by rw [BA_toList]; rfl
        go_wp2
        obtain ⟨wz, hwz⟩ : ∃ wz, (((w5.setCell ⟨p, 0, none⟩ (.int .i64 0)).setCell ⟨p, 1, none⟩ (.int .u64 0)).setCell ⟨p, 2, none⟩ (.int .u64 0)).setCell ⟨p, 3, none⟩ (.int .i64 0) = wz := ⟨_, rfl⟩
        have hx : Box wz p 24 #[.int .i64 0, .int .u64 0, .int .u64 0, .int .i64 0] := by
          rw [← hwz]
          exact (((HZ5.out.put 0 _).put 1 _).put 2 _).put 3 _
        have hb : Below p w wz := by
          rw [← hwz]
          exact (((HB5.out.setCell (p := ⟨p, 0, none⟩) (Nat.le_refl _) _).setCell (p := ⟨p, 1, none⟩) (Nat.le_refl _) _).setCell (p := ⟨p, 2, none⟩) (Nat.le_refl _) _).setCell (p := ⟨p, 3, none⟩) (Nat.le_refl _) _
        rw [hwz]
        exact bodyPost_ret (v := .tuple #[.agg #[.int .i64 0, .int .u64 0, .int .u64 0, .int .i64 0], .int .i64 4]) (results_ct Try.results10 rfl rfl (load_box hx Try.underlying24 rfl (infoop _ _ _ _))) rfl (PsPost.mk (o := ⟨0, 0, 0, (0 : Nat)⟩) HX.out (HP.out ▸ hb))

    | cons b9 q9 =>
      skip
      have HX := Lib.hid (show (({ k := 0, key := 0, val := 0, f := (0 : Nat) } : Ov), (3 : Int)) = prs l by rw [← HF2.out]; exact (Rd.fin_form (.inr (.inr (by simp)))).symm)
      clear HF2
      have he : (BA (b9 :: q9)).toList.isEmpty = false := by rw [BA_toList]; rfl
      go_wp2
      obtain ⟨wz, hwz⟩ : ∃ wz, (((w5.setCell ⟨p, 0, none⟩ (.int .i64 0)).setCell ⟨p, 1, none⟩ (.int .u64 0)).setCell ⟨p, 2, none⟩ (.int .u64 0)).setCell ⟨p, 3, none⟩ (.int .i64 0) = wz := ⟨_, rfl⟩
      have hx : Box wz p 24 #[.int .i64 0, .int .u64 0, .int .u64 0, .int .i64 0] := by
        rw [← hwz]
        exact (((HZ5.out.put 0 _).put 1 _).put 2 _).put 3 _
      have hb : Below p w wz := by
        rw [← hwz]
        exact (((HB5.out.setCell (p := ⟨p, 0, none⟩) (Nat.le_refl _) _).setCell (p := ⟨p, 1, none⟩) (Nat.le_refl _) _).setCell (p := ⟨p, 2, none⟩) (Nat.le_refl _) _).setCell (p := ⟨p, 3, none⟩) (Nat.le_refl _) _
      rw [hwz]
      exact bodyPost_ret (v := .tuple #[.agg #[.int .i64 0, .int .u64 0, .int .u64 0, .int .i64 0], .int .i64 3]) (results_ct Try.results10 rfl rfl (load_box hx Try.underlying24 rfl (infoop _ _ _ _))) rfl (PsPost.mk (o := ⟨0, 0, 0, (0 : Nat)⟩) HX.out (HP.out ▸ hb))

  · skip
    have HX := Lib.hid (show (({ k := 0, key := 0, val := 0, f := (0 : Nat) } : Ov), (3 : Int)) = prs l by rw [← HF2.out]; exact (Rd.fin_form (.inr (.inl rfl))).symm)
    clear HF2
    go_wp2
    obtain ⟨wz, hwz⟩ : ∃ wz, (((w5.setCell ⟨p, 0, none⟩ (.int .i64 0)).setCell ⟨p, 1, none⟩ (.int .u64 0)).setCell ⟨p, 2, none⟩ (.int .u64 0)).setCell ⟨p, 3, none⟩ (.int .i64 0) = wz := ⟨_, rfl⟩
    have hx : Box wz p 24 #[.int .i64 0, .int .u64 0, .int .u64 0, .int .i64 0] := by
      rw [← hwz]
      exact (((HZ5.out.put 0 _).put 1 _).put 2 _).put 3 _
    have hb : Below p w wz := by
      rw [← hwz]
      exact (((HB5.out.setCell (p := ⟨p, 0, none⟩) (Nat.le_refl _) _).setCell (p := ⟨p, 1, none⟩) (Nat.le_refl _) _).setCell (p := ⟨p, 2, none⟩) (Nat.le_refl _) _).setCell (p := ⟨p, 3, none⟩) (Nat.le_refl _) _
    rw [hwz]
    exact bodyPost_ret (v := .tuple #[.agg #[.int .i64 0, .int .u64 0, .int .u64 0, .int .i64 0], .int .i64 3]) (results_ct Try.results10 rfl rfl (load_box hx Try.underlying24 rfl (infoop _ _ _ _))) rfl (PsPost.mk (o := ⟨0, 0, 0, (0 : Nat)⟩) HX.out (HP.out ▸ hb))

set_option maxHeartbeats 2000000 in
theorem parse_k4 (l : List UInt8) (w : World) (hl : l.length ≤ 9223372036854775807) (hk : Rd.kd ⟨l, false, false⟩ = 4) :
    Calls Try.prog 10 #[.string (BA l)] w (PsPost w l) := by
  have HF := Lib.hid (ways_prs l)
  rw [hk] at HF
  have hl2 := Nat.le_trans (tail_len l) hl
  obtain ⟨p, hp⟩ : ∃ p, w.heap.size = p := ⟨_, rfl⟩
  obtain ⟨wa, hwa⟩ : ∃ wa, ((w.alloc (.cells #[.int .i64 0, .int .u64 0, .int .u64 0, .int .i64 0] 24)).alloc (.cells #[.string (BA l), .bool false, .bool false] 48)) = wa := ⟨_, rfl⟩
  have hz : Box wa p 24 #[.int .i64 0, .int .u64 0, .int .u64 0, .int .i64 0] := by rw [← hwa, ← hp]; exact (Box.new w _ _).alloc _
  have hr : Box wa (p + 1) 48 (Rd.cs ⟨l, false, false⟩) := by
    have h := Box.new (w.alloc (.cells #[.int .i64 0, .int .u64 0, .int .u64 0, .int .i64 0] 24)) 48 #[.string (BA l), .bool false, .bool false]
    rw [hwa, World.size_alloc, hp] at h
    exact h
  have HB := Lib.hid (show Below p w wa by rw [← hwa, ← hp]; exact ((Below.refl _ _).alloc (Nat.le_refl _) _).alloc (by simp) _)
  have K := Lib.hid (rd_kind (p + 1) ⟨l, false, false⟩ wa hr)
  rw [hk] at K
  have HZ := Lib.hid hz
  have HW := Lib.hid hwa
  have HP := Lib.hid hp
  generalize (Rd.one ⟨l, false, false⟩).2 = R at *
  clear hz hr hwa hp hk hl
  go_enter Try.func10, Try.ntmps10
  go_wp2_with fail
  rw [HW.out, HP.out]
  refine K.out.mono ?_
  rintro e w2 ⟨rfl, hb, ho⟩
  have HR := Lib.hid hb
  have hn : p ≠ p + 1 := by omega
  have HZ2 := Lib.hid (HZ.out.only ho (just_ne hn))
  have HB2 := Lib.hid (below_only HB.out ho (by have := HZ.out.lt; omega) (fun i hi e => by have e : i = p + 1 := e; omega))
  clear hb ho K HZ HB hn HW
  go_upto_region 3 with fail
  obtain ⟨q, hq⟩ : ∃ q, w2.heap.size = q := ⟨_, rfl⟩
  obtain ⟨w3, hw3⟩ : ∃ w3, w2.alloc (.cells #[.int .i64 4, .int .u64 0, .int .u64 0, .int .i64 0] 24) = w3 := ⟨_, rfl⟩
  simp only [hw3, hq]
  have HO3 := Lib.hid (show Box w3 q 24 #[.int .i64 4, .int .u64 0, .int .u64 0, .int .i64 0] by rw [← hw3, ← hq]; exact Box.new _ _ _)
  have HZ3 := Lib.hid (show Box w3 p 24 #[.int .i64 0, .int .u64 0, .int .u64 0, .int .i64 0] by rw [← hw3]; exact HZ2.out.alloc _)
  have HR3 := Lib.hid (show Box w3 (p + 1) 48 R.cs by rw [← hw3]; exact HR.out.alloc _)
  have HB3 := Lib.hid (show Below p w w3 by rw [← hw3]; exact HB2.out.alloc (by have := HZ2.out.lt; omega) _)
  have HN := Lib.hid (show p < q ∧ p + 1 < q by have h1 := HR.out.lt; omega)
  clear hq hw3 HZ2 HR HB2
  have o0 : w3.cell? ⟨q, 0, none⟩ = some (.int .i64 4) := HO3.out.cell 0
  go_wp2_with fail
  refine (rd_word (p + 1) R w3 HR3.out hl2).mono ?_
  rintro e w4 ⟨rfl, hb, ho⟩
  clear o0
  have HR4 := Lib.hid hb
  have HO4 := Lib.hid (HO3.out.only ho (just_ne (by have := HN.out; omega)))
  have HZ4 := Lib.hid (HZ3.out.only ho (just_ne (by omega)))
  have HB4 := Lib.hid (below_only HB3.out ho (by have := HN.out; have := HO3.out.lt; omega) (fun i hi e => by have e : i = p + 1 := e; omega))
  clear hb ho HO3 HZ3 HB3 HR3
  have c9 : w4.cell? ⟨q, 1, none⟩ = some (.int .u64 0) := HO4.out.cell 1
  have f9 := HO4.out.frozen 1
  go_upto_region 11 with fail
  obtain ⟨w5, hw9⟩ : ∃ w9, w4.setCell ⟨q, 1, none⟩ (.int .u64 (R.word.1 : Nat)) = w9 := ⟨_, rfl⟩
  simp only [hw9]
  have HO5 := Lib.hid (show Box w5 q 24 #[.int .i64 4, .int .u64 (R.word.1 : Nat), .int .u64 0, .int .i64 0] by rw [← hw9]; exact HO4.out.put 1 _)
  have HZ5 := Lib.hid (show Box w5 p 24 #[.int .i64 0, .int .u64 0, .int .u64 0, .int .i64 0] by rw [← hw9]; exact HZ4.out.far (a := ⟨q, 1, none⟩) (by show p ≠ q; have := HN.out; omega) _)
  have HR5 := Lib.hid (show Box w5 (p + 1) 48 (R.word.2).cs by rw [← hw9]; exact HR4.out.far (a := ⟨q, 1, none⟩) (by show p + 1 ≠ q; have := HN.out; omega) _)
  have HB5 := Lib.hid (show Below p w w5 by rw [← hw9]; exact HB4.out.setCell (p := ⟨q, 1, none⟩) (by show p ≤ q; have := HN.out; omega) _)
  clear c9 f9 hw9 HO4 HZ4 HR4 HB4
  have HF2 := Lib.hid (show Rd.fin 4 ((0 : Nat), (0 : Nat), R.word.1, R.word.2) = prs l by rw [← HF.out]; unfold Rd.ways; rw [if_neg (by decide), if_pos (by decide)])
  clear HF
  generalize R.word.1 = v_key at *
  generalize R.word.2 = Z at *
  obtain ⟨l9, c9, g9⟩ := Z
  have r0 : w5.cell? ⟨p + 1, 0, none⟩ = some (.string (BA l9)) := HR5.out.cell 0
  have r1 : w5.cell? ⟨p + 1, 1, none⟩ = some (.bool c9) := HR5.out.cell 1
  have r2 : w5.cell? ⟨p + 1, 2, none⟩ = some (.bool g9) := HR5.out.cell 2
  have o0 : w5.cell? ⟨q, 0, none⟩ = some (.int .i64 4) := HO5.out.cell 0
  have z0 : w5.cell? ⟨p, 0, none⟩ = some (.int .i64 0) := HZ5.out.cell 0
  have fz0 := HZ5.out.frozen 0
  have z1 : w5.cell? ⟨p, 1, none⟩ = some (.int .u64 0) := HZ5.out.cell 1
  have fz1 := HZ5.out.frozen 1
  have z2 : w5.cell? ⟨p, 2, none⟩ = some (.int .u64 0) := HZ5.out.cell 2
  have fz2 := HZ5.out.frozen 2
  have z3 : w5.cell? ⟨p, 3, none⟩ = some (.int .i64 0) := HZ5.out.cell 3
  have fz3 := HZ5.out.frozen 3
  cases c9
  · cases l9 with
    | nil =>
      cases g9
      · skip
        have HX := Lib.hid (show (({ k := 4, key := v_key, val := (0 : Nat), f := ((0 : Nat) : Nat) } : Ov), (0 : Int)) = prs l by rw [← HF2.out]; exact (Rd.fin_out (k := 4) (p := ((0 : Nat), (0 : Nat), v_key, ⟨[], false, false⟩)) (by decide) rfl rfl).symm)
        clear HF2
        have he : (BA []).toList.isEmpty = true := by rw [BA_toList]; rfl
        have o1 : w5.cell? ⟨q, 1, none⟩ = some (.int .u64 (v_key : Nat)) := HO5.out.cell 1
        have o2 : w5.cell? ⟨q, 2, none⟩ = some (.int .u64 0) := HO5.out.cell 2
        have o3 : w5.cell? ⟨q, 3, none⟩ = some (.int .i64 0) := HO5.out.cell 3
        go_wp2
        obtain ⟨wz, hwz⟩ : ∃ wz, (((w5.setCell ⟨p, 0, none⟩ (.int .i64 4)).setCell ⟨p, 1, none⟩ (.int .u64 (v_key : Nat))).setCell ⟨p, 2, none⟩ (.int .u64 0)).setCell ⟨p, 3, none⟩ (.int .i64 0) = wz := ⟨_, rfl⟩
        have hx : Box wz p 24 #[.int .i64 4, .int .u64 (v_key : Nat), .int .u64 0, .int .i64 0] := by
          rw [← hwz]
          exact (((HZ5.out.put 0 _).put 1 _).put 2 _).put 3 _
        have hb : Below p w wz := by
          rw [← hwz]
          exact (((HB5.out.setCell (p := ⟨p, 0, none⟩) (Nat.le_refl _) _).setCell (p := ⟨p, 1, none⟩) (Nat.le_refl _) _).setCell (p := ⟨p, 2, none⟩) (Nat.le_refl _) _).setCell (p := ⟨p, 3, none⟩) (Nat.le_refl _) _
        rw [hwz]
        exact bodyPost_ret (v := .tuple #[.agg #[.int .i64 4, .int .u64 (v_key : Nat), .int .u64 0, .int .i64 0], .int .i64 0]) (results_ct Try.results10 rfl rfl (load_box hx Try.underlying24 rfl (infoop _ _ _ _))) rfl (PsPost.mk (o := ⟨4, v_key, (0 : Nat), ((0 : Nat) : Nat)⟩) HX.out (HP.out ▸ hb))

      · skip
        have HX := Lib.hid (show (({ k := 0, key := 0, val := 0, f := (0 : Nat) } : Ov), (4 : Int)) = prs l by rw [← HF2.out]; exact (Rd.fin_out (k := 4) (p := ((0 : Nat), (0 : Nat), v_key, ⟨[], false, true⟩)) (by decide) rfl rfl).symm)
        clear HF2
        have he : (BA []).toList.isEmpty = true := by rw [BA_toList]; rfl
        go_wp2
        obtain ⟨wz, hwz⟩ : ∃ wz, (((w5.setCell ⟨p, 0, none⟩ (.int .i64 0)).setCell ⟨p, 1, none⟩ (.int .u64 0)).setCell ⟨p, 2, none⟩ (.int .u64 0)).setCell ⟨p, 3, none⟩ (.int .i64 0) = wz := ⟨_, rfl⟩
        have hx : Box wz p 24 #[.int .i64 0, .int .u64 0, .int .u64 0, .int .i64 0] := by
          rw [← hwz]
          exact (((HZ5.out.put 0 _).put 1 _).put 2 _).put 3 _
        have hb : Below p w wz := by
          rw [← hwz]
          exact (((HB5.out.setCell (p := ⟨p, 0, none⟩) (Nat.le_refl _) _).setCell (p := ⟨p, 1, none⟩) (Nat.le_refl _) _).setCell (p := ⟨p, 2, none⟩) (Nat.le_refl _) _).setCell (p := ⟨p, 3, none⟩) (Nat.le_refl _) _
        rw [hwz]
        exact bodyPost_ret (v := .tuple #[.agg #[.int .i64 0, .int .u64 0, .int .u64 0, .int .i64 0], .int .i64 4]) (results_ct Try.results10 rfl rfl (load_box hx Try.underlying24 rfl (infoop _ _ _ _))) rfl (PsPost.mk (o := ⟨0, 0, 0, (0 : Nat)⟩) HX.out (HP.out ▸ hb))

    | cons b9 q9 =>
      skip
      have HX := Lib.hid (show (({ k := 0, key := 0, val := 0, f := (0 : Nat) } : Ov), (3 : Int)) = prs l by rw [← HF2.out]; exact (Rd.fin_form (.inr (.inr (by simp)))).symm)
      clear HF2
      have he : (BA (b9 :: q9)).toList.isEmpty = false := by rw [BA_toList]; rfl
      go_wp2
      obtain ⟨wz, hwz⟩ : ∃ wz, (((w5.setCell ⟨p, 0, none⟩ (.int .i64 0)).setCell ⟨p, 1, none⟩ (.int .u64 0)).setCell ⟨p, 2, none⟩ (.int .u64 0)).setCell ⟨p, 3, none⟩ (.int .i64 0) = wz := ⟨_, rfl⟩
      have hx : Box wz p 24 #[.int .i64 0, .int .u64 0, .int .u64 0, .int .i64 0] := by
        rw [← hwz]
        exact (((HZ5.out.put 0 _).put 1 _).put 2 _).put 3 _
      have hb : Below p w wz := by
        rw [← hwz]
        exact (((HB5.out.setCell (p := ⟨p, 0, none⟩) (Nat.le_refl _) _).setCell (p := ⟨p, 1, none⟩) (Nat.le_refl _) _).setCell (p := ⟨p, 2, none⟩) (Nat.le_refl _) _).setCell (p := ⟨p, 3, none⟩) (Nat.le_refl _) _
      rw [hwz]
      exact bodyPost_ret (v := .tuple #[.agg #[.int .i64 0, .int .u64 0, .int .u64 0, .int .i64 0], .int .i64 3]) (results_ct Try.results10 rfl rfl (load_box hx Try.underlying24 rfl (infoop _ _ _ _))) rfl (PsPost.mk (o := ⟨0, 0, 0, (0 : Nat)⟩) HX.out (HP.out ▸ hb))

  · skip
    have HX := Lib.hid (show (({ k := 0, key := 0, val := 0, f := (0 : Nat) } : Ov), (3 : Int)) = prs l by rw [← HF2.out]; exact (Rd.fin_form (.inr (.inl rfl))).symm)
    clear HF2
    go_wp2
    obtain ⟨wz, hwz⟩ : ∃ wz, (((w5.setCell ⟨p, 0, none⟩ (.int .i64 0)).setCell ⟨p, 1, none⟩ (.int .u64 0)).setCell ⟨p, 2, none⟩ (.int .u64 0)).setCell ⟨p, 3, none⟩ (.int .i64 0) = wz := ⟨_, rfl⟩
    have hx : Box wz p 24 #[.int .i64 0, .int .u64 0, .int .u64 0, .int .i64 0] := by
      rw [← hwz]
      exact (((HZ5.out.put 0 _).put 1 _).put 2 _).put 3 _
    have hb : Below p w wz := by
      rw [← hwz]
      exact (((HB5.out.setCell (p := ⟨p, 0, none⟩) (Nat.le_refl _) _).setCell (p := ⟨p, 1, none⟩) (Nat.le_refl _) _).setCell (p := ⟨p, 2, none⟩) (Nat.le_refl _) _).setCell (p := ⟨p, 3, none⟩) (Nat.le_refl _) _
    rw [hwz]
    exact bodyPost_ret (v := .tuple #[.agg #[.int .i64 0, .int .u64 0, .int .u64 0, .int .i64 0], .int .i64 3]) (results_ct Try.results10 rfl rfl (load_box hx Try.underlying24 rfl (infoop _ _ _ _))) rfl (PsPost.mk (o := ⟨0, 0, 0, (0 : Nat)⟩) HX.out (HP.out ▸ hb))

set_option maxHeartbeats 2000000 in
theorem parse_k3 (l : List UInt8) (w : World) (hl : l.length ≤ 9223372036854775807) (hk : Rd.kd ⟨l, false, false⟩ = 3) :
    Calls Try.prog 10 #[.string (BA l)] w (PsPost w l) := by
  have HF := Lib.hid (ways_prs l)
  rw [hk] at HF
  have hl2 := Nat.le_trans (tail_len l) hl
  obtain ⟨p, hp⟩ : ∃ p, w.heap.size = p := ⟨_, rfl⟩
  obtain ⟨wa, hwa⟩ : ∃ wa, ((w.alloc (.cells #[.int .i64 0, .int .u64 0, .int .u64 0, .int .i64 0] 24)).alloc (.cells #[.string (BA l), .bool false, .bool false] 48)) = wa := ⟨_, rfl⟩
  have hz : Box wa p 24 #[.int .i64 0, .int .u64 0, .int .u64 0, .int .i64 0] := by rw [← hwa, ← hp]; exact (Box.new w _ _).alloc _
  have hr : Box wa (p + 1) 48 (Rd.cs ⟨l, false, false⟩) := by
    have h := Box.new (w.alloc (.cells #[.int .i64 0, .int .u64 0, .int .u64 0, .int .i64 0] 24)) 48 #[.string (BA l), .bool false, .bool false]
    rw [hwa, World.size_alloc, hp] at h
    exact h
  have HB := Lib.hid (show Below p w wa by rw [← hwa, ← hp]; exact ((Below.refl _ _).alloc (Nat.le_refl _) _).alloc (by simp) _)
  have K := Lib.hid (rd_kind (p + 1) ⟨l, false, false⟩ wa hr)
  rw [hk] at K
  have HZ := Lib.hid hz
  have HW := Lib.hid hwa
  have HP := Lib.hid hp
  generalize (Rd.one ⟨l, false, false⟩).2 = R at *
  clear hz hr hwa hp hk hl
  go_enter Try.func10, Try.ntmps10
  go_wp2_with fail
  rw [HW.out, HP.out]
  refine K.out.mono ?_
  rintro e w2 ⟨rfl, hb, ho⟩
  have HR := Lib.hid hb
  have hn : p ≠ p + 1 := by omega
  have HZ2 := Lib.hid (HZ.out.only ho (just_ne hn))
  have HB2 := Lib.hid (below_only HB.out ho (by have := HZ.out.lt; omega) (fun i hi e => by have e : i = p + 1 := e; omega))
  clear hb ho K HZ HB hn HW
  go_upto_region 3 with fail
  obtain ⟨q, hq⟩ : ∃ q, w2.heap.size = q := ⟨_, rfl⟩
  obtain ⟨w3, hw3⟩ : ∃ w3, w2.alloc (.cells #[.int .i64 3, .int .u64 0, .int .u64 0, .int .i64 0] 24) = w3 := ⟨_, rfl⟩
  simp only [hw3, hq]
  have HO3 := Lib.hid (show Box w3 q 24 #[.int .i64 3, .int .u64 0, .int .u64 0, .int .i64 0] by rw [← hw3, ← hq]; exact Box.new _ _ _)
  have HZ3 := Lib.hid (show Box w3 p 24 #[.int .i64 0, .int .u64 0, .int .u64 0, .int .i64 0] by rw [← hw3]; exact HZ2.out.alloc _)
  have HR3 := Lib.hid (show Box w3 (p + 1) 48 R.cs by rw [← hw3]; exact HR.out.alloc _)
  have HB3 := Lib.hid (show Below p w w3 by rw [← hw3]; exact HB2.out.alloc (by have := HZ2.out.lt; omega) _)
  have HN := Lib.hid (show p < q ∧ p + 1 < q by have h1 := HR.out.lt; omega)
  clear hq hw3 HZ2 HR HB2
  have o0 : w3.cell? ⟨q, 0, none⟩ = some (.int .i64 3) := HO3.out.cell 0
  go_wp2_with fail
  refine (rd_num (p + 1) R w3 HR3.out).mono ?_
  rintro e w4 ⟨rfl, hb, ho⟩
  clear o0
  have HR4 := Lib.hid hb
  have HO4 := Lib.hid (HO3.out.only ho (just_ne (by have := HN.out; omega)))
  have HZ4 := Lib.hid (HZ3.out.only ho (just_ne (by omega)))
  have HB4 := Lib.hid (below_only HB3.out ho (by have := HN.out; have := HO3.out.lt; omega) (fun i hi e => by have e : i = p + 1 := e; omega))
  clear hb ho HO3 HZ3 HB3 HR3
  have c9 : w4.cell? ⟨q, 3, none⟩ = some (.int .i64 0) := HO4.out.cell 3
  have f9 := HO4.out.frozen 3
  go_upto_region 9 with fail
  obtain ⟨w5, hw9⟩ : ∃ w9, w4.setCell ⟨q, 3, none⟩ (.int .i64 (R.num.1 : Nat)) = w9 := ⟨_, rfl⟩
  simp only [hw9]
  have HO5 := Lib.hid (show Box w5 q 24 #[.int .i64 3, .int .u64 0, .int .u64 0, .int .i64 (R.num.1 : Nat)] by rw [← hw9]; exact HO4.out.put 3 _)
  have HZ5 := Lib.hid (show Box w5 p 24 #[.int .i64 0, .int .u64 0, .int .u64 0, .int .i64 0] by rw [← hw9]; exact HZ4.out.far (a := ⟨q, 3, none⟩) (by show p ≠ q; have := HN.out; omega) _)
  have HR5 := Lib.hid (show Box w5 (p + 1) 48 (R.num.2).cs by rw [← hw9]; exact HR4.out.far (a := ⟨q, 3, none⟩) (by show p + 1 ≠ q; have := HN.out; omega) _)
  have HB5 := Lib.hid (show Below p w w5 by rw [← hw9]; exact HB4.out.setCell (p := ⟨q, 3, none⟩) (by show p ≤ q; have := HN.out; omega) _)
  clear c9 f9 hw9 HO4 HZ4 HR4 HB4
  go_wp2_with fail
  refine (rd_word (p + 1) R.num.2 w5 HR5.out (Nat.le_trans R.num_len hl2)).mono ?_
  rintro e w6 ⟨rfl, hb, ho⟩
  skip
  have HR6 := Lib.hid hb
  have HO6 := Lib.hid (HO5.out.only ho (just_ne (by have := HN.out; omega)))
  have HZ6 := Lib.hid (HZ5.out.only ho (just_ne (by omega)))
  have HB6 := Lib.hid (below_only HB5.out ho (by have := HN.out; have := HO5.out.lt; omega) (fun i hi e => by have e : i = p + 1 := e; omega))
  clear hb ho HO5 HZ5 HB5 HR5
  have c9 : w6.cell? ⟨q, 2, none⟩ = some (.int .u64 0) := HO6.out.cell 2
  have f9 := HO6.out.frozen 2
  go_upto_region 10 with fail
  obtain ⟨w7, hw9⟩ : ∃ w9, w6.setCell ⟨q, 2, none⟩ (.int .u64 (R.num.2.word.1 : Nat)) = w9 := ⟨_, rfl⟩
  simp only [hw9]
  have HO7 := Lib.hid (show Box w7 q 24 #[.int .i64 3, .int .u64 0, .int .u64 (R.num.2.word.1 : Nat), .int .i64 (R.num.1 : Nat)] by rw [← hw9]; exact HO6.out.put 2 _)
  have HZ7 := Lib.hid (show Box w7 p 24 #[.int .i64 0, .int .u64 0, .int .u64 0, .int .i64 0] by rw [← hw9]; exact HZ6.out.far (a := ⟨q, 2, none⟩) (by show p ≠ q; have := HN.out; omega) _)
  have HR7 := Lib.hid (show Box w7 (p + 1) 48 (R.num.2.word.2).cs by rw [← hw9]; exact HR6.out.far (a := ⟨q, 2, none⟩) (by show p + 1 ≠ q; have := HN.out; omega) _)
  have HB7 := Lib.hid (show Below p w w7 by rw [← hw9]; exact HB6.out.setCell (p := ⟨q, 2, none⟩) (by show p ≤ q; have := HN.out; omega) _)
  clear c9 f9 hw9 HO6 HZ6 HR6 HB6
  go_wp2_with fail
  refine (rd_word (p + 1) R.num.2.word.2 w7 HR7.out (Nat.le_trans R.num.2.word_len (Nat.le_trans R.num_len hl2))).mono ?_
  rintro e w8 ⟨rfl, hb, ho⟩
  skip
  have HR8 := Lib.hid hb
  have HO8 := Lib.hid (HO7.out.only ho (just_ne (by have := HN.out; omega)))
  have HZ8 := Lib.hid (HZ7.out.only ho (just_ne (by omega)))
  have HB8 := Lib.hid (below_only HB7.out ho (by have := HN.out; have := HO7.out.lt; omega) (fun i hi e => by have e : i = p + 1 := e; omega))
  clear hb ho HO7 HZ7 HB7 HR7
  have c9 : w8.cell? ⟨q, 1, none⟩ = some (.int .u64 0) := HO8.out.cell 1
  have f9 := HO8.out.frozen 1
  go_upto_region 11 with fail
  obtain ⟨w9, hw9⟩ : ∃ w9, w8.setCell ⟨q, 1, none⟩ (.int .u64 (R.num.2.word.2.word.1 : Nat)) = w9 := ⟨_, rfl⟩
  simp only [hw9]
  have HO9 := Lib.hid (show Box w9 q 24 #[.int .i64 3, .int .u64 (R.num.2.word.2.word.1 : Nat), .int .u64 (R.num.2.word.1 : Nat), .int .i64 (R.num.1 : Nat)] by rw [← hw9]; exact HO8.out.put 1 _)
  have HZ9 := Lib.hid (show Box w9 p 24 #[.int .i64 0, .int .u64 0, .int .u64 0, .int .i64 0] by rw [← hw9]; exact HZ8.out.far (a := ⟨q, 1, none⟩) (by show p ≠ q; have := HN.out; omega) _)
  have HR9 := Lib.hid (show Box w9 (p + 1) 48 (R.num.2.word.2.word.2).cs by rw [← hw9]; exact HR8.out.far (a := ⟨q, 1, none⟩) (by show p + 1 ≠ q; have := HN.out; omega) _)
  have HB9 := Lib.hid (show Below p w w9 by rw [← hw9]; exact HB8.out.setCell (p := ⟨q, 1, none⟩) (by show p ≤ q; have := HN.out; omega) _)
  clear c9 f9 hw9 HO8 HZ8 HR8 HB8
  have HF2 := Lib.hid (show Rd.fin 3 (R.num.1, R.num.2.word.1, R.num.2.word.2.word.1, R.num.2.word.2.word.2) = prs l by rw [← HF.out]; unfold Rd.ways; rw [if_pos (by decide)])
  clear HF
  generalize R.num.1 = v_f at *
  generalize R.num.2.word.1 = v_val at *
  generalize R.num.2.word.2.word.1 = v_key at *
  generalize R.num.2.word.2.word.2 = Z at *
  obtain ⟨l9, c9, g9⟩ := Z
  have r0 : w9.cell? ⟨p + 1, 0, none⟩ = some (.string (BA l9)) := HR9.out.cell 0
  have r1 : w9.cell? ⟨p + 1, 1, none⟩ = some (.bool c9) := HR9.out.cell 1
  have r2 : w9.cell? ⟨p + 1, 2, none⟩ = some (.bool g9) := HR9.out.cell 2
  have o0 : w9.cell? ⟨q, 0, none⟩ = some (.int .i64 3) := HO9.out.cell 0
  have z0 : w9.cell? ⟨p, 0, none⟩ = some (.int .i64 0) := HZ9.out.cell 0
  have fz0 := HZ9.out.frozen 0
  have z1 : w9.cell? ⟨p, 1, none⟩ = some (.int .u64 0) := HZ9.out.cell 1
  have fz1 := HZ9.out.frozen 1
  have z2 : w9.cell? ⟨p, 2, none⟩ = some (.int .u64 0) := HZ9.out.cell 2
  have fz2 := HZ9.out.frozen 2
  have z3 : w9.cell? ⟨p, 3, none⟩ = some (.int .i64 0) := HZ9.out.cell 3
  have fz3 := HZ9.out.frozen 3
  cases c9
  · cases l9 with
    | nil =>
      cases g9
      · skip
        have HX := Lib.hid (show (({ k := 3, key := v_key, val := v_val, f := (v_f : Nat) } : Ov), (0 : Int)) = prs l by rw [← HF2.out]; exact (Rd.fin_out (k := 3) (p := (v_f, v_val, v_key, ⟨[], false, false⟩)) (by decide) rfl rfl).symm)
        clear HF2
        have he : (BA []).toList.isEmpty = true := by rw [BA_toList]; rfl
        have o1 : w9.cell? ⟨q, 1, none⟩ = some (.int .u64 (v_key : Nat)) := HO9.out.cell 1
        have o2 : w9.cell? ⟨q, 2, none⟩ = some (.int .u64 (v_val : Nat)) := HO9.out.cell 2
        have o3 : w9.cell? ⟨q, 3, none⟩ = some (.int .i64 (v_f : Nat)) := HO9.out.cell 3
        go_wp2
        obtain ⟨wz, hwz⟩ : ∃ wz, (((w9.setCell ⟨p, 0, none⟩ (.int .i64 3)).setCell ⟨p, 1, none⟩ (.int .u64 (v_key : Nat))).setCell ⟨p, 2, none⟩ (.int .u64 (v_val : Nat))).setCell ⟨p, 3, none⟩ (.int .i64 (v_f : Nat)) = wz := ⟨_, rfl⟩
        have hx : Box wz p 24 #[.int .i64 3, .int .u64 (v_key : Nat), .int .u64 (v_val : Nat), .int .i64 (v_f : Nat)] := by
          rw [← hwz]
          exact (((HZ9.out.put 0 _).put 1 _).put 2 _).put 3 _
        have hb : Below p w wz := by
          rw [← hwz]
          exact (((HB9.out.setCell (p := ⟨p, 0, none⟩) (Nat.le_refl _) _).setCell (p := ⟨p, 1, none⟩) (Nat.le_refl _) _).setCell (p := ⟨p, 2, none⟩) (Nat.le_refl _) _).setCell (p := ⟨p, 3, none⟩) (Nat.le_refl _) _
        rw [hwz]
        exact bodyPost_ret (v := .tuple #[.agg #[.int .i64 3, .int .u64 (v_key : Nat), .int .u64 (v_val : Nat), .int .i64 (v_f : Nat)], .int .i64 0]) (results_ct Try.results10 rfl rfl (load_box hx Try.underlying24 rfl (infoop _ _ _ _))) rfl (PsPost.mk (o := ⟨3, v_key, v_val, (v_f : Nat)⟩) HX.out (HP.out ▸ hb))

      · skip
        have HX := Lib.hid (show (({ k := 0, key := 0, val := 0, f := (0 : Nat) } : Ov), (4 : Int)) = prs l by rw [← HF2.out]; exact (Rd.fin_out (k := 3) (p := (v_f, v_val, v_key, ⟨[], false, true⟩)) (by decide) rfl rfl).symm)
        clear HF2
        have he : (BA []).toList.isEmpty = true := by rw [BA_toList]; rfl
        go_wp2
        obtain ⟨wz, hwz⟩ : ∃ wz, (((w9.setCell ⟨p, 0, none⟩ (.int .i64 0)).setCell ⟨p, 1, none⟩ (.int .u64 0)).setCell ⟨p, 2, none⟩ (.int .u64 0)).setCell ⟨p, 3, none⟩ (.int .i64 0) = wz := ⟨_, rfl⟩
        have hx : Box wz p 24 #[.int .i64 0, .int .u64 0, .int .u64 0, .int .i64 0] := by
          rw [← hwz]
          exact (((HZ9.out.put 0 _).put 1 _).put 2 _).put 3 _
        have hb : Below p w wz := by
          rw [← hwz]
          exact (((HB9.out.setCell (p := ⟨p, 0, none⟩) (Nat.le_refl _) _).setCell (p := ⟨p, 1, none⟩) (Nat.le_refl _) _).setCell (p := ⟨p, 2, none⟩) (Nat.le_refl _) _).setCell (p := ⟨p, 3, none⟩) (Nat.le_refl _) _
        rw [hwz]
        exact bodyPost_ret (v := .tuple #[.agg #[.int .i64 0, .int .u64 0, .int .u64 0, .int .i64 0], .int .i64 4]) (results_ct Try.results10 rfl rfl (load_box hx Try.underlying24 rfl (infoop _ _ _ _))) rfl (PsPost.mk (o := ⟨0, 0, 0, (0 : Nat)⟩) HX.out (HP.out ▸ hb))

    | cons b9 q9 =>
      skip
      have HX := Lib.hid (show (({ k := 0, key := 0, val := 0, f := (0 : Nat) } : Ov), (3 : Int)) = prs l by rw [← HF2.out]; exact (Rd.fin_form (.inr (.inr (by simp)))).symm)
      clear HF2
      have he : (BA (b9 :: q9)).toList.isEmpty = false := by rw [BA_toList]; rfl
      go_wp2
      obtain ⟨wz, hwz⟩ : ∃ wz, (((w9.setCell ⟨p, 0, none⟩ (.int .i64 0)).setCell ⟨p, 1, none⟩ (.int .u64 0)).setCell ⟨p, 2, none⟩ (.int .u64 0)).setCell ⟨p, 3, none⟩ (.int .i64 0) = wz := ⟨_, rfl⟩
      have hx : Box wz p 24 #[.int .i64 0, .int .u64 0, .int .u64 0, .int .i64 0] := by
        rw [← hwz]
        exact (((HZ9.out.put 0 _).put 1 _).put 2 _).put 3 _
      have hb : Below p w wz := by
        rw [← hwz]
        exact (((HB9.out.setCell (p := ⟨p, 0, none⟩) (Nat.le_refl _) _).setCell (p := ⟨p, 1, none⟩) (Nat.le_refl _) _).setCell (p := ⟨p, 2, none⟩) (Nat.le_refl _) _).setCell (p := ⟨p, 3, none⟩) (Nat.le_refl _) _
      rw [hwz]
      exact bodyPost_ret (v := .tuple #[.agg #[.int .i64 0, .int .u64 0, .int .u64 0, .int .i64 0], .int .i64 3]) (results_ct Try.results10 rfl rfl (load_box hx Try.underlying24 rfl (infoop _ _ _ _))) rfl (PsPost.mk (o := ⟨0, 0, 0, (0 : Nat)⟩) HX.out (HP.out ▸ hb))

  · skip
    have HX := Lib.hid (show (({ k := 0, key := 0, val := 0, f := (0 : Nat) } : Ov), (3 : Int)) = prs l by rw [← HF2.out]; exact (Rd.fin_form (.inr (.inl rfl))).symm)
    clear HF2
    go_wp2
    obtain ⟨wz, hwz⟩ : ∃ wz, (((w9.setCell ⟨p, 0, none⟩ (.int .i64 0)).setCell ⟨p, 1, none⟩ (.int .u64 0)).setCell ⟨p, 2, none⟩ (.int .u64 0)).setCell ⟨p, 3, none⟩ (.int .i64 0) = wz := ⟨_, rfl⟩
    have hx : Box wz p 24 #[.int .i64 0, .int .u64 0, .int .u64 0, .int .i64 0] := by
      rw [← hwz]
      exact (((HZ9.out.put 0 _).put 1 _).put 2 _).put 3 _
    have hb : Below p w wz := by
      rw [← hwz]
      exact (((HB9.out.setCell (p := ⟨p, 0, none⟩) (Nat.le_refl _) _).setCell (p := ⟨p, 1, none⟩) (Nat.le_refl _) _).setCell (p := ⟨p, 2, none⟩) (Nat.le_refl _) _).setCell (p := ⟨p, 3, none⟩) (Nat.le_refl _) _
    rw [hwz]
    exact bodyPost_ret (v := .tuple #[.agg #[.int .i64 0, .int .u64 0, .int .u64 0, .int .i64 0], .int .i64 3]) (results_ct Try.results10 rfl rfl (load_box hx Try.underlying24 rfl (infoop _ _ _ _))) rfl (PsPost.mk (o := ⟨0, 0, 0, (0 : Nat)⟩) HX.out (HP.out ▸ hb))

set_option maxHeartbeats 2000000 in
theorem parse_k5 (l : List UInt8) (w : World) (hl : l.length ≤ 9223372036854775807) (hk : Rd.kd ⟨l, false, false⟩ = 5) :
    Calls Try.prog 10 #[.string (BA l)] w (PsPost w l) := by
  have HF := Lib.hid (ways_prs l)
  rw [hk] at HF
  have hl2 := Nat.le_trans (tail_len l) hl
  obtain ⟨p, hp⟩ : ∃ p, w.heap.size = p := ⟨_, rfl⟩
  obtain ⟨wa, hwa⟩ : ∃ wa, ((w.alloc (.cells #[.int .i64 0, .int .u64 0, .int .u64 0, .int .i64 0] 24)).alloc (.cells #[.string (BA l), .bool false, .bool false] 48)) = wa := ⟨_, rfl⟩
  have hz : Box wa p 24 #[.int .i64 0, .int .u64 0, .int .u64 0, .int .i64 0] := by rw [← hwa, ← hp]; exact (Box.new w _ _).alloc _
  have hr : Box wa (p + 1) 48 (Rd.cs ⟨l, false, false⟩) := by
    have h := Box.new (w.alloc (.cells #[.int .i64 0, .int .u64 0, .int .u64 0, .int .i64 0] 24)) 48 #[.string (BA l), .bool false, .bool false]
    rw [hwa, World.size_alloc, hp] at h
    exact h
  have HB := Lib.hid (show Below p w wa by rw [← hwa, ← hp]; exact ((Below.refl _ _).alloc (Nat.le_refl _) _).alloc (by simp) _)
  have K := Lib.hid (rd_kind (p + 1) ⟨l, false, false⟩ wa hr)
  rw [hk] at K
  have HZ := Lib.hid hz
  have HW := Lib.hid hwa
  have HP := Lib.hid hp
  generalize (Rd.one ⟨l, false, false⟩).2 = R at *
  clear hz hr hwa hp hk hl
  go_enter Try.func10, Try.ntmps10
  go_wp2_with fail
  rw [HW.out, HP.out]
  refine K.out.mono ?_
  rintro e w2 ⟨rfl, hb, ho⟩
  have HR := Lib.hid hb
  have hn : p ≠ p + 1 := by omega
  have HZ2 := Lib.hid (HZ.out.only ho (just_ne hn))
  have HB2 := Lib.hid (below_only HB.out ho (by have := HZ.out.lt; omega) (fun i hi e => by have e : i = p + 1 := e; omega))
  clear hb ho K HZ HB hn HW
  go_upto_region 3 with fail
  obtain ⟨q, hq⟩ : ∃ q, w2.heap.size = q := ⟨_, rfl⟩
  obtain ⟨w3, hw3⟩ : ∃ w3, w2.alloc (.cells #[.int .i64 5, .int .u64 0, .int .u64 0, .int .i64 0] 24) = w3 := ⟨_, rfl⟩
  simp only [hw3, hq]
  have HO3 := Lib.hid (show Box w3 q 24 #[.int .i64 5, .int .u64 0, .int .u64 0, .int .i64 0] by rw [← hw3, ← hq]; exact Box.new _ _ _)
  have HZ3 := Lib.hid (show Box w3 p 24 #[.int .i64 0, .int .u64 0, .int .u64 0, .int .i64 0] by rw [← hw3]; exact HZ2.out.alloc _)
  have HR3 := Lib.hid (show Box w3 (p + 1) 48 R.cs by rw [← hw3]; exact HR.out.alloc _)
  have HB3 := Lib.hid (show Below p w w3 by rw [← hw3]; exact HB2.out.alloc (by have := HZ2.out.lt; omega) _)
  have HN := Lib.hid (show p < q ∧ p + 1 < q by have h1 := HR.out.lt; omega)
  clear hq hw3 HZ2 HR HB2
  have o0 : w3.cell? ⟨q, 0, none⟩ = some (.int .i64 5) := HO3.out.cell 0
  go_upto_region 11 with fail
  have HF2 := Lib.hid (show Rd.fin 5 ((0 : Nat), (0 : Nat), (0 : Nat), R) = prs l by rw [← HF.out]; unfold Rd.ways; rw [if_neg (by decide), if_neg (by decide)])
  clear HF
  generalize R = Z at *
  obtain ⟨l9, c9, g9⟩ := Z
  have r0 : w3.cell? ⟨p + 1, 0, none⟩ = some (.string (BA l9)) := HR3.out.cell 0
  have r1 : w3.cell? ⟨p + 1, 1, none⟩ = some (.bool c9) := HR3.out.cell 1
  have r2 : w3.cell? ⟨p + 1, 2, none⟩ = some (.bool g9) := HR3.out.cell 2
  have z0 : w3.cell? ⟨p, 0, none⟩ = some (.int .i64 0) := HZ3.out.cell 0
  have fz0 := HZ3.out.frozen 0
  have z1 : w3.cell? ⟨p, 1, none⟩ = some (.int .u64 0) := HZ3.out.cell 1
  have fz1 := HZ3.out.frozen 1
  have z2 : w3.cell? ⟨p, 2, none⟩ = some (.int .u64 0) := HZ3.out.cell 2
  have fz2 := HZ3.out.frozen 2
  have z3 : w3.cell? ⟨p, 3, none⟩ = some (.int .i64 0) := HZ3.out.cell 3
  have fz3 := HZ3.out.frozen 3
  cases c9
  · cases l9 with
    | nil =>
      cases g9
      · skip
        have HX := Lib.hid (show (({ k := 5, key := (0 : Nat), val := (0 : Nat), f := ((0 : Nat) : Nat) } : Ov), (0 : Int)) = prs l by rw [← HF2.out]; exact (Rd.fin_out (k := 5) (p := ((0 : Nat), (0 : Nat), (0 : Nat), ⟨[], false, false⟩)) (by decide) rfl rfl).symm)
        clear HF2
        have he : (BA []).toList.isEmpty = true := by rw [BA_toList]; rfl
        have o1 : w3.cell? ⟨q, 1, none⟩ = some (.int .u64 0) := HO3.out.cell 1
        have o2 : w3.cell? ⟨q, 2, none⟩ = some (.int .u64 0) := HO3.out.cell 2
        have o3 : w3.cell? ⟨q, 3, none⟩ = some (.int .i64 0) := HO3.out.cell 3
        go_wp2
        obtain ⟨wz, hwz⟩ : ∃ wz, (((w3.setCell ⟨p, 0, none⟩ (.int .i64 5)).setCell ⟨p, 1, none⟩ (.int .u64 0)).setCell ⟨p, 2, none⟩ (.int .u64 0)).setCell ⟨p, 3, none⟩ (.int .i64 0) = wz := ⟨_, rfl⟩
        have hx : Box wz p 24 #[.int .i64 5, .int .u64 0, .int .u64 0, .int .i64 0] := by
          rw [← hwz]
          exact (((HZ3.out.put 0 _).put 1 _).put 2 _).put 3 _
        have hb : Below p w wz := by
          rw [← hwz]
          exact (((HB3.out.setCell (p := ⟨p, 0, none⟩) (Nat.le_refl _) _).setCell (p := ⟨p, 1, none⟩) (Nat.le_refl _) _).setCell (p := ⟨p, 2, none⟩) (Nat.le_refl _) _).setCell (p := ⟨p, 3, none⟩) (Nat.le_refl _) _
        rw [hwz]
        exact bodyPost_ret (v := .tuple #[.agg #[.int .i64 5, .int .u64 0, .int .u64 0, .int .i64 0], .int .i64 0]) (results_ct Try.results10 rfl rfl (load_box hx Try.underlying24 rfl (infoop _ _ _ _))) rfl (PsPost.mk (o := ⟨5, (0 : Nat), (0 : Nat), ((0 : Nat) : Nat)⟩) HX.out (HP.out ▸ hb))

      · skip
        have HX := Lib.hid (show (({ k := 0, key := 0, val := 0, f := (0 : Nat) } : Ov), (4 : Int)) = prs l by rw [← HF2.out]; exact (Rd.fin_out (k := 5) (p := ((0 : Nat), (0 : Nat), (0 : Nat), ⟨[], false, true⟩)) (by decide) rfl rfl).symm)
        clear HF2
        have he : (BA []).toList.isEmpty = true := by rw [BA_toList]; rfl
        go_wp2
        obtain ⟨wz, hwz⟩ : ∃ wz, (((w3.setCell ⟨p, 0, none⟩ (.int .i64 0)).setCell ⟨p, 1, none⟩ (.int .u64 0)).setCell ⟨p, 2, none⟩ (.int .u64 0)).setCell ⟨p, 3, none⟩ (.int .i64 0) = wz := ⟨_, rfl⟩
        have hx : Box wz p 24 #[.int .i64 0, .int .u64 0, .int .u64 0, .int .i64 0] := by
          rw [← hwz]
          exact (((HZ3.out.put 0 _).put 1 _).put 2 _).put 3 _
        have hb : Below p w wz := by
          rw [← hwz]
          exact (((HB3.out.setCell (p := ⟨p, 0, none⟩) (Nat.le_refl _) _).setCell (p := ⟨p, 1, none⟩) (Nat.le_refl _) _).setCell (p := ⟨p, 2, none⟩) (Nat.le_refl _) _).setCell (p := ⟨p, 3, none⟩) (Nat.le_refl _) _
        rw [hwz]
        exact bodyPost_ret (v := .tuple #[.agg #[.int .i64 0, .int .u64 0, .int .u64 0, .int .i64 0], .int .i64 4]) (results_ct Try.results10 rfl rfl (load_box hx Try.underlying24 rfl (infoop _ _ _ _))) rfl (PsPost.mk (o := ⟨0, 0, 0, (0 : Nat)⟩) HX.out (HP.out ▸ hb))

    | cons b9 q9 =>
      skip
      have HX := Lib.hid (show (({ k := 0, key := 0, val := 0, f := (0 : Nat) } : Ov), (3 : Int)) = prs l by rw [← HF2.out]; exact (Rd.fin_form (.inr (.inr (by simp)))).symm)
      clear HF2
      have he : (BA (b9 :: q9)).toList.isEmpty = false := by rw [BA_toList]; rfl
      go_wp2
      obtain ⟨wz, hwz⟩ : ∃ wz, (((w3.setCell ⟨p, 0, none⟩ (.int .i64 0)).setCell ⟨p, 1, none⟩ (.int .u64 0)).setCell ⟨p, 2, none⟩ (.int .u64 0)).setCell ⟨p, 3, none⟩ (.int .i64 0) = wz := ⟨_, rfl⟩
      have hx : Box wz p 24 #[.int .i64 0, .int .u64 0, .int .u64 0, .int .i64 0] := by
        rw [← hwz]
        exact (((HZ3.out.put 0 _).put 1 _).put 2 _).put 3 _
      have hb : Below p w wz := by
        rw [← hwz]
        exact (((HB3.out.setCell (p := ⟨p, 0, none⟩) (Nat.le_refl _) _).setCell (p := ⟨p, 1, none⟩) (Nat.le_refl _) _).setCell (p := ⟨p, 2, none⟩) (Nat.le_refl _) _).setCell (p := ⟨p, 3, none⟩) (Nat.le_refl _) _
      rw [hwz]
      exact bodyPost_ret (v := .tuple #[.agg #[.int .i64 0, .int .u64 0, .int .u64 0, .int .i64 0], .int .i64 3]) (results_ct Try.results10 rfl rfl (load_box hx Try.underlying24 rfl (infoop _ _ _ _))) rfl (PsPost.mk (o := ⟨0, 0, 0, (0 : Nat)⟩) HX.out (HP.out ▸ hb))

  · skip
    have HX := Lib.hid (show (({ k := 0, key := 0, val := 0, f := (0 : Nat) } : Ov), (3 : Int)) = prs l by rw [← HF2.out]; exact (Rd.fin_form (.inr (.inl rfl))).symm)
    clear HF2
    go_wp2
    obtain ⟨wz, hwz⟩ : ∃ wz, (((w3.setCell ⟨p, 0, none⟩ (.int .i64 0)).setCell ⟨p, 1, none⟩ (.int .u64 0)).setCell ⟨p, 2, none⟩ (.int .u64 0)).setCell ⟨p, 3, none⟩ (.int .i64 0) = wz := ⟨_, rfl⟩
    have hx : Box wz p 24 #[.int .i64 0, .int .u64 0, .int .u64 0, .int .i64 0] := by
      rw [← hwz]
      exact (((HZ3.out.put 0 _).put 1 _).put 2 _).put 3 _
    have hb : Below p w wz := by
      rw [← hwz]
      exact (((HB3.out.setCell (p := ⟨p, 0, none⟩) (Nat.le_refl _) _).setCell (p := ⟨p, 1, none⟩) (Nat.le_refl _) _).setCell (p := ⟨p, 2, none⟩) (Nat.le_refl _) _).setCell (p := ⟨p, 3, none⟩) (Nat.le_refl _) _
    rw [hwz]
    exact bodyPost_ret (v := .tuple #[.agg #[.int .i64 0, .int .u64 0, .int .u64 0, .int .i64 0], .int .i64 3]) (results_ct Try.results10 rfl rfl (load_box hx Try.underlying24 rfl (infoop _ _ _ _))) rfl (PsPost.mk (o := ⟨0, 0, 0, (0 : Nat)⟩) HX.out (HP.out ▸ hb))

set_option maxHeartbeats 2000000 in
theorem parse_k0 (l : List UInt8) (w : World) (hl : l.length ≤ 9223372036854775807) (hk : Rd.kd ⟨l, false, false⟩ = 0) :
    Calls Try.prog 10 #[.string (BA l)] w (PsPost w l) := by
  have HF := Lib.hid (ways_prs l)
  rw [hk] at HF
  have hl2 := Nat.le_trans (tail_len l) hl
  obtain ⟨p, hp⟩ : ∃ p, w.heap.size = p := ⟨_, rfl⟩
  obtain ⟨wa, hwa⟩ : ∃ wa, ((w.alloc (.cells #[.int .i64 0, .int .u64 0, .int .u64 0, .int .i64 0] 24)).alloc (.cells #[.string (BA l), .bool false, .bool false] 48)) = wa := ⟨_, rfl⟩
  have hz : Box wa p 24 #[.int .i64 0, .int .u64 0, .int .u64 0, .int .i64 0] := by rw [← hwa, ← hp]; exact (Box.new w _ _).alloc _
  have hr : Box wa (p + 1) 48 (Rd.cs ⟨l, false, false⟩) := by
    have h := Box.new (w.alloc (.cells #[.int .i64 0, .int .u64 0, .int .u64 0, .int .i64 0] 24)) 48 #[.string (BA l), .bool false, .bool false]
    rw [hwa, World.size_alloc, hp] at h
    exact h
  have HB := Lib.hid (show Below p w wa by rw [← hwa, ← hp]; exact ((Below.refl _ _).alloc (Nat.le_refl _) _).alloc (by simp) _)
  have K := Lib.hid (rd_kind (p + 1) ⟨l, false, false⟩ wa hr)
  rw [hk] at K
  have HZ := Lib.hid hz
  have HW := Lib.hid hwa
  have HP := Lib.hid hp
  generalize (Rd.one ⟨l, false, false⟩).2 = R at *
  clear hz hr hwa hp hk hl
  go_enter Try.func10, Try.ntmps10
  go_wp2_with fail
  rw [HW.out, HP.out]
  refine K.out.mono ?_
  rintro e w2 ⟨rfl, hb, ho⟩
  have HR := Lib.hid hb
  have hn : p ≠ p + 1 := by omega
  have HZ2 := Lib.hid (HZ.out.only ho (just_ne hn))
  have HB2 := Lib.hid (below_only HB.out ho (by have := HZ.out.lt; omega) (fun i hi e => by have e : i = p + 1 := e; omega))
  clear hb ho K HZ HB hn HW
  go_upto_region 3 with fail
  obtain ⟨q, hq⟩ : ∃ q, w2.heap.size = q := ⟨_, rfl⟩
  obtain ⟨w3, hw3⟩ : ∃ w3, w2.alloc (.cells #[.int .i64 0, .int .u64 0, .int .u64 0, .int .i64 0] 24) = w3 := ⟨_, rfl⟩
  simp only [hw3, hq]
  have HO3 := Lib.hid (show Box w3 q 24 #[.int .i64 0, .int .u64 0, .int .u64 0, .int .i64 0] by rw [← hw3, ← hq]; exact Box.new _ _ _)
  have HZ3 := Lib.hid (show Box w3 p 24 #[.int .i64 0, .int .u64 0, .int .u64 0, .int .i64 0] by rw [← hw3]; exact HZ2.out.alloc _)
  have HR3 := Lib.hid (show Box w3 (p + 1) 48 R.cs by rw [← hw3]; exact HR.out.alloc _)
  have HB3 := Lib.hid (show Below p w w3 by rw [← hw3]; exact HB2.out.alloc (by have := HZ2.out.lt; omega) _)
  have HN := Lib.hid (show p < q ∧ p + 1 < q by have h1 := HR.out.lt; omega)
  clear hq hw3 HZ2 HR HB2
  have o0 : w3.cell? ⟨q, 0, none⟩ = some (.int .i64 0) := HO3.out.cell 0
  go_upto_region 11 with fail
  have HF2 := Lib.hid (show Rd.fin 0 ((0 : Nat), (0 : Nat), (0 : Nat), R) = prs l by rw [← HF.out]; unfold Rd.ways; rw [if_neg (by decide), if_neg (by decide)])
  clear HF
  generalize R = Z at *
  obtain ⟨l9, c9, g9⟩ := Z
  have r0 : w3.cell? ⟨p + 1, 0, none⟩ = some (.string (BA l9)) := HR3.out.cell 0
  have r1 : w3.cell? ⟨p + 1, 1, none⟩ = some (.bool c9) := HR3.out.cell 1
  have r2 : w3.cell? ⟨p + 1, 2, none⟩ = some (.bool g9) := HR3.out.cell 2
  have z0 : w3.cell? ⟨p, 0, none⟩ = some (.int .i64 0) := HZ3.out.cell 0
  have fz0 := HZ3.out.frozen 0
  have z1 : w3.cell? ⟨p, 1, none⟩ = some (.int .u64 0) := HZ3.out.cell 1
  have fz1 := HZ3.out.frozen 1
  have z2 : w3.cell? ⟨p, 2, none⟩ = some (.int .u64 0) := HZ3.out.cell 2
  have fz2 := HZ3.out.frozen 2
  have z3 : w3.cell? ⟨p, 3, none⟩ = some (.int .i64 0) := HZ3.out.cell 3
  have fz3 := HZ3.out.frozen 3
  · have HX := Lib.hid (show (({ k := 0, key := 0, val := 0, f := (0 : Nat) } : Ov), (3 : Int)) = prs l by rw [← HF2.out]; exact (Rd.fin_form (.inl rfl)).symm)
    clear HF2
    go_wp2
    obtain ⟨wz, hwz⟩ : ∃ wz, (((w3.setCell ⟨p, 0, none⟩ (.int .i64 0)).setCell ⟨p, 1, none⟩ (.int .u64 0)).setCell ⟨p, 2, none⟩ (.int .u64 0)).setCell ⟨p, 3, none⟩ (.int .i64 0) = wz := ⟨_, rfl⟩
    have hx : Box wz p 24 #[.int .i64 0, .int .u64 0, .int .u64 0, .int .i64 0] := by
      rw [← hwz]
      exact (((HZ3.out.put 0 _).put 1 _).put 2 _).put 3 _
    have hb : Below p w wz := by
      rw [← hwz]
      exact (((HB3.out.setCell (p := ⟨p, 0, none⟩) (Nat.le_refl _) _).setCell (p := ⟨p, 1, none⟩) (Nat.le_refl _) _).setCell (p := ⟨p, 2, none⟩) (Nat.le_refl _) _).setCell (p := ⟨p, 3, none⟩) (Nat.le_refl _) _
    rw [hwz]
    exact bodyPost_ret (v := .tuple #[.agg #[.int .i64 0, .int .u64 0, .int .u64 0, .int .i64 0], .int .i64 3]) (results_ct Try.results10 rfl rfl (load_box hx Try.underlying24 rfl (infoop _ _ _ _))) rfl (PsPost.mk (o := ⟨0, 0, 0, (0 : Nat)⟩) HX.out (HP.out ▸ hb))
theorem parse_any (l : List UInt8) (w : World) (hl : l.length ≤ 9223372036854775807) : Calls Try.prog 10 #[.string (BA l)] w (PsPost w l) := by
  have hk : Rd.kd ⟨l, false, false⟩ = 0 ∨ Rd.kd ⟨l, false, false⟩ = 1 ∨ Rd.kd ⟨l, false, false⟩ = 2 ∨ Rd.kd ⟨l, false, false⟩ = 3 ∨ Rd.kd ⟨l, false, false⟩ = 4 ∨ Rd.kd ⟨l, false, false⟩ = 5 := by
    cases l with
    | nil => exact .inl rfl
    | cons c r => show knd c = 0 ∨ knd c = 1 ∨ knd c = 2 ∨ knd c = 3 ∨ knd c = 4 ∨ knd c = 5; have := knd_cases c; omega
  rcases hk with h | h | h | h | h | h
  · exact parse_k0 l w hl h
  · exact parse_k1 l w hl h
  · exact parse_k2 l w hl h
  · exact parse_k3 l w hl h
  · exact parse_k4 l w hl h
  · exact parse_k5 l w hl h
end Go.Proofs.Ytpnjeoilkaimmaa
