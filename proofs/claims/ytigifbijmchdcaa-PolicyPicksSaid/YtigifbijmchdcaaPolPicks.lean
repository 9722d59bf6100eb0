/- The law PolicyPicks, walked: for every items, every capacity and batch it returns true, and nothing that was in memory changes. -/
import Derived.Test.YtigifbijmchdcaaPolRefV
namespace Go.Proofs.Ytigifbijmchdcaa
open Go.RowKit Go.ChangeShapes Go.WideShapes Go.ChangeAt

set_option maxRecDepth 100000 in
set_option maxHeartbeats 4000000 in
theorem picks_law (a : Option Addr) (n cp : Nat) (y : Nat → Pi) (c b : Int) (w : World) (ha : a = none → n = 0 ∧ cp = 0) (hP : Pits w w.heap.size a n y) :
    Calls Try.prog 3 #[.slice a n cp, .int .i64 c, .int .i64 b] w fun e w' => e = .returned (.bool true) ∧ Below w.heap.size w w' := by
  have HP := Lib.hid hP
  have HA := Lib.hid ha
  clear hP ha
  have HK1 : Hid (∀ (c1 : Int) (r : Nat) (e : Bool) W, Calls Try.prog 11 #[.agg #[.int .i64 c1, .int .u64 (r : Int), .bool e]] W fun x w' => x = .returned (.int .u64 (pkey (c1, r, e) : Int)) ∧ Below W.heap.size W w') := fun c1 r e W => (key_any (c1, r, e) W).mono fun e w' h => ⟨h.1, h.2.below⟩
  have HK2 : Hid (∀ (c1 : Int) (r : Nat) (e : Bool) W, Calls Try.prog 12 #[.agg #[.int .i64 c1, .int .u64 (r : Int), .bool e]] W fun x w' => x = .returned (.int .u64 (pkey (c1, r, e) : Int)) ∧ Below W.heap.size W w') := fun c1 r e W => (rkey_any (c1, r, e) W).mono fun e w' h => ⟨h.1, h.2.below⟩
  have HB1 : Hid (∀ (c1 : Int) W, Calls Try.prog 13 #[.int .i64 c1] W fun x w' => x = .returned (.int .u64 (blankI c1)) ∧ Below W.heap.size W w') := fun c1 W => (blank_any c1 W).mono fun e w' h => ⟨h.1, by rw [h.2]; exact Below.refl _ _⟩
  have HB2 : Hid (∀ (c1 : Int) W, Calls Try.prog 14 #[.int .i64 c1] W fun x w' => x = .returned (.int .u64 (blankI c1)) ∧ Below W.heap.size W w') := fun c1 W => (rblank_any c1 W).mono fun e w' h => ⟨h.1, by rw [h.2]; exact Below.refl _ _⟩
  go_enter Try.func3, Try.ntmps3
  go_wp2_with fail
  refine (pshown_any _).mono ?_
  rintro e w1 ⟨rfl, hb1⟩
  have HW1 := Lib.hid hb1
  clear hb1
  by_cases hbig : n > 100
  · have hbz : (n : Int) > 100 := by omega
    go_wp2_with fail
    go_ret
    exact ⟨rfl, HW1.out⟩
  · have hbz : ¬ (n : Int) > 100 := by omega
    have HP1 : Hid (Pits w1 w1.heap.size a n y) := (HP.out.below HW1.out).more HW1.out.size
    go_wp2_with fail
    refine (as_pits a n cp y w1 (by omega) HP1.out).mono ?_
    rintro e w2 ⟨A2, c2, rfl, hA2, hP2, hb2⟩
    have HW2 : Hid (Below w.heap.size w w2) := HW1.out.trans (hb2.mono HW1.out.size)
    have HP2 : Hid (Pits w2 w2.heap.size a n y) := (HP1.out.below hb2).more hb2.size
    have HR2 := Lib.hid hP2
    clear hb2 hP2 hA2 HP HP1 HW1
    go_wp2_with fail
    go_loopw [9] (fun v wr => ∃ i : Nat, v = .int .i64 i ∧ i ≤ n ∧ Below w2.heap.size w2 wr) (fun v _ => n - (intOf v).toNat)
    case atStart => exact ⟨0, rfl, by omega, Below.refl _ _⟩
    case round =>
      obtain ⟨i, rfl, hi, hbw⟩ := hrel
      have HBW := Lib.hid hbw
      have HPw : Hid (Pits wr w2.heap.size a n y) := HP2.out.below hbw
      have HRw : Hid (Pits wr w2.heap.size A2 n y) := HR2.out.below hbw
      clear hbw
      by_cases hin : i < n
      · have hiz : (i : Int) < (n : Int) := by omega
        obtain ⟨bb, off, rfl, _, d0, d1, d2⟩ := HPw.out.at hin
        obtain ⟨b3, o3, rfl, _, f0, f1, f2⟩ := HRw.out.at hin
        generalize y i = x at *
        obtain ⟨x1, x2, x3⟩ := x
        dsimp only at d0 d1 d2 f0 f1 f2
        obtain ⟨kx, hkx⟩ : ∃ k, pkey (x1, x2, x3) = k := ⟨_, rfl⟩
        obtain ⟨bx, hbx⟩ : ∃ k, blankI x1 = k := ⟨_, rfl⟩
        have hn1 : ((kx : Int) != (kx : Int)) = false := by simp
        have hn2 : (bx != bx) = false := by simp
        go_upto_region 8 with fail
        have q0 := Gr.cell d0
        have q1 := Gr.cell d1
        have q2 := Gr.cell d2
        have q3 := Gr.cell f0
        have q4 := Gr.cell f1
        have q5 := Gr.cell f2
        clear d0 d1 d2 f0 f1 f2
        refine wp_region_grow (by kernel_rfl) (by kernel_rfl) ?_
        repeat (go_big_quiet_step (first | (go_at_call 11; exact Gr.blw (HK1.out _ _ _ _)) | (go_at_call 12; exact Gr.blw (HK2.out _ _ _ _)) | (go_at_call 13; exact Gr.blw (HB1.out _ _)) | (go_at_call 14; exact Gr.blw (HB2.out _ _))))
        refine wpQuiet_nil ?_
        intro w12 hw12
        obtain ⟨G, hG⟩ := hw12
        subst hG
        have HBG := Lib.hid (HBW.out.trans (G.ok.none.mono HBW.out.size))
        clear q0 q1 q2 q3 q4 q5
        go_wp2_with fail
        go_roundw
        case rel => exact ⟨i + 1, by go_num, by omega, HBG.out⟩
        case measure => simp [intOf]; omega
      · obtain rfl : i = n := by omega
        have HP3 : Hid (Pits wr wr.heap.size a i y) := HPw.out.more HBW.out.size
        have HR3 : Hid (Pits wr wr.heap.size A2 i y) := HRw.out.more HBW.out.size
        have HB3 : Hid (Below w.heap.size w wr) := HW2.out.trans (HBW.out.mono HW2.out.size)
        obtain ⟨w3, h3⟩ : ∃ x, x = wr := ⟨_, rfl⟩
        subst h3
        have HV1 := Lib.hid (victims_any a i cp y c b w3 (by omega) HA.out HP3.out)
        have HV2 := Lib.hid (fun W (h : Below w3.heap.size w3 W) => rvictims_any A2 i c2 y c b W (by omega) ((HR3.out.below h).more h.size))
        unfold VicPost at HV1
        unfold RvPost at HV2
        obtain ⟨K, hK⟩ : ∃ K, K = kMany (lsP i y) c b := ⟨_, rfl⟩
        have hKi : K ≤ i := by have := kMany_le (lsP i y) c b; rw [lsP_len] at this; omega
        rw [← hK] at HV1 HV2
        generalize victims (lsP i y) c b = V at *
        have HM1 := Lib.hid (fun W => many_any (i : Int) c b c W)
        have HM2 := Lib.hid (fun W => rmany_any (i : Int) c b c W)
        have HM3 := Lib.hid (fun W => many_any c b (i : Int) b W)
        have HM4 := Lib.hid (fun W => rmany_any c b (i : Int) b W)
        generalize manyI (i : Int) c b c = m1 at *
        generalize manyI c b (i : Int) b = m2 at *
        have e1 : (m1 == m1) = true := by simp
        have e2 : (m2 == m2) = true := by simp
        clear hK HPw HRw HBW HP2 HR2 HW2
        go_wp2_with fail
        refine (HM1.out _).mono ?_
        rintro e w4 ⟨rfl, rfl⟩
        go_wp2_with fail
        refine (HM2.out _).mono ?_
        rintro e w5 ⟨rfl, rfl⟩
        go_wp2_with fail
        refine (HM3.out _).mono ?_
        rintro e w6 ⟨rfl, rfl⟩
        go_wp2_with fail
        refine (HM4.out _).mono ?_
        rintro e w7 ⟨rfl, rfl⟩
        go_wp2_with fail
        refine HV1.out.mono ?_
        rintro e w8 ⟨g1, rfl, hir, hb8⟩
        have HI8 := Lib.hid hir
        have HB8 := Lib.hid (HB3.out.trans (hb8.mono HB3.out.size))
        have HV3 := Lib.hid (HV2.out w8 hb8)
        clear hir hb8 HV1 HV2
        go_wp2_with fail
        refine HV3.out.mono ?_
        rintro e w9 ⟨A9, c9, rfl, hnum, hb9⟩
        have HI9 := Lib.hid (HI8.out.below hb9 (Nat.le_refl _))
        have HN9 := Lib.hid hnum
        have HB9 := Lib.hid (HB8.out.trans (hb9.mono HB8.out.size))
        have HSm := Lib.hid (psame_nums (some ⟨g1, 0, none⟩) A9 K K c9 _ _ (fun q => V.getD q 0) w9 (by omega) (HI9.out.nums (Nat.le_refl _)) HN9.out)
        clear hnum hb9 HV3
        go_wp2_with fail
        refine HSm.out.mono ?_
        rintro e w10 ⟨rfl, hw10⟩
        have HB10 := Lib.hid (HB9.out.trans (below_drawn hw10))
        clear hw10
        go_wp2_with fail
        go_ret
        exact ⟨rfl, HB10.out⟩
end Go.Proofs.Ytigifbijmchdcaa
