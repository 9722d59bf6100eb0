/- The law ConfigBatches, walked: for every config and every number it returns true, and nothing that was in memory changes. Conditions: each number is an int; the library's variable of the type error holds that type. -/
import Derived.Test.YteiilfdbddpodaaDoorG29
namespace Go.Proofs.YteiilfdbddpodaaDoor
set_option maxRecDepth 100000
open Go.RowKit Go.ChangeShapes Go.WideShapes Go.ChangeAt

theorem cnt_batch {c : Cfg} (h : OkC c) (n : Int) (h0 : 0 ≤ n) (h1 : n ≤ 100000) : wdC c (n + c.B) - wdC c n = 2 * c.V * (c.B * (2 * c.K + 5) + (c.A + 5 * c.B)) := by
  obtain ⟨b1, b2⟩ := h.B
  have e1 : cntN (n + c.B) = n + c.B := by unfold cntN; omega
  have e2 : cntN n = n := by unfold cntN; omega
  have e3 : (n + c.B) / c.B = n / c.B + 1 := Int.add_ediv_of_dvd_right (Int.dvd_refl _) ▸ (by rw [Int.ediv_self (by omega)])
  unfold wdC
  rw [e1, e2, e3, Int.add_mul n c.B, Int.add_mul (n / c.B) 1, Int.one_mul]
  generalize n * (2 * c.K + 5) = a
  generalize c.B * (2 * c.K + 5) = b
  generalize n / c.B * (c.A + 5 * c.B) = d
  generalize c.A + 5 * c.B = f
  rw [Int.mul_comm (2 * c.V) (b + f), show a + b + (d + f) = (a + d) + (b + f) by omega, Int.add_mul]
  omega
theorem wdC_rng {c : Cfg} (h : OkC c) (n : Int) : 4 ≤ wdC c n ∧ wdC c n ≤ 1518338052 := by
  have hn := cntN_rng n
  obtain ⟨a1, a2⟩ := h.A
  obtain ⟨b1, b2⟩ := h.B
  obtain ⟨d1, d2⟩ := h.K
  have hv := h.V
  have hq : 0 ≤ cntN n / c.B ∧ cntN n / c.B ≤ 1048576 := ⟨Int.ediv_nonneg hn.1 (by omega), Int.le_trans (Int.ediv_le_self _ hn.1) hn.2⟩
  have m1 := mul_rng hn (show 0 ≤ 2 * c.K + 5 ∧ 2 * c.K + 5 ≤ 37 by omega)
  have m2 := mul_rng hq (show 0 ≤ c.A + 5 * c.B ∧ c.A + 5 * c.B ≤ 144 by omega)
  have m3 := mul_rng (x := cntN n * (2 * c.K + 5) + cntN n / c.B * (c.A + 5 * c.B)) (X := 189792256) (show _ by omega) (show 0 ≤ 2 * c.V ∧ 2 * c.V ≤ 8 by omega)
  unfold wdC
  omega
set_option linter.unusedSimpArgs false in
set_option maxRecDepth 100000 in
set_option maxHeartbeats 2000000 in
theorem batches_law (c : Cfg) (n : Int) (w : World) (hc : c.Wf) (hg : ErrType w) : Calls Tryd.prog 8 #[.agg c.a, .int .i64 n] w fun e w' => e = .returned (.bool true) ∧ Below w.heap.size w w' := by
  have hT := hc.T
  have HWY := Lib.hid (fun W (hg : ErrType W) => why_any c W hT hg)
  have HOK : Hid (Fst c 7 → OkC c) := Lib.hid (fun h => h.okC)
  have HAC := Lib.hid (fun (h : Fst c 7) W => cacc_ok c W hT h)
  have HWD := Lib.hid (fun (h : Fst c 7) m W => cwd_ok c m W hT h)
  have HBAD : Hid (∀ i, Fst c i → i ≠ 7 → ftE c i ≠ 0) := Lib.hid (fun i h h7 => h.bad (by have := h.le; omega))
  have HF7 : Hid (ftE c 7 = 0) := Lib.hid rfl
  unfold WyPost at HWY
  have HR := Lib.hid (fun (h : OkC c) m => wdC_rng h m)
  have HCB := Lib.hid (fun (h : OkC c) m h0 h1 => cnt_batch h m h0 h1)
  have HM1 : Hid (wdC c (-1) = wdC c 0) := Lib.hid rfl
  have HM2 : Hid (wdC c 2097152 = wdC c 1048576) := Lib.hid rfl
  have HNUM : Hid (OkC c → (1 ≤ c.A ∧ c.A ≤ 64) ∧ (1 ≤ c.B ∧ c.B ≤ 16) ∧ (1 ≤ c.K ∧ c.K ≤ 16) ∧ (1 ≤ c.V ∧ c.V ≤ 4)) := Lib.hid (fun h => ⟨h.A, h.B, h.K, h.V⟩)
  generalize wdC c = wd at *
  generalize ftE c = ft at *
  generalize Fst c = FS at *
  generalize OkC c = OK at *
  clear hT hc
  obtain ⟨A, B, K, P, T, S, H, V, O⟩ := c
  simp only [Cfg.a] at *
  have HG0 := Lib.hid hg
  clear hg
  obtain ⟨p, hp⟩ : ∃ p, w.heap.size = p := ⟨_, rfl⟩
  obtain ⟨w2, hw2⟩ : ∃ w2, w.alloc (.cells #[.int .i64 A, .int .i64 B, .int .i64 K, .int .i64 P, .int .i64 T, .int .i64 S, .int .i64 H, .int .i64 V, .int .i64 O] 23) = w2 := ⟨_, rfl⟩
  have hx : Box w2 p 23 #[.int .i64 A, .int .i64 B, .int .i64 K, .int .i64 P, .int .i64 T, .int .i64 S, .int .i64 H, .int .i64 V, .int .i64 O] := by rw [← hw2, ← hp]; exact Box.new w _ _
  have HB := Lib.hid (show Below w.heap.size w w2 by rw [← hw2]; exact (Below.refl _ w).alloc (Nat.le_refl _) _)
  have HX := Lib.hid hx
  have HPP := Lib.hid hp
  have HWW := Lib.hid hw2
  have k0 := hx.cell 0
  have k1 := hx.cell 1
  have k2 := hx.cell 2
  have k3 := hx.cell 3
  have k4 := hx.cell 4
  have k5 := hx.cell 5
  have k6 := hx.cell 6
  have k7 := hx.cell 7
  have k8 := hx.cell 8
  clear hx hp hw2
  have HG := Lib.hid (HG0.out.below (show Below w.heap.size w w2 from HB.out))
  go_enter Tryd.func8, Tryd.ntmps8
  go_upto_region 1 with fail
  rw [HPP.out, HWW.out]
  go_wp2_with fail
  refine (shown_any _ HG.out).mono ?_
  rintro e w3 ⟨rfl, hb3⟩
  have HG3 := Lib.hid (HG.out.below hb3)
  have HB3 := Lib.hid (HB.out.trans (hb3.mono HB.out.size))
  have HX3 := Lib.hid (HX.out.of (hb3.block _ HX.out.lt))
  clear hb3 HG HB HX HWW k0 k1 k2 k3 k4 k5 k6 k7 k8
  have k0 := HX3.out.cell 0
  have k1 := HX3.out.cell 1
  have k2 := HX3.out.cell 2
  have k3 := HX3.out.cell 3
  have k4 := HX3.out.cell 4
  have k5 := HX3.out.cell 5
  have k6 := HX3.out.cell 6
  have k7 := HX3.out.cell 7
  have k8 := HX3.out.cell 8
  go_wp2_with fail
  refine (HWY.out _ HG3.out).mono ?_
  rintro e w4 ⟨i, hi, rfl, hb4⟩
  have HG4 := Lib.hid (HG3.out.below hb4)
  have HB4 := Lib.hid (HB3.out.trans (hb4.mono HB3.out.size))
  have HX4 := Lib.hid (HX3.out.of (hb4.block _ HX3.out.lt))
  clear hb4 HG3 HB3 HX3 k0 k1 k2 k3 k4 k5 k6 k7 k8
  by_cases h7 : i = 7
  · subst h7
    rw [HF7.out]
    have HA := Lib.hid (HAC.out hi)
    have HW := Lib.hid (HWD.out hi)
    have hok := HOK.out hi
    obtain ⟨⟨a1, a2⟩, ⟨b1, b2⟩, ⟨d1, d2⟩, ⟨v1, v2⟩⟩ := HNUM.out hok
    have HRG := Lib.hid (HR.out hok)
    have HCC := Lib.hid (HCB.out hok)
    clear hi hok HAC HWD HOK HBAD HNUM HR HCB HWY
    by_cases h0 : n < 0
    · go_wp2_with fail
      go_ret
      exact ⟨rfl, HB4.out⟩
    · by_cases h1 : n > 100000
      · go_wp2_with fail
        go_ret
        exact ⟨rfl, HB4.out⟩
      · have h0' : 0 ≤ n := by omega
        have h1' : n ≤ 100000 := by omega
        have k0 := HX4.out.cell 0
        have k1 := HX4.out.cell 1
        have k2 := HX4.out.cell 2
        have k3 := HX4.out.cell 3
        have k4 := HX4.out.cell 4
        have k5 := HX4.out.cell 5
        have k6 := HX4.out.cell 6
        have k7 := HX4.out.cell 7
        have k8 := HX4.out.cell 8
        go_wp2_with fail
        refine (HA.out _).mono ?_
        rintro e w5 ⟨rfl, hb5⟩
        have HB5 := Lib.hid (HB4.out.trans (hb5.mono HB4.out.size))
        have HX5 := HX4.out.of (hb5.block _ HX4.out.lt)
        clear hb5 k0 k1 k2 k3 k4 k5 k6 k7 k8 HX4 HB4
        have k0 := Gr.cell (HX5.cell 0)
        have k1 := Gr.cell (HX5.cell 1)
        have k2 := Gr.cell (HX5.cell 2)
        have k3 := Gr.cell (HX5.cell 3)
        have k4 := Gr.cell (HX5.cell 4)
        have k5 := Gr.cell (HX5.cell 5)
        have k6 := Gr.cell (HX5.cell 6)
        have k7 := Gr.cell (HX5.cell 7)
        have k8 := Gr.cell (HX5.cell 8)
        clear HX5
        have hw1 := HRG.out n
        have hw2 := HRG.out (n + B)
        have hd := HCC.out n h0' h1'
        have m1 := mul_rng (show 0 ≤ B ∧ B ≤ 16 by omega) (show 0 ≤ 2 * K + 5 ∧ 2 * K + 5 ≤ 37 by omega)
        have m2 := mul_rng (x := 2 * V) (y := B * (2 * K + 5) + (A + 5 * B)) (X := 8) (Y := 736) (show _ by omega) (show _ by omega)
        have hq : (wd (n + B) - wd n == 2 * V * (B * (2 * K + 5) + (A + 5 * B))) = true := by rw [hd]; exact beq_self_eq_true _
        have hq1 : (wd (-1) == wd 0) = true := by rw [HM1.out]; exact beq_self_eq_true _
        have hq2 : (wd 2097152 == wd 1048576) = true := by rw [HM2.out]; exact beq_self_eq_true _
        clear hd
        go_wp2_with fail
        refine wp_region_grow (by kernel_rfl) (by kernel_rfl) ?_
        repeat (go_big_quiet_step (first | (go_at_call 22; exact Gr.blw (HW.out _ _))))
        refine wpQuiet_nil ?_
        intro w9 hw9
        obtain ⟨G, hG⟩ := hw9
        subst hG
        have HB9 := Lib.hid (HB5.out.trans (G.ok.none.mono HB5.out.size))
        clear k0 k1 k2 k3 k4 k5 k6 k7 k8
        go_wp2_with fail
        go_ret
        exact ⟨rfl, HB9.out⟩
  · have hE := HBAD.out i hi h7
    obtain ⟨E, hEE⟩ : ∃ E, ft i = E := ⟨_, rfl⟩
    rw [hEE] at hE ⊢
    have hq : (E == 0) = false := by simpa using hE
    clear hi h7 hEE
    go_wp2_with fail
    go_ret
    exact ⟨rfl, HB4.out⟩
end Go.Proofs.YteiilfdbddpodaaDoor
