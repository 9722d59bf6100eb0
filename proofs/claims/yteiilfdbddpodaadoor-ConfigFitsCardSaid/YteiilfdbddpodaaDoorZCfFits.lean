/- The law ConfigFits, walked: for every config and every number it returns true, and nothing that was in memory changes. Conditions: each number is an int; the library's variable of the type error holds that type. -/
import Derived.ChangeKeysEq
import Derived.Laws.StructEq
import Derived.Test.YteiilfdbddpodaaDoorG30
import Derived.Test.YteiilfdbddpodaaDoorG12
namespace Go.Proofs.YteiilfdbddpodaaDoor
set_option maxRecDepth 100000
open Go.RowKit Go.ChangeShapes Go.WideShapes Go.ChangeAt

theorem eql_storeF (N S H V : Int) (w : World) : (binOp .eql 32 (.agg #[.int .i64 N, .int .i64 S, .int .i64 H, .int .i64 V]) (.agg #[.int .i64 N, .int .i64 S, .int .i64 H, .int .i64 V])).run Tryd.prog w = .ok (.bool true) w := by
  have h : (Op.equalIn 10000 32 (.agg #[.int .i64 N, .int .i64 S, .int .i64 H, .int .i64 V]) (.agg #[.int .i64 N, .int .i64 S, .int .i64 H, .int .i64 V])).run Tryd.prog w = .ok true w := by
    rw [run_equalIn_struct w 9999 32 _ _ (by kernel_rfl) (by kernel_rfl)]
    simp [Program.fieldsOf, Tryd.underlying32, Op.eqFields, Go.part, isAgg, run_underlying Tryd.underlying3, run_equalIn_int w 9998 3 .i64 .i64 _ _ Tryd.underlying3]
  rw [run_eql_struct, h]; rfl
theorem sizeInt : (Tryd.prog.info? 3).map (·.size) = some 1 := by kernel_rfl
theorem run_slice3 (g m m3 cap : Nat) (hm : m3 + 3 = m) (h1 : 1 ≤ m3) (hc : m ≤ cap) (w : World) :
    (Instr.sliceAt 42 (.slice (some ⟨g, 0, none⟩) m cap) (some (.int .i64 3)) none none).run Tryd.prog w = .ok (.slice (some ⟨g, 3, none⟩) m3 (cap - 3)) w := by
  obtain ⟨i, hi, hs⟩ := Option.map_eq_some_iff.1 sizeInt
  have h3 : cap ≠ 3 := by omega
  have h4 : m - 3 = m3 := by omega
  simp [Instr.sliceAt, Instr.slice, run_underlying Tryd.underlying42, Instr.sliceBounds, Instr.sliceBound, asIntOf, sizeOf, typeInfo, hi, hs, h3, h4, add_plain]
  intro hh
  exact absurd hh (by omega)
set_option linter.unusedSimpArgs false in
set_option maxRecDepth 100000 in
set_option maxHeartbeats 2000000 in
theorem fits_no (c : Cfg) (n : Int) (w : World) (hT : Rg c.T) (hg : ErrType w) (h : ¬ Fst c 7) : Calls Tryd.prog 4 #[.agg c.a, .int .i64 n] w fun e w' => e = .returned (.bool true) ∧ Below w.heap.size w w' := by
  have HWY := Lib.hid (fun W (hg : ErrType W) => why_any c W hT hg)
  have hbad : ∀ j, Fst c j → ftE c j ≠ 0 := fun j hj => hj.bad (Nat.lt_of_le_of_ne hj.le (fun e => h (e ▸ hj)))
  have HSZ : Hid (∀ W, Calls Tryd.prog 20 #[.agg c.a] W (SlPost W 0 (fun j => ([] : List Int).getD j 0))) := Lib.hid (fun W => (csz_no c W hT h).mono fun e w' hw => hw.sl)
  have HCE := Lib.hid (fun W => ccells_no c W hT h)
  have HST := Lib.hid (fun W => cst_no c W hT h)
  have HWD := Lib.hid (fun W => cwd_no c n W hT h)
  have hq := eql_storeF 0 0 0 0
  clear h
  unfold WyPost at HWY
  unfold SlPost at HSZ
  generalize ftE c = ft at *
  generalize Fst c = FS at *
  clear hT
  obtain ⟨A, B, K, P, T, S, H, V, O⟩ := c
  simp only [Cfg.a] at *
  have HG0 := Lib.hid hg
  clear hg
  obtain ⟨p, hp⟩ : ∃ p, w.heap.size = p := ⟨_, rfl⟩
  obtain ⟨w2, hw2⟩ : ∃ w2, w.alloc (.cells #[.int .i64 A, .int .i64 B, .int .i64 K, .int .i64 P, .int .i64 T, .int .i64 S, .int .i64 H, .int .i64 V, .int .i64 O] 23) = w2 := ⟨_, rfl⟩
  have hx : Box w2 p 23 #[.int .i64 A, .int .i64 B, .int .i64 K, .int .i64 P, .int .i64 T, .int .i64 S, .int .i64 H, .int .i64 V, .int .i64 O] := by rw [← hw2, ← hp]; exact Box.new w _ _
  have HB := Lib.hid (show Below w.heap.size w w2 by rw [← hw2]; exact (Below.refl _ w).alloc (Nat.le_refl _) _)
  have HX := Lib.hid hx
  have HPP := Lib.hid hp
  have HWW := Lib.hid hw2
  have k0 := hx.cell 0
  have k1 := hx.cell 1
  have k2 := hx.cell 2
  have k3 := hx.cell 3
  have k4 := hx.cell 4
  have k5 := hx.cell 5
  have k6 := hx.cell 6
  have k7 := hx.cell 7
  have k8 := hx.cell 8
  clear hx hp hw2
  have HG := Lib.hid (HG0.out.below (show Below w.heap.size w w2 from HB.out))
  go_enter Tryd.func4, Tryd.ntmps4
  go_upto_region 1 with fail
  rw [HPP.out, HWW.out]
  go_wp2_with fail
  refine (shown_any _ HG.out).mono ?_
  rintro e w3 ⟨rfl, hb3⟩
  have HG3 := Lib.hid (HG.out.below hb3)
  have HB3 := Lib.hid (HB.out.trans (hb3.mono HB.out.size))
  have HX3 := Lib.hid (HX.out.of (hb3.block _ HX.out.lt))
  clear hb3 HG HB HX HWW k0 k1 k2 k3 k4 k5 k6 k7 k8
  have k0 := HX3.out.cell 0
  have k1 := HX3.out.cell 1
  have k2 := HX3.out.cell 2
  have k3 := HX3.out.cell 3
  have k4 := HX3.out.cell 4
  have k5 := HX3.out.cell 5
  have k6 := HX3.out.cell 6
  have k7 := HX3.out.cell 7
  have k8 := HX3.out.cell 8
  go_wp2_with fail
  refine (HWY.out _ HG3.out).mono ?_
  rintro e w4 ⟨j, hj, rfl, hb4⟩
  have HB4 := Lib.hid (HB3.out.trans (hb4.mono HB3.out.size))
  have HX4 := Lib.hid (HX3.out.of (hb4.block _ HX3.out.lt))
  clear hb4 HG3 HB3 HX3 k0 k1 k2 k3 k4 k5 k6 k7 k8
  have hE := hbad j hj
  obtain ⟨E, hEE⟩ : ∃ E, ft j = E := ⟨_, rfl⟩
  rw [hEE] at hE ⊢
  clear hj hEE hbad
  have k0 := HX4.out.cell 0
  have k1 := HX4.out.cell 1
  have k2 := HX4.out.cell 2
  have k3 := HX4.out.cell 3
  have k4 := HX4.out.cell 4
  have k5 := HX4.out.cell 5
  have k6 := HX4.out.cell 6
  have k7 := HX4.out.cell 7
  have k8 := HX4.out.cell 8
  go_wp2_with fail
  refine (HSZ.out _).mono ?_
  rintro e w5 ⟨a1, c1, rfl, _, hb5⟩
  have HB5 := Lib.hid (HB4.out.trans (hb5.mono HB4.out.size))
  have HX5 := Lib.hid (HX4.out.of (hb5.block _ HX4.out.lt))
  clear hb5 HB4 HX4 k0 k1 k2 k3 k4 k5 k6 k7 k8
  have k0 := HX5.out.cell 0
  have k1 := HX5.out.cell 1
  have k2 := HX5.out.cell 2
  have k3 := HX5.out.cell 3
  have k4 := HX5.out.cell 4
  have k5 := HX5.out.cell 5
  have k6 := HX5.out.cell 6
  have k7 := HX5.out.cell 7
  have k8 := HX5.out.cell 8
  go_wp2_with fail
  refine (HCE.out _).mono ?_
  rintro e w6 ⟨rfl, hb6⟩
  have HB6 := Lib.hid (HB5.out.trans (hb6.mono HB5.out.size))
  have HX6 := Lib.hid (HX5.out.of (hb6.block _ HX5.out.lt))
  clear hb6 HB5 HX5 k0 k1 k2 k3 k4 k5 k6 k7 k8
  have k0 := HX6.out.cell 0
  have k1 := HX6.out.cell 1
  have k2 := HX6.out.cell 2
  have k3 := HX6.out.cell 3
  have k4 := HX6.out.cell 4
  have k5 := HX6.out.cell 5
  have k6 := HX6.out.cell 6
  have k7 := HX6.out.cell 7
  have k8 := HX6.out.cell 8
  go_wp2_with fail
  refine (HWD.out _).mono ?_
  rintro e w7 ⟨rfl, hb7⟩
  have HB7 := Lib.hid (HB6.out.trans (hb7.mono HB6.out.size))
  have HX7 := Lib.hid (HX6.out.of (hb7.block _ HX6.out.lt))
  clear hb7 HB6 HX6 k0 k1 k2 k3 k4 k5 k6 k7 k8
  have k0 := HX7.out.cell 0
  have k1 := HX7.out.cell 1
  have k2 := HX7.out.cell 2
  have k3 := HX7.out.cell 3
  have k4 := HX7.out.cell 4
  have k5 := HX7.out.cell 5
  have k6 := HX7.out.cell 6
  have k7 := HX7.out.cell 7
  have k8 := HX7.out.cell 8
  go_wp2_with fail
  refine (HST.out _).mono ?_
  rintro e w8 ⟨rfl, hb8⟩
  have HB8 := Lib.hid (HB7.out.trans (hb8.mono HB7.out.size))
  have HX8 := Lib.hid (HX7.out.of (hb8.block _ HX7.out.lt))
  clear hb8 HB7 HX7 k0 k1 k2 k3 k4 k5 k6 k7 k8
  have e9 := hq w8
  go_wp2_with fail
  go_ret
  exact ⟨rfl, HB8.out⟩
set_option linter.unusedSimpArgs false in
set_option maxRecDepth 100000 in
set_option maxHeartbeats 8000000 in
theorem fits_ok (c : Cfg) (n : Int) (w : World) (hT : Rg c.T) (hg : ErrType w) (h : Fst c 7) : Calls Tryd.prog 4 #[.agg c.a, .int .i64 n] w fun e w' => e = .returned (.bool true) ∧ Below w.heap.size w w' := by
  have hok := h.okC
  have hK := hok.K
  have hP := hok.P
  have hA := hok.A
  have hB := hok.B
  have hTT := hok.T
  have hV := hok.V
  obtain ⟨n1, hn1⟩ : ∃ n1, max 0 (min n 1000) = n1 := ⟨_, rfl⟩
  have hn0 : 0 ≤ n1 ∧ n1 ≤ 1000 := by omega
  have hRg : Rg (nB c) := by rw [hok.nB]; have h1 := rd_pos (2 * c.T + c.A + c.B); have h2 := rd_hi (2 * c.T + c.A + c.B); unfold Rg; omega
  have hlow : 2 * c.T + c.A + c.B ≤ nB c := by rw [hok.nB]; exact (rd_mid _ (by omega) (by omega)).1
  have hr3 : c.A + c.B ≤ rd (c.A + c.B) := (rd_mid _ (by omega) (by omega)).1
  have HWY := Lib.hid (fun W (hg : ErrType W) => (why_any c W hT hg).mono fun e w' hw => why_is h hw)
  have hlen : (szC c).length = (szI (nB c) c.S c.H c.V).length + 3 := rfl
  have hle := szI_len hok.st
  have HSZ := Lib.hid (fun W => (csz_ok c W hT h).mono fun e w' hw => hw.sn (by omega))
  have HCE := Lib.hid (fun W => ccells_ok c W hT h)
  have HST := Lib.hid (fun W => cst_ok c W hT h)
  have HAC := Lib.hid (fun W => cacc_ok c W hT h)
  have HW1 := Lib.hid (fun W => cwd_ok c (n1 + 1) W hT h)
  have HW0 := Lib.hid (fun W => cwd_ok c n1 W hT h)
  have HWZ : Hid (∀ W, Calls Tryd.prog 22 #[.agg c.a, .int .i64 0] W fun e w' => e = .returned (.int .i64 4) ∧ Below W.heap.size W w') := Lib.hid (fun W => by
    have e : wdC c 0 = 4 := by unfold wdC; rw [cntN_is (by decide) (by decide)]; simp
    have := cwd_ok c 0 W hT h
    rw [e] at this
    exact this)
  have HRT : Hid (∀ W, Calls Tryd.prog 24 #[.agg #[.int .i64 (nB c), .int .i64 c.S, .int .i64 c.H, .int .i64 c.V]] W fun e w' => e = .returned (.bool true) ∧ Below W.heap.size W w') := Lib.hid (fun W => by
    have := sright_any (nB c) c.S c.H c.V W hRg
    rw [hok.st] at this
    exact this)
  have HSW : Hid (∀ W, Calls Tryd.prog 25 #[.agg #[.int .i64 (nB c), .int .i64 c.S, .int .i64 c.H, .int .i64 c.V]] W fun e w' => e = .returned (.int .i64 (2 * c.V)) ∧ Below W.heap.size W w') := Lib.hid (fun W => by
    have := swords_any (nB c) c.S c.H c.V W hRg
    rw [if_pos hok.st] at this
    exact this)
  have HSS := Lib.hid (fun W => (ssizes_any (nB c) c.S c.H c.V W hRg).mono fun e w' hw => hw.sl)
  have HEM : Hid (∀ W, Calls Tryd.prog 27 #[.agg #[.int .i64 0, .int .i64 0, .int .i64 0, .int .i64 0]] W (SlPost W 0 (fun j => ([] : List Int).getD j 0))) := Lib.hid (fun W => (rssizes_no 0 0 0 0 W (by decide)).mono fun e w' hw => hw.sl)
  have HZB := Lib.hid (szC_in hok)
  have x1r := wdC_in hok (k := n1 + 1) (by omega) (by omega)
  have x0r := wdC_in hok (k := n1) (by omega) (by omega)
  have HSTEP := Lib.hid (wdC_step hok hn0.1 hn0.2)
  have hz0 : (szC c).getD 0 0 = 1 := rfl
  have hz1 : (szC c).getD 1 0 = c.P := rfl
  have hz2 : (szC c).getD 2 0 = rd (c.A + c.B) := rfl
  have HZ3 : Hid (∀ j, (szC c).getD (3 + j) 0 = (szI (nB c) c.S c.H c.V).getD j 0) := Lib.hid (fun j => by rw [Nat.add_comm]; rfl)
  have e0 : nmA 7 = ⟨#[]⟩ := rfl
  have e1 : ftE c 7 = 0 := rfl
  rw [e0, e1] at HWY
  unfold SnPost at HSZ
  unfold SlPost at HSS HEM
  rw [hlen] at HSZ HZB
  obtain ⟨z, hz⟩ : ∃ z : Nat → Int, (fun j => (szC c).getD j 0) = z := ⟨_, rfl⟩
  have hzj : ∀ j, (szC c).getD j 0 = z j := fun j => by rw [← hz]
  rw [hz] at HSZ
  rw [hzj] at hz0 hz1 hz2
  simp only [hzj] at HZB HZ3
  obtain ⟨z3, hz3⟩ : ∃ z3 : Nat → Int, (fun j => (szI (nB c) c.S c.H c.V).getD j 0) = z3 := ⟨_, rfl⟩
  have hzk : ∀ j, (szI (nB c) c.S c.H c.V).getD j 0 = z3 j := fun j => by rw [← hz3]
  rw [hz3] at HSS
  simp only [hzk] at HZ3
  generalize (szI (nB c) c.S c.H c.V).length = m3 at *
  obtain ⟨m, hm⟩ : ∃ m, m3 + 3 = m := ⟨_, rfl⟩
  rw [hm] at HSZ HZB
  have hm7 : 7 ≤ m := by omega
  have hm16 : m ≤ 16 := by omega
  generalize wdC c (n1 + 1) = x1 at *
  generalize wdC c n1 = x0 at *
  generalize rd (c.A + c.B) = R3 at *
  generalize nB c = N at *
  have HQ : Hid (Int.tmod (n1 + 1) c.B = (n1 + 1) % c.B) := Lib.hid (Int.tmod_eq_emod_of_nonneg (by omega))
  have hb0 : c.B ≠ 0 := by omega
  clear hok h hT e0 e1 hlen hz hzj hz3 hzk hle hRg
  obtain ⟨A, B, K, P, T, S, H, V, O⟩ := c
  simp only [Cfg.a] at *
  have HG0 := Lib.hid hg
  clear hg
  obtain ⟨p, hp⟩ : ∃ p, w.heap.size = p := ⟨_, rfl⟩
  obtain ⟨w2, hw2⟩ : ∃ w2, w.alloc (.cells #[.int .i64 A, .int .i64 B, .int .i64 K, .int .i64 P, .int .i64 T, .int .i64 S, .int .i64 H, .int .i64 V, .int .i64 O] 23) = w2 := ⟨_, rfl⟩
  have hx : Box w2 p 23 #[.int .i64 A, .int .i64 B, .int .i64 K, .int .i64 P, .int .i64 T, .int .i64 S, .int .i64 H, .int .i64 V, .int .i64 O] := by rw [← hw2, ← hp]; exact Box.new w _ _
  have HB := Lib.hid (show Below w.heap.size w w2 by rw [← hw2]; exact (Below.refl _ w).alloc (Nat.le_refl _) _)
  have HX := Lib.hid hx
  have HPP := Lib.hid hp
  have HWW := Lib.hid hw2
  have k0 := hx.cell 0
  have k1 := hx.cell 1
  have k2 := hx.cell 2
  have k3 := hx.cell 3
  have k4 := hx.cell 4
  have k5 := hx.cell 5
  have k6 := hx.cell 6
  have k7 := hx.cell 7
  have k8 := hx.cell 8
  clear hx hp hw2
  have HG := Lib.hid (HG0.out.below (show Below w.heap.size w w2 from HB.out))
  go_enter Tryd.func4, Tryd.ntmps4
  go_upto_region 1 with fail
  rw [HPP.out, HWW.out]
  go_wp2_with fail
  refine (shown_any _ HG.out).mono ?_
  rintro e w3 ⟨rfl, hb3⟩
  have HG3 := Lib.hid (HG.out.below hb3)
  have HB3 := Lib.hid (HB.out.trans (hb3.mono HB.out.size))
  have HX3 := Lib.hid (HX.out.of (hb3.block _ HX.out.lt))
  clear hb3 HG HB HX HWW k0 k1 k2 k3 k4 k5 k6 k7 k8
  have k0 := HX3.out.cell 0
  have k1 := HX3.out.cell 1
  have k2 := HX3.out.cell 2
  have k3 := HX3.out.cell 3
  have k4 := HX3.out.cell 4
  have k5 := HX3.out.cell 5
  have k6 := HX3.out.cell 6
  have k7 := HX3.out.cell 7
  have k8 := HX3.out.cell 8
  go_wp2_with fail
  refine (HWY.out _ HG3.out).mono ?_
  rintro e w4 ⟨rfl, hb4⟩
  have HB4 := Lib.hid (HB3.out.trans (hb4.mono HB3.out.size))
  have HX4 := Lib.hid (HX3.out.of (hb4.block _ HX3.out.lt))
  clear hb4 HG3 HB3 HX3 k0 k1 k2 k3 k4 k5 k6 k7 k8
  have k0 := HX4.out.cell 0
  have k1 := HX4.out.cell 1
  have k2 := HX4.out.cell 2
  have k3 := HX4.out.cell 3
  have k4 := HX4.out.cell 4
  have k5 := HX4.out.cell 5
  have k6 := HX4.out.cell 6
  have k7 := HX4.out.cell 7
  have k8 := HX4.out.cell 8
  go_wp2_with fail
  refine (HSZ.out _).mono ?_
  rintro e w5 ⟨g1, cap1, rfl, hcap, hr, hb5⟩
  have HB5 := Lib.hid (HB4.out.trans (hb5.mono HB4.out.size))
  have HX5 := Lib.hid (HX4.out.of (hb5.block _ HX4.out.lt))
  obtain ⟨b1, hb1⟩ : ∃ b1, w4.heap.size = b1 := ⟨_, rfl⟩
  rw [hb1] at hr
  have HR5 := Lib.hid hr
  clear hb5 hr hb1 HB4 HX4 k0 k1 k2 k3 k4 k5 k6 k7 k8
  have k0 := HX5.out.cell 0
  have k1 := HX5.out.cell 1
  have k2 := HX5.out.cell 2
  have k3 := HX5.out.cell 3
  have k4 := HX5.out.cell 4
  have k5 := HX5.out.cell 5
  have k6 := HX5.out.cell 6
  have k7 := HX5.out.cell 7
  have k8 := HX5.out.cell 8
  go_wp2_with fail
  refine (HST.out _).mono ?_
  rintro e w6 ⟨rfl, hb6⟩
  have HB6 := Lib.hid (HB5.out.trans (hb6.mono HB5.out.size))
  have HX6 := Lib.hid (HX5.out.of (hb6.block _ HX5.out.lt))
  have HR6 := Lib.hid (HR5.out.below hb6 (Nat.le_refl _))
  clear hb6 HB5 HX5 HR5 k0 k1 k2 k3 k4 k5 k6 k7 k8
  go_upto_region 7 with fail
  obtain ⟨q, hqq⟩ : ∃ q, w6.heap.size = q := ⟨_, rfl⟩
  obtain ⟨w7, hw7⟩ : ∃ w9, w6.alloc (.cells #[.int .i64 N, .int .i64 S, .int .i64 H, .int .i64 V] 32) = w9 := ⟨_, rfl⟩
  have HB7 := Lib.hid (show Below w.heap.size w w7 by rw [← hw7]; exact HB6.out.alloc HB6.out.size _)
  have HX7 := Lib.hid (show Box w7 p 23 #[.int .i64 A, .int .i64 B, .int .i64 K, .int .i64 P, .int .i64 T, .int .i64 S, .int .i64 H, .int .i64 V, .int .i64 O] by rw [← hw7]; exact HX6.out.alloc _)
  have HY7 := Lib.hid (show Box w7 q 32 #[.int .i64 N, .int .i64 S, .int .i64 H, .int .i64 V] by rw [← hw7, ← hqq]; exact Box.new w6 _ _)
  have HR7 := Lib.hid (show Ir w7 b1 g1 m z by rw [← hw7]; exact HR6.out.alloc _)
  simp only [hqq, hw7]
  clear hqq hw7 HB6 HX6 HR6
  go_upto_region 7 with fail
  refine held_s (S := fun w' => Box w' p 23 #[.int .i64 A, .int .i64 B, .int .i64 K, .int .i64 P, .int .i64 T, .int .i64 S, .int .i64 H, .int .i64 V, .int .i64 O] ∧ Box w' q 32 #[.int .i64 N, .int .i64 S, .int .i64 H, .int .i64 V] ∧ Ir w' b1 g1 m z ∧ Below w.heap.size w w') 49 rfl (by kernel_rfl) ⟨HX7.out.drewN 1, HY7.out.drewN 1, HR7.out.drewN 1, HB7.out.trans ((Below.refl _ _).drew)⟩ (fun hHeld => ?_)
  clear HX7 HY7 HR7 HB7
  simp only [Array.replicate_succ, Array.replicate_zero, List.push_toArray, List.nil_append, List.cons_append]
  generalize w7.drew = w8 at *
  refine wpAnyH_take (i := 0) (oi := ⟨some 54, _, _, _, _, _⟩) (v := (.agg #[.int .i64 N, .int .i64 S, .int .i64 H, .int .i64 V])) rfl (by kernel_rfl) (by kernel_rfl) (by kernel_rfl) (fun _ _ _ h => h) (Or.inl ⟨by rfl, fun w' hw => by (have y0 := hw.2.1.cell 0; have y1 := hw.2.1.cell 1; have y2 := hw.2.1.cell 2; have y3 := hw.2.1.cell 3; go_simp)⟩) hHeld ?_
  try simp only [Act.put, List.setIfInBounds_toArray, List.set_cons_zero, List.set_cons_succ]
  refine one_ready 1 rfl (by kernel_rfl) (fun K9 hK => ?_)
  go_simp
  refine (HRT.out _).mono ?_
  rintro e w9 ⟨rfl, hb9⟩
  refine hK.out _ _ ⟨hHeld.1.of (hb9.block _ hHeld.1.lt), hHeld.2.1.of (hb9.block _ hHeld.2.1.lt), hHeld.2.2.1.below hb9 (Nat.le_refl _), hHeld.2.2.2.trans (hb9.mono hHeld.2.2.2.size)⟩ (fun hHeld => ?_)
  clear hK K9 hb9
  try simp only [List.setIfInBounds_toArray, List.set_cons_zero, List.set_cons_succ]
  refine wpAnyH_take (i := 2) (oi := ⟨some 56, _, _, _, _, _⟩) (v := (.bool false)) rfl (by kernel_rfl) (by kernel_rfl) (by kernel_rfl) (fun _ _ _ h => h) (Or.inl ⟨by rfl, fun w' hw => by go_simp⟩) hHeld ?_
  try simp only [Act.put, List.setIfInBounds_toArray, List.set_cons_zero, List.set_cons_succ]
  refine wpAnyH_take (i := 3) (oi := ⟨some 57, _, _, _, _, _⟩) (v := (.bool false)) rfl (by kernel_rfl) (by kernel_rfl) (by kernel_rfl) (fun _ _ _ h => h) (Or.inl ⟨by rfl, fun w' hw => by go_simp⟩) hHeld ?_
  try simp only [Act.put, List.setIfInBounds_toArray, List.set_cons_zero, List.set_cons_succ]
  refine wpAnyH_take (i := 4) (oi := ⟨some 58, _, _, _, _, _⟩) (v := (.pointer (some ⟨q, 0, none⟩))) rfl (by kernel_rfl) (by kernel_rfl) (by kernel_rfl) (fun _ _ _ h => h) (Or.inl ⟨by rfl, fun w' hw => by go_simp⟩) hHeld ?_
  try simp only [Act.put, List.setIfInBounds_toArray, List.set_cons_zero, List.set_cons_succ]
  refine wpAnyH_take (i := 5) (oi := ⟨some 59, _, _, _, _, _⟩) (v := (.int .i64 N)) rfl (by kernel_rfl) (by kernel_rfl) (by kernel_rfl) (fun _ _ _ h => h) (Or.inl ⟨by rfl, fun w' hw => by (have y := hw.2.1.cell 0; go_simp)⟩) hHeld ?_
  try simp only [Act.put, List.setIfInBounds_toArray, List.set_cons_zero, List.set_cons_succ]
  refine wpAnyH_take (i := 6) (oi := ⟨some 60, _, _, _, _, _⟩) (v := (.pointer (some ⟨p, 4, none⟩))) rfl (by kernel_rfl) (by kernel_rfl) (by kernel_rfl) (fun _ _ _ h => h) (Or.inl ⟨by rfl, fun w' hw => by go_simp⟩) hHeld ?_
  try simp only [Act.put, List.setIfInBounds_toArray, List.set_cons_zero, List.set_cons_succ]
  refine wpAnyH_take (i := 7) (oi := ⟨some 61, _, _, _, _, _⟩) (v := (.int .i64 T)) rfl (by kernel_rfl) (by kernel_rfl) (by kernel_rfl) (fun _ _ _ h => h) (Or.inl ⟨by rfl, fun w' hw => by (have y := hw.1.cell 4; go_simp)⟩) hHeld ?_
  try simp only [Act.put, List.setIfInBounds_toArray, List.set_cons_zero, List.set_cons_succ]
  refine wpAnyH_take (i := 8) (oi := ⟨some 62, _, _, _, _, _⟩) (v := (.int .i64 (2 * T))) rfl (by kernel_rfl) (by kernel_rfl) (by kernel_rfl) (fun _ _ _ h => h) (Or.inl ⟨by rfl, fun w' hw => by (go_simp; rw [IntKind.wrap_i64]; omega)⟩) hHeld ?_
  try simp only [Act.put, List.setIfInBounds_toArray, List.set_cons_zero, List.set_cons_succ]
  refine wpAnyH_take (i := 9) (oi := ⟨some 63, _, _, _, _, _⟩) (v := (.pointer (some ⟨p, 0, none⟩))) rfl (by kernel_rfl) (by kernel_rfl) (by kernel_rfl) (fun _ _ _ h => h) (Or.inl ⟨by rfl, fun w' hw => by go_simp⟩) hHeld ?_
  try simp only [Act.put, List.setIfInBounds_toArray, List.set_cons_zero, List.set_cons_succ]
  refine wpAnyH_take (i := 10) (oi := ⟨some 64, _, _, _, _, _⟩) (v := (.int .i64 A)) rfl (by kernel_rfl) (by kernel_rfl) (by kernel_rfl) (fun _ _ _ h => h) (Or.inl ⟨by rfl, fun w' hw => by (have y := hw.1.cell 0; go_simp)⟩) hHeld ?_
  try simp only [Act.put, List.setIfInBounds_toArray, List.set_cons_zero, List.set_cons_succ]
  refine wpAnyH_take (i := 11) (oi := ⟨some 65, _, _, _, _, _⟩) (v := (.int .i64 (2 * T + A))) rfl (by kernel_rfl) (by kernel_rfl) (by kernel_rfl) (fun _ _ _ h => h) (Or.inl ⟨by rfl, fun w' hw => by (go_simp; rw [IntKind.wrap_i64]; omega)⟩) hHeld ?_
  try simp only [Act.put, List.setIfInBounds_toArray, List.set_cons_zero, List.set_cons_succ]
  refine wpAnyH_take (i := 12) (oi := ⟨some 66, _, _, _, _, _⟩) (v := (.pointer (some ⟨p, 1, none⟩))) rfl (by kernel_rfl) (by kernel_rfl) (by kernel_rfl) (fun _ _ _ h => h) (Or.inl ⟨by rfl, fun w' hw => by go_simp⟩) hHeld ?_
  try simp only [Act.put, List.setIfInBounds_toArray, List.set_cons_zero, List.set_cons_succ]
  refine wpAnyH_take (i := 13) (oi := ⟨some 67, _, _, _, _, _⟩) (v := (.int .i64 B)) rfl (by kernel_rfl) (by kernel_rfl) (by kernel_rfl) (fun _ _ _ h => h) (Or.inl ⟨by rfl, fun w' hw => by (have y := hw.1.cell 1; go_simp)⟩) hHeld ?_
  try simp only [Act.put, List.setIfInBounds_toArray, List.set_cons_zero, List.set_cons_succ]
  refine wpAnyH_take (i := 14) (oi := ⟨some 68, _, _, _, _, _⟩) (v := (.int .i64 (2 * T + A + B))) rfl (by kernel_rfl) (by kernel_rfl) (by kernel_rfl) (fun _ _ _ h => h) (Or.inl ⟨by rfl, fun w' hw => by (go_simp; rw [IntKind.wrap_i64]; omega)⟩) hHeld ?_
  try simp only [Act.put, List.setIfInBounds_toArray, List.set_cons_zero, List.set_cons_succ]
  refine wpAnyH_take (i := 15) (oi := ⟨some 69, _, _, _, _, _⟩) (v := (.bool false)) rfl (by kernel_rfl) (by kernel_rfl) (by kernel_rfl) (fun _ _ _ h => h) (Or.inl ⟨by rfl, fun w' hw => by (have e9 : ¬ (N < 2 * T + A + B) := (by omega); go_simp)⟩) hHeld ?_
  try simp only [Act.put, List.setIfInBounds_toArray, List.set_cons_zero, List.set_cons_succ]
  refine wpAnyH_take (i := 16) (oi := ⟨some 70, _, _, _, _, _⟩) (v := (.bool false)) rfl (by kernel_rfl) (by kernel_rfl) (by kernel_rfl) (fun _ _ _ h => h) (Or.inl ⟨by rfl, fun w' hw => by go_simp⟩) hHeld ?_
  try simp only [Act.put, List.setIfInBounds_toArray, List.set_cons_zero, List.set_cons_succ]
  refine wpAnyH_take (i := 17) (oi := ⟨some 71, _, _, _, _, _⟩) (v := (.bool false)) rfl (by kernel_rfl) (by kernel_rfl) (by kernel_rfl) (fun _ _ _ h => h) (Or.inl ⟨by rfl, fun w' hw => by go_simp⟩) hHeld ?_
  try simp only [Act.put, List.setIfInBounds_toArray, List.set_cons_zero, List.set_cons_succ]
  refine wpAnyH_take (i := 18) (oi := ⟨some 72, _, _, _, _, _⟩) (v := (.slice (some ⟨g1, 0, none⟩) m cap1)) rfl (by kernel_rfl) (by kernel_rfl) (by kernel_rfl) (fun _ _ _ h => h) (Or.inl ⟨by rfl, fun w' hw => by go_simp⟩) hHeld ?_
  try simp only [Act.put, List.setIfInBounds_toArray, List.set_cons_zero, List.set_cons_succ]
  refine wpAnyH_take (i := 19) (oi := ⟨some 73, _, _, _, _, _⟩) (v := (.int .i64 m)) rfl (by kernel_rfl) (by kernel_rfl) (by kernel_rfl) (fun _ _ _ h => h) (Or.inl ⟨by rfl, fun w' hw => by go_simp⟩) hHeld ?_
  try simp only [Act.put, List.setIfInBounds_toArray, List.set_cons_zero, List.set_cons_succ]
  refine wpAnyH_take (i := 20) (oi := ⟨some 74, _, _, _, _, _⟩) (v := (.bool false)) rfl (by kernel_rfl) (by kernel_rfl) (by kernel_rfl) (fun _ _ _ h => h) (Or.inl ⟨by rfl, fun w' hw => by (have e9 : ¬ ((m : Int) < 7) := (by omega); go_simp)⟩) hHeld ?_
  try simp only [Act.put, List.setIfInBounds_toArray, List.set_cons_zero, List.set_cons_succ]
  refine wpAnyH_take (i := 21) (oi := ⟨some 75, _, _, _, _, _⟩) (v := (.bool false)) rfl (by kernel_rfl) (by kernel_rfl) (by kernel_rfl) (fun _ _ _ h => h) (Or.inl ⟨by rfl, fun w' hw => by go_simp⟩) hHeld ?_
  try simp only [Act.put, List.setIfInBounds_toArray, List.set_cons_zero, List.set_cons_succ]
  refine wpAnyH_take (i := 22) (oi := ⟨some 76, _, _, _, _, _⟩) (v := (.bool false)) rfl (by kernel_rfl) (by kernel_rfl) (by kernel_rfl) (fun _ _ _ h => h) (Or.inl ⟨by rfl, fun w' hw => by go_simp⟩) hHeld ?_
  try simp only [Act.put, List.setIfInBounds_toArray, List.set_cons_zero, List.set_cons_succ]
  refine wpAnyH_take (i := 23) (oi := ⟨some 77, _, _, _, _, _⟩) (v := (.slice (some ⟨g1, 0, none⟩) m cap1)) rfl (by kernel_rfl) (by kernel_rfl) (by kernel_rfl) (fun _ _ _ h => h) (Or.inl ⟨by rfl, fun w' hw => by go_simp⟩) hHeld ?_
  try simp only [Act.put, List.setIfInBounds_toArray, List.set_cons_zero, List.set_cons_succ]
  refine wpAnyH_take (i := 24) (oi := ⟨some 78, _, _, _, _, _⟩) (v := (.int .i64 m)) rfl (by kernel_rfl) (by kernel_rfl) (by kernel_rfl) (fun _ _ _ h => h) (Or.inl ⟨by rfl, fun w' hw => by go_simp⟩) hHeld ?_
  try simp only [Act.put, List.setIfInBounds_toArray, List.set_cons_zero, List.set_cons_succ]
  refine wpAnyH_take (i := 25) (oi := ⟨some 79, _, _, _, _, _⟩) (v := (.bool false)) rfl (by kernel_rfl) (by kernel_rfl) (by kernel_rfl) (fun _ _ _ h => h) (Or.inl ⟨by rfl, fun w' hw => by (have e9 : ¬ ((16 : Int) < m) := (by omega); go_simp)⟩) hHeld ?_
  try simp only [Act.put, List.setIfInBounds_toArray, List.set_cons_zero, List.set_cons_succ]
  refine wpAnyH_take (i := 26) (oi := ⟨some 80, _, _, _, _, _⟩) (v := (.bool false)) rfl (by kernel_rfl) (by kernel_rfl) (by kernel_rfl) (fun _ _ _ h => h) (Or.inl ⟨by rfl, fun w' hw => by go_simp⟩) hHeld ?_
  try simp only [Act.put, List.setIfInBounds_toArray, List.set_cons_zero, List.set_cons_succ]
  refine wpAnyH_take (i := 27) (oi := ⟨some 81, _, _, _, _, _⟩) (v := (.bool false)) rfl (by kernel_rfl) (by kernel_rfl) (by kernel_rfl) (fun _ _ _ h => h) (Or.inl ⟨by rfl, fun w' hw => by go_simp⟩) hHeld ?_
  try simp only [Act.put, List.setIfInBounds_toArray, List.set_cons_zero, List.set_cons_succ]
  refine wpAnyH_take (i := 28) (oi := ⟨some 82, _, _, _, _, _⟩) (v := (.slice (some ⟨g1, 0, none⟩) m cap1)) rfl (by kernel_rfl) (by kernel_rfl) (by kernel_rfl) (fun _ _ _ h => h) (Or.inl ⟨by rfl, fun w' hw => by go_simp⟩) hHeld ?_
  try simp only [Act.put, List.setIfInBounds_toArray, List.set_cons_zero, List.set_cons_succ]
  refine wpAnyH_take (i := 29) (oi := ⟨some 83, _, _, _, _, _⟩) (v := (.pointer (some ⟨g1, 0, none⟩))) rfl (by kernel_rfl) (by kernel_rfl) (by kernel_rfl) (fun _ _ _ h => h) (Or.inl ⟨by rfl, fun w' hw => by (go_simp; intro h9; omega)⟩) hHeld ?_
  try simp only [Act.put, List.setIfInBounds_toArray, List.set_cons_zero, List.set_cons_succ]
  refine wpAnyH_take (i := 30) (oi := ⟨some 84, _, _, _, _, _⟩) (v := (.int .i64 1)) rfl (by kernel_rfl) (by kernel_rfl) (by kernel_rfl) (fun _ _ _ h => h) (Or.inl ⟨by rfl, fun w' hw => by (have y := hw.2.2.1.cell 0 (by omega); rw [hz0] at y; go_simp)⟩) hHeld ?_
  try simp only [Act.put, List.setIfInBounds_toArray, List.set_cons_zero, List.set_cons_succ]
  refine wpAnyH_take (i := 31) (oi := ⟨some 85, _, _, _, _, _⟩) (v := (.bool false)) rfl (by kernel_rfl) (by kernel_rfl) (by kernel_rfl) (fun _ _ _ h => h) (Or.inl ⟨by rfl, fun w' hw => by go_simp⟩) hHeld ?_
  try simp only [Act.put, List.setIfInBounds_toArray, List.set_cons_zero, List.set_cons_succ]
  refine wpAnyH_take (i := 32) (oi := ⟨some 86, _, _, _, _, _⟩) (v := (.bool false)) rfl (by kernel_rfl) (by kernel_rfl) (by kernel_rfl) (fun _ _ _ h => h) (Or.inl ⟨by rfl, fun w' hw => by go_simp⟩) hHeld ?_
  try simp only [Act.put, List.setIfInBounds_toArray, List.set_cons_zero, List.set_cons_succ]
  refine wpAnyH_take (i := 33) (oi := ⟨some 87, _, _, _, _, _⟩) (v := (.bool false)) rfl (by kernel_rfl) (by kernel_rfl) (by kernel_rfl) (fun _ _ _ h => h) (Or.inl ⟨by rfl, fun w' hw => by go_simp⟩) hHeld ?_
  try simp only [Act.put, List.setIfInBounds_toArray, List.set_cons_zero, List.set_cons_succ]
  refine wpAnyH_take (i := 34) (oi := ⟨some 88, _, _, _, _, _⟩) (v := (.slice (some ⟨g1, 0, none⟩) m cap1)) rfl (by kernel_rfl) (by kernel_rfl) (by kernel_rfl) (fun _ _ _ h => h) (Or.inl ⟨by rfl, fun w' hw => by go_simp⟩) hHeld ?_
  try simp only [Act.put, List.setIfInBounds_toArray, List.set_cons_zero, List.set_cons_succ]
  refine wpAnyH_take (i := 35) (oi := ⟨some 89, _, _, _, _, _⟩) (v := (.pointer (some ⟨g1, 1, none⟩))) rfl (by kernel_rfl) (by kernel_rfl) (by kernel_rfl) (fun _ _ _ h => h) (Or.inl ⟨by rfl, fun w' hw => by (have e9 : (1 : Int) < m := (by omega); go_simp)⟩) hHeld ?_
  try simp only [Act.put, List.setIfInBounds_toArray, List.set_cons_zero, List.set_cons_succ]
  refine wpAnyH_take (i := 36) (oi := ⟨some 90, _, _, _, _, _⟩) (v := (.int .i64 P)) rfl (by kernel_rfl) (by kernel_rfl) (by kernel_rfl) (fun _ _ _ h => h) (Or.inl ⟨by rfl, fun w' hw => by (have y := hw.2.2.1.cell 1 (by omega); rw [hz1] at y; go_simp)⟩) hHeld ?_
  try simp only [Act.put, List.setIfInBounds_toArray, List.set_cons_zero, List.set_cons_succ]
  refine wpAnyH_take (i := 37) (oi := ⟨some 91, _, _, _, _, _⟩) (v := (.pointer (some ⟨p, 3, none⟩))) rfl (by kernel_rfl) (by kernel_rfl) (by kernel_rfl) (fun _ _ _ h => h) (Or.inl ⟨by rfl, fun w' hw => by go_simp⟩) hHeld ?_
  try simp only [Act.put, List.setIfInBounds_toArray, List.set_cons_zero, List.set_cons_succ]
  refine wpAnyH_take (i := 38) (oi := ⟨some 92, _, _, _, _, _⟩) (v := (.int .i64 P)) rfl (by kernel_rfl) (by kernel_rfl) (by kernel_rfl) (fun _ _ _ h => h) (Or.inl ⟨by rfl, fun w' hw => by (have y := hw.1.cell 3; go_simp)⟩) hHeld ?_
  try simp only [Act.put, List.setIfInBounds_toArray, List.set_cons_zero, List.set_cons_succ]
  refine wpAnyH_take (i := 39) (oi := ⟨some 93, _, _, _, _, _⟩) (v := (.bool false)) rfl (by kernel_rfl) (by kernel_rfl) (by kernel_rfl) (fun _ _ _ h => h) (Or.inl ⟨by rfl, fun w' hw => by go_simp⟩) hHeld ?_
  try simp only [Act.put, List.setIfInBounds_toArray, List.set_cons_zero, List.set_cons_succ]
  refine wpAnyH_take (i := 40) (oi := ⟨some 94, _, _, _, _, _⟩) (v := (.bool false)) rfl (by kernel_rfl) (by kernel_rfl) (by kernel_rfl) (fun _ _ _ h => h) (Or.inl ⟨by rfl, fun w' hw => by go_simp⟩) hHeld ?_
  try simp only [Act.put, List.setIfInBounds_toArray, List.set_cons_zero, List.set_cons_succ]
  refine wpAnyH_take (i := 41) (oi := ⟨some 95, _, _, _, _, _⟩) (v := (.bool false)) rfl (by kernel_rfl) (by kernel_rfl) (by kernel_rfl) (fun _ _ _ h => h) (Or.inl ⟨by rfl, fun w' hw => by go_simp⟩) hHeld ?_
  try simp only [Act.put, List.setIfInBounds_toArray, List.set_cons_zero, List.set_cons_succ]
  refine wpAnyH_take (i := 42) (oi := ⟨some 96, _, _, _, _, _⟩) (v := (.slice (some ⟨g1, 0, none⟩) m cap1)) rfl (by kernel_rfl) (by kernel_rfl) (by kernel_rfl) (fun _ _ _ h => h) (Or.inl ⟨by rfl, fun w' hw => by go_simp⟩) hHeld ?_
  try simp only [Act.put, List.setIfInBounds_toArray, List.set_cons_zero, List.set_cons_succ]
  refine wpAnyH_take (i := 43) (oi := ⟨some 97, _, _, _, _, _⟩) (v := (.pointer (some ⟨g1, 2, none⟩))) rfl (by kernel_rfl) (by kernel_rfl) (by kernel_rfl) (fun _ _ _ h => h) (Or.inl ⟨by rfl, fun w' hw => by (have e9 : (2 : Int) < m := (by omega); go_simp)⟩) hHeld ?_
  try simp only [Act.put, List.setIfInBounds_toArray, List.set_cons_zero, List.set_cons_succ]
  refine wpAnyH_take (i := 44) (oi := ⟨some 98, _, _, _, _, _⟩) (v := (.int .i64 R3)) rfl (by kernel_rfl) (by kernel_rfl) (by kernel_rfl) (fun _ _ _ h => h) (Or.inl ⟨by rfl, fun w' hw => by (have y := hw.2.2.1.cell 2 (by omega); rw [hz2] at y; go_simp)⟩) hHeld ?_
  try simp only [Act.put, List.setIfInBounds_toArray, List.set_cons_zero, List.set_cons_succ]
  refine wpAnyH_take (i := 45) (oi := ⟨some 99, _, _, _, _, _⟩) (v := (.agg #[.int .i64 A, .int .i64 B, .int .i64 K, .int .i64 P, .int .i64 T, .int .i64 S, .int .i64 H, .int .i64 V, .int .i64 O])) rfl (by kernel_rfl) (by kernel_rfl) (by kernel_rfl) (fun _ _ _ h => h) (Or.inl ⟨by rfl, fun w' hw => by (have y0 := hw.1.cell 0; have y1 := hw.1.cell 1; have y2 := hw.1.cell 2; have y3 := hw.1.cell 3; have y4 := hw.1.cell 4; have y5 := hw.1.cell 5; have y6 := hw.1.cell 6; have y7 := hw.1.cell 7; have y8 := hw.1.cell 8; go_simp)⟩) hHeld ?_
  try simp only [Act.put, List.setIfInBounds_toArray, List.set_cons_zero, List.set_cons_succ]
  refine one_ready 46 rfl (by kernel_rfl) (fun K9 hK => ?_)
  go_simp
  refine (HCE.out _).mono ?_
  rintro e w10 ⟨rfl, hb10⟩
  refine hK.out _ _ ⟨hHeld.1.of (hb10.block _ hHeld.1.lt), hHeld.2.1.of (hb10.block _ hHeld.2.1.lt), hHeld.2.2.1.below hb10 (Nat.le_refl _), hHeld.2.2.2.trans (hb10.mono hHeld.2.2.2.size)⟩ (fun hHeld => ?_)
  clear hK K9 hb10
  try simp only [List.setIfInBounds_toArray, List.set_cons_zero, List.set_cons_succ]
  refine wpAnyH_take (i := 47) (oi := ⟨some 101, _, _, _, _, _⟩) (v := (.bool false)) rfl (by kernel_rfl) (by kernel_rfl) (by kernel_rfl) (fun _ _ _ h => h) (Or.inl ⟨by rfl, fun w' hw => by (have e9 : ¬ (R3 < A + B) := (by omega); go_simp)⟩) hHeld ?_
  try simp only [Act.put, List.setIfInBounds_toArray, List.set_cons_zero, List.set_cons_succ]
  refine wpAnyH_take (i := 48) (oi := ⟨some 102, _, _, _, _, _⟩) (v := (.bool false)) rfl (by kernel_rfl) (by kernel_rfl) (by kernel_rfl) (fun _ _ _ h => h) (Or.inl ⟨by rfl, fun w' hw => by go_simp⟩) hHeld ?_
  try simp only [Act.put, List.setIfInBounds_toArray, List.set_cons_zero, List.set_cons_succ]
  refine wpAnyH_done (by kernel_rfl) ?_ _
  have HX9 := Lib.hid hHeld.1
  have HY9 := Lib.hid hHeld.2.1
  have HR9 := Lib.hid hHeld.2.2.1
  have HB9 := Lib.hid hHeld.2.2.2
  clear hHeld
  go_wp2_with fail
  go_loopw [10] (fun v wr => ∃ i : Nat, v = .int .i64 i ∧ i ≤ m ∧ ∃ k, wr = w10.drewN k) (fun v _ => m - (intOf v).toNat)
  case atStart => exact ⟨0, rfl, by omega, 0, rfl⟩
  case round =>
    obtain ⟨i, rfl, hle, hwk⟩ := hrel
    have HWK := Lib.hid hwk
    obtain ⟨k, hk⟩ := hwk
    by_cases hlt : i < m
    · have HRr : Ir wr b1 g1 m z := by rw [hk]; exact HR9.out.drewN k
      have c1 := HRr.cell i hlt
      obtain ⟨u1, u2⟩ := HZB.out i hlt
      obtain ⟨u, hu⟩ : ∃ u, z i = u := ⟨_, rfl⟩
      rw [hu] at c1 u1 u2
      clear HRr hk hu
      go_wp2_with fail
      go_roundw
      case rel =>
        obtain ⟨k, hk⟩ := HWK.out
        exact ⟨i + 1, by go_num, by omega, k, hk⟩
      case measure => simp [intOf]; omega
    · have HXr := Lib.hid (show Box wr p 23 #[.int .i64 A, .int .i64 B, .int .i64 K, .int .i64 P, .int .i64 T, .int .i64 S, .int .i64 H, .int .i64 V, .int .i64 O] by rw [hk]; exact HX9.out.drewN k)
      have HYr := Lib.hid (show Box wr q 32 #[.int .i64 N, .int .i64 S, .int .i64 H, .int .i64 V] by rw [hk]; exact HY9.out.drewN k)
      have HRr := Lib.hid (show Ir wr b1 g1 m z by rw [hk]; exact HR9.out.drewN k)
      have HBr := Lib.hid (show Below w.heap.size w wr by rw [hk]; exact below_drewN HB9.out k)
      clear hk HWK HX9 HY9 HR9 HB9 HPP
      have k0 := HXr.out.cell 0
      have k1 := HXr.out.cell 1
      have k2 := HXr.out.cell 2
      have k3 := HXr.out.cell 3
      have k4 := HXr.out.cell 4
      have k5 := HXr.out.cell 5
      have k6 := HXr.out.cell 6
      have k7 := HXr.out.cell 7
      have k8 := HXr.out.cell 8
      go_wp2_with fail
      refine (HAC.out _).mono ?_
      rintro e w31 ⟨rfl, hb31⟩
      have HX31 := Lib.hid (HXr.out.of (hb31.block _ HXr.out.lt))
      have HY31 := Lib.hid (HYr.out.of (hb31.block _ HYr.out.lt))
      have HR31 := Lib.hid (HRr.out.below hb31 (Nat.le_refl _))
      have HB31 := Lib.hid (HBr.out.trans (hb31.mono HBr.out.size))
      clear hb31 HXr HYr HRr HBr k0 k1 k2 k3 k4 k5 k6 k7 k8
      go_upto_region 16 with fail
      refine held_s (S := fun w' => Box w' p 23 #[.int .i64 A, .int .i64 B, .int .i64 K, .int .i64 P, .int .i64 T, .int .i64 S, .int .i64 H, .int .i64 V, .int .i64 O] ∧ Box w' q 32 #[.int .i64 N, .int .i64 S, .int .i64 H, .int .i64 V] ∧ Ir w' b1 g1 m z ∧ Below w.heap.size w w') 9 rfl (by kernel_rfl) ⟨HX31.out.drewN 1, HY31.out.drewN 1, HR31.out.drewN 1, HB31.out.trans ((Below.refl _ _).drew)⟩ (fun hHeld => ?_)
      clear HX31 HY31 HR31 HB31
      simp only [Array.replicate_succ, Array.replicate_zero, List.push_toArray, List.nil_append, List.cons_append]
      generalize w31.drew = w32 at *
      refine wpAnyH_take (i := 0) (oi := ⟨some 129, _, _, _, _, _⟩) (v := (.agg #[.int .i64 A, .int .i64 B, .int .i64 K, .int .i64 P, .int .i64 T, .int .i64 S, .int .i64 H, .int .i64 V, .int .i64 O])) rfl (by kernel_rfl) (by kernel_rfl) (by kernel_rfl) (fun _ _ _ h => h) (Or.inl ⟨by rfl, fun w' hw => by (have y0 := hw.1.cell 0; have y1 := hw.1.cell 1; have y2 := hw.1.cell 2; have y3 := hw.1.cell 3; have y4 := hw.1.cell 4; have y5 := hw.1.cell 5; have y6 := hw.1.cell 6; have y7 := hw.1.cell 7; have y8 := hw.1.cell 8; go_simp)⟩) hHeld ?_
      try simp only [Act.put, List.setIfInBounds_toArray, List.set_cons_zero, List.set_cons_succ]
      refine wpAnyH_take (i := 1) (oi := ⟨some 130, _, _, _, _, _⟩) (v := (.int .i64 n1)) rfl (by kernel_rfl) (by kernel_rfl) (by kernel_rfl) (fun _ _ _ h => h) (Or.inl ⟨by rfl, fun w' hw => by go_simp⟩) hHeld ?_
      try simp only [Act.put, List.setIfInBounds_toArray, List.set_cons_zero, List.set_cons_succ]
      refine wpAnyH_take (i := 2) (oi := ⟨some 131, _, _, _, _, _⟩) (v := (.int .i64 (n1 + 1))) rfl (by kernel_rfl) (by kernel_rfl) (by kernel_rfl) (fun _ _ _ h => h) (Or.inl ⟨by rfl, fun w' hw => by (go_simp; rw [IntKind.wrap_i64]; omega)⟩) hHeld ?_
      try simp only [Act.put, List.setIfInBounds_toArray, List.set_cons_zero, List.set_cons_succ]
      refine wpAnyH_take (i := 4) (oi := ⟨some 133, _, _, _, _, _⟩) (v := (.agg #[.int .i64 A, .int .i64 B, .int .i64 K, .int .i64 P, .int .i64 T, .int .i64 S, .int .i64 H, .int .i64 V, .int .i64 O])) rfl (by kernel_rfl) (by kernel_rfl) (by kernel_rfl) (fun _ _ _ h => h) (Or.inl ⟨by rfl, fun w' hw => by (have y0 := hw.1.cell 0; have y1 := hw.1.cell 1; have y2 := hw.1.cell 2; have y3 := hw.1.cell 3; have y4 := hw.1.cell 4; have y5 := hw.1.cell 5; have y6 := hw.1.cell 6; have y7 := hw.1.cell 7; have y8 := hw.1.cell 8; go_simp)⟩) hHeld ?_
      try simp only [Act.put, List.setIfInBounds_toArray, List.set_cons_zero, List.set_cons_succ]
      refine wpAnyH_take (i := 5) (oi := ⟨some 134, _, _, _, _, _⟩) (v := (.int .i64 n1)) rfl (by kernel_rfl) (by kernel_rfl) (by kernel_rfl) (fun _ _ _ h => h) (Or.inl ⟨by rfl, fun w' hw => by go_simp⟩) hHeld ?_
      try simp only [Act.put, List.setIfInBounds_toArray, List.set_cons_zero, List.set_cons_succ]
      refine one_ready 3 rfl (by kernel_rfl) (fun K9 hK => ?_)
      go_simp
      refine (HW1.out _).mono ?_
      rintro e w33 ⟨rfl, hb33⟩
      refine hK.out _ _ ⟨hHeld.1.of (hb33.block _ hHeld.1.lt), hHeld.2.1.of (hb33.block _ hHeld.2.1.lt), hHeld.2.2.1.below hb33 (Nat.le_refl _), hHeld.2.2.2.trans (hb33.mono hHeld.2.2.2.size)⟩ (fun hHeld => ?_)
      clear hK K9 hb33
      try simp only [List.setIfInBounds_toArray, List.set_cons_zero, List.set_cons_succ]
      refine one_ready 6 rfl (by kernel_rfl) (fun K9 hK => ?_)
      go_simp
      refine (HW0.out _).mono ?_
      rintro e w34 ⟨rfl, hb34⟩
      refine hK.out _ _ ⟨hHeld.1.of (hb34.block _ hHeld.1.lt), hHeld.2.1.of (hb34.block _ hHeld.2.1.lt), hHeld.2.2.1.below hb34 (Nat.le_refl _), hHeld.2.2.2.trans (hb34.mono hHeld.2.2.2.size)⟩ (fun hHeld => ?_)
      clear hK K9 hb34
      try simp only [List.setIfInBounds_toArray, List.set_cons_zero, List.set_cons_succ]
      refine wpAnyH_take (i := 7) (oi := ⟨some 136, _, _, _, _, _⟩) (v := (.int .i64 (x1 - x0))) rfl (by kernel_rfl) (by kernel_rfl) (by kernel_rfl) (fun _ _ _ h => h) (Or.inl ⟨by rfl, fun w' hw => by (go_simp; rw [IntKind.wrap_i64]; omega)⟩) hHeld ?_
      try simp only [Act.put, List.setIfInBounds_toArray, List.set_cons_zero, List.set_cons_succ]
      refine wpAnyH_take (i := 8) (oi := ⟨some 13, _, _, _, _, _⟩) (v := (.int .i64 (x1 - x0))) rfl (by kernel_rfl) (by kernel_rfl) (by kernel_rfl) (fun _ _ _ h => h) (Or.inl ⟨by rfl, fun w' hw => by go_simp⟩) hHeld ?_
      try simp only [Act.put, List.setIfInBounds_toArray, List.set_cons_zero, List.set_cons_succ]
      refine wpAnyH_done (by kernel_rfl) ?_ _
      have HX40 := Lib.hid hHeld.1
      have HY40 := Lib.hid hHeld.2.1
      have HR40 := Lib.hid hHeld.2.2.1
      have HB40 := Lib.hid hHeld.2.2.2
      clear hHeld
      have k1 := HX40.out.cell 1
      have hrem := HQ.out
      obtain ⟨r, hr⟩ : ∃ r, (n1 + 1) % B = r := ⟨_, rfl⟩
      rw [hr] at hrem
      have HRN : Hid (∀ W, Ir W b1 g1 m z → Nums .i64 W W.heap.size (some ⟨g1, 3, none⟩) m3 z3) := Lib.hid (fun W hI _ => ⟨g1, 3, rfl, hI.lt, fun j hj => by rw [← HZ3.out j]; exact hI.cell (3 + j) (by omega)⟩)
      by_cases h0 : r = 0
      · subst h0
        rw [hr, if_pos rfl] at HSTEP
        go_upto_region 20 with fail
        clear k1
        have HD := Lib.hid (show (x1 - x0 == (2 * K + 5 + (A + 5 * B)) * (2 * V)) = true by rw [HSTEP.out]; exact beq_self_eq_true _)
        have hmul := mul_rng (x := (2 * K + 5 + (A + 5 * B))) (y := 2 * V) (X := 200) (Y := 8) (by omega) (by omega)
        refine held_s (S := fun w' => Box w' p 23 #[.int .i64 A, .int .i64 B, .int .i64 K, .int .i64 P, .int .i64 T, .int .i64 S, .int .i64 H, .int .i64 V, .int .i64 O] ∧ Box w' q 32 #[.int .i64 N, .int .i64 S, .int .i64 H, .int .i64 V] ∧ Ir w' b1 g1 m z ∧ Below w.heap.size w w') 25 rfl (by kernel_rfl) ⟨HX40.out.drewN 1, HY40.out.drewN 1, HR40.out.drewN 1, HB40.out.trans ((Below.refl _ _).drew)⟩ (fun hHeld => ?_)
        clear HX40 HY40 HR40 HB40
        simp only [Array.replicate_succ, Array.replicate_zero, List.push_toArray, List.nil_append, List.cons_append]
        generalize w34.drew = w50 at *
        refine wpAnyH_take (i := 0) (oi := ⟨some 147, _, _, _, _, _⟩) (v := (.agg #[.int .i64 A, .int .i64 B, .int .i64 K, .int .i64 P, .int .i64 T, .int .i64 S, .int .i64 H, .int .i64 V, .int .i64 O])) rfl (by kernel_rfl) (by kernel_rfl) (by kernel_rfl) (fun _ _ _ h => h) (Or.inl ⟨by rfl, fun w' hw => by (have y0 := hw.1.cell 0; have y1 := hw.1.cell 1; have y2 := hw.1.cell 2; have y3 := hw.1.cell 3; have y4 := hw.1.cell 4; have y5 := hw.1.cell 5; have y6 := hw.1.cell 6; have y7 := hw.1.cell 7; have y8 := hw.1.cell 8; go_simp)⟩) hHeld ?_
        try simp only [Act.put, List.setIfInBounds_toArray, List.set_cons_zero, List.set_cons_succ]
        refine one_ready 1 rfl (by kernel_rfl) (fun K9 hK => ?_)
        go_simp
        refine (HWZ.out _).mono ?_
        rintro e w51 ⟨rfl, hb51⟩
        refine hK.out _ _ ⟨hHeld.1.of (hb51.block _ hHeld.1.lt), hHeld.2.1.of (hb51.block _ hHeld.2.1.lt), hHeld.2.2.1.below hb51 (Nat.le_refl _), hHeld.2.2.2.trans (hb51.mono hHeld.2.2.2.size)⟩ (fun hHeld => ?_)
        clear hK K9 hb51
        try simp only [List.setIfInBounds_toArray, List.set_cons_zero, List.set_cons_succ]
        refine wpAnyH_take (i := 2) (oi := ⟨some 149, _, _, _, _, _⟩) (v := (.bool true)) rfl (by kernel_rfl) (by kernel_rfl) (by kernel_rfl) (fun _ _ _ h => h) (Or.inl ⟨by rfl, fun w' hw => by go_simp⟩) hHeld ?_
        try simp only [Act.put, List.setIfInBounds_toArray, List.set_cons_zero, List.set_cons_succ]
        refine wpAnyH_take (i := 3) (oi := ⟨some 150, _, _, _, _, _⟩) (v := (.bool true)) rfl (by kernel_rfl) (by kernel_rfl) (by kernel_rfl) (fun _ _ _ h => h) (Or.inl ⟨by rfl, fun w' hw => by go_simp⟩) hHeld ?_
        try simp only [Act.put, List.setIfInBounds_toArray, List.set_cons_zero, List.set_cons_succ]
        refine wpAnyH_take (i := 4) (oi := ⟨some 151, _, _, _, _, _⟩) (v := (.int .i64 (x1 - x0))) rfl (by kernel_rfl) (by kernel_rfl) (by kernel_rfl) (fun _ _ _ h => h) (Or.inl ⟨by rfl, fun w' hw => by go_simp⟩) hHeld ?_
        try simp only [Act.put, List.setIfInBounds_toArray, List.set_cons_zero, List.set_cons_succ]
        refine wpAnyH_take (i := 5) (oi := ⟨some 152, _, _, _, _, _⟩) (v := (.int .i64 ((2 * K + 5 + (A + 5 * B))))) rfl (by kernel_rfl) (by kernel_rfl) (by kernel_rfl) (fun _ _ _ h => h) (Or.inl ⟨by rfl, fun w' hw => by go_simp⟩) hHeld ?_
        try simp only [Act.put, List.setIfInBounds_toArray, List.set_cons_zero, List.set_cons_succ]
        refine wpAnyH_take (i := 6) (oi := ⟨some 153, _, _, _, _, _⟩) (v := (.agg #[.int .i64 N, .int .i64 S, .int .i64 H, .int .i64 V])) rfl (by kernel_rfl) (by kernel_rfl) (by kernel_rfl) (fun _ _ _ h => h) (Or.inl ⟨by rfl, fun w' hw => by (have y0 := hw.2.1.cell 0; have y1 := hw.2.1.cell 1; have y2 := hw.2.1.cell 2; have y3 := hw.2.1.cell 3; go_simp)⟩) hHeld ?_
        try simp only [Act.put, List.setIfInBounds_toArray, List.set_cons_zero, List.set_cons_succ]
        refine one_ready 7 rfl (by kernel_rfl) (fun K9 hK => ?_)
        go_simp
        refine (HSW.out _).mono ?_
        rintro e w52 ⟨rfl, hb52⟩
        refine hK.out _ _ ⟨hHeld.1.of (hb52.block _ hHeld.1.lt), hHeld.2.1.of (hb52.block _ hHeld.2.1.lt), hHeld.2.2.1.below hb52 (Nat.le_refl _), hHeld.2.2.2.trans (hb52.mono hHeld.2.2.2.size)⟩ (fun hHeld => ?_)
        clear hK K9 hb52
        try simp only [List.setIfInBounds_toArray, List.set_cons_zero, List.set_cons_succ]
        refine wpAnyH_take (i := 8) (oi := ⟨some 155, _, _, _, _, _⟩) (v := (.int .i64 ((2 * K + 5 + (A + 5 * B)) * (2 * V)))) rfl (by kernel_rfl) (by kernel_rfl) (by kernel_rfl) (fun _ _ _ h => h) (Or.inl ⟨by rfl, fun w' hw => by (go_simp; rw [IntKind.wrap_i64]; omega)⟩) hHeld ?_
        try simp only [Act.put, List.setIfInBounds_toArray, List.set_cons_zero, List.set_cons_succ]
        refine wpAnyH_take (i := 9) (oi := ⟨some 156, _, _, _, _, _⟩) (v := (.bool true)) rfl (by kernel_rfl) (by kernel_rfl) (by kernel_rfl) (fun _ _ _ h => h) (Or.inl ⟨by rfl, fun w' hw => by (have e9 := HD.out; go_simp)⟩) hHeld ?_
        try simp only [Act.put, List.setIfInBounds_toArray, List.set_cons_zero, List.set_cons_succ]
        refine wpAnyH_take (i := 10) (oi := ⟨some 157, _, _, _, _, _⟩) (v := (.bool true)) rfl (by kernel_rfl) (by kernel_rfl) (by kernel_rfl) (fun _ _ _ h => h) (Or.inl ⟨by rfl, fun w' hw => by go_simp⟩) hHeld ?_
        try simp only [Act.put, List.setIfInBounds_toArray, List.set_cons_zero, List.set_cons_succ]
        refine wpAnyH_take (i := 11) (oi := ⟨some 158, _, _, _, _, _⟩) (v := (.bool true)) rfl (by kernel_rfl) (by kernel_rfl) (by kernel_rfl) (fun _ _ _ h => h) (Or.inl ⟨by rfl, fun w' hw => by go_simp⟩) hHeld ?_
        try simp only [Act.put, List.setIfInBounds_toArray, List.set_cons_zero, List.set_cons_succ]
        refine wpAnyH_take (i := 12) (oi := ⟨some 159, _, _, _, _, _⟩) (v := (.slice (some ⟨g1, 0, none⟩) m cap1)) rfl (by kernel_rfl) (by kernel_rfl) (by kernel_rfl) (fun _ _ _ h => h) (Or.inl ⟨by rfl, fun w' hw => by go_simp⟩) hHeld ?_
        try simp only [Act.put, List.setIfInBounds_toArray, List.set_cons_zero, List.set_cons_succ]
        refine wpAnyH_take (i := 13) (oi := ⟨some 160, _, _, _, _, _⟩) (v := (.slice (some ⟨g1, 3, none⟩) m3 (cap1 - 3))) rfl (by kernel_rfl) (by kernel_rfl) (by kernel_rfl) (fun _ _ _ h => h) (Or.inl ⟨by rfl, fun w' hw => by (have e9 := run_slice3 g1 m m3 cap1 hm (by omega) hcap w'; go_simp)⟩) hHeld ?_
        try simp only [Act.put, List.setIfInBounds_toArray, List.set_cons_zero, List.set_cons_succ]
        refine wpAnyH_take (i := 14) (oi := ⟨some 161, _, _, _, _, _⟩) (v := (.agg #[.int .i64 N, .int .i64 S, .int .i64 H, .int .i64 V])) rfl (by kernel_rfl) (by kernel_rfl) (by kernel_rfl) (fun _ _ _ h => h) (Or.inl ⟨by rfl, fun w' hw => by (have y0 := hw.2.1.cell 0; have y1 := hw.2.1.cell 1; have y2 := hw.2.1.cell 2; have y3 := hw.2.1.cell 3; go_simp)⟩) hHeld ?_
        try simp only [Act.put, List.setIfInBounds_toArray, List.set_cons_zero, List.set_cons_succ]
        refine one_ready 15 rfl (by kernel_rfl) (fun K9 hK => ?_)
        go_simp
        refine (HSS.out _).mono ?_
        rintro e w53 ⟨a2, c2, rfl, hn, hb53⟩
        have HM53 := Lib.hid hn
        clear hn
        refine hK.out _ _ ⟨hHeld.1.of (hb53.block _ hHeld.1.lt), hHeld.2.1.of (hb53.block _ hHeld.2.1.lt), hHeld.2.2.1.below hb53 (Nat.le_refl _), hHeld.2.2.2.trans (hb53.mono hHeld.2.2.2.size)⟩ (fun hHeld => ?_)
        clear hK K9 hb53
        try simp only [List.setIfInBounds_toArray, List.set_cons_zero, List.set_cons_succ]
        refine one_ready 16 rfl (by kernel_rfl) (fun K9 hK => ?_)
        go_simp
        refine (same13 _ _ _ _ _ _ _ _ _ (by omega) (HRN.out _ hHeld.2.2.1) HM53.out).mono ?_
        rintro e w54 ⟨rfl, k, hk⟩
        have hb54 : Below w53.heap.size w53 w54 := by rw [hk]; exact below_drewN (Below.refl _ _) k
        clear hk HM53
        refine hK.out _ _ ⟨hHeld.1.of (hb54.block _ hHeld.1.lt), hHeld.2.1.of (hb54.block _ hHeld.2.1.lt), hHeld.2.2.1.below hb54 (Nat.le_refl _), hHeld.2.2.2.trans (hb54.mono hHeld.2.2.2.size)⟩ (fun hHeld => ?_)
        clear hK K9 hb54
        try simp only [List.setIfInBounds_toArray, List.set_cons_zero, List.set_cons_succ]
        refine wpAnyH_take (i := 17) (oi := ⟨some 164, _, _, _, _, _⟩) (v := (.bool true)) rfl (by kernel_rfl) (by kernel_rfl) (by kernel_rfl) (fun _ _ _ h => h) (Or.inl ⟨by rfl, fun w' hw => by go_simp⟩) hHeld ?_
        try simp only [Act.put, List.setIfInBounds_toArray, List.set_cons_zero, List.set_cons_succ]
        refine wpAnyH_take (i := 18) (oi := ⟨some 165, _, _, _, _, _⟩) (v := (.bool true)) rfl (by kernel_rfl) (by kernel_rfl) (by kernel_rfl) (fun _ _ _ h => h) (Or.inl ⟨by rfl, fun w' hw => by go_simp⟩) hHeld ?_
        try simp only [Act.put, List.setIfInBounds_toArray, List.set_cons_zero, List.set_cons_succ]
        refine wpAnyH_take (i := 19) (oi := ⟨some 166, _, _, _, _, _⟩) (v := (.agg #[.int .i64 0, .int .i64 0, .int .i64 0, .int .i64 0])) rfl (by kernel_rfl) (by kernel_rfl) (by kernel_rfl) (fun _ _ _ h => h) (Or.inl ⟨by rfl, fun w' hw => by (first | go_simp | kernel_rfl)⟩) hHeld ?_
        try simp only [Act.put, List.setIfInBounds_toArray, List.set_cons_zero, List.set_cons_succ]
        refine one_ready 20 rfl (by kernel_rfl) (fun K9 hK => ?_)
        go_simp
        refine (HEM.out _).mono ?_
        rintro e w55 ⟨a3, c3, rfl, _, hb55⟩
        refine hK.out _ _ ⟨hHeld.1.of (hb55.block _ hHeld.1.lt), hHeld.2.1.of (hb55.block _ hHeld.2.1.lt), hHeld.2.2.1.below hb55 (Nat.le_refl _), hHeld.2.2.2.trans (hb55.mono hHeld.2.2.2.size)⟩ (fun hHeld => ?_)
        clear hK K9 hb55
        try simp only [List.setIfInBounds_toArray, List.set_cons_zero, List.set_cons_succ]
        refine wpAnyH_take (i := 21) (oi := ⟨some 168, _, _, _, _, _⟩) (v := (.int .i64 0)) rfl (by kernel_rfl) (by kernel_rfl) (by kernel_rfl) (fun _ _ _ h => h) (Or.inl ⟨by rfl, fun w' hw => by go_simp⟩) hHeld ?_
        try simp only [Act.put, List.setIfInBounds_toArray, List.set_cons_zero, List.set_cons_succ]
        refine wpAnyH_take (i := 22) (oi := ⟨some 169, _, _, _, _, _⟩) (v := (.bool true)) rfl (by kernel_rfl) (by kernel_rfl) (by kernel_rfl) (fun _ _ _ h => h) (Or.inl ⟨by rfl, fun w' hw => by go_simp⟩) hHeld ?_
        try simp only [Act.put, List.setIfInBounds_toArray, List.set_cons_zero, List.set_cons_succ]
        refine wpAnyH_take (i := 23) (oi := ⟨some 170, _, _, _, _, _⟩) (v := (.bool true)) rfl (by kernel_rfl) (by kernel_rfl) (by kernel_rfl) (fun _ _ _ h => h) (Or.inl ⟨by rfl, fun w' hw => by go_simp⟩) hHeld ?_
        try simp only [Act.put, List.setIfInBounds_toArray, List.set_cons_zero, List.set_cons_succ]
        refine wpAnyH_take (i := 24) (oi := ⟨some 4, _, _, _, _, _⟩) (v := (.bool true)) rfl (by kernel_rfl) (by kernel_rfl) (by kernel_rfl) (fun _ _ _ h => h) (Or.inl ⟨by rfl, fun w' hw => by go_simp⟩) hHeld ?_
        try simp only [Act.put, List.setIfInBounds_toArray, List.set_cons_zero, List.set_cons_succ]
        refine wpAnyH_done (by kernel_rfl) ?_ _
        have HBL := Lib.hid hHeld.2.2.2
        clear hHeld
        go_wp2_with fail
        go_ret
        exact ⟨rfl, HBL.out⟩
      · rw [hr, if_neg h0] at HSTEP
        go_upto_region 20 with fail
        clear k1
        have HD := Lib.hid (show (x1 - x0 == (2 * K + 5) * (2 * V)) = true by rw [HSTEP.out]; exact beq_self_eq_true _)
        have hmul := mul_rng (x := (2 * K + 5)) (y := 2 * V) (X := 200) (Y := 8) (by omega) (by omega)
        refine held_s (S := fun w' => Box w' p 23 #[.int .i64 A, .int .i64 B, .int .i64 K, .int .i64 P, .int .i64 T, .int .i64 S, .int .i64 H, .int .i64 V, .int .i64 O] ∧ Box w' q 32 #[.int .i64 N, .int .i64 S, .int .i64 H, .int .i64 V] ∧ Ir w' b1 g1 m z ∧ Below w.heap.size w w') 25 rfl (by kernel_rfl) ⟨HX40.out.drewN 1, HY40.out.drewN 1, HR40.out.drewN 1, HB40.out.trans ((Below.refl _ _).drew)⟩ (fun hHeld => ?_)
        clear HX40 HY40 HR40 HB40
        simp only [Array.replicate_succ, Array.replicate_zero, List.push_toArray, List.nil_append, List.cons_append]
        generalize w34.drew = w50 at *
        refine wpAnyH_take (i := 0) (oi := ⟨some 147, _, _, _, _, _⟩) (v := (.agg #[.int .i64 A, .int .i64 B, .int .i64 K, .int .i64 P, .int .i64 T, .int .i64 S, .int .i64 H, .int .i64 V, .int .i64 O])) rfl (by kernel_rfl) (by kernel_rfl) (by kernel_rfl) (fun _ _ _ h => h) (Or.inl ⟨by rfl, fun w' hw => by (have y0 := hw.1.cell 0; have y1 := hw.1.cell 1; have y2 := hw.1.cell 2; have y3 := hw.1.cell 3; have y4 := hw.1.cell 4; have y5 := hw.1.cell 5; have y6 := hw.1.cell 6; have y7 := hw.1.cell 7; have y8 := hw.1.cell 8; go_simp)⟩) hHeld ?_
        try simp only [Act.put, List.setIfInBounds_toArray, List.set_cons_zero, List.set_cons_succ]
        refine one_ready 1 rfl (by kernel_rfl) (fun K9 hK => ?_)
        go_simp
        refine (HWZ.out _).mono ?_
        rintro e w51 ⟨rfl, hb51⟩
        refine hK.out _ _ ⟨hHeld.1.of (hb51.block _ hHeld.1.lt), hHeld.2.1.of (hb51.block _ hHeld.2.1.lt), hHeld.2.2.1.below hb51 (Nat.le_refl _), hHeld.2.2.2.trans (hb51.mono hHeld.2.2.2.size)⟩ (fun hHeld => ?_)
        clear hK K9 hb51
        try simp only [List.setIfInBounds_toArray, List.set_cons_zero, List.set_cons_succ]
        refine wpAnyH_take (i := 2) (oi := ⟨some 149, _, _, _, _, _⟩) (v := (.bool true)) rfl (by kernel_rfl) (by kernel_rfl) (by kernel_rfl) (fun _ _ _ h => h) (Or.inl ⟨by rfl, fun w' hw => by go_simp⟩) hHeld ?_
        try simp only [Act.put, List.setIfInBounds_toArray, List.set_cons_zero, List.set_cons_succ]
        refine wpAnyH_take (i := 3) (oi := ⟨some 150, _, _, _, _, _⟩) (v := (.bool true)) rfl (by kernel_rfl) (by kernel_rfl) (by kernel_rfl) (fun _ _ _ h => h) (Or.inl ⟨by rfl, fun w' hw => by go_simp⟩) hHeld ?_
        try simp only [Act.put, List.setIfInBounds_toArray, List.set_cons_zero, List.set_cons_succ]
        refine wpAnyH_take (i := 4) (oi := ⟨some 151, _, _, _, _, _⟩) (v := (.int .i64 (x1 - x0))) rfl (by kernel_rfl) (by kernel_rfl) (by kernel_rfl) (fun _ _ _ h => h) (Or.inl ⟨by rfl, fun w' hw => by go_simp⟩) hHeld ?_
        try simp only [Act.put, List.setIfInBounds_toArray, List.set_cons_zero, List.set_cons_succ]
        refine wpAnyH_take (i := 5) (oi := ⟨some 152, _, _, _, _, _⟩) (v := (.int .i64 ((2 * K + 5)))) rfl (by kernel_rfl) (by kernel_rfl) (by kernel_rfl) (fun _ _ _ h => h) (Or.inl ⟨by rfl, fun w' hw => by go_simp⟩) hHeld ?_
        try simp only [Act.put, List.setIfInBounds_toArray, List.set_cons_zero, List.set_cons_succ]
        refine wpAnyH_take (i := 6) (oi := ⟨some 153, _, _, _, _, _⟩) (v := (.agg #[.int .i64 N, .int .i64 S, .int .i64 H, .int .i64 V])) rfl (by kernel_rfl) (by kernel_rfl) (by kernel_rfl) (fun _ _ _ h => h) (Or.inl ⟨by rfl, fun w' hw => by (have y0 := hw.2.1.cell 0; have y1 := hw.2.1.cell 1; have y2 := hw.2.1.cell 2; have y3 := hw.2.1.cell 3; go_simp)⟩) hHeld ?_
        try simp only [Act.put, List.setIfInBounds_toArray, List.set_cons_zero, List.set_cons_succ]
        refine one_ready 7 rfl (by kernel_rfl) (fun K9 hK => ?_)
        go_simp
        refine (HSW.out _).mono ?_
        rintro e w52 ⟨rfl, hb52⟩
        refine hK.out _ _ ⟨hHeld.1.of (hb52.block _ hHeld.1.lt), hHeld.2.1.of (hb52.block _ hHeld.2.1.lt), hHeld.2.2.1.below hb52 (Nat.le_refl _), hHeld.2.2.2.trans (hb52.mono hHeld.2.2.2.size)⟩ (fun hHeld => ?_)
        clear hK K9 hb52
        try simp only [List.setIfInBounds_toArray, List.set_cons_zero, List.set_cons_succ]
        refine wpAnyH_take (i := 8) (oi := ⟨some 155, _, _, _, _, _⟩) (v := (.int .i64 ((2 * K + 5) * (2 * V)))) rfl (by kernel_rfl) (by kernel_rfl) (by kernel_rfl) (fun _ _ _ h => h) (Or.inl ⟨by rfl, fun w' hw => by (go_simp; rw [IntKind.wrap_i64]; omega)⟩) hHeld ?_
        try simp only [Act.put, List.setIfInBounds_toArray, List.set_cons_zero, List.set_cons_succ]
        refine wpAnyH_take (i := 9) (oi := ⟨some 156, _, _, _, _, _⟩) (v := (.bool true)) rfl (by kernel_rfl) (by kernel_rfl) (by kernel_rfl) (fun _ _ _ h => h) (Or.inl ⟨by rfl, fun w' hw => by (have e9 := HD.out; go_simp)⟩) hHeld ?_
        try simp only [Act.put, List.setIfInBounds_toArray, List.set_cons_zero, List.set_cons_succ]
        refine wpAnyH_take (i := 10) (oi := ⟨some 157, _, _, _, _, _⟩) (v := (.bool true)) rfl (by kernel_rfl) (by kernel_rfl) (by kernel_rfl) (fun _ _ _ h => h) (Or.inl ⟨by rfl, fun w' hw => by go_simp⟩) hHeld ?_
        try simp only [Act.put, List.setIfInBounds_toArray, List.set_cons_zero, List.set_cons_succ]
        refine wpAnyH_take (i := 11) (oi := ⟨some 158, _, _, _, _, _⟩) (v := (.bool true)) rfl (by kernel_rfl) (by kernel_rfl) (by kernel_rfl) (fun _ _ _ h => h) (Or.inl ⟨by rfl, fun w' hw => by go_simp⟩) hHeld ?_
        try simp only [Act.put, List.setIfInBounds_toArray, List.set_cons_zero, List.set_cons_succ]
        refine wpAnyH_take (i := 12) (oi := ⟨some 159, _, _, _, _, _⟩) (v := (.slice (some ⟨g1, 0, none⟩) m cap1)) rfl (by kernel_rfl) (by kernel_rfl) (by kernel_rfl) (fun _ _ _ h => h) (Or.inl ⟨by rfl, fun w' hw => by go_simp⟩) hHeld ?_
        try simp only [Act.put, List.setIfInBounds_toArray, List.set_cons_zero, List.set_cons_succ]
        refine wpAnyH_take (i := 13) (oi := ⟨some 160, _, _, _, _, _⟩) (v := (.slice (some ⟨g1, 3, none⟩) m3 (cap1 - 3))) rfl (by kernel_rfl) (by kernel_rfl) (by kernel_rfl) (fun _ _ _ h => h) (Or.inl ⟨by rfl, fun w' hw => by (have e9 := run_slice3 g1 m m3 cap1 hm (by omega) hcap w'; go_simp)⟩) hHeld ?_
        try simp only [Act.put, List.setIfInBounds_toArray, List.set_cons_zero, List.set_cons_succ]
        refine wpAnyH_take (i := 14) (oi := ⟨some 161, _, _, _, _, _⟩) (v := (.agg #[.int .i64 N, .int .i64 S, .int .i64 H, .int .i64 V])) rfl (by kernel_rfl) (by kernel_rfl) (by kernel_rfl) (fun _ _ _ h => h) (Or.inl ⟨by rfl, fun w' hw => by (have y0 := hw.2.1.cell 0; have y1 := hw.2.1.cell 1; have y2 := hw.2.1.cell 2; have y3 := hw.2.1.cell 3; go_simp)⟩) hHeld ?_
        try simp only [Act.put, List.setIfInBounds_toArray, List.set_cons_zero, List.set_cons_succ]
        refine one_ready 15 rfl (by kernel_rfl) (fun K9 hK => ?_)
        go_simp
        refine (HSS.out _).mono ?_
        rintro e w53 ⟨a2, c2, rfl, hn, hb53⟩
        have HM53 := Lib.hid hn
        clear hn
        refine hK.out _ _ ⟨hHeld.1.of (hb53.block _ hHeld.1.lt), hHeld.2.1.of (hb53.block _ hHeld.2.1.lt), hHeld.2.2.1.below hb53 (Nat.le_refl _), hHeld.2.2.2.trans (hb53.mono hHeld.2.2.2.size)⟩ (fun hHeld => ?_)
        clear hK K9 hb53
        try simp only [List.setIfInBounds_toArray, List.set_cons_zero, List.set_cons_succ]
        refine one_ready 16 rfl (by kernel_rfl) (fun K9 hK => ?_)
        go_simp
        refine (same13 _ _ _ _ _ _ _ _ _ (by omega) (HRN.out _ hHeld.2.2.1) HM53.out).mono ?_
        rintro e w54 ⟨rfl, k, hk⟩
        have hb54 : Below w53.heap.size w53 w54 := by rw [hk]; exact below_drewN (Below.refl _ _) k
        clear hk HM53
        refine hK.out _ _ ⟨hHeld.1.of (hb54.block _ hHeld.1.lt), hHeld.2.1.of (hb54.block _ hHeld.2.1.lt), hHeld.2.2.1.below hb54 (Nat.le_refl _), hHeld.2.2.2.trans (hb54.mono hHeld.2.2.2.size)⟩ (fun hHeld => ?_)
        clear hK K9 hb54
        try simp only [List.setIfInBounds_toArray, List.set_cons_zero, List.set_cons_succ]
        refine wpAnyH_take (i := 17) (oi := ⟨some 164, _, _, _, _, _⟩) (v := (.bool true)) rfl (by kernel_rfl) (by kernel_rfl) (by kernel_rfl) (fun _ _ _ h => h) (Or.inl ⟨by rfl, fun w' hw => by go_simp⟩) hHeld ?_
        try simp only [Act.put, List.setIfInBounds_toArray, List.set_cons_zero, List.set_cons_succ]
        refine wpAnyH_take (i := 18) (oi := ⟨some 165, _, _, _, _, _⟩) (v := (.bool true)) rfl (by kernel_rfl) (by kernel_rfl) (by kernel_rfl) (fun _ _ _ h => h) (Or.inl ⟨by rfl, fun w' hw => by go_simp⟩) hHeld ?_
        try simp only [Act.put, List.setIfInBounds_toArray, List.set_cons_zero, List.set_cons_succ]
        refine wpAnyH_take (i := 19) (oi := ⟨some 166, _, _, _, _, _⟩) (v := (.agg #[.int .i64 0, .int .i64 0, .int .i64 0, .int .i64 0])) rfl (by kernel_rfl) (by kernel_rfl) (by kernel_rfl) (fun _ _ _ h => h) (Or.inl ⟨by rfl, fun w' hw => by (first | go_simp | kernel_rfl)⟩) hHeld ?_
        try simp only [Act.put, List.setIfInBounds_toArray, List.set_cons_zero, List.set_cons_succ]
        refine one_ready 20 rfl (by kernel_rfl) (fun K9 hK => ?_)
        go_simp
        refine (HEM.out _).mono ?_
        rintro e w55 ⟨a3, c3, rfl, _, hb55⟩
        refine hK.out _ _ ⟨hHeld.1.of (hb55.block _ hHeld.1.lt), hHeld.2.1.of (hb55.block _ hHeld.2.1.lt), hHeld.2.2.1.below hb55 (Nat.le_refl _), hHeld.2.2.2.trans (hb55.mono hHeld.2.2.2.size)⟩ (fun hHeld => ?_)
        clear hK K9 hb55
        try simp only [List.setIfInBounds_toArray, List.set_cons_zero, List.set_cons_succ]
        refine wpAnyH_take (i := 21) (oi := ⟨some 168, _, _, _, _, _⟩) (v := (.int .i64 0)) rfl (by kernel_rfl) (by kernel_rfl) (by kernel_rfl) (fun _ _ _ h => h) (Or.inl ⟨by rfl, fun w' hw => by go_simp⟩) hHeld ?_
        try simp only [Act.put, List.setIfInBounds_toArray, List.set_cons_zero, List.set_cons_succ]
        refine wpAnyH_take (i := 22) (oi := ⟨some 169, _, _, _, _, _⟩) (v := (.bool true)) rfl (by kernel_rfl) (by kernel_rfl) (by kernel_rfl) (fun _ _ _ h => h) (Or.inl ⟨by rfl, fun w' hw => by go_simp⟩) hHeld ?_
        try simp only [Act.put, List.setIfInBounds_toArray, List.set_cons_zero, List.set_cons_succ]
        refine wpAnyH_take (i := 23) (oi := ⟨some 170, _, _, _, _, _⟩) (v := (.bool true)) rfl (by kernel_rfl) (by kernel_rfl) (by kernel_rfl) (fun _ _ _ h => h) (Or.inl ⟨by rfl, fun w' hw => by go_simp⟩) hHeld ?_
        try simp only [Act.put, List.setIfInBounds_toArray, List.set_cons_zero, List.set_cons_succ]
        refine wpAnyH_take (i := 24) (oi := ⟨some 4, _, _, _, _, _⟩) (v := (.bool true)) rfl (by kernel_rfl) (by kernel_rfl) (by kernel_rfl) (fun _ _ _ h => h) (Or.inl ⟨by rfl, fun w' hw => by go_simp⟩) hHeld ?_
        try simp only [Act.put, List.setIfInBounds_toArray, List.set_cons_zero, List.set_cons_succ]
        refine wpAnyH_done (by kernel_rfl) ?_ _
        have HBL := Lib.hid hHeld.2.2.2
        clear hHeld
        go_wp2_with fail
        go_ret
        exact ⟨rfl, HBL.out⟩
theorem fits_law (c : Cfg) (n : Int) (w : World) (hc : c.Wf) (hg : ErrType w) : Calls Tryd.prog 4 #[.agg c.a, .int .i64 n] w fun e w' => e = .returned (.bool true) ∧ Below w.heap.size w w' := by
  by_cases h : Fst c 7
  · exact fits_ok c n w hc.T hg h
  · exact fits_no c n w hc.T hg h
end Go.Proofs.YteiilfdbddpodaaDoor
