/- Texts of ours put together: CfNums. -/
import Derived.Test.YteiilfdbddpodaaDoorG21
/- config: Cells, Store, Accesses, Words: what follows from a config that is right; of others 0, or noughts. Nothing that was in memory changes. Conditions: each number is an int. -/
namespace Go.Proofs.YteiilfdbddpodaaDoor
set_option maxRecDepth 100000
open Go.RowKit Go.ChangeShapes Go.WideShapes Go.ChangeAt

theorem ck_ok (c : Cfg) (w : World) (hT : Rg c.T) (h : Fst c 7) : Calls Tryd.prog 29 #[.agg c.a] w fun e w' => e = .returned .nilIface ∧ Below w.heap.size w w' := by
  refine (check_any c w hT).mono ?_
  rintro e w' ⟨i, hi, hb, ⟨_, rfl⟩ | ⟨hl, _⟩⟩
  · exact ⟨rfl, hb⟩
  · exact absurd (hi.only h) (by omega)
theorem ck_no (c : Cfg) (w : World) (hT : Rg c.T) (h : ¬ Fst c 7) : Calls Tryd.prog 29 #[.agg c.a] w fun e w' => ∃ g, e = .returned (.iface 60 (.pointer (some ⟨g, 0, none⟩))) ∧ Below w.heap.size w w' := by
  refine (check_any c w hT).mono ?_
  rintro e w' ⟨i, hi, hb, ⟨rfl, _⟩ | ⟨hl, g, rfl, _⟩⟩
  · exact absurd hi h
  · exact ⟨g, rfl, hb⟩
/-- What a right config's numbers are. -/
structure OkC (c : Cfg) : Prop where
  A : 1 ≤ c.A ∧ c.A ≤ 64
  B : 1 ≤ c.B ∧ c.B ≤ 16
  K : 1 ≤ c.K ∧ c.K ≤ 16
  P : 1 ≤ c.P ∧ c.P ≤ 32
  O : 0 ≤ c.O ∧ c.O ≤ 2
  T : 1 ≤ c.T ∧ c.T ≤ 128
  tr : rd c.T = c.T
  ct : c.A + c.B ≤ c.T
  st : stR (nB c) c.S c.H c.V = true
  sz : bigL (szI (nB c) c.S c.H c.V) = false
theorem wA_in {c : Cfg} (hA : 1 ≤ c.A ∧ c.A ≤ 64) (hB : 1 ≤ c.B ∧ c.B ≤ 16) : wA c = c.A + c.B := by unfold wA wrap64; omega
theorem Fst.okC {c : Cfg} (h : Fst c 7) : OkC c := by
  have h0 := wtE_zero.1 (h.ok 0 (by omega))
  have h1 := wtE_zero.1 (h.ok 1 (by omega))
  have h2 := wtE_zero.1 (h.ok 2 (by omega))
  have h3 := wtE_zero.1 (h.ok 3 (by omega))
  have h4 := wtE_zero.1 (h.ok 4 (by omega))
  have h5 : tbE c = 0 := h.ok 5 (by omega)
  have h6 : lvE c = 0 := h.ok 6 (by omega)
  unfold tbE at h5
  unfold lvE at h6
  by_cases a : wtE c.T 1 128 ≠ 0
  · rw [if_pos a] at h5; exact absurd h5 a
  · rw [if_neg a] at h5
    have a' := wtE_zero.1 (Decidable.not_not.1 a)
    by_cases b : rd c.T ≠ c.T
    · rw [if_pos b] at h5; exact absurd h5 (by omega)
    · rw [if_neg b] at h5
      by_cases d : c.T < wA c
      · rw [if_pos d] at h5; exact absurd h5 (by omega)
      · by_cases g : stR (nB c) c.S c.H c.V = true ∧ bigL (szI (nB c) c.S c.H c.V) = false
        · rw [wA_in h0 h1] at d
          exact ⟨h0, h1, h2, h3, h4, a', Decidable.not_not.1 b, by omega, g.1, g.2⟩
        · rw [if_neg g] at h6; exact absurd h6 (by omega)
theorem OkC.wA {c : Cfg} (h : OkC c) : wA c = c.A + c.B := wA_in h.A h.B
theorem OkC.nB {c : Cfg} (h : OkC c) : nB c = rd (2 * c.T + c.A + c.B) := by
  have e : wrap64 (wrap64 (2 * c.T) + _root_.Go.Proofs.YteiilfdbddpodaaDoor.wA c) = 2 * c.T + c.A + c.B := by
    rw [h.wA]
    have := h.T
    have := h.A
    have := h.B
    unfold wrap64
    omega
  unfold _root_.Go.Proofs.YteiilfdbddpodaaDoor.nB
  rw [e]
theorem OkC.V {c : Cfg} (h : OkC c) : 1 ≤ c.V ∧ c.V ≤ 4 := by
  obtain ⟨_, _, _, n, _, _, _, _, e, _, _, _, _, h1, h2⟩ := (stR_iff _ _ _ _).1 h.st
  omega
/-- How many are counted. -/
def cntN (n : Int) : Int := min (max n 0) 1048576
theorem cntN_rng (n : Int) : 0 ≤ cntN n ∧ cntN n ≤ 1048576 := by unfold cntN; omega
/-- How many words so many operations take. -/
def wdC (c : Cfg) (n : Int) : Int := 4 + (cntN n * (2 * c.K + 5) + cntN n / c.B * (c.A + 5 * c.B)) * (2 * c.V)
theorem mul_rng {x y X Y : Int} (hx : 0 ≤ x ∧ x ≤ X) (hy : 0 ≤ y ∧ y ≤ Y) : 0 ≤ x * y ∧ x * y ≤ X * Y :=
  ⟨Int.mul_nonneg hx.1 hy.1, Int.mul_le_mul hx.2 hy.2 hy.1 (by omega)⟩
set_option maxRecDepth 100000 in
set_option maxHeartbeats 2000000 in
theorem ccells_no (c : Cfg) (w : World) (hT : Rg c.T) (h : ¬ Fst c 7) : Calls Tryd.prog 17 #[.agg c.a] w fun e w' => e = .returned (.int .i64 0) ∧ Below w.heap.size w w' := by
  have HK := Lib.hid (fun W => ck_no c W hT h)
  clear h hT
  obtain ⟨A, B, K, P, T, S, H, V, O⟩ := c
  simp only [Cfg.a] at *
  obtain ⟨p, hp⟩ : ∃ p, w.heap.size = p := ⟨_, rfl⟩
  obtain ⟨w2, hw2⟩ : ∃ w2, w.alloc (.cells #[.int .i64 A, .int .i64 B, .int .i64 K, .int .i64 P, .int .i64 T, .int .i64 S, .int .i64 H, .int .i64 V, .int .i64 O] 23) = w2 := ⟨_, rfl⟩
  have hx : Box w2 p 23 #[.int .i64 A, .int .i64 B, .int .i64 K, .int .i64 P, .int .i64 T, .int .i64 S, .int .i64 H, .int .i64 V, .int .i64 O] := by rw [← hw2, ← hp]; exact Box.new w _ _
  have HB := Lib.hid (show Below w.heap.size w w2 by rw [← hw2]; exact (Below.refl _ w).alloc (Nat.le_refl _) _)
  have HX := Lib.hid hx
  have HPP := Lib.hid hp
  have HWW := Lib.hid hw2
  have k0 := hx.cell 0
  have k1 := hx.cell 1
  have k2 := hx.cell 2
  have k3 := hx.cell 3
  have k4 := hx.cell 4
  have k5 := hx.cell 5
  have k6 := hx.cell 6
  have k7 := hx.cell 7
  have k8 := hx.cell 8
  clear hx hp hw2
  go_enter Tryd.func17, Tryd.ntmps17
  go_upto_region 1 with fail
  rw [HPP.out, HWW.out]
  go_wp2_with fail
  refine (HK.out _).mono ?_
  rintro e w3 ⟨g, rfl, hb3⟩
  have HB3 := Lib.hid (HB.out.trans (hb3.mono HB.out.size))
  have HX3 := Lib.hid (HX.out.of (hb3.block _ HX.out.lt))
  clear hb3 HB HX
  clear k0 k1 k2 k3 k4 k5 k6 k7 k8 HWW
  go_wp2_with fail
  go_ret
  exact ⟨rfl, HB3.out⟩
set_option maxRecDepth 100000 in
set_option maxHeartbeats 2000000 in
theorem ccells_ok (c : Cfg) (w : World) (hT : Rg c.T) (h : Fst c 7) : Calls Tryd.prog 17 #[.agg c.a] w fun e w' => e = .returned (.int .i64 (c.A + c.B)) ∧ Below w.heap.size w w' := by
  have HK := Lib.hid (fun W => ck_ok c W hT h)
  have HC := Lib.hid (fun W => cells_any c W)
  rw [h.okC.wA] at HC
  clear h hT
  obtain ⟨A, B, K, P, T, S, H, V, O⟩ := c
  simp only [Cfg.a] at *
  obtain ⟨p, hp⟩ : ∃ p, w.heap.size = p := ⟨_, rfl⟩
  obtain ⟨w2, hw2⟩ : ∃ w2, w.alloc (.cells #[.int .i64 A, .int .i64 B, .int .i64 K, .int .i64 P, .int .i64 T, .int .i64 S, .int .i64 H, .int .i64 V, .int .i64 O] 23) = w2 := ⟨_, rfl⟩
  have hx : Box w2 p 23 #[.int .i64 A, .int .i64 B, .int .i64 K, .int .i64 P, .int .i64 T, .int .i64 S, .int .i64 H, .int .i64 V, .int .i64 O] := by rw [← hw2, ← hp]; exact Box.new w _ _
  have HB := Lib.hid (show Below w.heap.size w w2 by rw [← hw2]; exact (Below.refl _ w).alloc (Nat.le_refl _) _)
  have HX := Lib.hid hx
  have HPP := Lib.hid hp
  have HWW := Lib.hid hw2
  have k0 := hx.cell 0
  have k1 := hx.cell 1
  have k2 := hx.cell 2
  have k3 := hx.cell 3
  have k4 := hx.cell 4
  have k5 := hx.cell 5
  have k6 := hx.cell 6
  have k7 := hx.cell 7
  have k8 := hx.cell 8
  clear hx hp hw2
  go_enter Tryd.func17, Tryd.ntmps17
  go_upto_region 1 with fail
  rw [HPP.out, HWW.out]
  go_wp2_with fail
  refine (HK.out _).mono ?_
  rintro e w3 ⟨rfl, hb3⟩
  have HB3 := Lib.hid (HB.out.trans (hb3.mono HB.out.size))
  have HX3 := Lib.hid (HX.out.of (hb3.block _ HX.out.lt))
  clear hb3 HB HX
  clear k0 k1 k2 k3 k4 k5 k6 k7 k8 HWW
  have k0 := HX3.out.cell 0
  have k1 := HX3.out.cell 1
  have k2 := HX3.out.cell 2
  have k3 := HX3.out.cell 3
  have k4 := HX3.out.cell 4
  have k5 := HX3.out.cell 5
  have k6 := HX3.out.cell 6
  have k7 := HX3.out.cell 7
  have k8 := HX3.out.cell 8
  go_wp2_with fail
  refine (HC.out _).mono ?_
  rintro e w4 ⟨rfl, hb4⟩
  have HB4 := Lib.hid (HB3.out.trans (hb4.mono HB3.out.size))
  clear hb4 k0 k1 k2 k3 k4 k5 k6 k7 k8
  go_wp2_with fail
  go_ret
  exact ⟨rfl, HB4.out⟩
set_option maxRecDepth 100000 in
set_option maxHeartbeats 2000000 in
theorem cst_no (c : Cfg) (w : World) (hT : Rg c.T) (h : ¬ Fst c 7) : Calls Tryd.prog 13 #[.agg c.a] w fun e w' => e = .returned (.agg #[.int .i64 0, .int .i64 0, .int .i64 0, .int .i64 0]) ∧ Below w.heap.size w w' := by
  have HK := Lib.hid (fun W => ck_no c W hT h)
  clear h hT
  obtain ⟨A, B, K, P, T, S, H, V, O⟩ := c
  simp only [Cfg.a] at *
  obtain ⟨p, hp⟩ : ∃ p, w.heap.size = p := ⟨_, rfl⟩
  obtain ⟨w2, hw2⟩ : ∃ w2, ((w.alloc (.cells #[.int .i64 A, .int .i64 B, .int .i64 K, .int .i64 P, .int .i64 T, .int .i64 S, .int .i64 H, .int .i64 V, .int .i64 O] 23)).alloc (.cells #[.int .i64 0, .int .i64 0, .int .i64 0, .int .i64 0] 32)) = w2 := ⟨_, rfl⟩
  have hx : Box w2 p 23 #[.int .i64 A, .int .i64 B, .int .i64 K, .int .i64 P, .int .i64 T, .int .i64 S, .int .i64 H, .int .i64 V, .int .i64 O] := by rw [← hw2, ← hp]; exact (Box.new w _ _).alloc _
  have hy : Box w2 (p + 1) 32 #[.int .i64 0, .int .i64 0, .int .i64 0, .int .i64 0] := by
    rw [← hw2, ← hp]
    have := Box.new (w.alloc (.cells #[.int .i64 A, .int .i64 B, .int .i64 K, .int .i64 P, .int .i64 T, .int .i64 S, .int .i64 H, .int .i64 V, .int .i64 O] 23)) 32 #[.int .i64 0, .int .i64 0, .int .i64 0, .int .i64 0]
    simpa using this
  have HB := Lib.hid (show Below w.heap.size w w2 by rw [← hw2]; exact ((Below.refl _ w).alloc (Nat.le_refl _) _).alloc (by simp) _)
  have HX := Lib.hid hx
  have HY := Lib.hid hy
  have HPP := Lib.hid hp
  have HWW := Lib.hid hw2
  have k0 := hx.cell 0
  have k1 := hx.cell 1
  have k2 := hx.cell 2
  have k3 := hx.cell 3
  have k4 := hx.cell 4
  have k5 := hx.cell 5
  have k6 := hx.cell 6
  have k7 := hx.cell 7
  have k8 := hx.cell 8
  clear hx hy hw2
  go_enter Tryd.func13, Tryd.ntmps13
  go_upto_region 1 with fail
  rw [HWW.out]
  go_wp2_with fail
  refine (HK.out _).mono ?_
  rintro e w3 ⟨g, rfl, hb3⟩
  have HB3 := Lib.hid (HB.out.trans (hb3.mono HB.out.size))
  have HX3 := Lib.hid (HX.out.of (hb3.block _ HX.out.lt))
  have HY3 := Lib.hid (HY.out.of (hb3.block _ HY.out.lt))
  clear hb3 HB HX
  clear k0 k1 k2 k3 k4 k5 k6 k7 k8 HWW
  have y0 := HY3.out.cell 0
  have y1 := HY3.out.cell 1
  have y2 := HY3.out.cell 2
  have y3 := HY3.out.cell 3
  have f0 := HY3.out.frozen 0
  have f1 := HY3.out.frozen 1
  have f2 := HY3.out.frozen 2
  have f3 := HY3.out.frozen 3
  have HZ := Lib.hid ((((HY3.out.put 0 (.int .i64 0)).put 1 (.int .i64 0)).put 2 (.int .i64 0)).put 3 (.int .i64 0))
  have HE := Lib.hid (below_only HB3.out (((((Only.refl (just (p + 1)) w3).setCell (p := ⟨p + 1, 0, none⟩) (.inl (just_self _)) (.int .i64 0)).setCell (p := ⟨p + 1, 1, none⟩) (.inl (just_self _)) (.int .i64 0)).setCell (p := ⟨p + 1, 2, none⟩) (.inl (just_self _)) (.int .i64 0)).setCell (p := ⟨p + 1, 3, none⟩) (.inl (just_self _)) (.int .i64 0)) HB3.out.size (fun i hi e => by have e : i = p + 1 := e; have := HPP.out; omega))
  go_wp2_with fail
  exact bodyPost_ret (v := .agg #[.int .i64 0, .int .i64 0, .int .i64 0, .int .i64 0]) (results_one Tryd.results13 rfl (load_box HZ.out Tryd.underlying32 rfl (by kernel_rfl))) rfl ⟨rfl, HE.out⟩
set_option maxRecDepth 100000 in
set_option maxHeartbeats 2000000 in
theorem cst_ok (c : Cfg) (w : World) (hT : Rg c.T) (h : Fst c 7) : Calls Tryd.prog 13 #[.agg c.a] w fun e w' => e = .returned (.agg #[.int .i64 (nB c), .int .i64 c.S, .int .i64 c.H, .int .i64 c.V]) ∧ Below w.heap.size w w' := by
  have HK := Lib.hid (fun W => ck_ok c W hT h)
  have HS := Lib.hid (fun W => cstore_any c W)
  generalize nB c = N at *
  clear h hT
  obtain ⟨A, B, K, P, T, S, H, V, O⟩ := c
  simp only [Cfg.a] at *
  obtain ⟨p, hp⟩ : ∃ p, w.heap.size = p := ⟨_, rfl⟩
  obtain ⟨w2, hw2⟩ : ∃ w2, ((w.alloc (.cells #[.int .i64 A, .int .i64 B, .int .i64 K, .int .i64 P, .int .i64 T, .int .i64 S, .int .i64 H, .int .i64 V, .int .i64 O] 23)).alloc (.cells #[.int .i64 0, .int .i64 0, .int .i64 0, .int .i64 0] 32)) = w2 := ⟨_, rfl⟩
  have hx : Box w2 p 23 #[.int .i64 A, .int .i64 B, .int .i64 K, .int .i64 P, .int .i64 T, .int .i64 S, .int .i64 H, .int .i64 V, .int .i64 O] := by rw [← hw2, ← hp]; exact (Box.new w _ _).alloc _
  have hy : Box w2 (p + 1) 32 #[.int .i64 0, .int .i64 0, .int .i64 0, .int .i64 0] := by
    rw [← hw2, ← hp]
    have := Box.new (w.alloc (.cells #[.int .i64 A, .int .i64 B, .int .i64 K, .int .i64 P, .int .i64 T, .int .i64 S, .int .i64 H, .int .i64 V, .int .i64 O] 23)) 32 #[.int .i64 0, .int .i64 0, .int .i64 0, .int .i64 0]
    simpa using this
  have HB := Lib.hid (show Below w.heap.size w w2 by rw [← hw2]; exact ((Below.refl _ w).alloc (Nat.le_refl _) _).alloc (by simp) _)
  have HX := Lib.hid hx
  have HY := Lib.hid hy
  have HPP := Lib.hid hp
  have HWW := Lib.hid hw2
  have k0 := hx.cell 0
  have k1 := hx.cell 1
  have k2 := hx.cell 2
  have k3 := hx.cell 3
  have k4 := hx.cell 4
  have k5 := hx.cell 5
  have k6 := hx.cell 6
  have k7 := hx.cell 7
  have k8 := hx.cell 8
  clear hx hy hw2
  go_enter Tryd.func13, Tryd.ntmps13
  go_upto_region 1 with fail
  rw [HWW.out]
  go_wp2_with fail
  refine (HK.out _).mono ?_
  rintro e w3 ⟨rfl, hb3⟩
  have HB3 := Lib.hid (HB.out.trans (hb3.mono HB.out.size))
  have HX3 := Lib.hid (HX.out.of (hb3.block _ HX.out.lt))
  have HY3 := Lib.hid (HY.out.of (hb3.block _ HY.out.lt))
  clear hb3 HB HX
  clear k0 k1 k2 k3 k4 k5 k6 k7 k8 HWW
  have k0 := HX3.out.cell 0
  have k1 := HX3.out.cell 1
  have k2 := HX3.out.cell 2
  have k3 := HX3.out.cell 3
  have k4 := HX3.out.cell 4
  have k5 := HX3.out.cell 5
  have k6 := HX3.out.cell 6
  have k7 := HX3.out.cell 7
  have k8 := HX3.out.cell 8
  go_wp2_with fail
  refine (HS.out _).mono ?_
  rintro e w4 ⟨rfl, hb4⟩
  have HB4 := Lib.hid (HB3.out.trans (hb4.mono HB3.out.size))
  have HY4 := Lib.hid (HY3.out.of (hb4.block _ HY3.out.lt))
  clear hb4 k0 k1 k2 k3 k4 k5 k6 k7 k8
  have y0 := HY4.out.cell 0
  have y1 := HY4.out.cell 1
  have y2 := HY4.out.cell 2
  have y3 := HY4.out.cell 3
  have f0 := HY4.out.frozen 0
  have f1 := HY4.out.frozen 1
  have f2 := HY4.out.frozen 2
  have f3 := HY4.out.frozen 3
  have HZ := Lib.hid ((((HY4.out.put 0 (.int .i64 N)).put 1 (.int .i64 S)).put 2 (.int .i64 H)).put 3 (.int .i64 V))
  have HE := Lib.hid (below_only HB4.out (((((Only.refl (just (p + 1)) w4).setCell (p := ⟨p + 1, 0, none⟩) (.inl (just_self _)) (.int .i64 N)).setCell (p := ⟨p + 1, 1, none⟩) (.inl (just_self _)) (.int .i64 S)).setCell (p := ⟨p + 1, 2, none⟩) (.inl (just_self _)) (.int .i64 H)).setCell (p := ⟨p + 1, 3, none⟩) (.inl (just_self _)) (.int .i64 V)) HB4.out.size (fun i hi e => by have e : i = p + 1 := e; have := HPP.out; omega))
  go_wp2_with fail
  exact bodyPost_ret (v := .agg #[.int .i64 N, .int .i64 S, .int .i64 H, .int .i64 V]) (results_one Tryd.results13 rfl (load_box HZ.out Tryd.underlying32 rfl (by kernel_rfl))) rfl ⟨rfl, HE.out⟩
set_option maxRecDepth 100000 in
set_option maxHeartbeats 2000000 in
theorem cacc_no (c : Cfg) (w : World) (hT : Rg c.T) (h : ¬ Fst c 7) : Calls Tryd.prog 15 #[.agg c.a] w fun e w' => e = .returned (.tuple #[.int .i64 0, .int .i64 0]) ∧ Below w.heap.size w w' := by
  have HK := Lib.hid (fun W => ck_no c W hT h)
  clear h hT
  obtain ⟨A, B, K, P, T, S, H, V, O⟩ := c
  simp only [Cfg.a] at *
  obtain ⟨p, hp⟩ : ∃ p, w.heap.size = p := ⟨_, rfl⟩
  obtain ⟨w2, hw2⟩ : ∃ w2, w.alloc (.cells #[.int .i64 A, .int .i64 B, .int .i64 K, .int .i64 P, .int .i64 T, .int .i64 S, .int .i64 H, .int .i64 V, .int .i64 O] 23) = w2 := ⟨_, rfl⟩
  have hx : Box w2 p 23 #[.int .i64 A, .int .i64 B, .int .i64 K, .int .i64 P, .int .i64 T, .int .i64 S, .int .i64 H, .int .i64 V, .int .i64 O] := by rw [← hw2, ← hp]; exact Box.new w _ _
  have HB := Lib.hid (show Below w.heap.size w w2 by rw [← hw2]; exact (Below.refl _ w).alloc (Nat.le_refl _) _)
  have HX := Lib.hid hx
  have HPP := Lib.hid hp
  have HWW := Lib.hid hw2
  have k0 := hx.cell 0
  have k1 := hx.cell 1
  have k2 := hx.cell 2
  have k3 := hx.cell 3
  have k4 := hx.cell 4
  have k5 := hx.cell 5
  have k6 := hx.cell 6
  have k7 := hx.cell 7
  have k8 := hx.cell 8
  clear hx hp hw2
  go_enter Tryd.func15, Tryd.ntmps15
  go_upto_region 1 with fail
  rw [HPP.out, HWW.out]
  go_wp2_with fail
  refine (HK.out _).mono ?_
  rintro e w3 ⟨g, rfl, hb3⟩
  have HB3 := Lib.hid (HB.out.trans (hb3.mono HB.out.size))
  have HX3 := Lib.hid (HX.out.of (hb3.block _ HX.out.lt))
  clear hb3 HB HX
  clear k0 k1 k2 k3 k4 k5 k6 k7 k8 HWW
  go_wp2_with fail
  go_ret2
  exact ⟨rfl, HB3.out⟩
set_option maxRecDepth 100000 in
set_option maxHeartbeats 2000000 in
theorem cacc_ok (c : Cfg) (w : World) (hT : Rg c.T) (h : Fst c 7) : Calls Tryd.prog 15 #[.agg c.a] w fun e w' => e = .returned (.tuple #[.int .i64 (2 * c.K + 5), .int .i64 (c.A + 5 * c.B)]) ∧ Below w.heap.size w w' := by
  have HK := Lib.hid (fun W => ck_ok c W hT h)
  have HC := Lib.hid (fun W => cells_any c W)
  rw [h.okC.wA] at HC
  obtain ⟨a1, a2⟩ := h.okC.A
  obtain ⟨b1, b2⟩ := h.okC.B
  obtain ⟨d1, d2⟩ := h.okC.K
  clear h hT
  obtain ⟨A, B, K, P, T, S, H, V, O⟩ := c
  simp only [Cfg.a] at *
  obtain ⟨p, hp⟩ : ∃ p, w.heap.size = p := ⟨_, rfl⟩
  obtain ⟨w2, hw2⟩ : ∃ w2, w.alloc (.cells #[.int .i64 A, .int .i64 B, .int .i64 K, .int .i64 P, .int .i64 T, .int .i64 S, .int .i64 H, .int .i64 V, .int .i64 O] 23) = w2 := ⟨_, rfl⟩
  have hx : Box w2 p 23 #[.int .i64 A, .int .i64 B, .int .i64 K, .int .i64 P, .int .i64 T, .int .i64 S, .int .i64 H, .int .i64 V, .int .i64 O] := by rw [← hw2, ← hp]; exact Box.new w _ _
  have HB := Lib.hid (show Below w.heap.size w w2 by rw [← hw2]; exact (Below.refl _ w).alloc (Nat.le_refl _) _)
  have HX := Lib.hid hx
  have HPP := Lib.hid hp
  have HWW := Lib.hid hw2
  have k0 := hx.cell 0
  have k1 := hx.cell 1
  have k2 := hx.cell 2
  have k3 := hx.cell 3
  have k4 := hx.cell 4
  have k5 := hx.cell 5
  have k6 := hx.cell 6
  have k7 := hx.cell 7
  have k8 := hx.cell 8
  clear hx hp hw2
  go_enter Tryd.func15, Tryd.ntmps15
  go_upto_region 1 with fail
  rw [HPP.out, HWW.out]
  go_wp2_with fail
  refine (HK.out _).mono ?_
  rintro e w3 ⟨rfl, hb3⟩
  have HB3 := Lib.hid (HB.out.trans (hb3.mono HB.out.size))
  have HX3 := Lib.hid (HX.out.of (hb3.block _ HX.out.lt))
  clear hb3 HB HX
  clear k0 k1 k2 k3 k4 k5 k6 k7 k8 HWW
  have k0 := Gr.cell (HX3.out.cell 0)
  have k1 := Gr.cell (HX3.out.cell 1)
  have k2 := Gr.cell (HX3.out.cell 2)
  have k3 := Gr.cell (HX3.out.cell 3)
  have k4 := Gr.cell (HX3.out.cell 4)
  have k5 := Gr.cell (HX3.out.cell 5)
  have k6 := Gr.cell (HX3.out.cell 6)
  have k7 := Gr.cell (HX3.out.cell 7)
  have k8 := Gr.cell (HX3.out.cell 8)
  go_wp2_with fail
  refine wp_region_grow (by kernel_rfl) (by kernel_rfl) ?_
  repeat (go_big_quiet_step (first | (go_at_call 38; exact Gr.blw (HC.out _))))
  refine wpQuiet_nil ?_
  intro w9 hw9
  obtain ⟨G, hG⟩ := hw9
  subst hG
  have HB9 := Lib.hid (HB3.out.trans (G.ok.none.mono HB3.out.size))
  clear k0 k1 k2 k3 k4 k5 k6 k7 k8
  go_wp2_with fail
  go_ret2
  refine ⟨?_, HB9.out⟩
  show Ending.returned (.tuple #[.int .i64 (2 * K + 5), .int .i64 (A + B + 4 * B)]) = _
  rw [show A + B + 4 * B = A + 5 * B by omega]
set_option maxRecDepth 100000 in
set_option maxHeartbeats 2000000 in
theorem cwd_no (c : Cfg) (n : Int) (w : World) (hT : Rg c.T) (h : ¬ Fst c 7) : Calls Tryd.prog 22 #[.agg c.a, .int .i64 n] w fun e w' => e = .returned (.int .i64 0) ∧ Below w.heap.size w w' := by
  have HK := Lib.hid (fun W => ck_no c W hT h)
  clear h hT
  obtain ⟨A, B, K, P, T, S, H, V, O⟩ := c
  simp only [Cfg.a] at *
  obtain ⟨p, hp⟩ : ∃ p, w.heap.size = p := ⟨_, rfl⟩
  obtain ⟨w2, hw2⟩ : ∃ w2, w.alloc (.cells #[.int .i64 A, .int .i64 B, .int .i64 K, .int .i64 P, .int .i64 T, .int .i64 S, .int .i64 H, .int .i64 V, .int .i64 O] 23) = w2 := ⟨_, rfl⟩
  have hx : Box w2 p 23 #[.int .i64 A, .int .i64 B, .int .i64 K, .int .i64 P, .int .i64 T, .int .i64 S, .int .i64 H, .int .i64 V, .int .i64 O] := by rw [← hw2, ← hp]; exact Box.new w _ _
  have HB := Lib.hid (show Below w.heap.size w w2 by rw [← hw2]; exact (Below.refl _ w).alloc (Nat.le_refl _) _)
  have HX := Lib.hid hx
  have HPP := Lib.hid hp
  have HWW := Lib.hid hw2
  have k0 := hx.cell 0
  have k1 := hx.cell 1
  have k2 := hx.cell 2
  have k3 := hx.cell 3
  have k4 := hx.cell 4
  have k5 := hx.cell 5
  have k6 := hx.cell 6
  have k7 := hx.cell 7
  have k8 := hx.cell 8
  clear hx hp hw2
  go_enter Tryd.func22, Tryd.ntmps22
  go_upto_region 1 with fail
  rw [HPP.out, HWW.out]
  go_wp2_with fail
  refine (HK.out _).mono ?_
  rintro e w3 ⟨g, rfl, hb3⟩
  have HB3 := Lib.hid (HB.out.trans (hb3.mono HB.out.size))
  have HX3 := Lib.hid (HX.out.of (hb3.block _ HX.out.lt))
  clear hb3 HB HX
  clear k0 k1 k2 k3 k4 k5 k6 k7 k8 HWW
  go_wp2_with fail
  go_ret
  exact ⟨rfl, HB3.out⟩
set_option maxRecDepth 100000 in
set_option maxHeartbeats 2000000 in
theorem cwd_ok (c : Cfg) (n : Int) (w : World) (hT : Rg c.T) (h : Fst c 7) : Calls Tryd.prog 22 #[.agg c.a, .int .i64 n] w fun e w' => e = .returned (.int .i64 (wdC c n)) ∧ Below w.heap.size w w' := by
  have HK := Lib.hid (fun W => ck_ok c W hT h)
  have HC := Lib.hid (fun W => cacc_ok c W hT h)
  have HS := Lib.hid (fun W => cstore_any c W)
  have HW := Lib.hid (fun W => swords_any (nB c) c.S c.H c.V W (nB_rng c))
  rw [if_pos h.okC.st] at HW
  have HE : Hid (wdC c n = 4 + (cntN n * (2 * c.K + 5) + cntN n / c.B * (c.A + 5 * c.B)) * (2 * c.V)) := Lib.hid rfl
  have HN : Hid (min (max n 0) 1048576 = cntN n) := Lib.hid rfl
  have hn := cntN_rng n
  obtain ⟨a1, a2⟩ := h.okC.A
  obtain ⟨b1, b2⟩ := h.okC.B
  obtain ⟨d1, d2⟩ := h.okC.K
  have hv := h.okC.V
  have hq : 0 ≤ cntN n / c.B ∧ cntN n / c.B ≤ 1048576 := ⟨Int.ediv_nonneg hn.1 (by omega), Int.le_trans (Int.ediv_le_self _ hn.1) hn.2⟩
  have m1 := mul_rng hn (show 0 ≤ 2 * c.K + 5 ∧ 2 * c.K + 5 ≤ 37 by omega)
  have m2 := mul_rng hq (show 0 ≤ c.A + 5 * c.B ∧ c.A + 5 * c.B ≤ 144 by omega)
  have m3 := mul_rng (x := cntN n * (2 * c.K + 5) + cntN n / c.B * (c.A + 5 * c.B)) (X := 189792256) (show _ by omega) (show 0 ≤ 2 * c.V ∧ 2 * c.V ≤ 8 by omega)
  have hb0 : c.B ≠ 0 := by omega
  generalize wdC c n = R at *
  generalize cntN n = X at *
  generalize nB c = N at *
  clear h hT
  obtain ⟨A, B, K, P, T, S, H, V, O⟩ := c
  simp only [Cfg.a] at *
  have HQ : Hid (Int.tdiv X B = X / B) := Lib.hid (Int.tdiv_eq_ediv_of_nonneg hn.1)
  obtain ⟨p, hp⟩ : ∃ p, w.heap.size = p := ⟨_, rfl⟩
  obtain ⟨w2, hw2⟩ : ∃ w2, w.alloc (.cells #[.int .i64 A, .int .i64 B, .int .i64 K, .int .i64 P, .int .i64 T, .int .i64 S, .int .i64 H, .int .i64 V, .int .i64 O] 23) = w2 := ⟨_, rfl⟩
  have hx : Box w2 p 23 #[.int .i64 A, .int .i64 B, .int .i64 K, .int .i64 P, .int .i64 T, .int .i64 S, .int .i64 H, .int .i64 V, .int .i64 O] := by rw [← hw2, ← hp]; exact Box.new w _ _
  have HB := Lib.hid (show Below w.heap.size w w2 by rw [← hw2]; exact (Below.refl _ w).alloc (Nat.le_refl _) _)
  have HX := Lib.hid hx
  have HPP := Lib.hid hp
  have HWW := Lib.hid hw2
  have k0 := hx.cell 0
  have k1 := hx.cell 1
  have k2 := hx.cell 2
  have k3 := hx.cell 3
  have k4 := hx.cell 4
  have k5 := hx.cell 5
  have k6 := hx.cell 6
  have k7 := hx.cell 7
  have k8 := hx.cell 8
  clear hx hp hw2
  go_enter Tryd.func22, Tryd.ntmps22
  go_upto_region 1 with fail
  rw [HPP.out, HWW.out]
  go_wp2_with fail
  refine (HK.out _).mono ?_
  rintro e w3 ⟨rfl, hb3⟩
  have HB3 := Lib.hid (HB.out.trans (hb3.mono HB.out.size))
  have HX3 := Lib.hid (HX.out.of (hb3.block _ HX.out.lt))
  clear hb3 HB HX
  clear k0 k1 k2 k3 k4 k5 k6 k7 k8 HWW
  have k0 := HX3.out.cell 0
  have k1 := HX3.out.cell 1
  have k2 := HX3.out.cell 2
  have k3 := HX3.out.cell 3
  have k4 := HX3.out.cell 4
  have k5 := HX3.out.cell 5
  have k6 := HX3.out.cell 6
  have k7 := HX3.out.cell 7
  have k8 := HX3.out.cell 8
  go_upto_region 4 with fail
  rw [HN.out]
  go_wp2_with fail
  refine (HC.out _).mono ?_
  rintro e w4 ⟨rfl, hb4⟩
  have HB4 := Lib.hid (HB3.out.trans (hb4.mono HB3.out.size))
  have HX4 := Lib.hid (HX3.out.of (hb4.block _ HX3.out.lt))
  clear hb4 k0 k1 k2 k3 k4 k5 k6 k7 k8 HX3 HB3
  have k0 := HX4.out.cell 0
  have k1 := HX4.out.cell 1
  have k2 := HX4.out.cell 2
  have k3 := HX4.out.cell 3
  have k4 := HX4.out.cell 4
  have k5 := HX4.out.cell 5
  have k6 := HX4.out.cell 6
  have k7 := HX4.out.cell 7
  have k8 := HX4.out.cell 8
  go_wp2_with fail
  refine (HS.out _).mono ?_
  rintro e w5 ⟨rfl, hb5⟩
  have HB5 := Lib.hid (HB4.out.trans (hb5.mono HB4.out.size))
  clear hb5 k0 k1 k2 k3 k4 k5 k6 k7 k8 HX4 HB4
  go_wp2_with fail
  refine (HW.out _).mono ?_
  rintro e w6 ⟨rfl, hb6⟩
  have HB6 := Lib.hid (HB5.out.trans (hb6.mono HB5.out.size))
  clear hb6
  go_wp2_with fail
  go_ret
  exact ⟨by rw [HE.out]; rfl, HB6.out⟩
/-- A row of numbers, just made. -/
theorem IrAt.new {w w0 : World} (l : List Int) (n : Nat) (hn : l.length = n) (hb : Below w.heap.size w w0) (hl : n ≤ 1000) : IrAt w (.slice (some ⟨w0.heap.size, 0, none⟩) n n) l (w0.alloc (.cells (irow l).toArray 3)) := by
  subst hn
  exact ⟨⟨by simp [irow], .inr ⟨_, l.length, (irow l).toArray, rfl, hb.size, Box.new w0 _ _, Nat.le_refl _, by simp only [maxLen]; omega, by simp [irow], by simp [irow, List.take_of_length_le]⟩⟩, hb.alloc hb.size _⟩
/-- What Sizes of a config tells. -/
def szC (c : Cfg) : List Int := [1, c.P, rd (c.A + c.B)] ++ szI (nB c) c.S c.H c.V
theorem szI_len {N S H V : Int} (h : stR N S H V = true) : 4 ≤ (szI N S H V).length ∧ (szI N S H V).length ≤ 13 := by
  obtain ⟨b, s, t, n, hb, e1, e2, e3, e4, h1, h2, h3, h4, h5, h6⟩ := (stR_iff _ _ _ _).1 h
  rw [e1, e2, e3, e4, szI_yes hb h1 h2 h3 h4 h5 h6, szS_len]
  omega
set_option maxRecDepth 100000 in
set_option maxHeartbeats 2000000 in
theorem csz_no (c : Cfg) (w : World) (hT : Rg c.T) (h : ¬ Fst c 7) : Calls Tryd.prog 20 #[.agg c.a] w (SzPost w []) := by
  have HK := Lib.hid (fun W => ck_no c W hT h)
  clear h hT
  obtain ⟨A, B, K, P, T, S, H, V, O⟩ := c
  simp only [Cfg.a] at *
  obtain ⟨p, hp⟩ : ∃ p, w.heap.size = p := ⟨_, rfl⟩
  obtain ⟨w2, hw2⟩ : ∃ w2, w.alloc (.cells #[.int .i64 A, .int .i64 B, .int .i64 K, .int .i64 P, .int .i64 T, .int .i64 S, .int .i64 H, .int .i64 V, .int .i64 O] 23) = w2 := ⟨_, rfl⟩
  have hx : Box w2 p 23 #[.int .i64 A, .int .i64 B, .int .i64 K, .int .i64 P, .int .i64 T, .int .i64 S, .int .i64 H, .int .i64 V, .int .i64 O] := by rw [← hw2, ← hp]; exact Box.new w _ _
  have HB := Lib.hid (show Below w.heap.size w w2 by rw [← hw2]; exact (Below.refl _ w).alloc (Nat.le_refl _) _)
  have HX := Lib.hid hx
  have HPP := Lib.hid hp
  have HWW := Lib.hid hw2
  have k0 := hx.cell 0
  have k1 := hx.cell 1
  have k2 := hx.cell 2
  have k3 := hx.cell 3
  have k4 := hx.cell 4
  have k5 := hx.cell 5
  have k6 := hx.cell 6
  have k7 := hx.cell 7
  have k8 := hx.cell 8
  clear hx hp hw2
  go_enter Tryd.func20, Tryd.ntmps20
  go_upto_region 1 with fail
  rw [HPP.out, HWW.out]
  go_wp2_with fail
  refine (HK.out _).mono ?_
  rintro e w3 ⟨g, rfl, hb3⟩
  have HB3 := Lib.hid (HB.out.trans (hb3.mono HB.out.size))
  have HX3 := Lib.hid (HX.out.of (hb3.block _ HX.out.lt))
  clear hb3 HB HX
  clear k0 k1 k2 k3 k4 k5 k6 k7 k8 HWW
  have HE := Lib.hid (szPost_no w w3 HB3.out)
  go_wp2_with fail
  go_ret
  exact HE.out
set_option maxRecDepth 100000 in
set_option maxHeartbeats 2000000 in
theorem csz_ok (c : Cfg) (w : World) (hT : Rg c.T) (h : Fst c 7) : Calls Tryd.prog 20 #[.agg c.a] w (SzPost w (szC c)) := by
  have HK := Lib.hid (fun W => ck_ok c W hT h)
  have HC := Lib.hid (fun W => cells_any c W)
  rw [h.okC.wA] at HC
  have HS := Lib.hid (fun W => cstore_any c W)
  have HZ := Lib.hid (fun W => ssizes_any (nB c) c.S c.H c.V W (nB_rng c))
  have HL := Lib.hid (szI_len h.okC.st)
  have hAB : 2 ≤ c.A + c.B ∧ c.A + c.B ≤ 80 := by have := h.okC.A; have := h.okC.B; omega
  have HR := Lib.hid (fun W => round_any (c.A + c.B) W (by omega) (by omega))
  have HF : Hid (szC c = [1, c.P, rd (c.A + c.B)] ++ szI (nB c) c.S c.H c.V) := Lib.hid rfl
  generalize szC c = LS at *
  generalize rd (c.A + c.B) = R at *
  generalize szI (nB c) c.S c.H c.V = l at *
  generalize nB c = N at *
  clear h hT hAB
  obtain ⟨A, B, K, P, T, S, H, V, O⟩ := c
  simp only [Cfg.a] at *
  obtain ⟨p, hp⟩ : ∃ p, w.heap.size = p := ⟨_, rfl⟩
  obtain ⟨w2, hw2⟩ : ∃ w2, w.alloc (.cells #[.int .i64 A, .int .i64 B, .int .i64 K, .int .i64 P, .int .i64 T, .int .i64 S, .int .i64 H, .int .i64 V, .int .i64 O] 23) = w2 := ⟨_, rfl⟩
  have hx : Box w2 p 23 #[.int .i64 A, .int .i64 B, .int .i64 K, .int .i64 P, .int .i64 T, .int .i64 S, .int .i64 H, .int .i64 V, .int .i64 O] := by rw [← hw2, ← hp]; exact Box.new w _ _
  have HB := Lib.hid (show Below w.heap.size w w2 by rw [← hw2]; exact (Below.refl _ w).alloc (Nat.le_refl _) _)
  have HX := Lib.hid hx
  have HPP := Lib.hid hp
  have HWW := Lib.hid hw2
  have k0 := hx.cell 0
  have k1 := hx.cell 1
  have k2 := hx.cell 2
  have k3 := hx.cell 3
  have k4 := hx.cell 4
  have k5 := hx.cell 5
  have k6 := hx.cell 6
  have k7 := hx.cell 7
  have k8 := hx.cell 8
  clear hx hp hw2
  go_enter Tryd.func20, Tryd.ntmps20
  go_upto_region 1 with fail
  rw [HPP.out, HWW.out]
  go_wp2_with fail
  refine (HK.out _).mono ?_
  rintro e w3 ⟨rfl, hb3⟩
  have HB3 := Lib.hid (HB.out.trans (hb3.mono HB.out.size))
  have HX3 := Lib.hid (HX.out.of (hb3.block _ HX.out.lt))
  clear hb3 HB HX
  clear k0 k1 k2 k3 k4 k5 k6 k7 k8 HWW
  go_upto_region 3 with fail
  refine held_s (S := fun w' => Box w' p 23 #[.int .i64 A, .int .i64 B, .int .i64 K, .int .i64 P, .int .i64 T, .int .i64 S, .int .i64 H, .int .i64 V, .int .i64 O] ∧ Below w.heap.size w w') 7 rfl (by kernel_rfl) ⟨HX3.out.drewN 1, HB3.out.trans ((Below.refl _ _).drew)⟩ (fun hHeld => ?_)
  clear HX3 HB3
  simp only [Array.replicate_succ, Array.replicate_zero, List.push_toArray, List.nil_append, List.cons_append]
  generalize w3.drew = w4 at *
  refine wpAnyH_take (i := 0) (oi := ⟨some 7, _, _, _, _, _⟩) (v := (.pointer (some ⟨p, 3, none⟩))) rfl (by kernel_rfl) (by kernel_rfl) (by kernel_rfl) (fun _ _ _ h => h) (Or.inl ⟨by rfl, fun w' hw => by go_simp⟩) hHeld ?_
  try simp only [Act.put, List.setIfInBounds_toArray, List.set_cons_zero, List.set_cons_succ]
  refine wpAnyH_take (i := 1) (oi := ⟨some 8, _, _, _, _, _⟩) (v := (.int .i64 P)) rfl (by kernel_rfl) (by kernel_rfl) (by kernel_rfl) (fun _ _ _ h => h) (Or.inl ⟨by rfl, fun w' hw => by (have k3 := hw.1.cell 3; go_simp)⟩) hHeld ?_
  try simp only [Act.put, List.setIfInBounds_toArray, List.set_cons_zero, List.set_cons_succ]
  refine wpAnyH_take (i := 2) (oi := ⟨some 9, _, _, _, _, _⟩) (v := (.agg #[.int .i64 A, .int .i64 B, .int .i64 K, .int .i64 P, .int .i64 T, .int .i64 S, .int .i64 H, .int .i64 V, .int .i64 O])) rfl (by kernel_rfl) (by kernel_rfl) (by kernel_rfl) (fun _ _ _ h => h) (Or.inl ⟨by rfl, fun w' hw => by (have k0 := hw.1.cell 0; have k1 := hw.1.cell 1; have k2 := hw.1.cell 2; have k3 := hw.1.cell 3; have k4 := hw.1.cell 4; have k5 := hw.1.cell 5; have k6 := hw.1.cell 6; have k7 := hw.1.cell 7; have k8 := hw.1.cell 8; go_simp)⟩) hHeld ?_
  try simp only [Act.put, List.setIfInBounds_toArray, List.set_cons_zero, List.set_cons_succ]
  refine one_ready 3 rfl (by kernel_rfl) (fun K9 hK => ?_)
  go_simp
  refine (HC.out _).mono ?_
  rintro e w5 ⟨rfl, hb5⟩
  refine hK.out _ _ ⟨hHeld.1.of (hb5.block _ hHeld.1.lt), hHeld.2.trans (hb5.mono hHeld.2.size)⟩ (fun hHeld => ?_)
  clear hK K9 hb5
  try simp only [List.setIfInBounds_toArray, List.set_cons_zero, List.set_cons_succ]
  refine one_ready 4 rfl (by kernel_rfl) (fun K9 hK => ?_)
  go_simp
  refine (HR.out _).mono ?_
  rintro e w6 ⟨rfl, rfl⟩
  refine hK.out _ _ hHeld (fun hHeld => ?_)
  clear hK K9
  try simp only [List.setIfInBounds_toArray, List.set_cons_zero, List.set_cons_succ]
  refine one_ready 5 rfl (by kernel_rfl) (fun K9 hK => ?_)
  have hX7 : Box (w6.alloc (.cells #[.int .i64 1, .int .i64 P, .int .i64 R] 3)) p 23 #[.int .i64 A, .int .i64 B, .int .i64 K, .int .i64 P, .int .i64 T, .int .i64 S, .int .i64 H, .int .i64 V, .int .i64 O] := hHeld.1.alloc _
  have hI7 : IrAt w (.slice (some ⟨w6.heap.size, 0, none⟩) 3 3) [1, P, R] (w6.alloc (.cells #[.int .i64 1, .int .i64 P, .int .i64 R] 3)) := IrAt.new [1, P, R] 3 rfl hHeld.2 (by omega)
  have hB7 := hHeld.2.alloc hHeld.2.size (.cells #[.int .i64 1, .int .i64 P, .int .i64 R] 3)
  have HX7 := Lib.hid hX7
  have HI7 := Lib.hid hI7
  go_simp
  refine hK.out _ _ ⟨hX7, hB7⟩ (fun hHeld => ?_)
  clear hK K9 hX7 hI7 hB7
  try simp only [List.setIfInBounds_toArray, List.set_cons_zero, List.set_cons_succ]
  refine wpAnyH_take (i := 6) (oi := ⟨some 3, _, _, _, _, _⟩) (v := (.slice (some ⟨w6.heap.size, 0, none⟩) 3 3)) rfl (by kernel_rfl) (by kernel_rfl) (by kernel_rfl) (fun _ _ _ h => h) (Or.inl ⟨by rfl, fun w' hw => by go_simp⟩) hHeld ?_
  try simp only [Act.put, List.setIfInBounds_toArray, List.set_cons_zero, List.set_cons_succ]
  refine wpAnyH_done (by kernel_rfl) ?_ _
  clear hHeld
  obtain ⟨w7, hw7⟩ : ∃ w7, w6.alloc (.cells #[.int .i64 1, .int .i64 P, .int .i64 R] 3) = w7 := ⟨_, rfl⟩
  obtain ⟨v3, hv3⟩ : ∃ v3 : Value, .slice (some ⟨w6.heap.size, 0, none⟩) 3 3 = v3 := ⟨_, rfl⟩
  rw [hw7] at HX7 HI7 ⊢
  rw [hv3] at HI7
  simp only [hv3]
  clear hw7 hv3
  have k0 := HX7.out.cell 0
  have k1 := HX7.out.cell 1
  have k2 := HX7.out.cell 2
  have k3 := HX7.out.cell 3
  have k4 := HX7.out.cell 4
  have k5 := HX7.out.cell 5
  have k6 := HX7.out.cell 6
  have k7 := HX7.out.cell 7
  have k8 := HX7.out.cell 8
  go_wp2_with fail
  refine (HS.out _).mono ?_
  rintro e w8 ⟨rfl, hb8⟩
  have HI8 := Lib.hid (HI7.out.more hb8)
  clear hb8 k0 k1 k2 k3 k4 k5 k6 k7 k8 HX7 HI7
  go_wp2_with fail
  refine (HZ.out _).mono ?_
  rintro e w9 ⟨v, rfl, hI⟩
  have HI9 := Lib.hid (HI8.out.more hI.below)
  obtain ⟨g, cap, rfl, hcap, hr⟩ := hI.out (by have := HL.out.1; omega) (fun j => l.getD j 0) (fun j hj => by simp [List.getD_eq_getElem?_getD, hj])
  have hnews : ∀ j u, (irow l)[j]? = some u → w9.cell? ((⟨g, 0, none⟩ : Addr).add j) = some u := by
    intro j u hu
    have hj : j < l.length := by have := (List.getElem?_eq_some_iff.1 hu).1; rwa [irow_len] at this
    rw [add_plain, Nat.zero_add, hr.cell j hj]
    rw [irow_at l j hj] at hu
    rw [← hu]
    simp [List.getD_eq_getElem?_getD, hj]
  have HLN := Lib.hid hnews
  have hl := HL.out
  obtain ⟨m, hm⟩ : ∃ m, l.length = m := ⟨_, rfl⟩
  have HM := Lib.hid hm
  rw [hm] at hl
  clear hI hr HI8 hnews hcap
  simp only [hm]
  clear hm
  have hsz := HI9.out.below.size
  have HOW : Hid (w9.ownsRow w.heap.size 3 1 v3 3 (irow [1, P, R])) := Lib.hid HI9.out.own
  go_wp2_with (with_reducible refine wpList_append_where _ rfl (.tmp 13) (.tmp 16) 42 rfl w.heap.size 3 (.int .i64 0) 1 8 Tryd.underlying42 infoI64 rfl (by decide) v3 3 (irow [1, P, R]) rfl HOW.out ⟨g, 0, none⟩ m cap (irow l) rfl ?c1 HLN.out (irow_one _) ?c2 ?c3 ?c4 ?_)
  case c1 => rw [irow_len, HM.out, Nat.mul_one]
  case c2 => simp only [maxLen]; omega
  case c3 => omega
  case c4 => omega
  intro A2 cap2 w10 hown hgr _
  have HN2 : Hid (IrAt w (.slice A2 (3 + m) cap2) LS w10) := by
    have hm := HM.out
    subst hm
    refine Lib.hid ⟨?_, ?_⟩
    · rw [HF.out, List.length_append, irow_append]
      exact hown
    · refine HI9.out.below.grown hgr hsz (fun b e => ?_)
      rcases HI9.out.own.2 with ⟨e0, _⟩ | ⟨g', cap', cur, e0, hb', _⟩
      · rw [e0] at e; simp [Value.ownBlock] at e
      · rw [e0] at e
        obtain rfl : g' = b := by simpa [Value.ownBlock] using e
        exact hb'
  clear hown hgr
  go_wp2_with fail
  go_ret
  exact ⟨_, rfl, HN2.out⟩
end Go.Proofs.YteiilfdbddpodaaDoor
