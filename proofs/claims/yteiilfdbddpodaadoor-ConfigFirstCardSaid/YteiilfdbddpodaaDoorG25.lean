/- Texts of ours put together: CfRefD. -/
import Derived.Test.YteiilfdbddpodaaDoorG24
/- The document's answers on configs: Right, and what follows: Cells, Store, Accesses, Words, Sizes: the same plain words as the program's. Nothing that was in memory changes. Conditions: each number is an int. -/
namespace Go.Proofs.YteiilfdbddpodaaDoor
set_option maxRecDepth 100000
open Go.RowKit Go.ChangeShapes Go.WideShapes Go.ChangeAt

set_option maxRecDepth 100000 in
set_option maxHeartbeats 2000000 in
theorem rright_ok (c : Cfg) (w : World) (h : Fst c 7) : Calls Tryd.prog 37 #[.agg c.a] w fun e w' => e = .returned (.bool true) ∧ Below w.heap.size w w' := by
  have HW : Hid (∀ W, Calls Tryd.prog 11 #[.agg c.a] W fun e w' => ∃ s, e = .returned (.tuple #[.string s, .int .i64 0]) ∧ Below W.heap.size W w') := Lib.hid (fun W => by
    refine (rwhy_any c W).mono ?_
    rintro e w' ⟨i, hi, rfl, hb⟩
    obtain rfl := hi.only h
    exact ⟨_, rfl, hb⟩)
  clear h
  obtain ⟨A, B, K, P, T, S, H, V, O⟩ := c
  simp only [Cfg.a] at *
  obtain ⟨p, hp⟩ : ∃ p, w.heap.size = p := ⟨_, rfl⟩
  obtain ⟨w2, hw2⟩ : ∃ w2, w.alloc (.cells #[.int .i64 A, .int .i64 B, .int .i64 K, .int .i64 P, .int .i64 T, .int .i64 S, .int .i64 H, .int .i64 V, .int .i64 O] 29) = w2 := ⟨_, rfl⟩
  have hx : Box w2 p 29 #[.int .i64 A, .int .i64 B, .int .i64 K, .int .i64 P, .int .i64 T, .int .i64 S, .int .i64 H, .int .i64 V, .int .i64 O] := by rw [← hw2, ← hp]; exact Box.new w _ _
  have HB := Lib.hid (show Below w.heap.size w w2 by rw [← hw2]; exact (Below.refl _ w).alloc (Nat.le_refl _) _)
  have HX := Lib.hid hx
  have HPP := Lib.hid hp
  have HWW := Lib.hid hw2
  have k0 := hx.cell 0
  have k1 := hx.cell 1
  have k2 := hx.cell 2
  have k3 := hx.cell 3
  have k4 := hx.cell 4
  have k5 := hx.cell 5
  have k6 := hx.cell 6
  have k7 := hx.cell 7
  have k8 := hx.cell 8
  clear hx hp hw2
  go_enter Tryd.func37, Tryd.ntmps37
  go_upto_region 1 with fail
  rw [HPP.out, HWW.out]
  go_wp2_with fail
  refine (HW.out _).mono ?_
  rintro e w3 ⟨s, rfl, hb3⟩
  have HB3 := Lib.hid (HB.out.trans (hb3.mono HB.out.size))
  clear hb3
  go_wp2_with fail
  go_ret
  exact ⟨rfl, HB3.out⟩
set_option maxRecDepth 100000 in
set_option maxHeartbeats 2000000 in
theorem rright_no (c : Cfg) (w : World) (h : ¬ Fst c 7) : Calls Tryd.prog 37 #[.agg c.a] w fun e w' => e = .returned (.bool false) ∧ Below w.heap.size w w' := by
  have HW : Hid (∀ W, Calls Tryd.prog 11 #[.agg c.a] W fun e w' => ∃ s E, E ≠ 0 ∧ e = .returned (.tuple #[.string s, .int .i64 E]) ∧ Below W.heap.size W w') := Lib.hid (fun W => by
    refine (rwhy_any c W).mono ?_
    rintro e w' ⟨i, hi, rfl, hb⟩
    have h7 : i < 7 := by
      rcases Nat.lt_or_ge i 7 with l | l
      · exact l
      · have := hi.le; obtain rfl : i = 7 := by omega
        exact absurd hi h
    exact ⟨_, _, hi.bad h7, rfl, hb⟩)
  clear h
  obtain ⟨A, B, K, P, T, S, H, V, O⟩ := c
  simp only [Cfg.a] at *
  obtain ⟨p, hp⟩ : ∃ p, w.heap.size = p := ⟨_, rfl⟩
  obtain ⟨w2, hw2⟩ : ∃ w2, w.alloc (.cells #[.int .i64 A, .int .i64 B, .int .i64 K, .int .i64 P, .int .i64 T, .int .i64 S, .int .i64 H, .int .i64 V, .int .i64 O] 29) = w2 := ⟨_, rfl⟩
  have hx : Box w2 p 29 #[.int .i64 A, .int .i64 B, .int .i64 K, .int .i64 P, .int .i64 T, .int .i64 S, .int .i64 H, .int .i64 V, .int .i64 O] := by rw [← hw2, ← hp]; exact Box.new w _ _
  have HB := Lib.hid (show Below w.heap.size w w2 by rw [← hw2]; exact (Below.refl _ w).alloc (Nat.le_refl _) _)
  have HX := Lib.hid hx
  have HPP := Lib.hid hp
  have HWW := Lib.hid hw2
  have k0 := hx.cell 0
  have k1 := hx.cell 1
  have k2 := hx.cell 2
  have k3 := hx.cell 3
  have k4 := hx.cell 4
  have k5 := hx.cell 5
  have k6 := hx.cell 6
  have k7 := hx.cell 7
  have k8 := hx.cell 8
  clear hx hp hw2
  go_enter Tryd.func37, Tryd.ntmps37
  go_upto_region 1 with fail
  rw [HPP.out, HWW.out]
  go_wp2_with fail
  refine (HW.out _).mono ?_
  rintro e w3 ⟨s, E, hE, rfl, hb3⟩
  have HB3 := Lib.hid (HB.out.trans (hb3.mono HB.out.size))
  clear hb3
  have hq : (E == 0) = false := by simpa using hE
  clear hE
  go_wp2_with fail
  go_ret
  exact ⟨rfl, HB3.out⟩
set_option maxRecDepth 100000 in
set_option maxHeartbeats 2000000 in
theorem rcells_no (c : Cfg) (w : World) (h : ¬ Fst c 7) : Calls Tryd.prog 18 #[.agg c.a] w fun e w' => e = .returned (.int .i64 0) ∧ Below w.heap.size w w' := by
  have HK := Lib.hid (fun W => rright_no c W h)
  clear h
  obtain ⟨A, B, K, P, T, S, H, V, O⟩ := c
  simp only [Cfg.a] at *
  obtain ⟨p, hp⟩ : ∃ p, w.heap.size = p := ⟨_, rfl⟩
  obtain ⟨w2, hw2⟩ : ∃ w2, w.alloc (.cells #[.int .i64 A, .int .i64 B, .int .i64 K, .int .i64 P, .int .i64 T, .int .i64 S, .int .i64 H, .int .i64 V, .int .i64 O] 29) = w2 := ⟨_, rfl⟩
  have hx : Box w2 p 29 #[.int .i64 A, .int .i64 B, .int .i64 K, .int .i64 P, .int .i64 T, .int .i64 S, .int .i64 H, .int .i64 V, .int .i64 O] := by rw [← hw2, ← hp]; exact Box.new w _ _
  have HB := Lib.hid (show Below w.heap.size w w2 by rw [← hw2]; exact (Below.refl _ w).alloc (Nat.le_refl _) _)
  have HX := Lib.hid hx
  have HPP := Lib.hid hp
  have HWW := Lib.hid hw2
  have k0 := hx.cell 0
  have k1 := hx.cell 1
  have k2 := hx.cell 2
  have k3 := hx.cell 3
  have k4 := hx.cell 4
  have k5 := hx.cell 5
  have k6 := hx.cell 6
  have k7 := hx.cell 7
  have k8 := hx.cell 8
  clear hx hp hw2
  go_enter Tryd.func18, Tryd.ntmps18
  go_upto_region 1 with fail
  rw [HPP.out, HWW.out]
  go_wp2_with fail
  refine (HK.out _).mono ?_
  rintro e w3 ⟨rfl, hb3⟩
  have HB3 := Lib.hid (HB.out.trans (hb3.mono HB.out.size))
  have HX3 := Lib.hid (HX.out.of (hb3.block _ HX.out.lt))
  clear hb3 HB HX
  clear k0 k1 k2 k3 k4 k5 k6 k7 k8 HWW
  go_wp2_with fail
  go_ret
  exact ⟨rfl, HB3.out⟩
set_option maxRecDepth 100000 in
set_option maxHeartbeats 2000000 in
theorem rcells_ok (c : Cfg) (w : World) (h : Fst c 7) : Calls Tryd.prog 18 #[.agg c.a] w fun e w' => e = .returned (.int .i64 (c.A + c.B)) ∧ Below w.heap.size w w' := by
  have HK := Lib.hid (fun W => rright_ok c W h)
  obtain ⟨a1, a2⟩ := h.okC.A
  obtain ⟨b1, b2⟩ := h.okC.B
  clear h
  obtain ⟨A, B, K, P, T, S, H, V, O⟩ := c
  simp only [Cfg.a] at *
  obtain ⟨p, hp⟩ : ∃ p, w.heap.size = p := ⟨_, rfl⟩
  obtain ⟨w2, hw2⟩ : ∃ w2, w.alloc (.cells #[.int .i64 A, .int .i64 B, .int .i64 K, .int .i64 P, .int .i64 T, .int .i64 S, .int .i64 H, .int .i64 V, .int .i64 O] 29) = w2 := ⟨_, rfl⟩
  have hx : Box w2 p 29 #[.int .i64 A, .int .i64 B, .int .i64 K, .int .i64 P, .int .i64 T, .int .i64 S, .int .i64 H, .int .i64 V, .int .i64 O] := by rw [← hw2, ← hp]; exact Box.new w _ _
  have HB := Lib.hid (show Below w.heap.size w w2 by rw [← hw2]; exact (Below.refl _ w).alloc (Nat.le_refl _) _)
  have HX := Lib.hid hx
  have HPP := Lib.hid hp
  have HWW := Lib.hid hw2
  have k0 := hx.cell 0
  have k1 := hx.cell 1
  have k2 := hx.cell 2
  have k3 := hx.cell 3
  have k4 := hx.cell 4
  have k5 := hx.cell 5
  have k6 := hx.cell 6
  have k7 := hx.cell 7
  have k8 := hx.cell 8
  clear hx hp hw2
  go_enter Tryd.func18, Tryd.ntmps18
  go_upto_region 1 with fail
  rw [HPP.out, HWW.out]
  go_wp2_with fail
  refine (HK.out _).mono ?_
  rintro e w3 ⟨rfl, hb3⟩
  have HB3 := Lib.hid (HB.out.trans (hb3.mono HB.out.size))
  have HX3 := Lib.hid (HX.out.of (hb3.block _ HX.out.lt))
  clear hb3 HB HX
  clear k0 k1 k2 k3 k4 k5 k6 k7 k8 HWW
  have k0 := HX3.out.cell 0
  have k1 := HX3.out.cell 1
  have k2 := HX3.out.cell 2
  have k3 := HX3.out.cell 3
  have k4 := HX3.out.cell 4
  have k5 := HX3.out.cell 5
  have k6 := HX3.out.cell 6
  have k7 := HX3.out.cell 7
  have k8 := HX3.out.cell 8
  go_wp2_with fail
  go_ret
  exact ⟨rfl, HB3.out⟩
set_option maxRecDepth 100000 in
set_option maxHeartbeats 2000000 in
theorem rst_no (c : Cfg) (w : World) (h : ¬ Fst c 7) : Calls Tryd.prog 14 #[.agg c.a] w fun e w' => e = .returned (.agg #[.int .i64 0, .int .i64 0, .int .i64 0, .int .i64 0]) ∧ Below w.heap.size w w' := by
  have HK := Lib.hid (fun W => rright_no c W h)
  clear h
  obtain ⟨A, B, K, P, T, S, H, V, O⟩ := c
  simp only [Cfg.a] at *
  obtain ⟨p, hp⟩ : ∃ p, w.heap.size = p := ⟨_, rfl⟩
  obtain ⟨w2, hw2⟩ : ∃ w2, ((w.alloc (.cells #[.int .i64 A, .int .i64 B, .int .i64 K, .int .i64 P, .int .i64 T, .int .i64 S, .int .i64 H, .int .i64 V, .int .i64 O] 29)).alloc (.cells #[.int .i64 0, .int .i64 0, .int .i64 0, .int .i64 0] 34)) = w2 := ⟨_, rfl⟩
  have hx : Box w2 p 29 #[.int .i64 A, .int .i64 B, .int .i64 K, .int .i64 P, .int .i64 T, .int .i64 S, .int .i64 H, .int .i64 V, .int .i64 O] := by rw [← hw2, ← hp]; exact (Box.new w _ _).alloc _
  have hy : Box w2 (p + 1) 34 #[.int .i64 0, .int .i64 0, .int .i64 0, .int .i64 0] := by
    rw [← hw2, ← hp]
    have := Box.new (w.alloc (.cells #[.int .i64 A, .int .i64 B, .int .i64 K, .int .i64 P, .int .i64 T, .int .i64 S, .int .i64 H, .int .i64 V, .int .i64 O] 29)) 34 #[.int .i64 0, .int .i64 0, .int .i64 0, .int .i64 0]
    simpa using this
  have HB := Lib.hid (show Below w.heap.size w w2 by rw [← hw2]; exact ((Below.refl _ w).alloc (Nat.le_refl _) _).alloc (by simp) _)
  have HX := Lib.hid hx
  have HY := Lib.hid hy
  have HPP := Lib.hid hp
  have HWW := Lib.hid hw2
  have k0 := hx.cell 0
  have k1 := hx.cell 1
  have k2 := hx.cell 2
  have k3 := hx.cell 3
  have k4 := hx.cell 4
  have k5 := hx.cell 5
  have k6 := hx.cell 6
  have k7 := hx.cell 7
  have k8 := hx.cell 8
  clear hx hy hw2
  go_enter Tryd.func14, Tryd.ntmps14
  go_upto_region 1 with fail
  rw [HWW.out]
  go_wp2_with fail
  refine (HK.out _).mono ?_
  rintro e w3 ⟨rfl, hb3⟩
  have HB3 := Lib.hid (HB.out.trans (hb3.mono HB.out.size))
  have HX3 := Lib.hid (HX.out.of (hb3.block _ HX.out.lt))
  have HY3 := Lib.hid (HY.out.of (hb3.block _ HY.out.lt))
  clear hb3 HB HX
  clear k0 k1 k2 k3 k4 k5 k6 k7 k8 HWW
  have y0 := HY3.out.cell 0
  have y1 := HY3.out.cell 1
  have y2 := HY3.out.cell 2
  have y3 := HY3.out.cell 3
  have f0 := HY3.out.frozen 0
  have f1 := HY3.out.frozen 1
  have f2 := HY3.out.frozen 2
  have f3 := HY3.out.frozen 3
  have HZ := Lib.hid ((((HY3.out.put 0 (.int .i64 0)).put 1 (.int .i64 0)).put 2 (.int .i64 0)).put 3 (.int .i64 0))
  have HE := Lib.hid (below_only HB3.out (((((Only.refl (just (p + 1)) w3).setCell (p := ⟨p + 1, 0, none⟩) (.inl (just_self _)) (.int .i64 0)).setCell (p := ⟨p + 1, 1, none⟩) (.inl (just_self _)) (.int .i64 0)).setCell (p := ⟨p + 1, 2, none⟩) (.inl (just_self _)) (.int .i64 0)).setCell (p := ⟨p + 1, 3, none⟩) (.inl (just_self _)) (.int .i64 0)) HB3.out.size (fun i hi e => by have e : i = p + 1 := e; have := HPP.out; omega))
  go_wp2_with fail
  exact bodyPost_ret (v := .agg #[.int .i64 0, .int .i64 0, .int .i64 0, .int .i64 0]) (results_one Tryd.results14 rfl (load_box HZ.out Tryd.underlying34 rfl (by kernel_rfl))) rfl ⟨rfl, HE.out⟩
set_option maxRecDepth 100000 in
set_option maxHeartbeats 2000000 in
theorem rst_ok (c : Cfg) (w : World) (h : Fst c 7) : Calls Tryd.prog 14 #[.agg c.a] w fun e w' => e = .returned (.agg #[.int .i64 (nB c), .int .i64 c.S, .int .i64 c.H, .int .i64 c.V]) ∧ Below w.heap.size w w' := by
  have HK := Lib.hid (fun W => rright_ok c W h)
  have HS := Lib.hid (fun W => rstore_any c W)
  generalize nB c = N at *
  clear h
  obtain ⟨A, B, K, P, T, S, H, V, O⟩ := c
  simp only [Cfg.a] at *
  obtain ⟨p, hp⟩ : ∃ p, w.heap.size = p := ⟨_, rfl⟩
  obtain ⟨w2, hw2⟩ : ∃ w2, ((w.alloc (.cells #[.int .i64 A, .int .i64 B, .int .i64 K, .int .i64 P, .int .i64 T, .int .i64 S, .int .i64 H, .int .i64 V, .int .i64 O] 29)).alloc (.cells #[.int .i64 0, .int .i64 0, .int .i64 0, .int .i64 0] 34)) = w2 := ⟨_, rfl⟩
  have hx : Box w2 p 29 #[.int .i64 A, .int .i64 B, .int .i64 K, .int .i64 P, .int .i64 T, .int .i64 S, .int .i64 H, .int .i64 V, .int .i64 O] := by rw [← hw2, ← hp]; exact (Box.new w _ _).alloc _
  have hy : Box w2 (p + 1) 34 #[.int .i64 0, .int .i64 0, .int .i64 0, .int .i64 0] := by
    rw [← hw2, ← hp]
    have := Box.new (w.alloc (.cells #[.int .i64 A, .int .i64 B, .int .i64 K, .int .i64 P, .int .i64 T, .int .i64 S, .int .i64 H, .int .i64 V, .int .i64 O] 29)) 34 #[.int .i64 0, .int .i64 0, .int .i64 0, .int .i64 0]
    simpa using this
  have HB := Lib.hid (show Below w.heap.size w w2 by rw [← hw2]; exact ((Below.refl _ w).alloc (Nat.le_refl _) _).alloc (by simp) _)
  have HX := Lib.hid hx
  have HY := Lib.hid hy
  have HPP := Lib.hid hp
  have HWW := Lib.hid hw2
  have k0 := hx.cell 0
  have k1 := hx.cell 1
  have k2 := hx.cell 2
  have k3 := hx.cell 3
  have k4 := hx.cell 4
  have k5 := hx.cell 5
  have k6 := hx.cell 6
  have k7 := hx.cell 7
  have k8 := hx.cell 8
  clear hx hy hw2
  go_enter Tryd.func14, Tryd.ntmps14
  go_upto_region 1 with fail
  rw [HWW.out]
  go_wp2_with fail
  refine (HK.out _).mono ?_
  rintro e w3 ⟨rfl, hb3⟩
  have HB3 := Lib.hid (HB.out.trans (hb3.mono HB.out.size))
  have HX3 := Lib.hid (HX.out.of (hb3.block _ HX.out.lt))
  have HY3 := Lib.hid (HY.out.of (hb3.block _ HY.out.lt))
  clear hb3 HB HX
  clear k0 k1 k2 k3 k4 k5 k6 k7 k8 HWW
  have k0 := HX3.out.cell 0
  have k1 := HX3.out.cell 1
  have k2 := HX3.out.cell 2
  have k3 := HX3.out.cell 3
  have k4 := HX3.out.cell 4
  have k5 := HX3.out.cell 5
  have k6 := HX3.out.cell 6
  have k7 := HX3.out.cell 7
  have k8 := HX3.out.cell 8
  go_wp2_with fail
  refine (HS.out _).mono ?_
  rintro e w4 ⟨rfl, hb4⟩
  have HB4 := Lib.hid (HB3.out.trans (hb4.mono HB3.out.size))
  have HY4 := Lib.hid (HY3.out.of (hb4.block _ HY3.out.lt))
  clear hb4 k0 k1 k2 k3 k4 k5 k6 k7 k8
  have y0 := HY4.out.cell 0
  have y1 := HY4.out.cell 1
  have y2 := HY4.out.cell 2
  have y3 := HY4.out.cell 3
  have f0 := HY4.out.frozen 0
  have f1 := HY4.out.frozen 1
  have f2 := HY4.out.frozen 2
  have f3 := HY4.out.frozen 3
  have HZ := Lib.hid ((((HY4.out.put 0 (.int .i64 N)).put 1 (.int .i64 S)).put 2 (.int .i64 H)).put 3 (.int .i64 V))
  have HE := Lib.hid (below_only HB4.out (((((Only.refl (just (p + 1)) w4).setCell (p := ⟨p + 1, 0, none⟩) (.inl (just_self _)) (.int .i64 N)).setCell (p := ⟨p + 1, 1, none⟩) (.inl (just_self _)) (.int .i64 S)).setCell (p := ⟨p + 1, 2, none⟩) (.inl (just_self _)) (.int .i64 H)).setCell (p := ⟨p + 1, 3, none⟩) (.inl (just_self _)) (.int .i64 V)) HB4.out.size (fun i hi e => by have e : i = p + 1 := e; have := HPP.out; omega))
  go_wp2_with fail
  exact bodyPost_ret (v := .agg #[.int .i64 N, .int .i64 S, .int .i64 H, .int .i64 V]) (results_one Tryd.results14 rfl (load_box HZ.out Tryd.underlying34 rfl (by kernel_rfl))) rfl ⟨rfl, HE.out⟩
set_option maxRecDepth 100000 in
set_option maxHeartbeats 2000000 in
theorem racc_no (c : Cfg) (w : World) (h : ¬ Fst c 7) : Calls Tryd.prog 16 #[.agg c.a] w fun e w' => e = .returned (.tuple #[.int .i64 0, .int .i64 0]) ∧ Below w.heap.size w w' := by
  have HK := Lib.hid (fun W => rright_no c W h)
  clear h
  obtain ⟨A, B, K, P, T, S, H, V, O⟩ := c
  simp only [Cfg.a] at *
  obtain ⟨p, hp⟩ : ∃ p, w.heap.size = p := ⟨_, rfl⟩
  obtain ⟨w2, hw2⟩ : ∃ w2, w.alloc (.cells #[.int .i64 A, .int .i64 B, .int .i64 K, .int .i64 P, .int .i64 T, .int .i64 S, .int .i64 H, .int .i64 V, .int .i64 O] 29) = w2 := ⟨_, rfl⟩
  have hx : Box w2 p 29 #[.int .i64 A, .int .i64 B, .int .i64 K, .int .i64 P, .int .i64 T, .int .i64 S, .int .i64 H, .int .i64 V, .int .i64 O] := by rw [← hw2, ← hp]; exact Box.new w _ _
  have HB := Lib.hid (show Below w.heap.size w w2 by rw [← hw2]; exact (Below.refl _ w).alloc (Nat.le_refl _) _)
  have HX := Lib.hid hx
  have HPP := Lib.hid hp
  have HWW := Lib.hid hw2
  have k0 := hx.cell 0
  have k1 := hx.cell 1
  have k2 := hx.cell 2
  have k3 := hx.cell 3
  have k4 := hx.cell 4
  have k5 := hx.cell 5
  have k6 := hx.cell 6
  have k7 := hx.cell 7
  have k8 := hx.cell 8
  clear hx hp hw2
  go_enter Tryd.func16, Tryd.ntmps16
  go_upto_region 1 with fail
  rw [HPP.out, HWW.out]
  go_wp2_with fail
  refine (HK.out _).mono ?_
  rintro e w3 ⟨rfl, hb3⟩
  have HB3 := Lib.hid (HB.out.trans (hb3.mono HB.out.size))
  have HX3 := Lib.hid (HX.out.of (hb3.block _ HX.out.lt))
  clear hb3 HB HX
  clear k0 k1 k2 k3 k4 k5 k6 k7 k8 HWW
  go_wp2_with fail
  go_ret2
  exact ⟨rfl, HB3.out⟩
set_option maxRecDepth 100000 in
set_option maxHeartbeats 2000000 in
theorem racc_ok (c : Cfg) (w : World) (h : Fst c 7) : Calls Tryd.prog 16 #[.agg c.a] w fun e w' => e = .returned (.tuple #[.int .i64 (2 * c.K + 5), .int .i64 (c.A + 5 * c.B)]) ∧ Below w.heap.size w w' := by
  have HK := Lib.hid (fun W => rright_ok c W h)
  obtain ⟨a1, a2⟩ := h.okC.A
  obtain ⟨b1, b2⟩ := h.okC.B
  obtain ⟨d1, d2⟩ := h.okC.K
  clear h
  obtain ⟨A, B, K, P, T, S, H, V, O⟩ := c
  simp only [Cfg.a] at *
  obtain ⟨p, hp⟩ : ∃ p, w.heap.size = p := ⟨_, rfl⟩
  obtain ⟨w2, hw2⟩ : ∃ w2, w.alloc (.cells #[.int .i64 A, .int .i64 B, .int .i64 K, .int .i64 P, .int .i64 T, .int .i64 S, .int .i64 H, .int .i64 V, .int .i64 O] 29) = w2 := ⟨_, rfl⟩
  have hx : Box w2 p 29 #[.int .i64 A, .int .i64 B, .int .i64 K, .int .i64 P, .int .i64 T, .int .i64 S, .int .i64 H, .int .i64 V, .int .i64 O] := by rw [← hw2, ← hp]; exact Box.new w _ _
  have HB := Lib.hid (show Below w.heap.size w w2 by rw [← hw2]; exact (Below.refl _ w).alloc (Nat.le_refl _) _)
  have HX := Lib.hid hx
  have HPP := Lib.hid hp
  have HWW := Lib.hid hw2
  have k0 := hx.cell 0
  have k1 := hx.cell 1
  have k2 := hx.cell 2
  have k3 := hx.cell 3
  have k4 := hx.cell 4
  have k5 := hx.cell 5
  have k6 := hx.cell 6
  have k7 := hx.cell 7
  have k8 := hx.cell 8
  clear hx hp hw2
  go_enter Tryd.func16, Tryd.ntmps16
  go_upto_region 1 with fail
  rw [HPP.out, HWW.out]
  go_wp2_with fail
  refine (HK.out _).mono ?_
  rintro e w3 ⟨rfl, hb3⟩
  have HB3 := Lib.hid (HB.out.trans (hb3.mono HB.out.size))
  have HX3 := Lib.hid (HX.out.of (hb3.block _ HX.out.lt))
  clear hb3 HB HX
  clear k0 k1 k2 k3 k4 k5 k6 k7 k8 HWW
  have k0 := Gr.cell (HX3.out.cell 0)
  have k1 := Gr.cell (HX3.out.cell 1)
  have k2 := Gr.cell (HX3.out.cell 2)
  have k3 := Gr.cell (HX3.out.cell 3)
  have k4 := Gr.cell (HX3.out.cell 4)
  have k5 := Gr.cell (HX3.out.cell 5)
  have k6 := Gr.cell (HX3.out.cell 6)
  have k7 := Gr.cell (HX3.out.cell 7)
  have k8 := Gr.cell (HX3.out.cell 8)
  go_wp2_with fail
  refine wp_region_grow (by kernel_rfl) (by kernel_rfl) ?_
  repeat (go_big_quiet_step (fail))
  refine wpQuiet_nil ?_
  intro w9 hw9
  obtain ⟨G, hG⟩ := hw9
  subst hG
  have HB9 := Lib.hid (HB3.out.trans (G.ok.none.mono HB3.out.size))
  clear k0 k1 k2 k3 k4 k5 k6 k7 k8
  go_wp2_with fail
  go_ret2
  exact ⟨rfl, HB9.out⟩
set_option maxRecDepth 100000 in
set_option maxHeartbeats 2000000 in
theorem rwd_no (c : Cfg) (n : Int) (w : World) (h : ¬ Fst c 7) : Calls Tryd.prog 23 #[.agg c.a, .int .i64 n] w fun e w' => e = .returned (.int .i64 0) ∧ Below w.heap.size w w' := by
  have HK := Lib.hid (fun W => rright_no c W h)
  clear h
  obtain ⟨A, B, K, P, T, S, H, V, O⟩ := c
  simp only [Cfg.a] at *
  obtain ⟨p, hp⟩ : ∃ p, w.heap.size = p := ⟨_, rfl⟩
  obtain ⟨w2, hw2⟩ : ∃ w2, w.alloc (.cells #[.int .i64 A, .int .i64 B, .int .i64 K, .int .i64 P, .int .i64 T, .int .i64 S, .int .i64 H, .int .i64 V, .int .i64 O] 29) = w2 := ⟨_, rfl⟩
  have hx : Box w2 p 29 #[.int .i64 A, .int .i64 B, .int .i64 K, .int .i64 P, .int .i64 T, .int .i64 S, .int .i64 H, .int .i64 V, .int .i64 O] := by rw [← hw2, ← hp]; exact Box.new w _ _
  have HB := Lib.hid (show Below w.heap.size w w2 by rw [← hw2]; exact (Below.refl _ w).alloc (Nat.le_refl _) _)
  have HX := Lib.hid hx
  have HPP := Lib.hid hp
  have HWW := Lib.hid hw2
  have k0 := hx.cell 0
  have k1 := hx.cell 1
  have k2 := hx.cell 2
  have k3 := hx.cell 3
  have k4 := hx.cell 4
  have k5 := hx.cell 5
  have k6 := hx.cell 6
  have k7 := hx.cell 7
  have k8 := hx.cell 8
  clear hx hp hw2
  go_enter Tryd.func23, Tryd.ntmps23
  go_upto_region 1 with fail
  rw [HPP.out, HWW.out]
  go_wp2_with fail
  refine (HK.out _).mono ?_
  rintro e w3 ⟨rfl, hb3⟩
  have HB3 := Lib.hid (HB.out.trans (hb3.mono HB.out.size))
  have HX3 := Lib.hid (HX.out.of (hb3.block _ HX.out.lt))
  clear hb3 HB HX
  clear k0 k1 k2 k3 k4 k5 k6 k7 k8 HWW
  go_wp2_with fail
  go_ret
  exact ⟨rfl, HB3.out⟩
set_option maxRecDepth 100000 in
set_option maxHeartbeats 2000000 in
theorem rwd_ok (c : Cfg) (n : Int) (w : World) (h : Fst c 7) : Calls Tryd.prog 23 #[.agg c.a, .int .i64 n] w fun e w' => e = .returned (.int .i64 (wdC c n)) ∧ Below w.heap.size w w' := by
  have HK := Lib.hid (fun W => rright_ok c W h)
  have HC := Lib.hid (fun W => racc_ok c W h)
  have HE : Hid (wdC c n = 4 + 2 * c.V * (cntN n * (2 * c.K + 5) + cntN n / c.B * (c.A + 5 * c.B))) := Lib.hid (by unfold wdC; rw [Int.mul_comm (2 * c.V)])
  have HN : Hid (max 0 (min n 1048576) = cntN n) := Lib.hid (by unfold cntN; omega)
  have hn := cntN_rng n
  obtain ⟨a1, a2⟩ := h.okC.A
  obtain ⟨b1, b2⟩ := h.okC.B
  obtain ⟨d1, d2⟩ := h.okC.K
  have hv := h.okC.V
  have hq : 0 ≤ cntN n / c.B ∧ cntN n / c.B ≤ 1048576 := ⟨Int.ediv_nonneg hn.1 (by omega), Int.le_trans (Int.ediv_le_self _ hn.1) hn.2⟩
  have m1 := mul_rng hn (show 0 ≤ 2 * c.K + 5 ∧ 2 * c.K + 5 ≤ 37 by omega)
  have m2 := mul_rng hq (show 0 ≤ c.A + 5 * c.B ∧ c.A + 5 * c.B ≤ 144 by omega)
  have m3 := mul_rng (y := cntN n * (2 * c.K + 5) + cntN n / c.B * (c.A + 5 * c.B)) (Y := 189792256) (show 0 ≤ 2 * c.V ∧ 2 * c.V ≤ 8 by omega) (show _ by omega)
  have hb0 : c.B ≠ 0 := by omega
  generalize wdC c n = R at *
  generalize cntN n = X at *
  clear h
  obtain ⟨A, B, K, P, T, S, H, V, O⟩ := c
  simp only [Cfg.a] at *
  obtain ⟨p, hp⟩ : ∃ p, w.heap.size = p := ⟨_, rfl⟩
  obtain ⟨w2, hw2⟩ : ∃ w2, w.alloc (.cells #[.int .i64 A, .int .i64 B, .int .i64 K, .int .i64 P, .int .i64 T, .int .i64 S, .int .i64 H, .int .i64 V, .int .i64 O] 29) = w2 := ⟨_, rfl⟩
  have hx : Box w2 p 29 #[.int .i64 A, .int .i64 B, .int .i64 K, .int .i64 P, .int .i64 T, .int .i64 S, .int .i64 H, .int .i64 V, .int .i64 O] := by rw [← hw2, ← hp]; exact Box.new w _ _
  have HB := Lib.hid (show Below w.heap.size w w2 by rw [← hw2]; exact (Below.refl _ w).alloc (Nat.le_refl _) _)
  have HX := Lib.hid hx
  have HPP := Lib.hid hp
  have HWW := Lib.hid hw2
  have k0 := hx.cell 0
  have k1 := hx.cell 1
  have k2 := hx.cell 2
  have k3 := hx.cell 3
  have k4 := hx.cell 4
  have k5 := hx.cell 5
  have k6 := hx.cell 6
  have k7 := hx.cell 7
  have k8 := hx.cell 8
  clear hx hp hw2
  go_enter Tryd.func23, Tryd.ntmps23
  go_upto_region 1 with fail
  rw [HPP.out, HWW.out]
  go_wp2_with fail
  refine (HK.out _).mono ?_
  rintro e w3 ⟨rfl, hb3⟩
  have HB3 := Lib.hid (HB.out.trans (hb3.mono HB.out.size))
  have HX3 := Lib.hid (HX.out.of (hb3.block _ HX.out.lt))
  clear hb3 HB HX
  clear k0 k1 k2 k3 k4 k5 k6 k7 k8 HWW
  have k0 := HX3.out.cell 0
  have k1 := HX3.out.cell 1
  have k2 := HX3.out.cell 2
  have k3 := HX3.out.cell 3
  have k4 := HX3.out.cell 4
  have k5 := HX3.out.cell 5
  have k6 := HX3.out.cell 6
  have k7 := HX3.out.cell 7
  have k8 := HX3.out.cell 8
  go_upto_region 4 with fail
  rw [HN.out]
  go_wp2_with fail
  refine (HC.out _).mono ?_
  rintro e w4 ⟨rfl, hb4⟩
  have HB4 := Lib.hid (HB3.out.trans (hb4.mono HB3.out.size))
  have HX4 := Lib.hid (HX3.out.of (hb4.block _ HX3.out.lt))
  clear hb4 k0 k1 k2 k3 k4 k5 k6 k7 k8 HX3 HB3
  have k1 := Gr.cell (HX4.out.cell 1)
  have k7 := Gr.cell (HX4.out.cell 7)
  go_wp2_with fail
  refine wp_region_grow (by kernel_rfl) (by kernel_rfl) ?_
  repeat (go_big_quiet_step (fail))
  refine wpQuiet_nil ?_
  intro w9 hw9
  obtain ⟨G, hG⟩ := hw9
  subst hG
  have HB9 := Lib.hid (HB4.out.trans (G.ok.none.mono HB4.out.size))
  clear k1 k7
  go_wp2_with fail
  go_ret
  exact ⟨by rw [HE.out]; rfl, HB9.out⟩
set_option maxRecDepth 100000 in
set_option maxHeartbeats 2000000 in
theorem rsz_no (c : Cfg) (w : World) (h : ¬ Fst c 7) : Calls Tryd.prog 21 #[.agg c.a] w (SzPost w []) := by
  have HK := Lib.hid (fun W => rright_no c W h)
  clear h
  obtain ⟨A, B, K, P, T, S, H, V, O⟩ := c
  simp only [Cfg.a] at *
  obtain ⟨p, hp⟩ : ∃ p, w.heap.size = p := ⟨_, rfl⟩
  obtain ⟨w2, hw2⟩ : ∃ w2, w.alloc (.cells #[.int .i64 A, .int .i64 B, .int .i64 K, .int .i64 P, .int .i64 T, .int .i64 S, .int .i64 H, .int .i64 V, .int .i64 O] 29) = w2 := ⟨_, rfl⟩
  have hx : Box w2 p 29 #[.int .i64 A, .int .i64 B, .int .i64 K, .int .i64 P, .int .i64 T, .int .i64 S, .int .i64 H, .int .i64 V, .int .i64 O] := by rw [← hw2, ← hp]; exact Box.new w _ _
  have HB := Lib.hid (show Below w.heap.size w w2 by rw [← hw2]; exact (Below.refl _ w).alloc (Nat.le_refl _) _)
  have HX := Lib.hid hx
  have HPP := Lib.hid hp
  have HWW := Lib.hid hw2
  have k0 := hx.cell 0
  have k1 := hx.cell 1
  have k2 := hx.cell 2
  have k3 := hx.cell 3
  have k4 := hx.cell 4
  have k5 := hx.cell 5
  have k6 := hx.cell 6
  have k7 := hx.cell 7
  have k8 := hx.cell 8
  clear hx hp hw2
  go_enter Tryd.func21, Tryd.ntmps21
  go_upto_region 1 with fail
  rw [HPP.out, HWW.out]
  go_wp2_with fail
  refine (HK.out _).mono ?_
  rintro e w3 ⟨rfl, hb3⟩
  have HB3 := Lib.hid (HB.out.trans (hb3.mono HB.out.size))
  have HX3 := Lib.hid (HX.out.of (hb3.block _ HX.out.lt))
  clear hb3 HB HX
  clear k0 k1 k2 k3 k4 k5 k6 k7 k8 HWW
  have HE := Lib.hid (szPost_no w w3 HB3.out)
  go_wp2_with fail
  go_ret
  exact HE.out
set_option linter.unusedSimpArgs false in
set_option maxRecDepth 100000 in
set_option maxHeartbeats 2000000 in
theorem rsz_ok (c : Cfg) (w : World) (h : Fst c 7) : Calls Tryd.prog 21 #[.agg c.a] w (SzPost w (szC c)) := by
  have HK := Lib.hid (fun W => rright_ok c W h)
  have HS := Lib.hid (fun W => rstore_any c W)
  have hst := h.okC.st
  obtain ⟨b, hb, hN⟩ := nB_tree h.okC.A h.okC.B h.okC.T
  have HZ : Hid (∀ W, Calls Tryd.prog 27 #[.agg #[.int .i64 (nB c), .int .i64 c.S, .int .i64 c.H, .int .i64 c.V]] W (SzPost W (szI (nB c) c.S c.H c.V))) := Lib.hid (fun W => by
    rw [hN] at hst ⊢
    exact rssizes_any b c.S c.H c.V W hb hst)
  have HL := Lib.hid (szI_len h.okC.st)
  have hA := h.okC.A
  have hB := h.okC.B
  have HR := Lib.hid (fun W => rround_any (c.A + c.B) W)
  have HF : Hid (szC c = [1, c.P, rd (c.A + c.B)] ++ szI (nB c) c.S c.H c.V) := Lib.hid rfl
  clear hN hst hb
  generalize szC c = LS at *
  generalize rd (c.A + c.B) = R at *
  generalize szI (nB c) c.S c.H c.V = l at *
  generalize nB c = N at *
  clear h
  obtain ⟨A, B, K, P, T, S, H, V, O⟩ := c
  simp only [Cfg.a] at *
  obtain ⟨p, hp⟩ : ∃ p, w.heap.size = p := ⟨_, rfl⟩
  obtain ⟨w2, hw2⟩ : ∃ w2, w.alloc (.cells #[.int .i64 A, .int .i64 B, .int .i64 K, .int .i64 P, .int .i64 T, .int .i64 S, .int .i64 H, .int .i64 V, .int .i64 O] 29) = w2 := ⟨_, rfl⟩
  have hx : Box w2 p 29 #[.int .i64 A, .int .i64 B, .int .i64 K, .int .i64 P, .int .i64 T, .int .i64 S, .int .i64 H, .int .i64 V, .int .i64 O] := by rw [← hw2, ← hp]; exact Box.new w _ _
  have HB := Lib.hid (show Below w.heap.size w w2 by rw [← hw2]; exact (Below.refl _ w).alloc (Nat.le_refl _) _)
  have HX := Lib.hid hx
  have HPP := Lib.hid hp
  have HWW := Lib.hid hw2
  have k0 := hx.cell 0
  have k1 := hx.cell 1
  have k2 := hx.cell 2
  have k3 := hx.cell 3
  have k4 := hx.cell 4
  have k5 := hx.cell 5
  have k6 := hx.cell 6
  have k7 := hx.cell 7
  have k8 := hx.cell 8
  clear hx hp hw2
  go_enter Tryd.func21, Tryd.ntmps21
  go_upto_region 1 with fail
  rw [HPP.out, HWW.out]
  go_wp2_with fail
  refine (HK.out _).mono ?_
  rintro e w3 ⟨rfl, hb3⟩
  have HB3 := Lib.hid (HB.out.trans (hb3.mono HB.out.size))
  have HX3 := Lib.hid (HX.out.of (hb3.block _ HX.out.lt))
  clear hb3 HB HX
  clear k0 k1 k2 k3 k4 k5 k6 k7 k8 HWW
  go_upto_region 3 with fail
  refine held_s (S := fun w' => Box w' p 29 #[.int .i64 A, .int .i64 B, .int .i64 K, .int .i64 P, .int .i64 T, .int .i64 S, .int .i64 H, .int .i64 V, .int .i64 O] ∧ Below w.heap.size w w') 14 rfl (by kernel_rfl) ⟨HX3.out.drewN 1, HB3.out.trans ((Below.refl _ _).drew)⟩ (fun hHeld => ?_)
  clear HX3 HB3
  simp only [Array.replicate_succ, Array.replicate_zero, List.push_toArray, List.nil_append, List.cons_append]
  generalize w3.drew = w4 at *
  refine wpAnyH_take (i := 0) (oi := ⟨some 6, _, _, _, _, _⟩) (v := (.pointer (some ⟨p, 3, none⟩))) rfl (by kernel_rfl) (by kernel_rfl) (by kernel_rfl) (fun _ _ _ h => h) (Or.inl ⟨by rfl, fun w' hw => by go_simp⟩) hHeld ?_
  try simp only [Act.put, List.setIfInBounds_toArray, List.set_cons_zero, List.set_cons_succ]
  refine wpAnyH_take (i := 1) (oi := ⟨some 7, _, _, _, _, _⟩) (v := (.int .i64 P)) rfl (by kernel_rfl) (by kernel_rfl) (by kernel_rfl) (fun _ _ _ h => h) (Or.inl ⟨by rfl, fun w' hw => by (have k3 := hw.1.cell 3; go_simp)⟩) hHeld ?_
  try simp only [Act.put, List.setIfInBounds_toArray, List.set_cons_zero, List.set_cons_succ]
  refine wpAnyH_take (i := 2) (oi := ⟨some 8, _, _, _, _, _⟩) (v := (.pointer (some ⟨p, 0, none⟩))) rfl (by kernel_rfl) (by kernel_rfl) (by kernel_rfl) (fun _ _ _ h => h) (Or.inl ⟨by rfl, fun w' hw => by go_simp⟩) hHeld ?_
  try simp only [Act.put, List.setIfInBounds_toArray, List.set_cons_zero, List.set_cons_succ]
  refine wpAnyH_take (i := 3) (oi := ⟨some 9, _, _, _, _, _⟩) (v := (.int .i64 A)) rfl (by kernel_rfl) (by kernel_rfl) (by kernel_rfl) (fun _ _ _ h => h) (Or.inl ⟨by rfl, fun w' hw => by (have k3 := hw.1.cell 0; go_simp)⟩) hHeld ?_
  try simp only [Act.put, List.setIfInBounds_toArray, List.set_cons_zero, List.set_cons_succ]
  refine wpAnyH_take (i := 4) (oi := ⟨some 10, _, _, _, _, _⟩) (v := (.pointer (some ⟨p, 1, none⟩))) rfl (by kernel_rfl) (by kernel_rfl) (by kernel_rfl) (fun _ _ _ h => h) (Or.inl ⟨by rfl, fun w' hw => by go_simp⟩) hHeld ?_
  try simp only [Act.put, List.setIfInBounds_toArray, List.set_cons_zero, List.set_cons_succ]
  refine wpAnyH_take (i := 5) (oi := ⟨some 11, _, _, _, _, _⟩) (v := (.int .i64 B)) rfl (by kernel_rfl) (by kernel_rfl) (by kernel_rfl) (fun _ _ _ h => h) (Or.inl ⟨by rfl, fun w' hw => by (have k3 := hw.1.cell 1; go_simp)⟩) hHeld ?_
  try simp only [Act.put, List.setIfInBounds_toArray, List.set_cons_zero, List.set_cons_succ]
  refine wpAnyH_take (i := 6) (oi := ⟨some 12, _, _, _, _, _⟩) (v := (.int .i64 (A + B))) rfl (by kernel_rfl) (by kernel_rfl) (by kernel_rfl) (fun _ _ _ h => h) (Or.inl ⟨by rfl, fun w' hw => by (go_simp; rw [IntKind.wrap_i64]; omega)⟩) hHeld ?_
  try simp only [Act.put, List.setIfInBounds_toArray, List.set_cons_zero, List.set_cons_succ]
  refine wpAnyH_take (i := 9) (oi := ⟨some 15, _, _, _, _, _⟩) (v := (.agg #[.int .i64 A, .int .i64 B, .int .i64 K, .int .i64 P, .int .i64 T, .int .i64 S, .int .i64 H, .int .i64 V, .int .i64 O])) rfl (by kernel_rfl) (by kernel_rfl) (by kernel_rfl) (fun _ _ _ h => h) (Or.inl ⟨by rfl, fun w' hw => by (have k0 := hw.1.cell 0; have k1 := hw.1.cell 1; have k2 := hw.1.cell 2; have k3 := hw.1.cell 3; have k4 := hw.1.cell 4; have k5 := hw.1.cell 5; have k6 := hw.1.cell 6; have k7 := hw.1.cell 7; have k8 := hw.1.cell 8; go_simp)⟩) hHeld ?_
  try simp only [Act.put, List.setIfInBounds_toArray, List.set_cons_zero, List.set_cons_succ]
  refine one_ready 7 rfl (by kernel_rfl) (fun K9 hK => ?_)
  go_simp
  refine (HR.out _).mono ?_
  rintro e w6 ⟨rfl, rfl⟩
  refine hK.out _ _ hHeld (fun hHeld => ?_)
  clear hK K9
  try simp only [List.setIfInBounds_toArray, List.set_cons_zero, List.set_cons_succ]
  refine wpAnyH_ready (rs := [8, 10]) (by kernel_rfl) (by simp) (AllReadyH.cons rfl (fun K9 hK => ?_) (AllReadyH.cons rfl (fun K9 hK => ?_) (AllReadyH.nil)))
  · have hX7 : Box (w6.alloc (.cells #[.int .i64 1, .int .i64 P, .int .i64 R] 3)) p 29 #[.int .i64 A, .int .i64 B, .int .i64 K, .int .i64 P, .int .i64 T, .int .i64 S, .int .i64 H, .int .i64 V, .int .i64 O] := hHeld.1.alloc _
    have hI7 : IrAt w (.slice (some ⟨w6.heap.size, 0, none⟩) 3 3) [1, P, R] (w6.alloc (.cells #[.int .i64 1, .int .i64 P, .int .i64 R] 3)) := IrAt.new [1, P, R] 3 rfl hHeld.2 (by omega)
    have hB7 := hHeld.2.alloc hHeld.2.size (.cells #[.int .i64 1, .int .i64 P, .int .i64 R] 3)
    have HI7 := Lib.hid hI7
    go_simp
    refine hK.out _ _ ⟨hX7, hB7⟩ (fun hHeld => ?_)
    clear hK K9 hX7 hI7 hB7
    try simp only [Act.put, List.setIfInBounds_toArray, List.set_cons_zero, List.set_cons_succ]
    obtain ⟨w7, hw7⟩ : ∃ w7, w6.alloc (.cells #[.int .i64 1, .int .i64 P, .int .i64 R] 3) = w7 := ⟨_, rfl⟩
    obtain ⟨v3, hv3⟩ : ∃ v3 : Value, .slice (some ⟨w6.heap.size, 0, none⟩) 3 3 = v3 := ⟨_, rfl⟩
    rw [hw7] at HI7 hHeld ⊢
    rw [hv3] at HI7
    simp only [hv3]
    clear hw7 hv3
    refine one_ready 10 rfl (by kernel_rfl) (fun K9 hK => ?_)
    go_simp
    refine (HS.out _).mono ?_
    rintro e w8 ⟨rfl, hb8⟩
    have HI7 := Lib.hid (HI7.out.more hb8)
    refine hK.out _ _ ⟨hHeld.1.of (hb8.block _ hHeld.1.lt), hHeld.2.trans (hb8.mono hHeld.2.size)⟩ (fun hHeld => ?_)
    clear hK K9 hb8
    try simp only [Act.put, List.setIfInBounds_toArray, List.set_cons_zero, List.set_cons_succ]
    refine one_ready 11 rfl (by kernel_rfl) (fun K9 hK => ?_)
    go_simp
    refine (HZ.out _).mono ?_
    rintro e w9 ⟨v, rfl, hI⟩
    have HI7 := Lib.hid (HI7.out.more hI.below)
    obtain ⟨g, cap, rfl, hcap, hr⟩ := hI.out (by have := HL.out.1; omega) (fun j => l.getD j 0) (fun j hj => by simp [List.getD_eq_getElem?_getD, hj])
    have hnews : ∀ j u, (irow l)[j]? = some u → w9.cell? ((⟨g, 0, none⟩ : Addr).add j) = some u := by
      intro j u hu
      have hj : j < l.length := by have := (List.getElem?_eq_some_iff.1 hu).1; rwa [irow_len] at this
      rw [add_plain, Nat.zero_add, hr.cell j hj]
      rw [irow_at l j hj] at hu
      rw [← hu]
      simp [List.getD_eq_getElem?_getD, hj]
    have HLN := Lib.hid hnews
    have HGL := Lib.hid hr.lt
    have hl := HL.out
    obtain ⟨m, hm⟩ : ∃ m, l.length = m := ⟨_, rfl⟩
    have HM := Lib.hid hm
    rw [hm] at hl
    refine hK.out _ _ ⟨hHeld.1.of (hI.below.block _ hHeld.1.lt), hHeld.2.trans (hI.below.mono hHeld.2.size)⟩ (fun hHeld => ?_)
    clear hK K9 hI hr hnews hcap
    simp only [hm]
    clear hm
    try simp only [Act.put, List.setIfInBounds_toArray, List.set_cons_zero, List.set_cons_succ]
    have hsz := HI7.out.below.size
    have HOW : Hid (w9.ownsRow w.heap.size 3 1 v3 3 (irow [1, P, R])) := Lib.hid HI7.out.own
    refine one_ready 12 (o := ⟨some 18, _, _, _, _, _⟩) rfl (by kernel_rfl) (fun K9 hK => ?_)
    refine step_append_where rfl (.tmp 14) (.tmp 17) 42 rfl w.heap.size 3 (.int .i64 0) 1 8 Tryd.underlying42 infoI64 rfl (by decide) v3 3 (irow [1, P, R]) rfl HOW.out ⟨g, 0, none⟩ m cap (irow l) rfl ?c1 HLN.out (irow_one _) ?c2 ?c3 ?c4 ?_
    case c1 => rw [irow_len, HM.out, Nat.mul_one]
    case c2 => simp only [maxLen]; omega
    case c3 => omega
    case c4 => omega
    intro A2 cap2 w10 hown hgr _
    have HN2 : Hid (IrAt w (.slice A2 (3 + m) cap2) LS w10) := by
      have hm := HM.out
      subst hm
      refine Lib.hid ⟨?_, ?_⟩
      · rw [HF.out, List.length_append, irow_append]
        exact hown
      · refine HI7.out.below.grown hgr hsz (fun b e => ?_)
        rcases HI7.out.own.2 with ⟨e0, _⟩ | ⟨g', cap', cur, e0, hb', _⟩
        · rw [e0] at e; simp [Value.ownBlock] at e
        · rw [e0] at e
          obtain rfl : g' = b := by simpa [Value.ownBlock] using e
          exact hb'
    have hXX : Box w10 p 29 #[.int .i64 A, .int .i64 B, .int .i64 K, .int .i64 P, .int .i64 T, .int .i64 S, .int .i64 H, .int .i64 V, .int .i64 O] := hHeld.1.of (hgr.block p hHeld.1.lt (fun e => by
      rcases HI7.out.own.2 with ⟨e0, _⟩ | ⟨g', cap', cur, e0, _, hg', _⟩
      · rw [e0] at e; cases e
      · rw [e0] at e
        obtain rfl : g' = p := by simpa [Value.ownBlock] using e.symm
        exact absurd rfl (Box.ne (cs' := cur) hHeld.1 hg' (by decide))))
    refine hK.out _ _ ⟨hXX, HN2.out.below⟩ (fun hHeld => ?_)
    clear hK K9 hown hgr hXX
    try simp only [Act.put, List.setIfInBounds_toArray, List.set_cons_zero, List.set_cons_succ]
    refine wpAnyH_take (i := 13) (oi := ⟨some 2, _, _, _, _, _⟩) (v := (.slice A2 (3 + m) cap2)) rfl (by kernel_rfl) (by kernel_rfl) (by kernel_rfl) (fun _ _ _ h => h) (Or.inl ⟨by rfl, fun w' hw => by go_simp⟩) hHeld ?_
    try simp only [Act.put, List.setIfInBounds_toArray, List.set_cons_zero, List.set_cons_succ]
    refine wpAnyH_done (by kernel_rfl) ?_ _
    clear hHeld
    go_wp2_with fail
    go_ret
    exact ⟨.slice A2 (3 + m) cap2, rfl, HN2.out⟩
  · go_simp
    refine (HS.out _).mono ?_
    rintro e w8 ⟨rfl, hb8⟩
    refine hK.out _ _ ⟨hHeld.1.of (hb8.block _ hHeld.1.lt), hHeld.2.trans (hb8.mono hHeld.2.size)⟩ (fun hHeld => ?_)
    clear hK K9 hb8
    try simp only [Act.put, List.setIfInBounds_toArray, List.set_cons_zero, List.set_cons_succ]
    refine wpAnyH_ready (rs := [8, 11]) (by kernel_rfl) (by simp) (AllReadyH.cons rfl (fun K9 hK => ?_) (AllReadyH.cons rfl (fun K9 hK => ?_) (AllReadyH.nil)))
    · have hX7 : Box (w8.alloc (.cells #[.int .i64 1, .int .i64 P, .int .i64 R] 3)) p 29 #[.int .i64 A, .int .i64 B, .int .i64 K, .int .i64 P, .int .i64 T, .int .i64 S, .int .i64 H, .int .i64 V, .int .i64 O] := hHeld.1.alloc _
      have hI7 : IrAt w (.slice (some ⟨w8.heap.size, 0, none⟩) 3 3) [1, P, R] (w8.alloc (.cells #[.int .i64 1, .int .i64 P, .int .i64 R] 3)) := IrAt.new [1, P, R] 3 rfl hHeld.2 (by omega)
      have hB7 := hHeld.2.alloc hHeld.2.size (.cells #[.int .i64 1, .int .i64 P, .int .i64 R] 3)
      have HI7 := Lib.hid hI7
      go_simp
      refine hK.out _ _ ⟨hX7, hB7⟩ (fun hHeld => ?_)
      clear hK K9 hX7 hI7 hB7
      try simp only [Act.put, List.setIfInBounds_toArray, List.set_cons_zero, List.set_cons_succ]
      obtain ⟨w7, hw7⟩ : ∃ w7, w8.alloc (.cells #[.int .i64 1, .int .i64 P, .int .i64 R] 3) = w7 := ⟨_, rfl⟩
      obtain ⟨v3, hv3⟩ : ∃ v3 : Value, .slice (some ⟨w8.heap.size, 0, none⟩) 3 3 = v3 := ⟨_, rfl⟩
      rw [hw7] at HI7 hHeld ⊢
      rw [hv3] at HI7
      simp only [hv3]
      clear hw7 hv3
      refine one_ready 11 rfl (by kernel_rfl) (fun K9 hK => ?_)
      go_simp
      refine (HZ.out _).mono ?_
      rintro e w9 ⟨v, rfl, hI⟩
      have HI7 := Lib.hid (HI7.out.more hI.below)
      obtain ⟨g, cap, rfl, hcap, hr⟩ := hI.out (by have := HL.out.1; omega) (fun j => l.getD j 0) (fun j hj => by simp [List.getD_eq_getElem?_getD, hj])
      have hnews : ∀ j u, (irow l)[j]? = some u → w9.cell? ((⟨g, 0, none⟩ : Addr).add j) = some u := by
        intro j u hu
        have hj : j < l.length := by have := (List.getElem?_eq_some_iff.1 hu).1; rwa [irow_len] at this
        rw [add_plain, Nat.zero_add, hr.cell j hj]
        rw [irow_at l j hj] at hu
        rw [← hu]
        simp [List.getD_eq_getElem?_getD, hj]
      have HLN := Lib.hid hnews
      have HGL := Lib.hid hr.lt
      have hl := HL.out
      obtain ⟨m, hm⟩ : ∃ m, l.length = m := ⟨_, rfl⟩
      have HM := Lib.hid hm
      rw [hm] at hl
      refine hK.out _ _ ⟨hHeld.1.of (hI.below.block _ hHeld.1.lt), hHeld.2.trans (hI.below.mono hHeld.2.size)⟩ (fun hHeld => ?_)
      clear hK K9 hI hr hnews hcap
      simp only [hm]
      clear hm
      try simp only [Act.put, List.setIfInBounds_toArray, List.set_cons_zero, List.set_cons_succ]
      have hsz := HI7.out.below.size
      have HOW : Hid (w9.ownsRow w.heap.size 3 1 v3 3 (irow [1, P, R])) := Lib.hid HI7.out.own
      refine one_ready 12 (o := ⟨some 18, _, _, _, _, _⟩) rfl (by kernel_rfl) (fun K9 hK => ?_)
      refine step_append_where rfl (.tmp 14) (.tmp 17) 42 rfl w.heap.size 3 (.int .i64 0) 1 8 Tryd.underlying42 infoI64 rfl (by decide) v3 3 (irow [1, P, R]) rfl HOW.out ⟨g, 0, none⟩ m cap (irow l) rfl ?c1 HLN.out (irow_one _) ?c2 ?c3 ?c4 ?_
      case c1 => rw [irow_len, HM.out, Nat.mul_one]
      case c2 => simp only [maxLen]; omega
      case c3 => omega
      case c4 => omega
      intro A2 cap2 w10 hown hgr _
      have HN2 : Hid (IrAt w (.slice A2 (3 + m) cap2) LS w10) := by
        have hm := HM.out
        subst hm
        refine Lib.hid ⟨?_, ?_⟩
        · rw [HF.out, List.length_append, irow_append]
          exact hown
        · refine HI7.out.below.grown hgr hsz (fun b e => ?_)
          rcases HI7.out.own.2 with ⟨e0, _⟩ | ⟨g', cap', cur, e0, hb', _⟩
          · rw [e0] at e; simp [Value.ownBlock] at e
          · rw [e0] at e
            obtain rfl : g' = b := by simpa [Value.ownBlock] using e
            exact hb'
      have hXX : Box w10 p 29 #[.int .i64 A, .int .i64 B, .int .i64 K, .int .i64 P, .int .i64 T, .int .i64 S, .int .i64 H, .int .i64 V, .int .i64 O] := hHeld.1.of (hgr.block p hHeld.1.lt (fun e => by
        rcases HI7.out.own.2 with ⟨e0, _⟩ | ⟨g', cap', cur, e0, _, hg', _⟩
        · rw [e0] at e; cases e
        · rw [e0] at e
          obtain rfl : g' = p := by simpa [Value.ownBlock] using e.symm
          exact absurd rfl (Box.ne (cs' := cur) hHeld.1 hg' (by decide))))
      refine hK.out _ _ ⟨hXX, HN2.out.below⟩ (fun hHeld => ?_)
      clear hK K9 hown hgr hXX
      try simp only [Act.put, List.setIfInBounds_toArray, List.set_cons_zero, List.set_cons_succ]
      refine wpAnyH_take (i := 13) (oi := ⟨some 2, _, _, _, _, _⟩) (v := (.slice A2 (3 + m) cap2)) rfl (by kernel_rfl) (by kernel_rfl) (by kernel_rfl) (fun _ _ _ h => h) (Or.inl ⟨by rfl, fun w' hw => by go_simp⟩) hHeld ?_
      try simp only [Act.put, List.setIfInBounds_toArray, List.set_cons_zero, List.set_cons_succ]
      refine wpAnyH_done (by kernel_rfl) ?_ _
      clear hHeld
      go_wp2_with fail
      go_ret
      exact ⟨.slice A2 (3 + m) cap2, rfl, HN2.out⟩
    · go_simp
      refine (HZ.out _).mono ?_
      rintro e w9 ⟨v, rfl, hI⟩
      obtain ⟨g, cap, rfl, hcap, hr⟩ := hI.out (by have := HL.out.1; omega) (fun j => l.getD j 0) (fun j hj => by simp [List.getD_eq_getElem?_getD, hj])
      have hnews : ∀ j u, (irow l)[j]? = some u → w9.cell? ((⟨g, 0, none⟩ : Addr).add j) = some u := by
        intro j u hu
        have hj : j < l.length := by have := (List.getElem?_eq_some_iff.1 hu).1; rwa [irow_len] at this
        rw [add_plain, Nat.zero_add, hr.cell j hj]
        rw [irow_at l j hj] at hu
        rw [← hu]
        simp [List.getD_eq_getElem?_getD, hj]
      have HLN := Lib.hid hnews
      have HGL := Lib.hid hr.lt
      have hl := HL.out
      obtain ⟨m, hm⟩ : ∃ m, l.length = m := ⟨_, rfl⟩
      have HM := Lib.hid hm
      rw [hm] at hl
      refine hK.out _ _ ⟨hHeld.1.of (hI.below.block _ hHeld.1.lt), hHeld.2.trans (hI.below.mono hHeld.2.size)⟩ (fun hHeld => ?_)
      clear hK K9 hI hr hnews hcap
      simp only [hm]
      clear hm
      try simp only [Act.put, List.setIfInBounds_toArray, List.set_cons_zero, List.set_cons_succ]
      refine one_ready 8 rfl (by kernel_rfl) (fun K9 hK => ?_)
      have hX7 : Box (w9.alloc (.cells #[.int .i64 1, .int .i64 P, .int .i64 R] 3)) p 29 #[.int .i64 A, .int .i64 B, .int .i64 K, .int .i64 P, .int .i64 T, .int .i64 S, .int .i64 H, .int .i64 V, .int .i64 O] := hHeld.1.alloc _
      have hI7 : IrAt w (.slice (some ⟨w9.heap.size, 0, none⟩) 3 3) [1, P, R] (w9.alloc (.cells #[.int .i64 1, .int .i64 P, .int .i64 R] 3)) := IrAt.new [1, P, R] 3 rfl hHeld.2 (by omega)
      have hB7 := hHeld.2.alloc hHeld.2.size (.cells #[.int .i64 1, .int .i64 P, .int .i64 R] 3)
      have HLN : Hid (∀ j u, (irow l)[j]? = some u → (w9.alloc (.cells #[.int .i64 1, .int .i64 P, .int .i64 R] 3)).cell? ((⟨g, 0, none⟩ : Addr).add j) = some u) := Lib.hid (fun j u hu => (((Below.refl _ w9).alloc (Nat.le_refl _) (.cells #[.int .i64 1, .int .i64 P, .int .i64 R] 3)).cell (p := (⟨g, 0, none⟩ : Addr).add j) (by rw [add_plain]; exact HGL.out)).trans (HLN.out j u hu))
      have HI7 := Lib.hid hI7
      go_simp
      refine hK.out _ _ ⟨hX7, hB7⟩ (fun hHeld => ?_)
      clear hK K9 hX7 hI7 hB7
      try simp only [Act.put, List.setIfInBounds_toArray, List.set_cons_zero, List.set_cons_succ]
      obtain ⟨w7, hw7⟩ : ∃ w7, w9.alloc (.cells #[.int .i64 1, .int .i64 P, .int .i64 R] 3) = w7 := ⟨_, rfl⟩
      obtain ⟨v3, hv3⟩ : ∃ v3 : Value, .slice (some ⟨w9.heap.size, 0, none⟩) 3 3 = v3 := ⟨_, rfl⟩
      rw [hw7] at HI7 hHeld HLN ⊢
      rw [hv3] at HI7
      simp only [hv3]
      clear hw7 hv3
      have hsz := HI7.out.below.size
      have HOW : Hid (w7.ownsRow w.heap.size 3 1 v3 3 (irow [1, P, R])) := Lib.hid HI7.out.own
      refine one_ready 12 (o := ⟨some 18, _, _, _, _, _⟩) rfl (by kernel_rfl) (fun K9 hK => ?_)
      refine step_append_where rfl (.tmp 14) (.tmp 17) 42 rfl w.heap.size 3 (.int .i64 0) 1 8 Tryd.underlying42 infoI64 rfl (by decide) v3 3 (irow [1, P, R]) rfl HOW.out ⟨g, 0, none⟩ m cap (irow l) rfl ?c1 HLN.out (irow_one _) ?c2 ?c3 ?c4 ?_
      case c1 => rw [irow_len, HM.out, Nat.mul_one]
      case c2 => simp only [maxLen]; omega
      case c3 => omega
      case c4 => omega
      intro A2 cap2 w10 hown hgr _
      have HN2 : Hid (IrAt w (.slice A2 (3 + m) cap2) LS w10) := by
        have hm := HM.out
        subst hm
        refine Lib.hid ⟨?_, ?_⟩
        · rw [HF.out, List.length_append, irow_append]
          exact hown
        · refine HI7.out.below.grown hgr hsz (fun b e => ?_)
          rcases HI7.out.own.2 with ⟨e0, _⟩ | ⟨g', cap', cur, e0, hb', _⟩
          · rw [e0] at e; simp [Value.ownBlock] at e
          · rw [e0] at e
            obtain rfl : g' = b := by simpa [Value.ownBlock] using e
            exact hb'
      have hXX : Box w10 p 29 #[.int .i64 A, .int .i64 B, .int .i64 K, .int .i64 P, .int .i64 T, .int .i64 S, .int .i64 H, .int .i64 V, .int .i64 O] := hHeld.1.of (hgr.block p hHeld.1.lt (fun e => by
        rcases HI7.out.own.2 with ⟨e0, _⟩ | ⟨g', cap', cur, e0, _, hg', _⟩
        · rw [e0] at e; cases e
        · rw [e0] at e
          obtain rfl : g' = p := by simpa [Value.ownBlock] using e.symm
          exact absurd rfl (Box.ne (cs' := cur) hHeld.1 hg' (by decide))))
      refine hK.out _ _ ⟨hXX, HN2.out.below⟩ (fun hHeld => ?_)
      clear hK K9 hown hgr hXX
      try simp only [Act.put, List.setIfInBounds_toArray, List.set_cons_zero, List.set_cons_succ]
      refine wpAnyH_take (i := 13) (oi := ⟨some 2, _, _, _, _, _⟩) (v := (.slice A2 (3 + m) cap2)) rfl (by kernel_rfl) (by kernel_rfl) (by kernel_rfl) (fun _ _ _ h => h) (Or.inl ⟨by rfl, fun w' hw => by go_simp⟩) hHeld ?_
      try simp only [Act.put, List.setIfInBounds_toArray, List.set_cons_zero, List.set_cons_succ]
      refine wpAnyH_done (by kernel_rfl) ?_ _
      clear hHeld
      go_wp2_with fail
      go_ret
      exact ⟨.slice A2 (3 + m) cap2, rfl, HN2.out⟩

end Go.Proofs.YteiilfdbddpodaaDoor
