/- The law ConfigFirst, walked: for every config and every four numbers it returns true, and nothing that was in memory changes. Conditions: each number is an int; the library's variable of the type error holds that type. -/
import Derived.Test.YteiilfdbddpodaaDoorZCfFirstB
namespace Go.Proofs.YteiilfdbddpodaaDoor
set_option maxRecDepth 100000
open Go.RowKit Go.ChangeShapes Go.WideShapes Go.ChangeAt

set_option maxRecDepth 100000 in
set_option maxHeartbeats 2000000 in
theorem first_no (c : Cfg) (i k a b : Int) (w : World) (hT : Rg c.T) (hg : ErrType w) (h : ¬ Fst c 7) : Calls Tryd.prog 5 #[.agg c.a, .int .i64 i, .int .i64 k, .int .i64 a, .int .i64 b] w fun e w' => e = .returned (.bool true) ∧ Below w.heap.size w w' := by
  have HWY := Lib.hid (fun W (hg : ErrType W) => why_any c W hT hg)
  have hbad : ∀ j, Fst c j → ftE c j ≠ 0 := fun j hj => hj.bad (Nat.lt_of_le_of_ne hj.le (fun e => h (e ▸ hj)))
  clear h
  unfold WyPost at HWY
  generalize ftE c = ft at *
  generalize Fst c = FS at *
  clear hT
  obtain ⟨A, B, K, P, T, S, H, V, O⟩ := c
  simp only [Cfg.a] at *
  have HG0 := Lib.hid hg
  clear hg
  obtain ⟨p, hp⟩ : ∃ p, w.heap.size = p := ⟨_, rfl⟩
  obtain ⟨w2, hw2⟩ : ∃ w2, w.alloc (.cells #[.int .i64 A, .int .i64 B, .int .i64 K, .int .i64 P, .int .i64 T, .int .i64 S, .int .i64 H, .int .i64 V, .int .i64 O] 23) = w2 := ⟨_, rfl⟩
  have hx : Box w2 p 23 #[.int .i64 A, .int .i64 B, .int .i64 K, .int .i64 P, .int .i64 T, .int .i64 S, .int .i64 H, .int .i64 V, .int .i64 O] := by rw [← hw2, ← hp]; exact Box.new w _ _
  have HB := Lib.hid (show Below w.heap.size w w2 by rw [← hw2]; exact (Below.refl _ w).alloc (Nat.le_refl _) _)
  have HX := Lib.hid hx
  have HPP := Lib.hid hp
  have HWW := Lib.hid hw2
  have k0 := hx.cell 0
  have k1 := hx.cell 1
  have k2 := hx.cell 2
  have k3 := hx.cell 3
  have k4 := hx.cell 4
  have k5 := hx.cell 5
  have k6 := hx.cell 6
  have k7 := hx.cell 7
  have k8 := hx.cell 8
  clear hx hp hw2
  have HG := Lib.hid (HG0.out.below (show Below w.heap.size w w2 from HB.out))
  go_enter Tryd.func5, Tryd.ntmps5
  go_upto_region 1 with fail
  rw [HPP.out, HWW.out]
  go_wp2_with fail
  refine (shown_any _ HG.out).mono ?_
  rintro e w3 ⟨rfl, hb3⟩
  have HG3 := Lib.hid (HG.out.below hb3)
  have HB3 := Lib.hid (HB.out.trans (hb3.mono HB.out.size))
  have HX3 := Lib.hid (HX.out.of (hb3.block _ HX.out.lt))
  clear hb3 HG HB HX HWW k0 k1 k2 k3 k4 k5 k6 k7 k8
  have k0 := HX3.out.cell 0
  have k1 := HX3.out.cell 1
  have k2 := HX3.out.cell 2
  have k3 := HX3.out.cell 3
  have k4 := HX3.out.cell 4
  have k5 := HX3.out.cell 5
  have k6 := HX3.out.cell 6
  have k7 := HX3.out.cell 7
  have k8 := HX3.out.cell 8
  go_wp2_with fail
  refine (HWY.out _ HG3.out).mono ?_
  rintro e w4 ⟨j, hj, rfl, hb4⟩
  have HB4 := Lib.hid (HB3.out.trans (hb4.mono HB3.out.size))
  clear hb4 HG3 HB3 HX3 k0 k1 k2 k3 k4 k5 k6 k7 k8
  have hE := hbad j hj
  obtain ⟨E, hEE⟩ : ∃ E, ft j = E := ⟨_, rfl⟩
  rw [hEE] at hE ⊢
  clear hj hEE hbad
  go_wp2_with fail
  go_ret
  exact ⟨rfl, HB4.out⟩
set_option maxRecDepth 100000 in
set_option maxHeartbeats 2000000 in
theorem first_i (c : Cfg) (i k a b : Int) (w : World) (hT : Rg c.T) (hg : ErrType w) (h : Fst c 7) (hi : i < 0) : Calls Tryd.prog 5 #[.agg c.a, .int .i64 i, .int .i64 k, .int .i64 a, .int .i64 b] w fun e w' => e = .returned (.bool true) ∧ Below w.heap.size w w' := by
  have HWY := Lib.hid (fun W (hg : ErrType W) => why_any c W hT hg)
  have honly : ∀ j, Fst c j → j = 7 := fun j hj => hj.only h
  have HF7 : Hid (ftE c 7 = 0) := Lib.hid rfl
  clear h
  unfold WyPost at HWY
  generalize ftE c = ft at *
  generalize Fst c = FS at *
  clear hT
  obtain ⟨A, B, K, P, T, S, H, V, O⟩ := c
  simp only [Cfg.a] at *
  have HG0 := Lib.hid hg
  clear hg
  obtain ⟨p, hp⟩ : ∃ p, w.heap.size = p := ⟨_, rfl⟩
  obtain ⟨w2, hw2⟩ : ∃ w2, w.alloc (.cells #[.int .i64 A, .int .i64 B, .int .i64 K, .int .i64 P, .int .i64 T, .int .i64 S, .int .i64 H, .int .i64 V, .int .i64 O] 23) = w2 := ⟨_, rfl⟩
  have hx : Box w2 p 23 #[.int .i64 A, .int .i64 B, .int .i64 K, .int .i64 P, .int .i64 T, .int .i64 S, .int .i64 H, .int .i64 V, .int .i64 O] := by rw [← hw2, ← hp]; exact Box.new w _ _
  have HB := Lib.hid (show Below w.heap.size w w2 by rw [← hw2]; exact (Below.refl _ w).alloc (Nat.le_refl _) _)
  have HX := Lib.hid hx
  have HPP := Lib.hid hp
  have HWW := Lib.hid hw2
  have k0 := hx.cell 0
  have k1 := hx.cell 1
  have k2 := hx.cell 2
  have k3 := hx.cell 3
  have k4 := hx.cell 4
  have k5 := hx.cell 5
  have k6 := hx.cell 6
  have k7 := hx.cell 7
  have k8 := hx.cell 8
  clear hx hp hw2
  have HG := Lib.hid (HG0.out.below (show Below w.heap.size w w2 from HB.out))
  go_enter Tryd.func5, Tryd.ntmps5
  go_upto_region 1 with fail
  rw [HPP.out, HWW.out]
  go_wp2_with fail
  refine (shown_any _ HG.out).mono ?_
  rintro e w3 ⟨rfl, hb3⟩
  have HG3 := Lib.hid (HG.out.below hb3)
  have HB3 := Lib.hid (HB.out.trans (hb3.mono HB.out.size))
  have HX3 := Lib.hid (HX.out.of (hb3.block _ HX.out.lt))
  clear hb3 HG HB HX HWW k0 k1 k2 k3 k4 k5 k6 k7 k8
  have k0 := HX3.out.cell 0
  have k1 := HX3.out.cell 1
  have k2 := HX3.out.cell 2
  have k3 := HX3.out.cell 3
  have k4 := HX3.out.cell 4
  have k5 := HX3.out.cell 5
  have k6 := HX3.out.cell 6
  have k7 := HX3.out.cell 7
  have k8 := HX3.out.cell 8
  go_wp2_with fail
  refine (HWY.out _ HG3.out).mono ?_
  rintro e w4 ⟨j, hj, rfl, hb4⟩
  have HB4 := Lib.hid (HB3.out.trans (hb4.mono HB3.out.size))
  clear hb4 HG3 HB3 HX3 k0 k1 k2 k3 k4 k5 k6 k7 k8
  obtain rfl := honly j hj
  rw [HF7.out]
  clear hj honly
  go_wp2_with fail
  go_ret
  exact ⟨rfl, HB4.out⟩
set_option maxRecDepth 100000 in
set_option maxHeartbeats 2000000 in
theorem first_k (c : Cfg) (i k a b : Int) (w : World) (hT : Rg c.T) (hg : ErrType w) (h : Fst c 7) (hi : 0 ≤ i) (hk : k ≤ i) : Calls Tryd.prog 5 #[.agg c.a, .int .i64 i, .int .i64 k, .int .i64 a, .int .i64 b] w fun e w' => e = .returned (.bool true) ∧ Below w.heap.size w w' := by
  have HWY := Lib.hid (fun W (hg : ErrType W) => why_any c W hT hg)
  have honly : ∀ j, Fst c j → j = 7 := fun j hj => hj.only h
  have HF7 : Hid (ftE c 7 = 0) := Lib.hid rfl
  clear h
  unfold WyPost at HWY
  generalize ftE c = ft at *
  generalize Fst c = FS at *
  clear hT
  obtain ⟨A, B, K, P, T, S, H, V, O⟩ := c
  simp only [Cfg.a] at *
  have HG0 := Lib.hid hg
  clear hg
  obtain ⟨p, hp⟩ : ∃ p, w.heap.size = p := ⟨_, rfl⟩
  obtain ⟨w2, hw2⟩ : ∃ w2, w.alloc (.cells #[.int .i64 A, .int .i64 B, .int .i64 K, .int .i64 P, .int .i64 T, .int .i64 S, .int .i64 H, .int .i64 V, .int .i64 O] 23) = w2 := ⟨_, rfl⟩
  have hx : Box w2 p 23 #[.int .i64 A, .int .i64 B, .int .i64 K, .int .i64 P, .int .i64 T, .int .i64 S, .int .i64 H, .int .i64 V, .int .i64 O] := by rw [← hw2, ← hp]; exact Box.new w _ _
  have HB := Lib.hid (show Below w.heap.size w w2 by rw [← hw2]; exact (Below.refl _ w).alloc (Nat.le_refl _) _)
  have HX := Lib.hid hx
  have HPP := Lib.hid hp
  have HWW := Lib.hid hw2
  have k0 := hx.cell 0
  have k1 := hx.cell 1
  have k2 := hx.cell 2
  have k3 := hx.cell 3
  have k4 := hx.cell 4
  have k5 := hx.cell 5
  have k6 := hx.cell 6
  have k7 := hx.cell 7
  have k8 := hx.cell 8
  clear hx hp hw2
  have HG := Lib.hid (HG0.out.below (show Below w.heap.size w w2 from HB.out))
  go_enter Tryd.func5, Tryd.ntmps5
  go_upto_region 1 with fail
  rw [HPP.out, HWW.out]
  go_wp2_with fail
  refine (shown_any _ HG.out).mono ?_
  rintro e w3 ⟨rfl, hb3⟩
  have HG3 := Lib.hid (HG.out.below hb3)
  have HB3 := Lib.hid (HB.out.trans (hb3.mono HB.out.size))
  have HX3 := Lib.hid (HX.out.of (hb3.block _ HX.out.lt))
  clear hb3 HG HB HX HWW k0 k1 k2 k3 k4 k5 k6 k7 k8
  have k0 := HX3.out.cell 0
  have k1 := HX3.out.cell 1
  have k2 := HX3.out.cell 2
  have k3 := HX3.out.cell 3
  have k4 := HX3.out.cell 4
  have k5 := HX3.out.cell 5
  have k6 := HX3.out.cell 6
  have k7 := HX3.out.cell 7
  have k8 := HX3.out.cell 8
  go_wp2_with fail
  refine (HWY.out _ HG3.out).mono ?_
  rintro e w4 ⟨j, hj, rfl, hb4⟩
  have HB4 := Lib.hid (HB3.out.trans (hb4.mono HB3.out.size))
  clear hb4 HG3 HB3 HX3 k0 k1 k2 k3 k4 k5 k6 k7 k8
  obtain rfl := honly j hj
  rw [HF7.out]
  clear hj honly
  go_wp2_with fail
  go_ret
  exact ⟨rfl, HB4.out⟩
set_option maxRecDepth 100000 in
set_option maxHeartbeats 2000000 in
theorem first_g (c : Cfg) (i k a b : Int) (w : World) (hT : Rg c.T) (hg : ErrType w) (h : Fst c 7) (hi : 0 ≤ i) (hk : i < k) (hg4 : 4 < k) : Calls Tryd.prog 5 #[.agg c.a, .int .i64 i, .int .i64 k, .int .i64 a, .int .i64 b] w fun e w' => e = .returned (.bool true) ∧ Below w.heap.size w w' := by
  have HWY := Lib.hid (fun W (hg : ErrType W) => why_any c W hT hg)
  have honly : ∀ j, Fst c j → j = 7 := fun j hj => hj.only h
  have HF7 : Hid (ftE c 7 = 0) := Lib.hid rfl
  clear h
  unfold WyPost at HWY
  generalize ftE c = ft at *
  generalize Fst c = FS at *
  clear hT
  obtain ⟨A, B, K, P, T, S, H, V, O⟩ := c
  simp only [Cfg.a] at *
  have HG0 := Lib.hid hg
  clear hg
  obtain ⟨p, hp⟩ : ∃ p, w.heap.size = p := ⟨_, rfl⟩
  obtain ⟨w2, hw2⟩ : ∃ w2, w.alloc (.cells #[.int .i64 A, .int .i64 B, .int .i64 K, .int .i64 P, .int .i64 T, .int .i64 S, .int .i64 H, .int .i64 V, .int .i64 O] 23) = w2 := ⟨_, rfl⟩
  have hx : Box w2 p 23 #[.int .i64 A, .int .i64 B, .int .i64 K, .int .i64 P, .int .i64 T, .int .i64 S, .int .i64 H, .int .i64 V, .int .i64 O] := by rw [← hw2, ← hp]; exact Box.new w _ _
  have HB := Lib.hid (show Below w.heap.size w w2 by rw [← hw2]; exact (Below.refl _ w).alloc (Nat.le_refl _) _)
  have HX := Lib.hid hx
  have HPP := Lib.hid hp
  have HWW := Lib.hid hw2
  have k0 := hx.cell 0
  have k1 := hx.cell 1
  have k2 := hx.cell 2
  have k3 := hx.cell 3
  have k4 := hx.cell 4
  have k5 := hx.cell 5
  have k6 := hx.cell 6
  have k7 := hx.cell 7
  have k8 := hx.cell 8
  clear hx hp hw2
  have HG := Lib.hid (HG0.out.below (show Below w.heap.size w w2 from HB.out))
  go_enter Tryd.func5, Tryd.ntmps5
  go_upto_region 1 with fail
  rw [HPP.out, HWW.out]
  go_wp2_with fail
  refine (shown_any _ HG.out).mono ?_
  rintro e w3 ⟨rfl, hb3⟩
  have HG3 := Lib.hid (HG.out.below hb3)
  have HB3 := Lib.hid (HB.out.trans (hb3.mono HB.out.size))
  have HX3 := Lib.hid (HX.out.of (hb3.block _ HX.out.lt))
  clear hb3 HG HB HX HWW k0 k1 k2 k3 k4 k5 k6 k7 k8
  have k0 := HX3.out.cell 0
  have k1 := HX3.out.cell 1
  have k2 := HX3.out.cell 2
  have k3 := HX3.out.cell 3
  have k4 := HX3.out.cell 4
  have k5 := HX3.out.cell 5
  have k6 := HX3.out.cell 6
  have k7 := HX3.out.cell 7
  have k8 := HX3.out.cell 8
  go_wp2_with fail
  refine (HWY.out _ HG3.out).mono ?_
  rintro e w4 ⟨j, hj, rfl, hb4⟩
  have HB4 := Lib.hid (HB3.out.trans (hb4.mono HB3.out.size))
  clear hb4 HG3 HB3 HX3 k0 k1 k2 k3 k4 k5 k6 k7 k8
  obtain rfl := honly j hj
  rw [HF7.out]
  clear hj honly
  go_wp2_with fail
  go_ret
  exact ⟨rfl, HB4.out⟩
theorem first_law (c : Cfg) (i k a b : Int) (w : World) (hc : c.Wf) (hg : ErrType w) : Calls Tryd.prog 5 #[.agg c.a, .int .i64 i, .int .i64 k, .int .i64 a, .int .i64 b] w fun e w' => e = .returned (.bool true) ∧ Below w.heap.size w w' := by
  have hT := hc.T
  by_cases h : Fst c 7
  · by_cases h1 : i < 0
    · exact first_i c i k a b w hT hg h h1
    by_cases h2 : k ≤ i
    · exact first_k c i k a b w hT hg h (by omega) h2
    by_cases h3 : 4 < k
    · exact first_g c i k a b w hT hg h (by omega) (by omega) h3
    obtain ⟨A, B, K, P, T, S, H, V, O⟩ := c
    rcases (by omega : (i = 0 ∧ k = 1) ∨ (i = 0 ∧ k = 2) ∨ (i = 0 ∧ k = 3) ∨ (i = 0 ∧ k = 4) ∨ (i = 1 ∧ k = 2) ∨ (i = 1 ∧ k = 3) ∨ (i = 1 ∧ k = 4) ∨ (i = 2 ∧ k = 3) ∨ (i = 2 ∧ k = 4) ∨ (i = 3 ∧ k = 4)) with ⟨rfl, rfl⟩ | ⟨rfl, rfl⟩ | ⟨rfl, rfl⟩ | ⟨rfl, rfl⟩ | ⟨rfl, rfl⟩ | ⟨rfl, rfl⟩ | ⟨rfl, rfl⟩ | ⟨rfl, rfl⟩ | ⟨rfl, rfl⟩ | ⟨rfl, rfl⟩
    · exact first_01 A B K P T S H V O a b w hT h hg
    · exact first_02 A B K P T S H V O a b w hT h hg
    · exact first_03 A B K P T S H V O a b w hT h hg
    · exact first_04 A B K P T S H V O a b w hT h hg
    · exact first_12 A B K P T S H V O a b w hT h hg
    · exact first_13 A B K P T S H V O a b w hT h hg
    · exact first_14 A B K P T S H V O a b w hT h hg
    · exact first_23 A B K P T S H V O a b w hT h hg
    · exact first_24 A B K P T S H V O a b w hT h hg
    · exact first_34 A B K P T S H V O a b w hT h hg
  · exact first_no c i k a b w hT hg h
end Go.Proofs.YteiilfdbddpodaaDoor
