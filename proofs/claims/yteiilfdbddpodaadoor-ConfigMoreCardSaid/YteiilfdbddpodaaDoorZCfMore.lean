/- The law ConfigMore, walked: for every config and every two numbers it returns true, and nothing that was in memory changes. Conditions: each number is an int; the library's variable of the type error holds that type. -/
import Derived.ChangeKeysEq
import Derived.Laws.StructEq
import Derived.Test.YteiilfdbddpodaaDoorG29
import Derived.Test.YteiilfdbddpodaaDoorG30
import Derived.Test.YteiilfdbddpodaaDoorG12
namespace Go.Proofs.YteiilfdbddpodaaDoor
set_option maxRecDepth 100000
open Go.RowKit Go.ChangeShapes Go.WideShapes Go.ChangeAt

theorem eql_store (N S H V : Int) (w : World) : (binOp .eql 32 (.agg #[.int .i64 N, .int .i64 S, .int .i64 H, .int .i64 V]) (.agg #[.int .i64 N, .int .i64 S, .int .i64 H, .int .i64 V])).run Tryd.prog w = .ok (.bool true) w := by
  have h : (Op.equalIn 10000 32 (.agg #[.int .i64 N, .int .i64 S, .int .i64 H, .int .i64 V]) (.agg #[.int .i64 N, .int .i64 S, .int .i64 H, .int .i64 V])).run Tryd.prog w = .ok true w := by
    rw [run_equalIn_struct w 9999 32 _ _ (by kernel_rfl) (by kernel_rfl)]
    simp [Program.fieldsOf, Tryd.underlying32, Op.eqFields, Go.part, isAgg, run_underlying Tryd.underlying3, run_equalIn_int w 9998 3 .i64 .i64 _ _ Tryd.underlying3]
  rw [run_eql_struct, h]; rfl
/-- A config with more kicks, and a greater spill. -/
def cfM (c : Cfg) (K2 P2 : Int) : Cfg := { c with K := K2, P := P2 }
theorem cfM_fst {c : Cfg} (h : Fst c 7) {K2 P2 : Int} (hK : 1 ≤ K2 ∧ K2 ≤ 16) (hP : 1 ≤ P2 ∧ P2 ≤ 32) : Fst (cfM c K2 P2) 7 := ⟨by decide, fun j hj => by
  match j, hj with
  | 0, _ => exact h.ok 0 (by decide)
  | 1, _ => exact h.ok 1 (by decide)
  | 2, _ => exact wtE_zero.2 hK
  | 3, _ => exact wtE_zero.2 hP
  | 4, _ => exact h.ok 4 (by decide)
  | 5, _ => exact h.ok 5 (by decide)
  | 6, _ => exact h.ok 6 (by decide), fun h => absurd h (by decide)⟩
theorem cfM_wd {c : Cfg} (h : OkC c) {K2 P2 : Int} (hK : c.K ≤ K2) : wdC c 5 ≤ wdC (cfM c K2 P2) 5 := by
  have hv := h.V
  have e : cntN 5 = 5 := by decide
  show 4 + (cntN 5 * (2 * c.K + 5) + cntN 5 / c.B * (c.A + 5 * c.B)) * (2 * c.V) ≤ 4 + (cntN 5 * (2 * K2 + 5) + cntN 5 / c.B * (c.A + 5 * c.B)) * (2 * c.V)
  rw [e]
  have := Int.mul_le_mul_of_nonneg_right (show 5 * (2 * c.K + 5) + 5 / c.B * (c.A + 5 * c.B) ≤ 5 * (2 * K2 + 5) + 5 / c.B * (c.A + 5 * c.B) by omega) (show 0 ≤ 2 * c.V by omega)
  omega
theorem szM_len (c : Cfg) (K2 P2 : Int) : (szC (cfM c K2 P2)).length = (szC c).length := rfl
theorem szM_at (c : Cfg) (K2 P2 : Int) (hP : c.P ≤ P2) (j : Nat) : (j ≠ 1 → (szC (cfM c K2 P2)).getD j 0 = (szC c).getD j 0) ∧ (szC c).getD j 0 ≤ (szC (cfM c K2 P2)).getD j 0 := by
  match j with
  | 0 => exact ⟨fun _ => rfl, Int.le_refl _⟩
  | 1 => exact ⟨fun h => absurd rfl h, hP⟩
  | j + 2 => exact ⟨fun _ => rfl, Int.le_refl _⟩
set_option linter.unusedSimpArgs false in
set_option maxRecDepth 100000 in
set_option maxHeartbeats 2000000 in
theorem more_no (c : Cfg) (x y : Int) (w : World) (hT : Rg c.T) (hg : ErrType w) (h : ¬ Fst c 7) : Calls Tryd.prog 7 #[.agg c.a, .int .i64 x, .int .i64 y] w fun e w' => e = .returned (.bool true) ∧ Below w.heap.size w w' := by
  have HWY := Lib.hid (fun W (hg : ErrType W) => why_any c W hT hg)
  have hbad : ∀ j, Fst c j → ftE c j ≠ 0 := fun j hj => hj.bad (Nat.lt_of_le_of_ne hj.le (fun e => h (e ▸ hj)))
  clear h
  unfold WyPost at HWY
  generalize ftE c = ft at *
  generalize Fst c = FS at *
  clear hT
  obtain ⟨A, B, K, P, T, S, H, V, O⟩ := c
  simp only [Cfg.a] at *
  have HG0 := Lib.hid hg
  clear hg
  obtain ⟨p, hp⟩ : ∃ p, w.heap.size = p := ⟨_, rfl⟩
  obtain ⟨w2, hw2⟩ : ∃ w2, w.alloc (.cells #[.int .i64 A, .int .i64 B, .int .i64 K, .int .i64 P, .int .i64 T, .int .i64 S, .int .i64 H, .int .i64 V, .int .i64 O] 23) = w2 := ⟨_, rfl⟩
  have hx : Box w2 p 23 #[.int .i64 A, .int .i64 B, .int .i64 K, .int .i64 P, .int .i64 T, .int .i64 S, .int .i64 H, .int .i64 V, .int .i64 O] := by rw [← hw2, ← hp]; exact Box.new w _ _
  have HB := Lib.hid (show Below w.heap.size w w2 by rw [← hw2]; exact (Below.refl _ w).alloc (Nat.le_refl _) _)
  have HX := Lib.hid hx
  have HPP := Lib.hid hp
  have HWW := Lib.hid hw2
  have k0 := hx.cell 0
  have k1 := hx.cell 1
  have k2 := hx.cell 2
  have k3 := hx.cell 3
  have k4 := hx.cell 4
  have k5 := hx.cell 5
  have k6 := hx.cell 6
  have k7 := hx.cell 7
  have k8 := hx.cell 8
  clear hx hp hw2
  have HG := Lib.hid (HG0.out.below (show Below w.heap.size w w2 from HB.out))
  go_enter Tryd.func7, Tryd.ntmps7
  go_upto_region 1 with fail
  rw [HPP.out, HWW.out]
  go_wp2_with fail
  refine (shown_any _ HG.out).mono ?_
  rintro e w3 ⟨rfl, hb3⟩
  have HG3 := Lib.hid (HG.out.below hb3)
  have HB3 := Lib.hid (HB.out.trans (hb3.mono HB.out.size))
  have HX3 := Lib.hid (HX.out.of (hb3.block _ HX.out.lt))
  clear hb3 HG HB HX HWW k0 k1 k2 k3 k4 k5 k6 k7 k8
  have k0 := HX3.out.cell 0
  have k1 := HX3.out.cell 1
  have k2 := HX3.out.cell 2
  have k3 := HX3.out.cell 3
  have k4 := HX3.out.cell 4
  have k5 := HX3.out.cell 5
  have k6 := HX3.out.cell 6
  have k7 := HX3.out.cell 7
  have k8 := HX3.out.cell 8
  go_wp2_with fail
  refine (HWY.out _ HG3.out).mono ?_
  rintro e w4 ⟨j, hj, rfl, hb4⟩
  have HG4 := Lib.hid (HG3.out.below hb4)
  have HB4 := Lib.hid (HB3.out.trans (hb4.mono HB3.out.size))
  have HX4 := Lib.hid (HX3.out.of (hb4.block _ HX3.out.lt))
  clear hb4 HG3 HB3 HX3 k0 k1 k2 k3 k4 k5 k6 k7 k8
  have hE := hbad j hj
  obtain ⟨E, hEE⟩ : ∃ E, ft j = E := ⟨_, rfl⟩
  rw [hEE] at hE ⊢
  clear hj hEE hbad
  go_wp2_with fail
  go_ret
  exact ⟨rfl, HB4.out⟩
set_option linter.unusedSimpArgs false in
set_option maxRecDepth 100000 in
set_option maxHeartbeats 20000000 in
theorem more_ok (c : Cfg) (x y : Int) (w : World) (hT : Rg c.T) (hg : ErrType w) (h : Fst c 7) : Calls Tryd.prog 7 #[.agg c.a, .int .i64 x, .int .i64 y] w fun e w' => e = .returned (.bool true) ∧ Below w.heap.size w w' := by
  have hok := h.okC
  have hK := hok.K
  have hP := hok.P
  have hA := hok.A
  have hB := hok.B
  obtain ⟨K2, hK2⟩ : ∃ K2, max c.K (min x 16) = K2 := ⟨_, rfl⟩
  obtain ⟨P2, hP2⟩ : ∃ P2, max c.P (min y 32) = P2 := ⟨_, rfl⟩
  have hF2 : Fst (cfM c K2 P2) 7 := cfM_fst h (by omega) (by omega)
  have HWY := Lib.hid (fun W (hg : ErrType W) => (why_any c W hT hg).mono fun e w' hw => why_is h hw)
  have HWZ := Lib.hid (fun W (hg : ErrType W) => (why_any (cfM c K2 P2) W hT hg).mono fun e w' hw => why_is hF2 hw)
  have HZ1 := Lib.hid (fun W => csz_ok c W hT h)
  have HZ2 := Lib.hid (fun W => csz_ok (cfM c K2 P2) W hT hF2)
  have HA1 := Lib.hid (fun W => cacc_ok c W hT h)
  have HA2 := Lib.hid (fun W => cacc_ok (cfM c K2 P2) W hT hF2)
  have HW1 := Lib.hid (fun W => cwd_ok c 5 W hT h)
  have HW2 := Lib.hid (fun W => cwd_ok (cfM c K2 P2) 5 W hT hF2)
  have HC1 := Lib.hid (fun W => ccells_ok c W hT h)
  have HC2 := Lib.hid (fun W => ccells_ok (cfM c K2 P2) W hT hF2)
  have HS1 := Lib.hid (fun W => cst_ok c W hT h)
  have HS2 : Hid (∀ W, Calls Tryd.prog 13 #[.agg (cfM c K2 P2).a] W fun e w' => e = .returned (.agg #[.int .i64 (nB c), .int .i64 c.S, .int .i64 c.H, .int .i64 c.V]) ∧ Below W.heap.size W w') := Lib.hid (fun W => cst_ok (cfM c K2 P2) W hT hF2)
  have hwd : wdC c 5 ≤ wdC (cfM c K2 P2) 5 := cfM_wd hok (by omega)
  have HLE := Lib.hid (szM_len c K2 P2)
  have HAT := Lib.hid (szM_at c K2 P2 (by omega))
  have HLN : Hid ((szC c).length ≤ 16 ∧ 0 < (szC c).length) := Lib.hid (by have := szI_len hok.st; have e : (szC c).length = (szI (nB c) c.S c.H c.V).length + 3 := rfl; omega)
  have hq := eql_store (nB c) c.S c.H c.V
  have e0 : nmA 7 = ⟨#[]⟩ := rfl
  have e1 : ftE c 7 = 0 := rfl
  have e2 : ftE (cfM c K2 P2) 7 = 0 := rfl
  rw [e0, e1] at HWY
  rw [e0, e2] at HWZ
  obtain ⟨x1, hx1⟩ : ∃ x1, wdC c 5 = x1 := ⟨_, rfl⟩
  obtain ⟨x2, hx2⟩ : ∃ x2, wdC (cfM c K2 P2) 5 = x2 := ⟨_, rfl⟩
  obtain ⟨l1, hl1⟩ : ∃ l1, szC c = l1 := ⟨_, rfl⟩
  obtain ⟨l2, hl2⟩ : ∃ l2, szC (cfM c K2 P2) = l2 := ⟨_, rfl⟩
  rw [hx1] at HW1 hwd
  rw [hx2] at HW2 hwd
  rw [hl1] at HZ1 HLE HAT HLN
  rw [hl2] at HZ2 HLE HAT
  generalize nB c = N at *
  clear hok h hF2 hT e0 e1 e2 hx1 hx2 hl1 hl2
  unfold cfM at *
  obtain ⟨A, B, K, P, T, S, H, V, O⟩ := c
  simp only [Cfg.a] at *
  have HG0 := Lib.hid hg
  clear hg
  obtain ⟨p, hp⟩ : ∃ p, w.heap.size = p := ⟨_, rfl⟩
  obtain ⟨w2, hw2⟩ : ∃ w2, w.alloc (.cells #[.int .i64 A, .int .i64 B, .int .i64 K, .int .i64 P, .int .i64 T, .int .i64 S, .int .i64 H, .int .i64 V, .int .i64 O] 23) = w2 := ⟨_, rfl⟩
  have hx : Box w2 p 23 #[.int .i64 A, .int .i64 B, .int .i64 K, .int .i64 P, .int .i64 T, .int .i64 S, .int .i64 H, .int .i64 V, .int .i64 O] := by rw [← hw2, ← hp]; exact Box.new w _ _
  have HB := Lib.hid (show Below w.heap.size w w2 by rw [← hw2]; exact (Below.refl _ w).alloc (Nat.le_refl _) _)
  have HX := Lib.hid hx
  have HPP := Lib.hid hp
  have HWW := Lib.hid hw2
  have k0 := hx.cell 0
  have k1 := hx.cell 1
  have k2 := hx.cell 2
  have k3 := hx.cell 3
  have k4 := hx.cell 4
  have k5 := hx.cell 5
  have k6 := hx.cell 6
  have k7 := hx.cell 7
  have k8 := hx.cell 8
  clear hx hp hw2
  have HG := Lib.hid (HG0.out.below (show Below w.heap.size w w2 from HB.out))
  go_enter Tryd.func7, Tryd.ntmps7
  go_upto_region 1 with fail
  rw [HPP.out, HWW.out]
  go_wp2_with fail
  refine (shown_any _ HG.out).mono ?_
  rintro e w3 ⟨rfl, hb3⟩
  have HG3 := Lib.hid (HG.out.below hb3)
  have HB3 := Lib.hid (HB.out.trans (hb3.mono HB.out.size))
  have HX3 := Lib.hid (HX.out.of (hb3.block _ HX.out.lt))
  clear hb3 HG HB HX HWW k0 k1 k2 k3 k4 k5 k6 k7 k8
  have k0 := HX3.out.cell 0
  have k1 := HX3.out.cell 1
  have k2 := HX3.out.cell 2
  have k3 := HX3.out.cell 3
  have k4 := HX3.out.cell 4
  have k5 := HX3.out.cell 5
  have k6 := HX3.out.cell 6
  have k7 := HX3.out.cell 7
  have k8 := HX3.out.cell 8
  go_wp2_with fail
  refine (HWY.out _ HG3.out).mono ?_
  rintro e w4 ⟨rfl, hb4⟩
  have HG4 := Lib.hid (HG3.out.below hb4)
  have HB4 := Lib.hid (HB3.out.trans (hb4.mono HB3.out.size))
  have HX4 := Lib.hid (HX3.out.of (hb4.block _ HX3.out.lt))
  clear hb4 HG3 HB3 HX3 k0 k1 k2 k3 k4 k5 k6 k7 k8
  have k0 := HX4.out.cell 0
  have k1 := HX4.out.cell 1
  have k2 := HX4.out.cell 2
  have k3 := HX4.out.cell 3
  have k4 := HX4.out.cell 4
  have k5 := HX4.out.cell 5
  have k6 := HX4.out.cell 6
  have k7 := HX4.out.cell 7
  have k8 := HX4.out.cell 8
  go_upto_region 6 with fail
  obtain ⟨q, hqq⟩ : ∃ q, w4.heap.size = q := ⟨_, rfl⟩
  obtain ⟨w5, hw5⟩ : ∃ w5, w4.alloc (.cells #[.int .i64 A, .int .i64 B, .int .i64 K, .int .i64 P, .int .i64 T, .int .i64 S, .int .i64 H, .int .i64 V, .int .i64 O] 23) = w5 := ⟨_, rfl⟩
  have bx5 : Box w5 p 23 #[.int .i64 A, .int .i64 B, .int .i64 K, .int .i64 P, .int .i64 T, .int .i64 S, .int .i64 H, .int .i64 V, .int .i64 O] := by rw [← hw5]; exact HX4.out.alloc _
  have bd5 : Box w5 q 23 #[.int .i64 A, .int .i64 B, .int .i64 K, .int .i64 P, .int .i64 T, .int .i64 S, .int .i64 H, .int .i64 V, .int .i64 O] := by rw [← hw5, ← hqq]; exact Box.new w4 _ _
  have hne : p ≠ q := by have := HX4.out.lt; omega
  have hqw : w.heap.size ≤ q := by have := HB4.out.size; omega
  have HG5 := Lib.hid (show ErrType w5 by rw [← hw5]; exact HG4.out.below ((Below.refl _ w4).alloc (Nat.le_refl _) _))
  have HB5 := Lib.hid (show Below w.heap.size w w5 by rw [← hw5]; exact HB4.out.alloc HB4.out.size _)
  have hg0 : ¬ just q 0 := just_ne (fun e => by
    have := World.block_lt_of_cell? w4 ⟨0, 0, none⟩ HG4.out
    have : (0 : Nat) < w4.heap.size := this
    omega)
  have bd6 : Box (w5.setCell ⟨q, 2, none⟩ (.int .i64 K2)) q 23 #[.int .i64 A, .int .i64 B, .int .i64 K2, .int .i64 P, .int .i64 T, .int .i64 S, .int .i64 H, .int .i64 V, .int .i64 O] := bd5.put 2 (.int .i64 K2)
  have bd7 : Box ((w5.setCell ⟨q, 2, none⟩ (.int .i64 K2)).setCell ⟨q, 3, none⟩ (.int .i64 P2)) q 23 #[.int .i64 A, .int .i64 B, .int .i64 K2, .int .i64 P2, .int .i64 T, .int .i64 S, .int .i64 H, .int .i64 V, .int .i64 O] := bd6.put 3 (.int .i64 P2)
  have ho7 : Only (just q) w5 ((w5.setCell ⟨q, 2, none⟩ (.int .i64 K2)).setCell ⟨q, 3, none⟩ (.int .i64 P2)) := ((Only.refl _ _).setCell (p := ⟨q, 2, none⟩) (.inl (just_self _)) _).setCell (p := ⟨q, 3, none⟩) (.inl (just_self _)) _
  have HX7 := Lib.hid (bx5.only ho7 (just_ne hne))
  have HD7 := Lib.hid bd7
  have HG7 := Lib.hid (HG5.out.only ho7 hg0)
  have HB7 := Lib.hid (below_only HB5.out ho7 HB5.out.size (fun i hi e => by have e : i = q := e; omega))
  have x2' := bx5.cell 2
  have x3' := bx5.cell 3
  have y2' := bd5.cell 2
  have y3' := bd5.cell 3
  have f2' := bd5.frozen 2
  have f3' := bd5.frozen 3
  simp at x2' x3' y2' y3'
  simp only [hqq, hw5]
  clear hw5 hqq bx5 bd5 bd6 bd7 ho7 hg0 HX4 HB4 HG4 HG5 HB5 k0 k1 k2 k3 k4 k5 k6 k7 k8
  go_upto_region 8 with fail
  obtain ⟨w7, hw7⟩ : ∃ w7, ((w5.setCell ⟨q, 2, none⟩ (.int .i64 K2)).setCell ⟨q, 3, none⟩ (.int .i64 P2)) = w7 := ⟨_, rfl⟩
  rw [hw7] at HX7 HD7 HG7 HB7 ⊢
  clear hw7 x2' x3' y2' y3' f2' f3'
  have d0 := HD7.out.cell 0
  have d1 := HD7.out.cell 1
  have d2 := HD7.out.cell 2
  have d3 := HD7.out.cell 3
  have d4 := HD7.out.cell 4
  have d5 := HD7.out.cell 5
  have d6 := HD7.out.cell 6
  have d7 := HD7.out.cell 7
  have d8 := HD7.out.cell 8
  go_wp2_with fail
  refine (HWZ.out _ HG7.out).mono ?_
  rintro e w8 ⟨rfl, hb8⟩
  have HB8 := Lib.hid (HB7.out.trans (hb8.mono HB7.out.size))
  have HG8 := Lib.hid (HG7.out.below hb8)
  have HX8 := Lib.hid (HX7.out.of (hb8.block _ HX7.out.lt))
  have HD8 := Lib.hid (HD7.out.of (hb8.block _ HD7.out.lt))
  clear hb8 HB7 HG7 HX7 HD7 d0 d1 d2 d3 d4 d5 d6 d7 d8
  have k0 := HX8.out.cell 0
  have k1 := HX8.out.cell 1
  have k2 := HX8.out.cell 2
  have k3 := HX8.out.cell 3
  have k4 := HX8.out.cell 4
  have k5 := HX8.out.cell 5
  have k6 := HX8.out.cell 6
  have k7 := HX8.out.cell 7
  have k8 := HX8.out.cell 8
  go_wp2_with fail
  refine (HZ1.out _).mono ?_
  rintro e w9 ⟨v1, rfl, hI1⟩
  have HB9 := Lib.hid (HB8.out.trans (hI1.below.mono HB8.out.size))
  have HG9 := Lib.hid (HG8.out.below hI1.below)
  have HX9 := Lib.hid (HX8.out.of (hI1.below.block _ HX8.out.lt))
  have HD9 := Lib.hid (HD8.out.of (hI1.below.block _ HD8.out.lt))
  obtain ⟨g1, cap1, rfl, _, hr1⟩ := hI1.out HLN.out.2 (fun j => l1.getD j 0) (fun j hj => by simp [List.getD_eq_getElem?_getD, hj])
  have HR9 := Lib.hid hr1
  clear hI1 hr1 HB8 HG8 HX8 HD8 k0 k1 k2 k3 k4 k5 k6 k7 k8
  have d0 := HD9.out.cell 0
  have d1 := HD9.out.cell 1
  have d2 := HD9.out.cell 2
  have d3 := HD9.out.cell 3
  have d4 := HD9.out.cell 4
  have d5 := HD9.out.cell 5
  have d6 := HD9.out.cell 6
  have d7 := HD9.out.cell 7
  have d8 := HD9.out.cell 8
  go_wp2_with fail
  refine (HZ2.out _).mono ?_
  rintro e w10 ⟨v2, rfl, hI2⟩
  have HB10 := Lib.hid (HB9.out.trans (hI2.below.mono HB9.out.size))
  have HG10 := Lib.hid (HG9.out.below hI2.below)
  have HX10 := Lib.hid (HX9.out.of (hI2.below.block _ HX9.out.lt))
  have HD10 := Lib.hid (HD9.out.of (hI2.below.block _ HD9.out.lt))
  have HR10 := Lib.hid (HR9.out.below hI2.below (Nat.le_refl _))
  obtain ⟨g2, cap2, rfl, _, hr2⟩ := hI2.out (by rw [HLE.out]; exact HLN.out.2) (fun j => l2.getD j 0) (fun j hj => by simp [List.getD_eq_getElem?_getD, hj])
  have HQ10 := Lib.hid hr2
  clear hI2 hr2 HB9 HG9 HX9 HD9 HR9 d0 d1 d2 d3 d4 d5 d6 d7 d8
  rw [HLE.out] at HQ10
  simp only [HLE.out]
  have HLN2 := HLN.out
  obtain ⟨m, hm⟩ : ∃ m, l1.length = m := ⟨_, rfl⟩
  rw [hm] at HLN2 HR10 HQ10
  simp only [hm]
  obtain ⟨z1, hz1⟩ : ∃ z : Nat → Int, (fun j => l1.getD j 0) = z := ⟨_, rfl⟩
  obtain ⟨z2, hz2⟩ : ∃ z : Nat → Int, (fun j => l2.getD j 0) = z := ⟨_, rfl⟩
  have HZA : Hid (∀ j, (j ≠ 1 → z2 j = z1 j) ∧ z1 j ≤ z2 j) := Lib.hid (fun j => by rw [← hz1, ← hz2]; exact HAT.out j)
  rw [hz1] at HR10
  rw [hz2] at HQ10
  clear hm hz1 hz2 HAT HLE HLN
  have k0 := HX10.out.cell 0
  have k1 := HX10.out.cell 1
  have k2 := HX10.out.cell 2
  have k3 := HX10.out.cell 3
  have k4 := HX10.out.cell 4
  have k5 := HX10.out.cell 5
  have k6 := HX10.out.cell 6
  have k7 := HX10.out.cell 7
  have k8 := HX10.out.cell 8
  go_wp2_with fail
  refine (HA1.out _).mono ?_
  rintro e w11 ⟨rfl, hb11⟩
  have HB11 := Lib.hid (HB10.out.trans (hb11.mono HB10.out.size))
  have HG11 := Lib.hid (HG10.out.below hb11)
  have HX11 := Lib.hid (HX10.out.of (hb11.block _ HX10.out.lt))
  have HD11 := Lib.hid (HD10.out.of (hb11.block _ HD10.out.lt))
  have HR11 := Lib.hid (HR10.out.below hb11 (Nat.le_refl _))
  have HQ11 := Lib.hid (HQ10.out.below hb11 (Nat.le_refl _))
  clear hb11 HB10 HG10 HX10 HD10 HR10 HQ10 k0 k1 k2 k3 k4 k5 k6 k7 k8
  have d0 := HD11.out.cell 0
  have d1 := HD11.out.cell 1
  have d2 := HD11.out.cell 2
  have d3 := HD11.out.cell 3
  have d4 := HD11.out.cell 4
  have d5 := HD11.out.cell 5
  have d6 := HD11.out.cell 6
  have d7 := HD11.out.cell 7
  have d8 := HD11.out.cell 8
  go_wp2_with fail
  refine (HA2.out _).mono ?_
  rintro e w12 ⟨rfl, hb12⟩
  have HB12 := Lib.hid (HB11.out.trans (hb12.mono HB11.out.size))
  have HG12 := Lib.hid (HG11.out.below hb12)
  have HX12 := Lib.hid (HX11.out.of (hb12.block _ HX11.out.lt))
  have HD12 := Lib.hid (HD11.out.of (hb12.block _ HD11.out.lt))
  have HR12 := Lib.hid (HR11.out.below hb12 (Nat.le_refl _))
  have HQ12 := Lib.hid (HQ11.out.below hb12 (Nat.le_refl _))
  clear hb12 HB11 HG11 HX11 HD11 HR11 HQ11 d0 d1 d2 d3 d4 d5 d6 d7 d8
  go_wp2_with fail
  go_loopw [19] (fun v wr => ∃ i : Nat, v = .int .i64 i ∧ i ≤ m ∧ ∃ k, wr = w12.drewN k) (fun v _ => m - (intOf v).toNat)
  case atStart => exact ⟨0, rfl, by omega, 0, rfl⟩
  case round =>
    obtain ⟨i, rfl, hle, hwk⟩ := hrel
    have HWK := Lib.hid hwk
    obtain ⟨k, hk⟩ := hwk
    have HRr : Ir wr w8.heap.size g1 m z1 := by rw [hk]; exact HR12.out.drewN k
    have HQr : Ir wr w9.heap.size g2 m z2 := by rw [hk]; exact HQ12.out.drewN k
    by_cases hlt : i < m
    · have c1 := HRr.cell i hlt
      have c2 := HQr.cell i hlt
      obtain ⟨a1, a2⟩ := HZA.out i
      clear HRr HQr hk
      by_cases hi1 : i = 1
      · subst hi1
        clear a1
        have hc1 : ((1 : Nat) : Int) = 1 := rfl
        rw [hc1]
        obtain ⟨u1, hu1⟩ : ∃ u1, z1 1 = u1 := ⟨_, rfl⟩
        obtain ⟨u2, hu2⟩ : ∃ u2, z2 1 = u2 := ⟨_, rfl⟩
        rw [hu1] at c1 a2
        rw [hu2] at c2 a2
        go_wp2_with fail
        go_quiet (fail)
        go_wp2_with fail
        go_roundw
        case rel =>
          obtain ⟨k, hk⟩ := HWK.out
          exact ⟨2, by go_num, by omega, k + nq, by rw [hk]; simp [World.drewN, Nat.add_assoc]⟩
        case measure => simp [intOf]; omega
      · obtain ⟨u1, hu1⟩ : ∃ u1, z1 i = u1 := ⟨_, rfl⟩
        rw [a1 hi1] at c2
        rw [hu1] at c1 c2
        clear a1 a2 hu1
        have hn1 : ¬ ((i : Int) = 1) := by omega
        go_wp2_with fail
        go_quiet (fail)
        go_wp2_with fail
        go_roundw
        case rel =>
          obtain ⟨k, hk⟩ := HWK.out
          exact ⟨i + 1, by go_num, by omega, k + nq, by rw [hk]; simp [World.drewN, Nat.add_assoc]⟩
        case measure => simp [intOf]; omega
    · have HXr : Box wr p 23 #[.int .i64 A, .int .i64 B, .int .i64 K, .int .i64 P, .int .i64 T, .int .i64 S, .int .i64 H, .int .i64 V, .int .i64 O] := by rw [hk]; exact HX12.out.drewN k
      have HDr : Box wr q 23 #[.int .i64 A, .int .i64 B, .int .i64 K2, .int .i64 P2, .int .i64 T, .int .i64 S, .int .i64 H, .int .i64 V, .int .i64 O] := by rw [hk]; exact HD12.out.drewN k
      have HBr := Lib.hid (show Below w.heap.size w wr by rw [hk]; exact below_drewN HB12.out k)
      have hsub : (2 * K2 + 5 - (2 * K + 5) == 2 * (K2 - K)) = true := by rw [show 2 * K2 + 5 - (2 * K + 5) = 2 * (K2 - K) by omega]; exact beq_self_eq_true _
      clear HRr HQr hk
      go_upto_region 20 with fail
      refine held_s (S := fun w' => Box w' p 23 #[.int .i64 A, .int .i64 B, .int .i64 K, .int .i64 P, .int .i64 T, .int .i64 S, .int .i64 H, .int .i64 V, .int .i64 O] ∧ Box w' q 23 #[.int .i64 A, .int .i64 B, .int .i64 K2, .int .i64 P2, .int .i64 T, .int .i64 S, .int .i64 H, .int .i64 V, .int .i64 O] ∧ Below w.heap.size w w') 37 rfl (by kernel_rfl) ⟨HXr.drewN 1, HDr.drewN 1, HBr.out.trans ((Below.refl _ _).drew)⟩ (fun hHeld => ?_)
      clear HXr HDr HBr
      simp only [Array.replicate_succ, Array.replicate_zero, List.push_toArray, List.nil_append, List.cons_append]
      generalize wr.drew = w20 at *
      refine wpAnyH_take (i := 0) (oi := ⟨some 104, _, _, _, _, _⟩) (v := (.int .i64 (2 * K2 + 5))) rfl (by kernel_rfl) (by kernel_rfl) (by kernel_rfl) (fun _ _ _ h => h) (Or.inl ⟨by rfl, fun w' hw => by go_simp⟩) hHeld ?_
      try simp only [Act.put, List.setIfInBounds_toArray, List.set_cons_zero, List.set_cons_succ]
      refine wpAnyH_take (i := 1) (oi := ⟨some 105, _, _, _, _, _⟩) (v := (.int .i64 (2 * K + 5))) rfl (by kernel_rfl) (by kernel_rfl) (by kernel_rfl) (fun _ _ _ h => h) (Or.inl ⟨by rfl, fun w' hw => by go_simp⟩) hHeld ?_
      try simp only [Act.put, List.setIfInBounds_toArray, List.set_cons_zero, List.set_cons_succ]
      refine wpAnyH_take (i := 2) (oi := ⟨some 106, _, _, _, _, _⟩) (v := (.int .i64 (2 * K2 + 5 - (2 * K + 5)))) rfl (by kernel_rfl) (by kernel_rfl) (by kernel_rfl) (fun _ _ _ h => h) (Or.inl ⟨by rfl, fun w' hw => by (go_simp; rw [IntKind.wrap_i64]; omega)⟩) hHeld ?_
      try simp only [Act.put, List.setIfInBounds_toArray, List.set_cons_zero, List.set_cons_succ]
      refine wpAnyH_take (i := 3) (oi := ⟨some 107, _, _, _, _, _⟩) (v := (.pointer (some ⟨q, 2, none⟩))) rfl (by kernel_rfl) (by kernel_rfl) (by kernel_rfl) (fun _ _ _ h => h) (Or.inl ⟨by rfl, fun w' hw => by go_simp⟩) hHeld ?_
      try simp only [Act.put, List.setIfInBounds_toArray, List.set_cons_zero, List.set_cons_succ]
      refine wpAnyH_take (i := 4) (oi := ⟨some 108, _, _, _, _, _⟩) (v := (.int .i64 K2)) rfl (by kernel_rfl) (by kernel_rfl) (by kernel_rfl) (fun _ _ _ h => h) (Or.inl ⟨by rfl, fun w' hw => by (have y := hw.2.1.cell 2; go_simp)⟩) hHeld ?_
      try simp only [Act.put, List.setIfInBounds_toArray, List.set_cons_zero, List.set_cons_succ]
      refine wpAnyH_take (i := 5) (oi := ⟨some 109, _, _, _, _, _⟩) (v := (.pointer (some ⟨p, 2, none⟩))) rfl (by kernel_rfl) (by kernel_rfl) (by kernel_rfl) (fun _ _ _ h => h) (Or.inl ⟨by rfl, fun w' hw => by go_simp⟩) hHeld ?_
      try simp only [Act.put, List.setIfInBounds_toArray, List.set_cons_zero, List.set_cons_succ]
      refine wpAnyH_take (i := 6) (oi := ⟨some 110, _, _, _, _, _⟩) (v := (.int .i64 K)) rfl (by kernel_rfl) (by kernel_rfl) (by kernel_rfl) (fun _ _ _ h => h) (Or.inl ⟨by rfl, fun w' hw => by (have y := hw.1.cell 2; go_simp)⟩) hHeld ?_
      try simp only [Act.put, List.setIfInBounds_toArray, List.set_cons_zero, List.set_cons_succ]
      refine wpAnyH_take (i := 7) (oi := ⟨some 111, _, _, _, _, _⟩) (v := (.int .i64 (K2 - K))) rfl (by kernel_rfl) (by kernel_rfl) (by kernel_rfl) (fun _ _ _ h => h) (Or.inl ⟨by rfl, fun w' hw => by (go_simp; rw [IntKind.wrap_i64]; omega)⟩) hHeld ?_
      try simp only [Act.put, List.setIfInBounds_toArray, List.set_cons_zero, List.set_cons_succ]
      refine wpAnyH_take (i := 8) (oi := ⟨some 112, _, _, _, _, _⟩) (v := (.int .i64 (2 * (K2 - K)))) rfl (by kernel_rfl) (by kernel_rfl) (by kernel_rfl) (fun _ _ _ h => h) (Or.inl ⟨by rfl, fun w' hw => by (go_simp; rw [IntKind.wrap_i64]; omega)⟩) hHeld ?_
      try simp only [Act.put, List.setIfInBounds_toArray, List.set_cons_zero, List.set_cons_succ]
      refine wpAnyH_take (i := 9) (oi := ⟨some 113, _, _, _, _, _⟩) (v := (.bool true)) rfl (by kernel_rfl) (by kernel_rfl) (by kernel_rfl) (fun _ _ _ h => h) (Or.inl ⟨by rfl, fun w' hw => by go_simp⟩) hHeld ?_
      try simp only [Act.put, List.setIfInBounds_toArray, List.set_cons_zero, List.set_cons_succ]
      refine wpAnyH_take (i := 10) (oi := ⟨some 114, _, _, _, _, _⟩) (v := (.bool true)) rfl (by kernel_rfl) (by kernel_rfl) (by kernel_rfl) (fun _ _ _ h => h) (Or.inl ⟨by rfl, fun w' hw => by go_simp⟩) hHeld ?_
      try simp only [Act.put, List.setIfInBounds_toArray, List.set_cons_zero, List.set_cons_succ]
      refine wpAnyH_take (i := 11) (oi := ⟨some 115, _, _, _, _, _⟩) (v := (.int .i64 (A + 5 * B))) rfl (by kernel_rfl) (by kernel_rfl) (by kernel_rfl) (fun _ _ _ h => h) (Or.inl ⟨by rfl, fun w' hw => by go_simp⟩) hHeld ?_
      try simp only [Act.put, List.setIfInBounds_toArray, List.set_cons_zero, List.set_cons_succ]
      refine wpAnyH_take (i := 12) (oi := ⟨some 116, _, _, _, _, _⟩) (v := (.int .i64 (A + 5 * B))) rfl (by kernel_rfl) (by kernel_rfl) (by kernel_rfl) (fun _ _ _ h => h) (Or.inl ⟨by rfl, fun w' hw => by go_simp⟩) hHeld ?_
      try simp only [Act.put, List.setIfInBounds_toArray, List.set_cons_zero, List.set_cons_succ]
      refine wpAnyH_take (i := 13) (oi := ⟨some 117, _, _, _, _, _⟩) (v := (.bool true)) rfl (by kernel_rfl) (by kernel_rfl) (by kernel_rfl) (fun _ _ _ h => h) (Or.inl ⟨by rfl, fun w' hw => by go_simp⟩) hHeld ?_
      try simp only [Act.put, List.setIfInBounds_toArray, List.set_cons_zero, List.set_cons_succ]
      refine wpAnyH_take (i := 14) (oi := ⟨some 118, _, _, _, _, _⟩) (v := (.bool true)) rfl (by kernel_rfl) (by kernel_rfl) (by kernel_rfl) (fun _ _ _ h => h) (Or.inl ⟨by rfl, fun w' hw => by go_simp⟩) hHeld ?_
      try simp only [Act.put, List.setIfInBounds_toArray, List.set_cons_zero, List.set_cons_succ]
      refine wpAnyH_take (i := 15) (oi := ⟨some 119, _, _, _, _, _⟩) (v := (.bool true)) rfl (by kernel_rfl) (by kernel_rfl) (by kernel_rfl) (fun _ _ _ h => h) (Or.inl ⟨by rfl, fun w' hw => by go_simp⟩) hHeld ?_
      try simp only [Act.put, List.setIfInBounds_toArray, List.set_cons_zero, List.set_cons_succ]
      refine wpAnyH_take (i := 16) (oi := ⟨some 120, _, _, _, _, _⟩) (v := (.agg #[.int .i64 A, .int .i64 B, .int .i64 K2, .int .i64 P2, .int .i64 T, .int .i64 S, .int .i64 H, .int .i64 V, .int .i64 O])) rfl (by kernel_rfl) (by kernel_rfl) (by kernel_rfl) (fun _ _ _ h => h) (Or.inl ⟨by rfl, fun w' hw => by (have y0 := hw.2.1.cell 0; have y1 := hw.2.1.cell 1; have y2 := hw.2.1.cell 2; have y3 := hw.2.1.cell 3; have y4 := hw.2.1.cell 4; have y5 := hw.2.1.cell 5; have y6 := hw.2.1.cell 6; have y7 := hw.2.1.cell 7; have y8 := hw.2.1.cell 8; go_simp)⟩) hHeld ?_
      try simp only [Act.put, List.setIfInBounds_toArray, List.set_cons_zero, List.set_cons_succ]
      refine wpAnyH_take (i := 18) (oi := ⟨some 122, _, _, _, _, _⟩) (v := (.agg #[.int .i64 A, .int .i64 B, .int .i64 K, .int .i64 P, .int .i64 T, .int .i64 S, .int .i64 H, .int .i64 V, .int .i64 O])) rfl (by kernel_rfl) (by kernel_rfl) (by kernel_rfl) (fun _ _ _ h => h) (Or.inl ⟨by rfl, fun w' hw => by (have y0 := hw.1.cell 0; have y1 := hw.1.cell 1; have y2 := hw.1.cell 2; have y3 := hw.1.cell 3; have y4 := hw.1.cell 4; have y5 := hw.1.cell 5; have y6 := hw.1.cell 6; have y7 := hw.1.cell 7; have y8 := hw.1.cell 8; go_simp)⟩) hHeld ?_
      try simp only [Act.put, List.setIfInBounds_toArray, List.set_cons_zero, List.set_cons_succ]
      refine one_ready 17 rfl (by kernel_rfl) (fun K9 hK => ?_)
      go_simp
      refine (HW2.out _).mono ?_
      rintro e w21 ⟨rfl, hb21⟩
      refine hK.out _ _ ⟨hHeld.1.of (hb21.block _ hHeld.1.lt), hHeld.2.1.of (hb21.block _ hHeld.2.1.lt), hHeld.2.2.trans (hb21.mono hHeld.2.2.size)⟩ (fun hHeld => ?_)
      clear hK K9 hb21
      try simp only [List.setIfInBounds_toArray, List.set_cons_zero, List.set_cons_succ]
      refine one_ready 19 rfl (by kernel_rfl) (fun K9 hK => ?_)
      go_simp
      refine (HW1.out _).mono ?_
      rintro e w22 ⟨rfl, hb22⟩
      refine hK.out _ _ ⟨hHeld.1.of (hb22.block _ hHeld.1.lt), hHeld.2.1.of (hb22.block _ hHeld.2.1.lt), hHeld.2.2.trans (hb22.mono hHeld.2.2.size)⟩ (fun hHeld => ?_)
      clear hK K9 hb22
      try simp only [List.setIfInBounds_toArray, List.set_cons_zero, List.set_cons_succ]
      refine wpAnyH_take (i := 20) (oi := ⟨some 124, _, _, _, _, _⟩) (v := (.bool true)) rfl (by kernel_rfl) (by kernel_rfl) (by kernel_rfl) (fun _ _ _ h => h) (Or.inl ⟨by rfl, fun w' hw => by go_simp⟩) hHeld ?_
      try simp only [Act.put, List.setIfInBounds_toArray, List.set_cons_zero, List.set_cons_succ]
      refine wpAnyH_take (i := 21) (oi := ⟨some 125, _, _, _, _, _⟩) (v := (.bool true)) rfl (by kernel_rfl) (by kernel_rfl) (by kernel_rfl) (fun _ _ _ h => h) (Or.inl ⟨by rfl, fun w' hw => by go_simp⟩) hHeld ?_
      try simp only [Act.put, List.setIfInBounds_toArray, List.set_cons_zero, List.set_cons_succ]
      refine wpAnyH_take (i := 22) (oi := ⟨some 126, _, _, _, _, _⟩) (v := (.bool true)) rfl (by kernel_rfl) (by kernel_rfl) (by kernel_rfl) (fun _ _ _ h => h) (Or.inl ⟨by rfl, fun w' hw => by go_simp⟩) hHeld ?_
      try simp only [Act.put, List.setIfInBounds_toArray, List.set_cons_zero, List.set_cons_succ]
      refine wpAnyH_take (i := 23) (oi := ⟨some 127, _, _, _, _, _⟩) (v := (.agg #[.int .i64 A, .int .i64 B, .int .i64 K, .int .i64 P, .int .i64 T, .int .i64 S, .int .i64 H, .int .i64 V, .int .i64 O])) rfl (by kernel_rfl) (by kernel_rfl) (by kernel_rfl) (fun _ _ _ h => h) (Or.inl ⟨by rfl, fun w' hw => by (have y0 := hw.1.cell 0; have y1 := hw.1.cell 1; have y2 := hw.1.cell 2; have y3 := hw.1.cell 3; have y4 := hw.1.cell 4; have y5 := hw.1.cell 5; have y6 := hw.1.cell 6; have y7 := hw.1.cell 7; have y8 := hw.1.cell 8; go_simp)⟩) hHeld ?_
      try simp only [Act.put, List.setIfInBounds_toArray, List.set_cons_zero, List.set_cons_succ]
      refine wpAnyH_take (i := 25) (oi := ⟨some 129, _, _, _, _, _⟩) (v := (.agg #[.int .i64 A, .int .i64 B, .int .i64 K2, .int .i64 P2, .int .i64 T, .int .i64 S, .int .i64 H, .int .i64 V, .int .i64 O])) rfl (by kernel_rfl) (by kernel_rfl) (by kernel_rfl) (fun _ _ _ h => h) (Or.inl ⟨by rfl, fun w' hw => by (have y0 := hw.2.1.cell 0; have y1 := hw.2.1.cell 1; have y2 := hw.2.1.cell 2; have y3 := hw.2.1.cell 3; have y4 := hw.2.1.cell 4; have y5 := hw.2.1.cell 5; have y6 := hw.2.1.cell 6; have y7 := hw.2.1.cell 7; have y8 := hw.2.1.cell 8; go_simp)⟩) hHeld ?_
      try simp only [Act.put, List.setIfInBounds_toArray, List.set_cons_zero, List.set_cons_succ]
      refine one_ready 24 rfl (by kernel_rfl) (fun K9 hK => ?_)
      go_simp
      refine (HC1.out _).mono ?_
      rintro e w23 ⟨rfl, hb23⟩
      refine hK.out _ _ ⟨hHeld.1.of (hb23.block _ hHeld.1.lt), hHeld.2.1.of (hb23.block _ hHeld.2.1.lt), hHeld.2.2.trans (hb23.mono hHeld.2.2.size)⟩ (fun hHeld => ?_)
      clear hK K9 hb23
      try simp only [List.setIfInBounds_toArray, List.set_cons_zero, List.set_cons_succ]
      refine one_ready 26 rfl (by kernel_rfl) (fun K9 hK => ?_)
      go_simp
      refine (HC2.out _).mono ?_
      rintro e w24 ⟨rfl, hb24⟩
      refine hK.out _ _ ⟨hHeld.1.of (hb24.block _ hHeld.1.lt), hHeld.2.1.of (hb24.block _ hHeld.2.1.lt), hHeld.2.2.trans (hb24.mono hHeld.2.2.size)⟩ (fun hHeld => ?_)
      clear hK K9 hb24
      try simp only [List.setIfInBounds_toArray, List.set_cons_zero, List.set_cons_succ]
      refine wpAnyH_take (i := 27) (oi := ⟨some 131, _, _, _, _, _⟩) (v := (.bool true)) rfl (by kernel_rfl) (by kernel_rfl) (by kernel_rfl) (fun _ _ _ h => h) (Or.inl ⟨by rfl, fun w' hw => by go_simp⟩) hHeld ?_
      try simp only [Act.put, List.setIfInBounds_toArray, List.set_cons_zero, List.set_cons_succ]
      refine wpAnyH_take (i := 28) (oi := ⟨some 132, _, _, _, _, _⟩) (v := (.bool true)) rfl (by kernel_rfl) (by kernel_rfl) (by kernel_rfl) (fun _ _ _ h => h) (Or.inl ⟨by rfl, fun w' hw => by go_simp⟩) hHeld ?_
      try simp only [Act.put, List.setIfInBounds_toArray, List.set_cons_zero, List.set_cons_succ]
      refine wpAnyH_take (i := 29) (oi := ⟨some 133, _, _, _, _, _⟩) (v := (.bool true)) rfl (by kernel_rfl) (by kernel_rfl) (by kernel_rfl) (fun _ _ _ h => h) (Or.inl ⟨by rfl, fun w' hw => by go_simp⟩) hHeld ?_
      try simp only [Act.put, List.setIfInBounds_toArray, List.set_cons_zero, List.set_cons_succ]
      refine wpAnyH_take (i := 30) (oi := ⟨some 134, _, _, _, _, _⟩) (v := (.agg #[.int .i64 A, .int .i64 B, .int .i64 K, .int .i64 P, .int .i64 T, .int .i64 S, .int .i64 H, .int .i64 V, .int .i64 O])) rfl (by kernel_rfl) (by kernel_rfl) (by kernel_rfl) (fun _ _ _ h => h) (Or.inl ⟨by rfl, fun w' hw => by (have y0 := hw.1.cell 0; have y1 := hw.1.cell 1; have y2 := hw.1.cell 2; have y3 := hw.1.cell 3; have y4 := hw.1.cell 4; have y5 := hw.1.cell 5; have y6 := hw.1.cell 6; have y7 := hw.1.cell 7; have y8 := hw.1.cell 8; go_simp)⟩) hHeld ?_
      try simp only [Act.put, List.setIfInBounds_toArray, List.set_cons_zero, List.set_cons_succ]
      refine wpAnyH_take (i := 32) (oi := ⟨some 136, _, _, _, _, _⟩) (v := (.agg #[.int .i64 A, .int .i64 B, .int .i64 K2, .int .i64 P2, .int .i64 T, .int .i64 S, .int .i64 H, .int .i64 V, .int .i64 O])) rfl (by kernel_rfl) (by kernel_rfl) (by kernel_rfl) (fun _ _ _ h => h) (Or.inl ⟨by rfl, fun w' hw => by (have y0 := hw.2.1.cell 0; have y1 := hw.2.1.cell 1; have y2 := hw.2.1.cell 2; have y3 := hw.2.1.cell 3; have y4 := hw.2.1.cell 4; have y5 := hw.2.1.cell 5; have y6 := hw.2.1.cell 6; have y7 := hw.2.1.cell 7; have y8 := hw.2.1.cell 8; go_simp)⟩) hHeld ?_
      try simp only [Act.put, List.setIfInBounds_toArray, List.set_cons_zero, List.set_cons_succ]
      refine one_ready 31 rfl (by kernel_rfl) (fun K9 hK => ?_)
      go_simp
      refine (HS1.out _).mono ?_
      rintro e w25 ⟨rfl, hb25⟩
      refine hK.out _ _ ⟨hHeld.1.of (hb25.block _ hHeld.1.lt), hHeld.2.1.of (hb25.block _ hHeld.2.1.lt), hHeld.2.2.trans (hb25.mono hHeld.2.2.size)⟩ (fun hHeld => ?_)
      clear hK K9 hb25
      try simp only [List.setIfInBounds_toArray, List.set_cons_zero, List.set_cons_succ]
      refine one_ready 33 rfl (by kernel_rfl) (fun K9 hK => ?_)
      go_simp
      refine (HS2.out _).mono ?_
      rintro e w26 ⟨rfl, hb26⟩
      refine hK.out _ _ ⟨hHeld.1.of (hb26.block _ hHeld.1.lt), hHeld.2.1.of (hb26.block _ hHeld.2.1.lt), hHeld.2.2.trans (hb26.mono hHeld.2.2.size)⟩ (fun hHeld => ?_)
      clear hK K9 hb26
      try simp only [List.setIfInBounds_toArray, List.set_cons_zero, List.set_cons_succ]
      refine wpAnyH_take (i := 34) (oi := ⟨some 138, _, _, _, _, _⟩) (v := (.bool true)) rfl (by kernel_rfl) (by kernel_rfl) (by kernel_rfl) (fun _ _ _ h => h) (Or.inl ⟨by rfl, fun w' hw => by (have e9 := hq w'; go_simp)⟩) hHeld ?_
      try simp only [Act.put, List.setIfInBounds_toArray, List.set_cons_zero, List.set_cons_succ]
      refine wpAnyH_take (i := 35) (oi := ⟨some 139, _, _, _, _, _⟩) (v := (.bool true)) rfl (by kernel_rfl) (by kernel_rfl) (by kernel_rfl) (fun _ _ _ h => h) (Or.inl ⟨by rfl, fun w' hw => by go_simp⟩) hHeld ?_
      try simp only [Act.put, List.setIfInBounds_toArray, List.set_cons_zero, List.set_cons_succ]
      refine wpAnyH_take (i := 36) (oi := ⟨some 6, _, _, _, _, _⟩) (v := (.bool true)) rfl (by kernel_rfl) (by kernel_rfl) (by kernel_rfl) (fun _ _ _ h => h) (Or.inl ⟨by rfl, fun w' hw => by go_simp⟩) hHeld ?_
      try simp only [Act.put, List.setIfInBounds_toArray, List.set_cons_zero, List.set_cons_succ]
      refine wpAnyH_done (by kernel_rfl) ?_ _
      have HB20 := Lib.hid hHeld.2.2
      clear hHeld
      go_wp2_with fail
      go_ret
      exact ⟨rfl, HB20.out⟩
theorem more_law (c : Cfg) (x y : Int) (w : World) (hc : c.Wf) (hg : ErrType w) : Calls Tryd.prog 7 #[.agg c.a, .int .i64 x, .int .i64 y] w fun e w' => e = .returned (.bool true) ∧ Below w.heap.size w w' := by
  by_cases h : Fst c 7
  · exact more_ok c x y w hc.T hg h
  · exact more_no c x y w hc.T hg h
end Go.Proofs.YteiilfdbddpodaaDoor
