/- The law ConfigChecks, walked: for every config and every number it returns true, and nothing that was in memory changes. Conditions: each number is an int; the library's variable of the type error holds that type. -/
import Derived.ChangeKeysEq
import Derived.Laws.StructEq
import Derived.Test.YteiilfdbddpodaaDoorG30
import Derived.Test.YteiilfdbddpodaaDoorG12
namespace Go.Proofs.YteiilfdbddpodaaDoor
set_option maxRecDepth 100000
open Go.RowKit Go.ChangeShapes Go.WideShapes Go.ChangeAt

set_option linter.unusedSimpArgs false in
set_option maxRecDepth 100000 in
set_option maxHeartbeats 2000000 in
theorem checks_of (A B K P T S H V O n : Int) (w : World) (hg : ErrType w) (nm : ByteArray) (E s0 s1 s2 s3 a b ce wd : Int) (m : Nat) (z : Nat → Int) (hm : m ≤ 100)
    (HWY : Hid (∀ W, ErrType W → Calls Tryd.prog 10 #[.agg #[.int .i64 A, .int .i64 B, .int .i64 K, .int .i64 P, .int .i64 T, .int .i64 S, .int .i64 H, .int .i64 V, .int .i64 O]] W fun e w' => e = .returned (.tuple #[.string nm, .int .i64 E]) ∧ Below W.heap.size W w'))
    (HRY : Hid (∀ W, Calls Tryd.prog 11 #[.agg #[.int .i64 A, .int .i64 B, .int .i64 K, .int .i64 P, .int .i64 T, .int .i64 S, .int .i64 H, .int .i64 V, .int .i64 O]] W fun e w' => e = .returned (.tuple #[.string nm, .int .i64 E]) ∧ Below W.heap.size W w'))
    (HST : Hid (∀ W, Calls Tryd.prog 13 #[.agg #[.int .i64 A, .int .i64 B, .int .i64 K, .int .i64 P, .int .i64 T, .int .i64 S, .int .i64 H, .int .i64 V, .int .i64 O]] W fun e w' => e = .returned (.agg #[.int .i64 s0, .int .i64 s1, .int .i64 s2, .int .i64 s3]) ∧ Below W.heap.size W w'))
    (HRS : Hid (∀ W, Calls Tryd.prog 14 #[.agg #[.int .i64 A, .int .i64 B, .int .i64 K, .int .i64 P, .int .i64 T, .int .i64 S, .int .i64 H, .int .i64 V, .int .i64 O]] W fun e w' => e = .returned (.agg #[.int .i64 s0, .int .i64 s1, .int .i64 s2, .int .i64 s3]) ∧ Below W.heap.size W w'))
    (HAC : Hid (∀ W, Calls Tryd.prog 15 #[.agg #[.int .i64 A, .int .i64 B, .int .i64 K, .int .i64 P, .int .i64 T, .int .i64 S, .int .i64 H, .int .i64 V, .int .i64 O]] W fun e w' => e = .returned (.tuple #[.int .i64 a, .int .i64 b]) ∧ Below W.heap.size W w'))
    (HRA : Hid (∀ W, Calls Tryd.prog 16 #[.agg #[.int .i64 A, .int .i64 B, .int .i64 K, .int .i64 P, .int .i64 T, .int .i64 S, .int .i64 H, .int .i64 V, .int .i64 O]] W fun e w' => e = .returned (.tuple #[.int .i64 a, .int .i64 b]) ∧ Below W.heap.size W w'))
    (HCE : Hid (∀ W, Calls Tryd.prog 17 #[.agg #[.int .i64 A, .int .i64 B, .int .i64 K, .int .i64 P, .int .i64 T, .int .i64 S, .int .i64 H, .int .i64 V, .int .i64 O]] W fun e w' => e = .returned (.int .i64 ce) ∧ Below W.heap.size W w'))
    (HRC : Hid (∀ W, Calls Tryd.prog 18 #[.agg #[.int .i64 A, .int .i64 B, .int .i64 K, .int .i64 P, .int .i64 T, .int .i64 S, .int .i64 H, .int .i64 V, .int .i64 O]] W fun e w' => e = .returned (.int .i64 ce) ∧ Below W.heap.size W w'))
    (HSZ : Hid (∀ W, Calls Tryd.prog 20 #[.agg #[.int .i64 A, .int .i64 B, .int .i64 K, .int .i64 P, .int .i64 T, .int .i64 S, .int .i64 H, .int .i64 V, .int .i64 O]] W (SlPost W m z)))
    (HRZ : Hid (∀ W, Calls Tryd.prog 21 #[.agg #[.int .i64 A, .int .i64 B, .int .i64 K, .int .i64 P, .int .i64 T, .int .i64 S, .int .i64 H, .int .i64 V, .int .i64 O]] W (SlPost W m z)))
    (HWD : Hid (∀ W, Calls Tryd.prog 22 #[.agg #[.int .i64 A, .int .i64 B, .int .i64 K, .int .i64 P, .int .i64 T, .int .i64 S, .int .i64 H, .int .i64 V, .int .i64 O], .int .i64 n] W fun e w' => e = .returned (.int .i64 wd) ∧ Below W.heap.size W w'))
    (HRW : Hid (∀ W, Calls Tryd.prog 23 #[.agg #[.int .i64 A, .int .i64 B, .int .i64 K, .int .i64 P, .int .i64 T, .int .i64 S, .int .i64 H, .int .i64 V, .int .i64 O], .int .i64 n] W fun e w' => e = .returned (.int .i64 wd) ∧ Below W.heap.size W w'))
    (HAS : Hid (∀ W, Calls Tryd.prog 12 #[.agg #[.int .i64 A, .int .i64 B, .int .i64 K, .int .i64 P, .int .i64 T, .int .i64 S, .int .i64 H, .int .i64 V, .int .i64 O]] W fun e w' => e = .returned (.agg #[.int .i64 A, .int .i64 B, .int .i64 K, .int .i64 P, .int .i64 T, .int .i64 S, .int .i64 H, .int .i64 V, .int .i64 O]) ∧ Below W.heap.size W w')) :
    Calls Tryd.prog 3 #[.agg #[.int .i64 A, .int .i64 B, .int .i64 K, .int .i64 P, .int .i64 T, .int .i64 S, .int .i64 H, .int .i64 V, .int .i64 O], .int .i64 n] w fun e w' => e = .returned (.bool true) ∧ Below w.heap.size w w' := by
  have HG0 := Lib.hid hg
  have HMM := Lib.hid hm
  clear hg hm
  obtain ⟨p, hp⟩ : ∃ p, w.heap.size = p := ⟨_, rfl⟩
  obtain ⟨w2, hw2⟩ : ∃ w2, w.alloc (.cells #[.int .i64 A, .int .i64 B, .int .i64 K, .int .i64 P, .int .i64 T, .int .i64 S, .int .i64 H, .int .i64 V, .int .i64 O] 23) = w2 := ⟨_, rfl⟩
  have hx : Box w2 p 23 #[.int .i64 A, .int .i64 B, .int .i64 K, .int .i64 P, .int .i64 T, .int .i64 S, .int .i64 H, .int .i64 V, .int .i64 O] := by rw [← hw2, ← hp]; exact Box.new w _ _
  have HB := Lib.hid (show Below w.heap.size w w2 by rw [← hw2]; exact (Below.refl _ w).alloc (Nat.le_refl _) _)
  have HX := Lib.hid hx
  have HPP := Lib.hid hp
  have HWW := Lib.hid hw2
  have k0 := hx.cell 0
  have k1 := hx.cell 1
  have k2 := hx.cell 2
  have k3 := hx.cell 3
  have k4 := hx.cell 4
  have k5 := hx.cell 5
  have k6 := hx.cell 6
  have k7 := hx.cell 7
  have k8 := hx.cell 8
  clear hx hp hw2
  have HG2 := Lib.hid (HG0.out.below (show Below w.heap.size w w2 from HB.out))
  have HB2 := Lib.hid HB.out
  have HX2 := Lib.hid HX.out
  clear HB HX HG0
  go_enter Tryd.func3, Tryd.ntmps3
  go_upto_region 1 with fail
  rw [HPP.out, HWW.out]
  go_wp2_with fail
  refine (shown_any _ HG2.out).mono ?_
  rintro e w3 ⟨rfl, hb3⟩
  have HB3 := Lib.hid (HB2.out.trans (hb3.mono HB2.out.size))
  have HG3 := Lib.hid (HG2.out.below hb3)
  have HX3 := Lib.hid (HX2.out.of (hb3.block _ HX2.out.lt))
  clear hb3 HB2 HG2 HX2 
  clear k0 k1 k2 k3 k4 k5 k6 k7 k8
  have k0 := HX3.out.cell 0
  have k1 := HX3.out.cell 1
  have k2 := HX3.out.cell 2
  have k3 := HX3.out.cell 3
  have k4 := HX3.out.cell 4
  have k5 := HX3.out.cell 5
  have k6 := HX3.out.cell 6
  have k7 := HX3.out.cell 7
  have k8 := HX3.out.cell 8
  go_wp2_with fail
  refine (HWY.out _ HG3.out).mono ?_
  rintro e w4 ⟨rfl, hb4⟩
  have HB4 := Lib.hid (HB3.out.trans (hb4.mono HB3.out.size))
  have HG4 := Lib.hid (HG3.out.below hb4)
  have HX4 := Lib.hid (HX3.out.of (hb4.block _ HX3.out.lt))
  clear hb4 HB3 HG3 HX3 
  clear k0 k1 k2 k3 k4 k5 k6 k7 k8
  have k0 := HX4.out.cell 0
  have k1 := HX4.out.cell 1
  have k2 := HX4.out.cell 2
  have k3 := HX4.out.cell 3
  have k4 := HX4.out.cell 4
  have k5 := HX4.out.cell 5
  have k6 := HX4.out.cell 6
  have k7 := HX4.out.cell 7
  have k8 := HX4.out.cell 8
  go_wp2_with fail
  refine (HAS.out _).mono ?_
  rintro e w5 ⟨rfl, hb5⟩
  have HB5 := Lib.hid (HB4.out.trans (hb5.mono HB4.out.size))
  have HX5 := Lib.hid (HX4.out.of (hb5.block _ HX4.out.lt))
  clear hb5 HB4 HX4 
  clear k0 k1 k2 k3 k4 k5 k6 k7 k8
  have k0 := HX5.out.cell 0
  have k1 := HX5.out.cell 1
  have k2 := HX5.out.cell 2
  have k3 := HX5.out.cell 3
  have k4 := HX5.out.cell 4
  have k5 := HX5.out.cell 5
  have k6 := HX5.out.cell 6
  have k7 := HX5.out.cell 7
  have k8 := HX5.out.cell 8
  go_wp2_with fail
  refine (HRY.out _).mono ?_
  rintro e w6 ⟨rfl, hb6⟩
  have HB6 := Lib.hid (HB5.out.trans (hb6.mono HB5.out.size))
  have HX6 := Lib.hid (HX5.out.of (hb6.block _ HX5.out.lt))
  clear hb6 HB5 HX5 
  clear k0 k1 k2 k3 k4 k5 k6 k7 k8
  have k0 := HX6.out.cell 0
  have k1 := HX6.out.cell 1
  have k2 := HX6.out.cell 2
  have k3 := HX6.out.cell 3
  have k4 := HX6.out.cell 4
  have k5 := HX6.out.cell 5
  have k6 := HX6.out.cell 6
  have k7 := HX6.out.cell 7
  have k8 := HX6.out.cell 8
  go_wp2_with fail
  refine (HST.out _).mono ?_
  rintro e w7 ⟨rfl, hb7⟩
  have HB7 := Lib.hid (HB6.out.trans (hb7.mono HB6.out.size))
  have HX7 := Lib.hid (HX6.out.of (hb7.block _ HX6.out.lt))
  clear hb7 HB6 HX6 
  clear k0 k1 k2 k3 k4 k5 k6 k7 k8
  have k0 := HX7.out.cell 0
  have k1 := HX7.out.cell 1
  have k2 := HX7.out.cell 2
  have k3 := HX7.out.cell 3
  have k4 := HX7.out.cell 4
  have k5 := HX7.out.cell 5
  have k6 := HX7.out.cell 6
  have k7 := HX7.out.cell 7
  have k8 := HX7.out.cell 8
  go_upto_region 5 with fail
  obtain ⟨q1, hq1⟩ : ∃ q, w7.heap.size = q := ⟨_, rfl⟩
  obtain ⟨w8, hw8⟩ : ∃ w9, w7.alloc (.cells #[.int .i64 s0, .int .i64 s1, .int .i64 s2, .int .i64 s3] 32) = w9 := ⟨_, rfl⟩
  have HB8 := Lib.hid (show Below w.heap.size w w8 by rw [← hw8]; exact HB7.out.alloc HB7.out.size _)
  have HX8 := Lib.hid (show Box w8 p 23 #[.int .i64 A, .int .i64 B, .int .i64 K, .int .i64 P, .int .i64 T, .int .i64 S, .int .i64 H, .int .i64 V, .int .i64 O] by rw [← hw8]; exact HX7.out.alloc _)
  have HS8 := Lib.hid (show Box w8 q1 32 #[.int .i64 s0, .int .i64 s1, .int .i64 s2, .int .i64 s3] by rw [← hw8, ← hq1]; exact Box.new w7 _ _)
  simp only [hq1, hw8]
  clear hq1 hw8 HB7 HX7
  clear k0 k1 k2 k3 k4 k5 k6 k7 k8
  have k0 := HX8.out.cell 0
  have k1 := HX8.out.cell 1
  have k2 := HX8.out.cell 2
  have k3 := HX8.out.cell 3
  have k4 := HX8.out.cell 4
  have k5 := HX8.out.cell 5
  have k6 := HX8.out.cell 6
  have k7 := HX8.out.cell 7
  have k8 := HX8.out.cell 8
  go_wp2_with fail
  refine (HAS.out _).mono ?_
  rintro e w9 ⟨rfl, hb9⟩
  have HB9 := Lib.hid (HB8.out.trans (hb9.mono HB8.out.size))
  have HX9 := Lib.hid (HX8.out.of (hb9.block _ HX8.out.lt))
  have HS9 := Lib.hid (HS8.out.of (hb9.block _ HS8.out.lt))
  clear hb9 HB8 HX8 HS8 
  clear k0 k1 k2 k3 k4 k5 k6 k7 k8
  have k0 := HX9.out.cell 0
  have k1 := HX9.out.cell 1
  have k2 := HX9.out.cell 2
  have k3 := HX9.out.cell 3
  have k4 := HX9.out.cell 4
  have k5 := HX9.out.cell 5
  have k6 := HX9.out.cell 6
  have k7 := HX9.out.cell 7
  have k8 := HX9.out.cell 8
  go_wp2_with fail
  refine (HRS.out _).mono ?_
  rintro e w10 ⟨rfl, hb10⟩
  have HB10 := Lib.hid (HB9.out.trans (hb10.mono HB9.out.size))
  have HX10 := Lib.hid (HX9.out.of (hb10.block _ HX9.out.lt))
  have HS10 := Lib.hid (HS9.out.of (hb10.block _ HS9.out.lt))
  clear hb10 HB9 HX9 HS9 
  clear k0 k1 k2 k3 k4 k5 k6 k7 k8
  have k0 := HX10.out.cell 0
  have k1 := HX10.out.cell 1
  have k2 := HX10.out.cell 2
  have k3 := HX10.out.cell 3
  have k4 := HX10.out.cell 4
  have k5 := HX10.out.cell 5
  have k6 := HX10.out.cell 6
  have k7 := HX10.out.cell 7
  have k8 := HX10.out.cell 8
  go_upto_region 6 with fail
  obtain ⟨q2, hq2⟩ : ∃ q, w10.heap.size = q := ⟨_, rfl⟩
  obtain ⟨w11, hw11⟩ : ∃ w9, w10.alloc (.cells #[.int .i64 s0, .int .i64 s1, .int .i64 s2, .int .i64 s3] 34) = w9 := ⟨_, rfl⟩
  have HB11 := Lib.hid (show Below w.heap.size w w11 by rw [← hw11]; exact HB10.out.alloc HB10.out.size _)
  have HX11 := Lib.hid (show Box w11 p 23 #[.int .i64 A, .int .i64 B, .int .i64 K, .int .i64 P, .int .i64 T, .int .i64 S, .int .i64 H, .int .i64 V, .int .i64 O] by rw [← hw11]; exact HX10.out.alloc _)
  have HQ11 := Lib.hid (show Box w11 q2 34 #[.int .i64 s0, .int .i64 s1, .int .i64 s2, .int .i64 s3] by rw [← hw11, ← hq2]; exact Box.new w10 _ _)
  have HS11 := Lib.hid (show Box w11 q1 32 #[.int .i64 s0, .int .i64 s1, .int .i64 s2, .int .i64 s3] by rw [← hw11]; exact HS10.out.alloc _)
  simp only [hq2, hw11]
  clear hq2 hw11 HB10 HX10 HS10
  clear k0 k1 k2 k3 k4 k5 k6 k7 k8
  have k0 := HX11.out.cell 0
  have k1 := HX11.out.cell 1
  have k2 := HX11.out.cell 2
  have k3 := HX11.out.cell 3
  have k4 := HX11.out.cell 4
  have k5 := HX11.out.cell 5
  have k6 := HX11.out.cell 6
  have k7 := HX11.out.cell 7
  have k8 := HX11.out.cell 8
  go_wp2_with fail
  refine (HAC.out _).mono ?_
  rintro e w12 ⟨rfl, hb12⟩
  have HB12 := Lib.hid (HB11.out.trans (hb12.mono HB11.out.size))
  have HX12 := Lib.hid (HX11.out.of (hb12.block _ HX11.out.lt))
  have HS12 := Lib.hid (HS11.out.of (hb12.block _ HS11.out.lt))
  have HQ12 := Lib.hid (HQ11.out.of (hb12.block _ HQ11.out.lt))
  clear hb12 HB11 HX11 HS11 HQ11 
  clear k0 k1 k2 k3 k4 k5 k6 k7 k8
  have k0 := HX12.out.cell 0
  have k1 := HX12.out.cell 1
  have k2 := HX12.out.cell 2
  have k3 := HX12.out.cell 3
  have k4 := HX12.out.cell 4
  have k5 := HX12.out.cell 5
  have k6 := HX12.out.cell 6
  have k7 := HX12.out.cell 7
  have k8 := HX12.out.cell 8
  go_wp2_with fail
  refine (HAS.out _).mono ?_
  rintro e w13 ⟨rfl, hb13⟩
  have HB13 := Lib.hid (HB12.out.trans (hb13.mono HB12.out.size))
  have HX13 := Lib.hid (HX12.out.of (hb13.block _ HX12.out.lt))
  have HS13 := Lib.hid (HS12.out.of (hb13.block _ HS12.out.lt))
  have HQ13 := Lib.hid (HQ12.out.of (hb13.block _ HQ12.out.lt))
  clear hb13 HB12 HX12 HS12 HQ12 
  clear k0 k1 k2 k3 k4 k5 k6 k7 k8
  have k0 := HX13.out.cell 0
  have k1 := HX13.out.cell 1
  have k2 := HX13.out.cell 2
  have k3 := HX13.out.cell 3
  have k4 := HX13.out.cell 4
  have k5 := HX13.out.cell 5
  have k6 := HX13.out.cell 6
  have k7 := HX13.out.cell 7
  have k8 := HX13.out.cell 8
  go_wp2_with fail
  refine (HRA.out _).mono ?_
  rintro e w14 ⟨rfl, hb14⟩
  have HB14 := Lib.hid (HB13.out.trans (hb14.mono HB13.out.size))
  have HX14 := Lib.hid (HX13.out.of (hb14.block _ HX13.out.lt))
  have HS14 := Lib.hid (HS13.out.of (hb14.block _ HS13.out.lt))
  have HQ14 := Lib.hid (HQ13.out.of (hb14.block _ HQ13.out.lt))
  clear hb14 HB13 HX13 HS13 HQ13 
  clear k0 k1 k2 k3 k4 k5 k6 k7 k8
  have k0 := HX14.out.cell 0
  have k1 := HX14.out.cell 1
  have k2 := HX14.out.cell 2
  have k3 := HX14.out.cell 3
  have k4 := HX14.out.cell 4
  have k5 := HX14.out.cell 5
  have k6 := HX14.out.cell 6
  have k7 := HX14.out.cell 7
  have k8 := HX14.out.cell 8
  clear k0 k1 k2 k3 k4 k5 k6 k7 k8
  go_upto_region 8 with fail
  refine held_s (S := fun w' => Box w' p 23 #[.int .i64 A, .int .i64 B, .int .i64 K, .int .i64 P, .int .i64 T, .int .i64 S, .int .i64 H, .int .i64 V, .int .i64 O] ∧ Box w' q1 32 #[.int .i64 s0, .int .i64 s1, .int .i64 s2, .int .i64 s3] ∧ Box w' q2 34 #[.int .i64 s0, .int .i64 s1, .int .i64 s2, .int .i64 s3] ∧ Below w.heap.size w w') 76 rfl (by kernel_rfl) ⟨HX14.out.drewN 1, HS14.out.drewN 1, HQ14.out.drewN 1, HB14.out.trans ((Below.refl _ _).drew)⟩ (fun hHeld => ?_)
  clear HX14 HS14 HQ14 HB14
  simp only [Array.replicate_succ, Array.replicate_zero, List.push_toArray, List.nil_append, List.cons_append]
  generalize w14.drew = w15 at *
  refine wpAnyH_take (i := 0) (oi := ⟨some 44, _, _, _, _, _⟩) (v := (.bool true)) rfl (by kernel_rfl) (by kernel_rfl) (by kernel_rfl) (fun _ _ _ h => h) (Or.inl ⟨by rfl, fun w' hw => by go_simp⟩) hHeld ?_
  try simp only [Act.put, List.setIfInBounds_toArray, List.set_cons_zero, List.set_cons_succ]
  refine wpAnyH_take (i := 1) (oi := ⟨some 45, _, _, _, _, _⟩) (v := (.bool true)) rfl (by kernel_rfl) (by kernel_rfl) (by kernel_rfl) (fun _ _ _ h => h) (Or.inl ⟨by rfl, fun w' hw => by go_simp⟩) hHeld ?_
  try simp only [Act.put, List.setIfInBounds_toArray, List.set_cons_zero, List.set_cons_succ]
  refine wpAnyH_take (i := 2) (oi := ⟨some 46, _, _, _, _, _⟩) (v := (.string nm)) rfl (by kernel_rfl) (by kernel_rfl) (by kernel_rfl) (fun _ _ _ h => h) (Or.inl ⟨by rfl, fun w' hw => by go_simp⟩) hHeld ?_
  try simp only [Act.put, List.setIfInBounds_toArray, List.set_cons_zero, List.set_cons_succ]
  refine wpAnyH_take (i := 3) (oi := ⟨some 47, _, _, _, _, _⟩) (v := (.string nm)) rfl (by kernel_rfl) (by kernel_rfl) (by kernel_rfl) (fun _ _ _ h => h) (Or.inl ⟨by rfl, fun w' hw => by go_simp⟩) hHeld ?_
  try simp only [Act.put, List.setIfInBounds_toArray, List.set_cons_zero, List.set_cons_succ]
  refine wpAnyH_take (i := 4) (oi := ⟨some 48, _, _, _, _, _⟩) (v := (.bool true)) rfl (by kernel_rfl) (by kernel_rfl) (by kernel_rfl) (fun _ _ _ h => h) (Or.inl ⟨by rfl, fun w' hw => by go_simp⟩) hHeld ?_
  try simp only [Act.put, List.setIfInBounds_toArray, List.set_cons_zero, List.set_cons_succ]
  refine wpAnyH_take (i := 5) (oi := ⟨some 49, _, _, _, _, _⟩) (v := (.bool true)) rfl (by kernel_rfl) (by kernel_rfl) (by kernel_rfl) (fun _ _ _ h => h) (Or.inl ⟨by rfl, fun w' hw => by go_simp⟩) hHeld ?_
  try simp only [Act.put, List.setIfInBounds_toArray, List.set_cons_zero, List.set_cons_succ]
  refine wpAnyH_take (i := 6) (oi := ⟨some 50, _, _, _, _, _⟩) (v := (.bool true)) rfl (by kernel_rfl) (by kernel_rfl) (by kernel_rfl) (fun _ _ _ h => h) (Or.inl ⟨by rfl, fun w' hw => by go_simp⟩) hHeld ?_
  try simp only [Act.put, List.setIfInBounds_toArray, List.set_cons_zero, List.set_cons_succ]
  refine wpAnyH_take (i := 7) (oi := ⟨some 51, _, _, _, _, _⟩) (v := (.int .i64 E)) rfl (by kernel_rfl) (by kernel_rfl) (by kernel_rfl) (fun _ _ _ h => h) (Or.inl ⟨by rfl, fun w' hw => by go_simp⟩) hHeld ?_
  try simp only [Act.put, List.setIfInBounds_toArray, List.set_cons_zero, List.set_cons_succ]
  refine wpAnyH_take (i := 8) (oi := ⟨some 52, _, _, _, _, _⟩) (v := (.int .i64 E)) rfl (by kernel_rfl) (by kernel_rfl) (by kernel_rfl) (fun _ _ _ h => h) (Or.inl ⟨by rfl, fun w' hw => by go_simp⟩) hHeld ?_
  try simp only [Act.put, List.setIfInBounds_toArray, List.set_cons_zero, List.set_cons_succ]
  refine wpAnyH_take (i := 9) (oi := ⟨some 53, _, _, _, _, _⟩) (v := (.bool true)) rfl (by kernel_rfl) (by kernel_rfl) (by kernel_rfl) (fun _ _ _ h => h) (Or.inl ⟨by rfl, fun w' hw => by go_simp⟩) hHeld ?_
  try simp only [Act.put, List.setIfInBounds_toArray, List.set_cons_zero, List.set_cons_succ]
  refine wpAnyH_take (i := 10) (oi := ⟨some 54, _, _, _, _, _⟩) (v := (.bool true)) rfl (by kernel_rfl) (by kernel_rfl) (by kernel_rfl) (fun _ _ _ h => h) (Or.inl ⟨by rfl, fun w' hw => by go_simp⟩) hHeld ?_
  try simp only [Act.put, List.setIfInBounds_toArray, List.set_cons_zero, List.set_cons_succ]
  refine wpAnyH_take (i := 11) (oi := ⟨some 55, _, _, _, _, _⟩) (v := (.bool true)) rfl (by kernel_rfl) (by kernel_rfl) (by kernel_rfl) (fun _ _ _ h => h) (Or.inl ⟨by rfl, fun w' hw => by go_simp⟩) hHeld ?_
  try simp only [Act.put, List.setIfInBounds_toArray, List.set_cons_zero, List.set_cons_succ]
  refine wpAnyH_take (i := 12) (oi := ⟨some 56, _, _, _, _, _⟩) (v := (.agg #[.int .i64 A, .int .i64 B, .int .i64 K, .int .i64 P, .int .i64 T, .int .i64 S, .int .i64 H, .int .i64 V, .int .i64 O])) rfl (by kernel_rfl) (by kernel_rfl) (by kernel_rfl) (fun _ _ _ h => h) (Or.inl ⟨by rfl, fun w' hw => by (have y0 := hw.1.cell 0; have y1 := hw.1.cell 1; have y2 := hw.1.cell 2; have y3 := hw.1.cell 3; have y4 := hw.1.cell 4; have y5 := hw.1.cell 5; have y6 := hw.1.cell 6; have y7 := hw.1.cell 7; have y8 := hw.1.cell 8; go_simp)⟩) hHeld ?_
  try simp only [Act.put, List.setIfInBounds_toArray, List.set_cons_zero, List.set_cons_succ]
  refine wpAnyH_take (i := 14) (oi := ⟨some 58, _, _, _, _, _⟩) (v := (.agg #[.int .i64 A, .int .i64 B, .int .i64 K, .int .i64 P, .int .i64 T, .int .i64 S, .int .i64 H, .int .i64 V, .int .i64 O])) rfl (by kernel_rfl) (by kernel_rfl) (by kernel_rfl) (fun _ _ _ h => h) (Or.inl ⟨by rfl, fun w' hw => by (have y0 := hw.1.cell 0; have y1 := hw.1.cell 1; have y2 := hw.1.cell 2; have y3 := hw.1.cell 3; have y4 := hw.1.cell 4; have y5 := hw.1.cell 5; have y6 := hw.1.cell 6; have y7 := hw.1.cell 7; have y8 := hw.1.cell 8; go_simp)⟩) hHeld ?_
  try simp only [Act.put, List.setIfInBounds_toArray, List.set_cons_zero, List.set_cons_succ]
  refine one_ready 13 rfl (by kernel_rfl) (fun K9 hK => ?_)
  go_simp
  refine (HCE.out _).mono ?_
  rintro e w16 ⟨rfl, hb16⟩
  refine hK.out _ _ ⟨hHeld.1.of (hb16.block _ hHeld.1.lt), hHeld.2.1.of (hb16.block _ hHeld.2.1.lt), hHeld.2.2.1.of (hb16.block _ hHeld.2.2.1.lt), hHeld.2.2.2.trans (hb16.mono hHeld.2.2.2.size)⟩ (fun hHeld => ?_)
  clear hK K9 hb16
  try simp only [List.setIfInBounds_toArray, List.set_cons_zero, List.set_cons_succ]
  refine one_ready 15 rfl (by kernel_rfl) (fun K9 hK => ?_)
  go_simp
  refine (HAS.out _).mono ?_
  rintro e w17 ⟨rfl, hb17⟩
  refine hK.out _ _ ⟨hHeld.1.of (hb17.block _ hHeld.1.lt), hHeld.2.1.of (hb17.block _ hHeld.2.1.lt), hHeld.2.2.1.of (hb17.block _ hHeld.2.2.1.lt), hHeld.2.2.2.trans (hb17.mono hHeld.2.2.2.size)⟩ (fun hHeld => ?_)
  clear hK K9 hb17
  try simp only [List.setIfInBounds_toArray, List.set_cons_zero, List.set_cons_succ]
  refine one_ready 16 rfl (by kernel_rfl) (fun K9 hK => ?_)
  go_simp
  refine (HRC.out _).mono ?_
  rintro e w18 ⟨rfl, hb18⟩
  refine hK.out _ _ ⟨hHeld.1.of (hb18.block _ hHeld.1.lt), hHeld.2.1.of (hb18.block _ hHeld.2.1.lt), hHeld.2.2.1.of (hb18.block _ hHeld.2.2.1.lt), hHeld.2.2.2.trans (hb18.mono hHeld.2.2.2.size)⟩ (fun hHeld => ?_)
  clear hK K9 hb18
  try simp only [List.setIfInBounds_toArray, List.set_cons_zero, List.set_cons_succ]
  refine wpAnyH_take (i := 17) (oi := ⟨some 61, _, _, _, _, _⟩) (v := (.bool true)) rfl (by kernel_rfl) (by kernel_rfl) (by kernel_rfl) (fun _ _ _ h => h) (Or.inl ⟨by rfl, fun w' hw => by go_simp⟩) hHeld ?_
  try simp only [Act.put, List.setIfInBounds_toArray, List.set_cons_zero, List.set_cons_succ]
  refine wpAnyH_take (i := 18) (oi := ⟨some 62, _, _, _, _, _⟩) (v := (.bool true)) rfl (by kernel_rfl) (by kernel_rfl) (by kernel_rfl) (fun _ _ _ h => h) (Or.inl ⟨by rfl, fun w' hw => by go_simp⟩) hHeld ?_
  try simp only [Act.put, List.setIfInBounds_toArray, List.set_cons_zero, List.set_cons_succ]
  refine wpAnyH_take (i := 19) (oi := ⟨some 63, _, _, _, _, _⟩) (v := (.bool true)) rfl (by kernel_rfl) (by kernel_rfl) (by kernel_rfl) (fun _ _ _ h => h) (Or.inl ⟨by rfl, fun w' hw => by go_simp⟩) hHeld ?_
  try simp only [Act.put, List.setIfInBounds_toArray, List.set_cons_zero, List.set_cons_succ]
  refine wpAnyH_take (i := 20) (oi := ⟨some 64, _, _, _, _, _⟩) (v := (.pointer (some ⟨q1, 0, none⟩))) rfl (by kernel_rfl) (by kernel_rfl) (by kernel_rfl) (fun _ _ _ h => h) (Or.inl ⟨by rfl, fun w' hw => by go_simp⟩) hHeld ?_
  try simp only [Act.put, List.setIfInBounds_toArray, List.set_cons_zero, List.set_cons_succ]
  refine wpAnyH_take (i := 21) (oi := ⟨some 65, _, _, _, _, _⟩) (v := (.int .i64 s0)) rfl (by kernel_rfl) (by kernel_rfl) (by kernel_rfl) (fun _ _ _ h => h) (Or.inl ⟨by rfl, fun w' hw => by (have y := hw.2.1.cell 0; go_simp)⟩) hHeld ?_
  try simp only [Act.put, List.setIfInBounds_toArray, List.set_cons_zero, List.set_cons_succ]
  refine wpAnyH_take (i := 22) (oi := ⟨some 66, _, _, _, _, _⟩) (v := (.pointer (some ⟨q2, 0, none⟩))) rfl (by kernel_rfl) (by kernel_rfl) (by kernel_rfl) (fun _ _ _ h => h) (Or.inl ⟨by rfl, fun w' hw => by go_simp⟩) hHeld ?_
  try simp only [Act.put, List.setIfInBounds_toArray, List.set_cons_zero, List.set_cons_succ]
  refine wpAnyH_take (i := 23) (oi := ⟨some 67, _, _, _, _, _⟩) (v := (.int .i64 s0)) rfl (by kernel_rfl) (by kernel_rfl) (by kernel_rfl) (fun _ _ _ h => h) (Or.inl ⟨by rfl, fun w' hw => by (have y := hw.2.2.1.cell 0; go_simp)⟩) hHeld ?_
  try simp only [Act.put, List.setIfInBounds_toArray, List.set_cons_zero, List.set_cons_succ]
  refine wpAnyH_take (i := 24) (oi := ⟨some 68, _, _, _, _, _⟩) (v := (.bool true)) rfl (by kernel_rfl) (by kernel_rfl) (by kernel_rfl) (fun _ _ _ h => h) (Or.inl ⟨by rfl, fun w' hw => by go_simp⟩) hHeld ?_
  try simp only [Act.put, List.setIfInBounds_toArray, List.set_cons_zero, List.set_cons_succ]
  refine wpAnyH_take (i := 25) (oi := ⟨some 69, _, _, _, _, _⟩) (v := (.bool true)) rfl (by kernel_rfl) (by kernel_rfl) (by kernel_rfl) (fun _ _ _ h => h) (Or.inl ⟨by rfl, fun w' hw => by go_simp⟩) hHeld ?_
  try simp only [Act.put, List.setIfInBounds_toArray, List.set_cons_zero, List.set_cons_succ]
  refine wpAnyH_take (i := 26) (oi := ⟨some 70, _, _, _, _, _⟩) (v := (.bool true)) rfl (by kernel_rfl) (by kernel_rfl) (by kernel_rfl) (fun _ _ _ h => h) (Or.inl ⟨by rfl, fun w' hw => by go_simp⟩) hHeld ?_
  try simp only [Act.put, List.setIfInBounds_toArray, List.set_cons_zero, List.set_cons_succ]
  refine wpAnyH_take (i := 27) (oi := ⟨some 71, _, _, _, _, _⟩) (v := (.pointer (some ⟨q1, 1, none⟩))) rfl (by kernel_rfl) (by kernel_rfl) (by kernel_rfl) (fun _ _ _ h => h) (Or.inl ⟨by rfl, fun w' hw => by go_simp⟩) hHeld ?_
  try simp only [Act.put, List.setIfInBounds_toArray, List.set_cons_zero, List.set_cons_succ]
  refine wpAnyH_take (i := 28) (oi := ⟨some 72, _, _, _, _, _⟩) (v := (.int .i64 s1)) rfl (by kernel_rfl) (by kernel_rfl) (by kernel_rfl) (fun _ _ _ h => h) (Or.inl ⟨by rfl, fun w' hw => by (have y := hw.2.1.cell 1; go_simp)⟩) hHeld ?_
  try simp only [Act.put, List.setIfInBounds_toArray, List.set_cons_zero, List.set_cons_succ]
  refine wpAnyH_take (i := 29) (oi := ⟨some 73, _, _, _, _, _⟩) (v := (.pointer (some ⟨q2, 1, none⟩))) rfl (by kernel_rfl) (by kernel_rfl) (by kernel_rfl) (fun _ _ _ h => h) (Or.inl ⟨by rfl, fun w' hw => by go_simp⟩) hHeld ?_
  try simp only [Act.put, List.setIfInBounds_toArray, List.set_cons_zero, List.set_cons_succ]
  refine wpAnyH_take (i := 30) (oi := ⟨some 74, _, _, _, _, _⟩) (v := (.int .i64 s1)) rfl (by kernel_rfl) (by kernel_rfl) (by kernel_rfl) (fun _ _ _ h => h) (Or.inl ⟨by rfl, fun w' hw => by (have y := hw.2.2.1.cell 1; go_simp)⟩) hHeld ?_
  try simp only [Act.put, List.setIfInBounds_toArray, List.set_cons_zero, List.set_cons_succ]
  refine wpAnyH_take (i := 31) (oi := ⟨some 75, _, _, _, _, _⟩) (v := (.bool true)) rfl (by kernel_rfl) (by kernel_rfl) (by kernel_rfl) (fun _ _ _ h => h) (Or.inl ⟨by rfl, fun w' hw => by go_simp⟩) hHeld ?_
  try simp only [Act.put, List.setIfInBounds_toArray, List.set_cons_zero, List.set_cons_succ]
  refine wpAnyH_take (i := 32) (oi := ⟨some 76, _, _, _, _, _⟩) (v := (.bool true)) rfl (by kernel_rfl) (by kernel_rfl) (by kernel_rfl) (fun _ _ _ h => h) (Or.inl ⟨by rfl, fun w' hw => by go_simp⟩) hHeld ?_
  try simp only [Act.put, List.setIfInBounds_toArray, List.set_cons_zero, List.set_cons_succ]
  refine wpAnyH_take (i := 33) (oi := ⟨some 77, _, _, _, _, _⟩) (v := (.bool true)) rfl (by kernel_rfl) (by kernel_rfl) (by kernel_rfl) (fun _ _ _ h => h) (Or.inl ⟨by rfl, fun w' hw => by go_simp⟩) hHeld ?_
  try simp only [Act.put, List.setIfInBounds_toArray, List.set_cons_zero, List.set_cons_succ]
  refine wpAnyH_take (i := 34) (oi := ⟨some 78, _, _, _, _, _⟩) (v := (.pointer (some ⟨q1, 2, none⟩))) rfl (by kernel_rfl) (by kernel_rfl) (by kernel_rfl) (fun _ _ _ h => h) (Or.inl ⟨by rfl, fun w' hw => by go_simp⟩) hHeld ?_
  try simp only [Act.put, List.setIfInBounds_toArray, List.set_cons_zero, List.set_cons_succ]
  refine wpAnyH_take (i := 35) (oi := ⟨some 79, _, _, _, _, _⟩) (v := (.int .i64 s2)) rfl (by kernel_rfl) (by kernel_rfl) (by kernel_rfl) (fun _ _ _ h => h) (Or.inl ⟨by rfl, fun w' hw => by (have y := hw.2.1.cell 2; go_simp)⟩) hHeld ?_
  try simp only [Act.put, List.setIfInBounds_toArray, List.set_cons_zero, List.set_cons_succ]
  refine wpAnyH_take (i := 36) (oi := ⟨some 80, _, _, _, _, _⟩) (v := (.pointer (some ⟨q2, 2, none⟩))) rfl (by kernel_rfl) (by kernel_rfl) (by kernel_rfl) (fun _ _ _ h => h) (Or.inl ⟨by rfl, fun w' hw => by go_simp⟩) hHeld ?_
  try simp only [Act.put, List.setIfInBounds_toArray, List.set_cons_zero, List.set_cons_succ]
  refine wpAnyH_take (i := 37) (oi := ⟨some 81, _, _, _, _, _⟩) (v := (.int .i64 s2)) rfl (by kernel_rfl) (by kernel_rfl) (by kernel_rfl) (fun _ _ _ h => h) (Or.inl ⟨by rfl, fun w' hw => by (have y := hw.2.2.1.cell 2; go_simp)⟩) hHeld ?_
  try simp only [Act.put, List.setIfInBounds_toArray, List.set_cons_zero, List.set_cons_succ]
  refine wpAnyH_take (i := 38) (oi := ⟨some 82, _, _, _, _, _⟩) (v := (.bool true)) rfl (by kernel_rfl) (by kernel_rfl) (by kernel_rfl) (fun _ _ _ h => h) (Or.inl ⟨by rfl, fun w' hw => by go_simp⟩) hHeld ?_
  try simp only [Act.put, List.setIfInBounds_toArray, List.set_cons_zero, List.set_cons_succ]
  refine wpAnyH_take (i := 39) (oi := ⟨some 83, _, _, _, _, _⟩) (v := (.bool true)) rfl (by kernel_rfl) (by kernel_rfl) (by kernel_rfl) (fun _ _ _ h => h) (Or.inl ⟨by rfl, fun w' hw => by go_simp⟩) hHeld ?_
  try simp only [Act.put, List.setIfInBounds_toArray, List.set_cons_zero, List.set_cons_succ]
  refine wpAnyH_take (i := 40) (oi := ⟨some 84, _, _, _, _, _⟩) (v := (.bool true)) rfl (by kernel_rfl) (by kernel_rfl) (by kernel_rfl) (fun _ _ _ h => h) (Or.inl ⟨by rfl, fun w' hw => by go_simp⟩) hHeld ?_
  try simp only [Act.put, List.setIfInBounds_toArray, List.set_cons_zero, List.set_cons_succ]
  refine wpAnyH_take (i := 41) (oi := ⟨some 85, _, _, _, _, _⟩) (v := (.pointer (some ⟨q1, 3, none⟩))) rfl (by kernel_rfl) (by kernel_rfl) (by kernel_rfl) (fun _ _ _ h => h) (Or.inl ⟨by rfl, fun w' hw => by go_simp⟩) hHeld ?_
  try simp only [Act.put, List.setIfInBounds_toArray, List.set_cons_zero, List.set_cons_succ]
  refine wpAnyH_take (i := 42) (oi := ⟨some 86, _, _, _, _, _⟩) (v := (.int .i64 s3)) rfl (by kernel_rfl) (by kernel_rfl) (by kernel_rfl) (fun _ _ _ h => h) (Or.inl ⟨by rfl, fun w' hw => by (have y := hw.2.1.cell 3; go_simp)⟩) hHeld ?_
  try simp only [Act.put, List.setIfInBounds_toArray, List.set_cons_zero, List.set_cons_succ]
  refine wpAnyH_take (i := 43) (oi := ⟨some 87, _, _, _, _, _⟩) (v := (.pointer (some ⟨q2, 3, none⟩))) rfl (by kernel_rfl) (by kernel_rfl) (by kernel_rfl) (fun _ _ _ h => h) (Or.inl ⟨by rfl, fun w' hw => by go_simp⟩) hHeld ?_
  try simp only [Act.put, List.setIfInBounds_toArray, List.set_cons_zero, List.set_cons_succ]
  refine wpAnyH_take (i := 44) (oi := ⟨some 88, _, _, _, _, _⟩) (v := (.int .i64 s3)) rfl (by kernel_rfl) (by kernel_rfl) (by kernel_rfl) (fun _ _ _ h => h) (Or.inl ⟨by rfl, fun w' hw => by (have y := hw.2.2.1.cell 3; go_simp)⟩) hHeld ?_
  try simp only [Act.put, List.setIfInBounds_toArray, List.set_cons_zero, List.set_cons_succ]
  refine wpAnyH_take (i := 45) (oi := ⟨some 89, _, _, _, _, _⟩) (v := (.bool true)) rfl (by kernel_rfl) (by kernel_rfl) (by kernel_rfl) (fun _ _ _ h => h) (Or.inl ⟨by rfl, fun w' hw => by go_simp⟩) hHeld ?_
  try simp only [Act.put, List.setIfInBounds_toArray, List.set_cons_zero, List.set_cons_succ]
  refine wpAnyH_take (i := 46) (oi := ⟨some 90, _, _, _, _, _⟩) (v := (.bool true)) rfl (by kernel_rfl) (by kernel_rfl) (by kernel_rfl) (fun _ _ _ h => h) (Or.inl ⟨by rfl, fun w' hw => by go_simp⟩) hHeld ?_
  try simp only [Act.put, List.setIfInBounds_toArray, List.set_cons_zero, List.set_cons_succ]
  refine wpAnyH_take (i := 47) (oi := ⟨some 91, _, _, _, _, _⟩) (v := (.bool true)) rfl (by kernel_rfl) (by kernel_rfl) (by kernel_rfl) (fun _ _ _ h => h) (Or.inl ⟨by rfl, fun w' hw => by go_simp⟩) hHeld ?_
  try simp only [Act.put, List.setIfInBounds_toArray, List.set_cons_zero, List.set_cons_succ]
  refine wpAnyH_take (i := 48) (oi := ⟨some 92, _, _, _, _, _⟩) (v := (.agg #[.int .i64 A, .int .i64 B, .int .i64 K, .int .i64 P, .int .i64 T, .int .i64 S, .int .i64 H, .int .i64 V, .int .i64 O])) rfl (by kernel_rfl) (by kernel_rfl) (by kernel_rfl) (fun _ _ _ h => h) (Or.inl ⟨by rfl, fun w' hw => by (have y0 := hw.1.cell 0; have y1 := hw.1.cell 1; have y2 := hw.1.cell 2; have y3 := hw.1.cell 3; have y4 := hw.1.cell 4; have y5 := hw.1.cell 5; have y6 := hw.1.cell 6; have y7 := hw.1.cell 7; have y8 := hw.1.cell 8; go_simp)⟩) hHeld ?_
  try simp only [Act.put, List.setIfInBounds_toArray, List.set_cons_zero, List.set_cons_succ]
  refine wpAnyH_take (i := 50) (oi := ⟨some 94, _, _, _, _, _⟩) (v := (.agg #[.int .i64 A, .int .i64 B, .int .i64 K, .int .i64 P, .int .i64 T, .int .i64 S, .int .i64 H, .int .i64 V, .int .i64 O])) rfl (by kernel_rfl) (by kernel_rfl) (by kernel_rfl) (fun _ _ _ h => h) (Or.inl ⟨by rfl, fun w' hw => by (have y0 := hw.1.cell 0; have y1 := hw.1.cell 1; have y2 := hw.1.cell 2; have y3 := hw.1.cell 3; have y4 := hw.1.cell 4; have y5 := hw.1.cell 5; have y6 := hw.1.cell 6; have y7 := hw.1.cell 7; have y8 := hw.1.cell 8; go_simp)⟩) hHeld ?_
  try simp only [Act.put, List.setIfInBounds_toArray, List.set_cons_zero, List.set_cons_succ]
  refine one_ready 49 rfl (by kernel_rfl) (fun K9 hK => ?_)
  go_simp
  refine (HSZ.out _).mono ?_
  rintro e w19 ⟨a1, c1, rfl, hn, hb19⟩
  have HN19 := Lib.hid hn
  clear hn
  refine hK.out _ _ ⟨hHeld.1.of (hb19.block _ hHeld.1.lt), hHeld.2.1.of (hb19.block _ hHeld.2.1.lt), hHeld.2.2.1.of (hb19.block _ hHeld.2.2.1.lt), hHeld.2.2.2.trans (hb19.mono hHeld.2.2.2.size)⟩ (fun hHeld => ?_)
  clear hK K9 hb19
  try simp only [List.setIfInBounds_toArray, List.set_cons_zero, List.set_cons_succ]
  refine one_ready 51 rfl (by kernel_rfl) (fun K9 hK => ?_)
  go_simp
  refine (HAS.out _).mono ?_
  rintro e w20 ⟨rfl, hb20⟩
  have HN20 := Lib.hid ((HN19.out.below hb20).more hb20.size)
  clear HN19
  refine hK.out _ _ ⟨hHeld.1.of (hb20.block _ hHeld.1.lt), hHeld.2.1.of (hb20.block _ hHeld.2.1.lt), hHeld.2.2.1.of (hb20.block _ hHeld.2.2.1.lt), hHeld.2.2.2.trans (hb20.mono hHeld.2.2.2.size)⟩ (fun hHeld => ?_)
  clear hK K9 hb20
  try simp only [List.setIfInBounds_toArray, List.set_cons_zero, List.set_cons_succ]
  refine one_ready 52 rfl (by kernel_rfl) (fun K9 hK => ?_)
  go_simp
  refine (HRZ.out _).mono ?_
  rintro e w21 ⟨a2, c2, rfl, hn, hb21⟩
  have HN21 := Lib.hid ((HN20.out.below hb21).more hb21.size)
  clear HN20
  have HM21 := Lib.hid hn
  clear hn
  refine hK.out _ _ ⟨hHeld.1.of (hb21.block _ hHeld.1.lt), hHeld.2.1.of (hb21.block _ hHeld.2.1.lt), hHeld.2.2.1.of (hb21.block _ hHeld.2.2.1.lt), hHeld.2.2.2.trans (hb21.mono hHeld.2.2.2.size)⟩ (fun hHeld => ?_)
  clear hK K9 hb21
  try simp only [List.setIfInBounds_toArray, List.set_cons_zero, List.set_cons_succ]
  refine one_ready 53 rfl (by kernel_rfl) (fun K9 hK => ?_)
  go_simp
  refine (same13 _ _ _ _ _ _ _ _ _ (by have := HMM.out; omega) HN21.out HM21.out).mono ?_
  rintro e w22 ⟨rfl, k, hk⟩
  have hb22 : Below w21.heap.size w21 w22 := by rw [hk]; exact below_drewN (Below.refl _ _) k
  clear hk HN21 HM21
  refine hK.out _ _ ⟨hHeld.1.of (hb22.block _ hHeld.1.lt), hHeld.2.1.of (hb22.block _ hHeld.2.1.lt), hHeld.2.2.1.of (hb22.block _ hHeld.2.2.1.lt), hHeld.2.2.2.trans (hb22.mono hHeld.2.2.2.size)⟩ (fun hHeld => ?_)
  clear hK K9 hb22
  try simp only [List.setIfInBounds_toArray, List.set_cons_zero, List.set_cons_succ]
  refine wpAnyH_take (i := 54) (oi := ⟨some 98, _, _, _, _, _⟩) (v := (.bool true)) rfl (by kernel_rfl) (by kernel_rfl) (by kernel_rfl) (fun _ _ _ h => h) (Or.inl ⟨by rfl, fun w' hw => by go_simp⟩) hHeld ?_
  try simp only [Act.put, List.setIfInBounds_toArray, List.set_cons_zero, List.set_cons_succ]
  refine wpAnyH_take (i := 55) (oi := ⟨some 99, _, _, _, _, _⟩) (v := (.bool true)) rfl (by kernel_rfl) (by kernel_rfl) (by kernel_rfl) (fun _ _ _ h => h) (Or.inl ⟨by rfl, fun w' hw => by go_simp⟩) hHeld ?_
  try simp only [Act.put, List.setIfInBounds_toArray, List.set_cons_zero, List.set_cons_succ]
  refine wpAnyH_take (i := 56) (oi := ⟨some 100, _, _, _, _, _⟩) (v := (.int .i64 a)) rfl (by kernel_rfl) (by kernel_rfl) (by kernel_rfl) (fun _ _ _ h => h) (Or.inl ⟨by rfl, fun w' hw => by go_simp⟩) hHeld ?_
  try simp only [Act.put, List.setIfInBounds_toArray, List.set_cons_zero, List.set_cons_succ]
  refine wpAnyH_take (i := 57) (oi := ⟨some 101, _, _, _, _, _⟩) (v := (.int .i64 a)) rfl (by kernel_rfl) (by kernel_rfl) (by kernel_rfl) (fun _ _ _ h => h) (Or.inl ⟨by rfl, fun w' hw => by go_simp⟩) hHeld ?_
  try simp only [Act.put, List.setIfInBounds_toArray, List.set_cons_zero, List.set_cons_succ]
  refine wpAnyH_take (i := 58) (oi := ⟨some 102, _, _, _, _, _⟩) (v := (.bool true)) rfl (by kernel_rfl) (by kernel_rfl) (by kernel_rfl) (fun _ _ _ h => h) (Or.inl ⟨by rfl, fun w' hw => by go_simp⟩) hHeld ?_
  try simp only [Act.put, List.setIfInBounds_toArray, List.set_cons_zero, List.set_cons_succ]
  refine wpAnyH_take (i := 59) (oi := ⟨some 103, _, _, _, _, _⟩) (v := (.bool true)) rfl (by kernel_rfl) (by kernel_rfl) (by kernel_rfl) (fun _ _ _ h => h) (Or.inl ⟨by rfl, fun w' hw => by go_simp⟩) hHeld ?_
  try simp only [Act.put, List.setIfInBounds_toArray, List.set_cons_zero, List.set_cons_succ]
  refine wpAnyH_take (i := 60) (oi := ⟨some 104, _, _, _, _, _⟩) (v := (.bool true)) rfl (by kernel_rfl) (by kernel_rfl) (by kernel_rfl) (fun _ _ _ h => h) (Or.inl ⟨by rfl, fun w' hw => by go_simp⟩) hHeld ?_
  try simp only [Act.put, List.setIfInBounds_toArray, List.set_cons_zero, List.set_cons_succ]
  refine wpAnyH_take (i := 61) (oi := ⟨some 105, _, _, _, _, _⟩) (v := (.int .i64 b)) rfl (by kernel_rfl) (by kernel_rfl) (by kernel_rfl) (fun _ _ _ h => h) (Or.inl ⟨by rfl, fun w' hw => by go_simp⟩) hHeld ?_
  try simp only [Act.put, List.setIfInBounds_toArray, List.set_cons_zero, List.set_cons_succ]
  refine wpAnyH_take (i := 62) (oi := ⟨some 106, _, _, _, _, _⟩) (v := (.int .i64 b)) rfl (by kernel_rfl) (by kernel_rfl) (by kernel_rfl) (fun _ _ _ h => h) (Or.inl ⟨by rfl, fun w' hw => by go_simp⟩) hHeld ?_
  try simp only [Act.put, List.setIfInBounds_toArray, List.set_cons_zero, List.set_cons_succ]
  refine wpAnyH_take (i := 63) (oi := ⟨some 107, _, _, _, _, _⟩) (v := (.bool true)) rfl (by kernel_rfl) (by kernel_rfl) (by kernel_rfl) (fun _ _ _ h => h) (Or.inl ⟨by rfl, fun w' hw => by go_simp⟩) hHeld ?_
  try simp only [Act.put, List.setIfInBounds_toArray, List.set_cons_zero, List.set_cons_succ]
  refine wpAnyH_take (i := 64) (oi := ⟨some 108, _, _, _, _, _⟩) (v := (.bool true)) rfl (by kernel_rfl) (by kernel_rfl) (by kernel_rfl) (fun _ _ _ h => h) (Or.inl ⟨by rfl, fun w' hw => by go_simp⟩) hHeld ?_
  try simp only [Act.put, List.setIfInBounds_toArray, List.set_cons_zero, List.set_cons_succ]
  refine wpAnyH_take (i := 65) (oi := ⟨some 109, _, _, _, _, _⟩) (v := (.bool true)) rfl (by kernel_rfl) (by kernel_rfl) (by kernel_rfl) (fun _ _ _ h => h) (Or.inl ⟨by rfl, fun w' hw => by go_simp⟩) hHeld ?_
  try simp only [Act.put, List.setIfInBounds_toArray, List.set_cons_zero, List.set_cons_succ]
  refine wpAnyH_take (i := 66) (oi := ⟨some 110, _, _, _, _, _⟩) (v := (.agg #[.int .i64 A, .int .i64 B, .int .i64 K, .int .i64 P, .int .i64 T, .int .i64 S, .int .i64 H, .int .i64 V, .int .i64 O])) rfl (by kernel_rfl) (by kernel_rfl) (by kernel_rfl) (fun _ _ _ h => h) (Or.inl ⟨by rfl, fun w' hw => by (have y0 := hw.1.cell 0; have y1 := hw.1.cell 1; have y2 := hw.1.cell 2; have y3 := hw.1.cell 3; have y4 := hw.1.cell 4; have y5 := hw.1.cell 5; have y6 := hw.1.cell 6; have y7 := hw.1.cell 7; have y8 := hw.1.cell 8; go_simp)⟩) hHeld ?_
  try simp only [Act.put, List.setIfInBounds_toArray, List.set_cons_zero, List.set_cons_succ]
  refine wpAnyH_take (i := 67) (oi := ⟨some 111, _, _, _, _, _⟩) (v := (.int .i64 n)) rfl (by kernel_rfl) (by kernel_rfl) (by kernel_rfl) (fun _ _ _ h => h) (Or.inl ⟨by rfl, fun w' hw => by go_simp⟩) hHeld ?_
  try simp only [Act.put, List.setIfInBounds_toArray, List.set_cons_zero, List.set_cons_succ]
  refine wpAnyH_take (i := 69) (oi := ⟨some 113, _, _, _, _, _⟩) (v := (.agg #[.int .i64 A, .int .i64 B, .int .i64 K, .int .i64 P, .int .i64 T, .int .i64 S, .int .i64 H, .int .i64 V, .int .i64 O])) rfl (by kernel_rfl) (by kernel_rfl) (by kernel_rfl) (fun _ _ _ h => h) (Or.inl ⟨by rfl, fun w' hw => by (have y0 := hw.1.cell 0; have y1 := hw.1.cell 1; have y2 := hw.1.cell 2; have y3 := hw.1.cell 3; have y4 := hw.1.cell 4; have y5 := hw.1.cell 5; have y6 := hw.1.cell 6; have y7 := hw.1.cell 7; have y8 := hw.1.cell 8; go_simp)⟩) hHeld ?_
  try simp only [Act.put, List.setIfInBounds_toArray, List.set_cons_zero, List.set_cons_succ]
  refine wpAnyH_take (i := 71) (oi := ⟨some 115, _, _, _, _, _⟩) (v := (.int .i64 n)) rfl (by kernel_rfl) (by kernel_rfl) (by kernel_rfl) (fun _ _ _ h => h) (Or.inl ⟨by rfl, fun w' hw => by go_simp⟩) hHeld ?_
  try simp only [Act.put, List.setIfInBounds_toArray, List.set_cons_zero, List.set_cons_succ]
  refine one_ready 68 rfl (by kernel_rfl) (fun K9 hK => ?_)
  go_simp
  refine (HWD.out _).mono ?_
  rintro e w23 ⟨rfl, hb23⟩
  refine hK.out _ _ ⟨hHeld.1.of (hb23.block _ hHeld.1.lt), hHeld.2.1.of (hb23.block _ hHeld.2.1.lt), hHeld.2.2.1.of (hb23.block _ hHeld.2.2.1.lt), hHeld.2.2.2.trans (hb23.mono hHeld.2.2.2.size)⟩ (fun hHeld => ?_)
  clear hK K9 hb23
  try simp only [List.setIfInBounds_toArray, List.set_cons_zero, List.set_cons_succ]
  refine one_ready 70 rfl (by kernel_rfl) (fun K9 hK => ?_)
  go_simp
  refine (HAS.out _).mono ?_
  rintro e w24 ⟨rfl, hb24⟩
  refine hK.out _ _ ⟨hHeld.1.of (hb24.block _ hHeld.1.lt), hHeld.2.1.of (hb24.block _ hHeld.2.1.lt), hHeld.2.2.1.of (hb24.block _ hHeld.2.2.1.lt), hHeld.2.2.2.trans (hb24.mono hHeld.2.2.2.size)⟩ (fun hHeld => ?_)
  clear hK K9 hb24
  try simp only [List.setIfInBounds_toArray, List.set_cons_zero, List.set_cons_succ]
  refine one_ready 72 rfl (by kernel_rfl) (fun K9 hK => ?_)
  go_simp
  refine (HRW.out _).mono ?_
  rintro e w25 ⟨rfl, hb25⟩
  refine hK.out _ _ ⟨hHeld.1.of (hb25.block _ hHeld.1.lt), hHeld.2.1.of (hb25.block _ hHeld.2.1.lt), hHeld.2.2.1.of (hb25.block _ hHeld.2.2.1.lt), hHeld.2.2.2.trans (hb25.mono hHeld.2.2.2.size)⟩ (fun hHeld => ?_)
  clear hK K9 hb25
  try simp only [List.setIfInBounds_toArray, List.set_cons_zero, List.set_cons_succ]
  refine wpAnyH_take (i := 73) (oi := ⟨some 117, _, _, _, _, _⟩) (v := (.bool true)) rfl (by kernel_rfl) (by kernel_rfl) (by kernel_rfl) (fun _ _ _ h => h) (Or.inl ⟨by rfl, fun w' hw => by go_simp⟩) hHeld ?_
  try simp only [Act.put, List.setIfInBounds_toArray, List.set_cons_zero, List.set_cons_succ]
  refine wpAnyH_take (i := 74) (oi := ⟨some 118, _, _, _, _, _⟩) (v := (.bool true)) rfl (by kernel_rfl) (by kernel_rfl) (by kernel_rfl) (fun _ _ _ h => h) (Or.inl ⟨by rfl, fun w' hw => by go_simp⟩) hHeld ?_
  try simp only [Act.put, List.setIfInBounds_toArray, List.set_cons_zero, List.set_cons_succ]
  refine wpAnyH_take (i := 75) (oi := ⟨some 4, _, _, _, _, _⟩) (v := (.bool true)) rfl (by kernel_rfl) (by kernel_rfl) (by kernel_rfl) (fun _ _ _ h => h) (Or.inl ⟨by rfl, fun w' hw => by go_simp⟩) hHeld ?_
  try simp only [Act.put, List.setIfInBounds_toArray, List.set_cons_zero, List.set_cons_succ]
  refine wpAnyH_done (by kernel_rfl) ?_ _
  have HBL := Lib.hid hHeld.2.2.2
  clear hHeld
  go_wp2_with fail
  go_ret
  exact ⟨rfl, HBL.out⟩
theorem checks_law (c : Cfg) (n : Int) (w : World) (hc : c.Wf) (hg : ErrType w) : Calls Tryd.prog 3 #[.agg c.a, .int .i64 n] w fun e w' => e = .returned (.bool true) ∧ Below w.heap.size w w' := by
  have hT := hc.T
  obtain ⟨i, hi⟩ := Fst.some c
  have hWY := Lib.hid (fun W (hg : ErrType W) => (why_any c W hT hg).mono fun e w' hw => why_is hi hw)
  have hRY := Lib.hid (fun W => (rwhy_any c W).mono fun e w' hw => why_is hi hw)
  by_cases h : Fst c 7
  · have hok := h.okC
    have hl : (szC c).length ≤ 100 := by have := szI_len hok.st; have e : (szC c).length = (szI (nB c) c.S c.H c.V).length + 3 := rfl; omega
    exact checks_of c.A c.B c.K c.P c.T c.S c.H c.V c.O n w hg _ _ _ _ _ _ _ _ _ _ _ _ hl hWY hRY (Lib.hid fun W => cst_ok c W hT h) (Lib.hid fun W => rst_ok c W h) (Lib.hid fun W => cacc_ok c W hT h) (Lib.hid fun W => racc_ok c W h) (Lib.hid fun W => ccells_ok c W hT h) (Lib.hid fun W => rcells_ok c W h) (Lib.hid fun W => (csz_ok c W hT h).mono fun e w' hw => hw.sl) (Lib.hid fun W => (rsz_ok c W h).mono fun e w' hw => hw.sl) (Lib.hid fun W => cwd_ok c n W hT h) (Lib.hid fun W => rwd_ok c n W h) (Lib.hid fun W => as_any c W)
  · exact checks_of c.A c.B c.K c.P c.T c.S c.H c.V c.O n w hg _ _ _ _ _ _ _ _ _ _ _ _ (show ([] : List Int).length ≤ 100 by decide) hWY hRY (Lib.hid fun W => cst_no c W hT h) (Lib.hid fun W => rst_no c W h) (Lib.hid fun W => cacc_no c W hT h) (Lib.hid fun W => racc_no c W h) (Lib.hid fun W => ccells_no c W hT h) (Lib.hid fun W => rcells_no c W h) (Lib.hid fun W => (csz_no c W hT h).mono fun e w' hw => hw.sl) (Lib.hid fun W => (rsz_no c W h).mono fun e w' hw => hw.sl) (Lib.hid fun W => cwd_no c n W hT h) (Lib.hid fun W => rwd_no c n W h) (Lib.hid fun W => as_any c W)
end Go.Proofs.YteiilfdbddpodaaDoor
