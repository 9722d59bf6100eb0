/- The law ConfigFirst, walked, for two fields each: it returns true, and nothing that was in memory changes. Conditions: each number is an int; the library's variable of the type error holds that type. -/
import Derived.Test.YteiilfdbddpodaaDoorG30
namespace Go.Proofs.YteiilfdbddpodaaDoor
set_option maxRecDepth 100000
open Go.RowKit Go.ChangeShapes Go.WideShapes Go.ChangeAt

theorem why_F {c : Cfg} {i : Nat} {nm : ByteArray} {E : Int} (hT : Rg c.T) (hi : Fst c i) (hn : nmA i = nm) (hE : ftE c i = E) (W : World) (hg : ErrType W) : Calls Tryd.prog 10 #[.agg c.a] W fun e w' => e = .returned (.tuple #[.string nm, .int .i64 E]) ∧ Below W.heap.size W w' := by
  refine (why_any c W hT hg).mono ?_
  intro e w' h
  have := why_is hi h
  rw [hn, hE] at this
  exact this
set_option maxRecDepth 100000 in
set_option maxHeartbeats 2000000 in
theorem first_01 (A B K P T S H V O a b : Int) (w : World) (hT : Rg T) (hF : Fst ⟨A, B, K, P, T, S, H, V, O⟩ 7) (hg : ErrType w) : Calls Tryd.prog 5 #[.agg #[.int .i64 A, .int .i64 B, .int .i64 K, .int .i64 P, .int .i64 T, .int .i64 S, .int .i64 H, .int .i64 V, .int .i64 O], .int .i64 0, .int .i64 1, .int .i64 a, .int .i64 b] w fun e w' => e = .returned (.bool true) ∧ Below w.heap.size w w' := by
  obtain ⟨hA, hB, hK, hP, hO, _, _, _, _, _⟩ := hF.okC
  dsimp only at hA hB hK hP hO
  have HW0 := Lib.hid (fun W hg => why_F (i := 7) (nm := ⟨#[]⟩) (c := ⟨A, B, K, P, T, S, H, V, O⟩) (E := 0) hT hF rfl rfl W hg)
  have HWa : Hid (¬ (1 ≤ a ∧ a ≤ 64) → ∀ W, ErrType W → Calls Tryd.prog 10 #[.agg #[.int .i64 a, .int .i64 B, .int .i64 K, .int .i64 P, .int .i64 T, .int .i64 S, .int .i64 H, .int .i64 V, .int .i64 O]] W fun e w' => e = .returned (.tuple #[.string ⟨#[67, 97, 112, 97, 99, 105, 116, 121]⟩, .int .i64 2]) ∧ Below W.heap.size W w') := Lib.hid (fun ha W hg => by
    have hb : wtE a 1 64 ≠ 0 := fun e => ha (wtE_zero.1 e)
    exact why_F (i := 0) (nm := ⟨#[67, 97, 112, 97, 99, 105, 116, 121]⟩) (c := (⟨a, B, K, P, T, S, H, V, O⟩ : Cfg)) (E := 2) hT ⟨by decide, fun j hj => absurd hj (by omega), fun _ => hb⟩ rfl (wtE_two hb) W hg)
  have HWb : Hid (¬ (1 ≤ a ∧ a ≤ 64) → ∀ W, ErrType W → Calls Tryd.prog 10 #[.agg #[.int .i64 a, .int .i64 b, .int .i64 K, .int .i64 P, .int .i64 T, .int .i64 S, .int .i64 H, .int .i64 V, .int .i64 O]] W fun e w' => e = .returned (.tuple #[.string ⟨#[67, 97, 112, 97, 99, 105, 116, 121]⟩, .int .i64 2]) ∧ Below W.heap.size W w') := Lib.hid (fun ha W hg => by
    have hb : wtE a 1 64 ≠ 0 := fun e => ha (wtE_zero.1 e)
    exact why_F (i := 0) (nm := ⟨#[67, 97, 112, 97, 99, 105, 116, 121]⟩) (c := (⟨a, b, K, P, T, S, H, V, O⟩ : Cfg)) (E := 2) hT ⟨by decide, fun j hj => absurd hj (by omega), fun _ => hb⟩ rfl (wtE_two hb) W hg)
  have HWc : Hid (¬ (1 ≤ b ∧ b ≤ 16) → ∀ W, ErrType W → Calls Tryd.prog 10 #[.agg #[.int .i64 A, .int .i64 b, .int .i64 K, .int .i64 P, .int .i64 T, .int .i64 S, .int .i64 H, .int .i64 V, .int .i64 O]] W fun e w' => e = .returned (.tuple #[.string ⟨#[66, 97, 116, 99, 104]⟩, .int .i64 2]) ∧ Below W.heap.size W w') := Lib.hid (fun ha W hg => by
    have hb : wtE b 1 16 ≠ 0 := fun e => ha (wtE_zero.1 e)
    exact why_F (i := 1) (nm := ⟨#[66, 97, 116, 99, 104]⟩) (c := (⟨A, b, K, P, T, S, H, V, O⟩ : Cfg)) (E := 2) hT ⟨by decide, fun j hj => by
      match j, hj with
      | 0, _ => exact (wtE_zero.2 hA)
, fun _ => hb⟩ rfl (wtE_two hb) W hg)
  have HSa := Lib.hid (fun W => set_0 A B K P T S H V O a W)
  have HSb := Lib.hid (fun W => set_1 a B K P T S H V O b W)
  have HSc := Lib.hid (fun W => set_1 A B K P T S H V O b W)
  have HG0 := Lib.hid hg
  clear hg hF hT hA hB hK hP hO
  obtain ⟨p, hp⟩ : ∃ p, w.heap.size = p := ⟨_, rfl⟩
  obtain ⟨w2, hw2⟩ : ∃ w2, w.alloc (.cells #[.int .i64 A, .int .i64 B, .int .i64 K, .int .i64 P, .int .i64 T, .int .i64 S, .int .i64 H, .int .i64 V, .int .i64 O] 23) = w2 := ⟨_, rfl⟩
  have hx : Box w2 p 23 #[.int .i64 A, .int .i64 B, .int .i64 K, .int .i64 P, .int .i64 T, .int .i64 S, .int .i64 H, .int .i64 V, .int .i64 O] := by rw [← hw2, ← hp]; exact Box.new w _ _
  have HB := Lib.hid (show Below w.heap.size w w2 by rw [← hw2]; exact (Below.refl _ w).alloc (Nat.le_refl _) _)
  have HX := Lib.hid hx
  have HPP := Lib.hid hp
  have HWW := Lib.hid hw2
  have k0 := hx.cell 0
  have k1 := hx.cell 1
  have k2 := hx.cell 2
  have k3 := hx.cell 3
  have k4 := hx.cell 4
  have k5 := hx.cell 5
  have k6 := hx.cell 6
  have k7 := hx.cell 7
  have k8 := hx.cell 8
  clear hx hp hw2
  have HG := Lib.hid (HG0.out.below (show Below w.heap.size w w2 from HB.out))
  go_enter Tryd.func5, Tryd.ntmps5
  go_upto_region 1 with fail
  rw [HPP.out, HWW.out]
  go_wp2_with fail
  refine (shown_any _ HG.out).mono ?_
  rintro e w3 ⟨rfl, hb3⟩
  have HG3 := Lib.hid (HG.out.below hb3)
  have HB3 := Lib.hid (HB.out.trans (hb3.mono HB.out.size))
  have HX3 := Lib.hid (HX.out.of (hb3.block _ HX.out.lt))
  clear hb3 HG HB HX HWW k0 k1 k2 k3 k4 k5 k6 k7 k8
  have k0 := HX3.out.cell 0
  have k1 := HX3.out.cell 1
  have k2 := HX3.out.cell 2
  have k3 := HX3.out.cell 3
  have k4 := HX3.out.cell 4
  have k5 := HX3.out.cell 5
  have k6 := HX3.out.cell 6
  have k7 := HX3.out.cell 7
  have k8 := HX3.out.cell 8
  go_wp2_with fail
  refine (HW0.out _ HG3.out).mono ?_
  rintro e w4 ⟨rfl, hb4⟩
  have HG4 := Lib.hid (HG3.out.below hb4)
  have HB4 := Lib.hid (HB3.out.trans (hb4.mono HB3.out.size))
  have HX4 := Lib.hid (HX3.out.of (hb4.block _ HX3.out.lt))
  clear hb4 HG3 HB3 HX3 k0 k1 k2 k3 k4 k5 k6 k7 k8
  go_upto_region 8 with fail
  obtain ⟨q, hq⟩ : ∃ q, w4.heap.size = q := ⟨_, rfl⟩
  have b1 := Box.new w4 9 #[.string ⟨#[67, 97, 112, 97, 99, 105, 116, 121]⟩, .string ⟨#[66, 97, 116, 99, 104]⟩, .string ⟨#[75, 105, 99, 107, 115]⟩, .string ⟨#[83, 112, 105, 108, 108]⟩, .string ⟨#[80, 111, 108, 105, 99, 121]⟩]
  have b2 := Box.new (w4.alloc (.cells #[.string ⟨#[67, 97, 112, 97, 99, 105, 116, 121]⟩, .string ⟨#[66, 97, 116, 99, 104]⟩, .string ⟨#[75, 105, 99, 107, 115]⟩, .string ⟨#[83, 112, 105, 108, 108]⟩, .string ⟨#[80, 111, 108, 105, 99, 121]⟩] 9)) 3 #[.int .i64 1, .int .i64 1, .int .i64 1, .int .i64 1, .int .i64 0]
  have b3 := Box.new ((w4.alloc (.cells #[.string ⟨#[67, 97, 112, 97, 99, 105, 116, 121]⟩, .string ⟨#[66, 97, 116, 99, 104]⟩, .string ⟨#[75, 105, 99, 107, 115]⟩, .string ⟨#[83, 112, 105, 108, 108]⟩, .string ⟨#[80, 111, 108, 105, 99, 121]⟩] 9)).alloc (.cells #[.int .i64 1, .int .i64 1, .int .i64 1, .int .i64 1, .int .i64 0] 3)) 3 #[.int .i64 64, .int .i64 16, .int .i64 16, .int .i64 32, .int .i64 2]
  obtain ⟨w5, hw5⟩ : ∃ w5, (((w4.alloc (.cells #[.string ⟨#[67, 97, 112, 97, 99, 105, 116, 121]⟩, .string ⟨#[66, 97, 116, 99, 104]⟩, .string ⟨#[75, 105, 99, 107, 115]⟩, .string ⟨#[83, 112, 105, 108, 108]⟩, .string ⟨#[80, 111, 108, 105, 99, 121]⟩] 9)).alloc (.cells #[.int .i64 1, .int .i64 1, .int .i64 1, .int .i64 1, .int .i64 0] 3)).alloc (.cells #[.int .i64 64, .int .i64 16, .int .i64 16, .int .i64 32, .int .i64 2] 3)) = w5 := ⟨_, rfl⟩
  have bN : Box w5 q 9 #[.string ⟨#[67, 97, 112, 97, 99, 105, 116, 121]⟩, .string ⟨#[66, 97, 116, 99, 104]⟩, .string ⟨#[75, 105, 99, 107, 115]⟩, .string ⟨#[83, 112, 105, 108, 108]⟩, .string ⟨#[80, 111, 108, 105, 99, 121]⟩] := by rw [← hw5, ← hq]; exact (b1.alloc _).alloc _
  have bL : Box w5 (q + 1) 3 #[.int .i64 1, .int .i64 1, .int .i64 1, .int .i64 1, .int .i64 0] := by
    have h := b2.alloc (.cells #[.int .i64 64, .int .i64 16, .int .i64 16, .int .i64 32, .int .i64 2] 3)
    rw [hw5, World.size_alloc, hq] at h
    exact h
  have bM : Box w5 (q + 2) 3 #[.int .i64 64, .int .i64 16, .int .i64 16, .int .i64 32, .int .i64 2] := by
    have h := b3
    rw [hw5, World.size_alloc, World.size_alloc, hq] at h
    exact h
  have hE5 : Below w4.heap.size w4 w5 := by rw [← hw5]; exact (((Below.refl _ w4).alloc (Nat.le_refl _) _).alloc (by simp) _).alloc (by simp; omega) _
  have HB5 := Lib.hid (HB4.out.trans (hE5.mono HB4.out.size))
  have HG5 := Lib.hid (HG4.out.below hE5)
  have HX5 := Lib.hid (HX4.out.of (hE5.block _ HX4.out.lt))
  have HN5 := Lib.hid bN
  have l1 := bL.cell 0
  have l2 := bL.cell 1
  have m1 := bM.cell 0
  have m2 := bM.cell 1
  simp at l1 l2 m1 m2
  have e2 : q + 1 + 1 = q + 2 := rfl
  simp only [hq, hw5, e2]
  clear hq hw5 b1 b2 b3 bN bL bM hE5 HB4 HG4 HX4 e2
  by_cases ha : 1 ≤ a ∧ a ≤ 64
  · obtain ⟨a1, a2⟩ := ha
    go_wp2_with fail
    go_ret
    exact ⟨rfl, HB5.out⟩
  by_cases hb : 1 ≤ b ∧ b ≤ 16
  · obtain ⟨b1, b2⟩ := hb
    rcases (by omega : a < 1 ∨ 64 < a) with h | h
    · clear ha
      go_wp2_with fail
      go_ret
      exact ⟨rfl, HB5.out⟩
    · clear ha
      have h' : 1 ≤ a := by omega
      go_wp2_with fail
      go_ret
      exact ⟨rfl, HB5.out⟩
  rcases (by omega : a < 1 ∨ (1 ≤ a ∧ 64 < a)) with h | ⟨h, h'⟩
  · rcases (by omega : b < 1 ∨ (1 ≤ b ∧ 16 < b)) with g | ⟨g, g'⟩
    · have HWA := Lib.hid (HWa.out ha)
      have HWB := Lib.hid (HWb.out ha)
      have HWC := Lib.hid (HWc.out hb)
      clear HWa HWb HWc HW0
      clear ha hb
      have k0 := HX5.out.cell 0
      have k1 := HX5.out.cell 1
      have k2 := HX5.out.cell 2
      have k3 := HX5.out.cell 3
      have k4 := HX5.out.cell 4
      have k5 := HX5.out.cell 5
      have k6 := HX5.out.cell 6
      have k7 := HX5.out.cell 7
      have k8 := HX5.out.cell 8
      go_wp2_with fail
      refine (HSa.out _).mono ?_
      rintro e w6 ⟨rfl, hb6⟩
      have HB6 := Lib.hid (HB5.out.trans (hb6.mono HB5.out.size))
      have HG6 := Lib.hid (HG5.out.below hb6)
      have HX6 := Lib.hid (HX5.out.of (hb6.block _ HX5.out.lt))
      have HN6 := Lib.hid (HN5.out.of (hb6.block _ HN5.out.lt))
      clear hb6 HB5 HG5 HX5 HN5 k0 k1 k2 k3 k4 k5 k6 k7 k8
      go_wp2_with fail
      refine (HWA.out _ HG6.out).mono ?_
      rintro e w7 ⟨rfl, hb7⟩
      have HB7 := Lib.hid (HB6.out.trans (hb7.mono HB6.out.size))
      have HG7 := Lib.hid (HG6.out.below hb7)
      have HX7 := Lib.hid (HX6.out.of (hb7.block _ HX6.out.lt))
      have HN7 := Lib.hid (HN6.out.of (hb7.block _ HN6.out.lt))
      clear hb7 HB6 HG6 HX6 HN6
      have k0 := HX7.out.cell 0
      have k1 := HX7.out.cell 1
      have k2 := HX7.out.cell 2
      have k3 := HX7.out.cell 3
      have k4 := HX7.out.cell 4
      have k5 := HX7.out.cell 5
      have k6 := HX7.out.cell 6
      have k7 := HX7.out.cell 7
      have k8 := HX7.out.cell 8
      go_wp2_with fail
      refine (HSa.out _).mono ?_
      rintro e w8 ⟨rfl, hb8⟩
      have HB8 := Lib.hid (HB7.out.trans (hb8.mono HB7.out.size))
      have HG8 := Lib.hid (HG7.out.below hb8)
      have HX8 := Lib.hid (HX7.out.of (hb8.block _ HX7.out.lt))
      have HN8 := Lib.hid (HN7.out.of (hb8.block _ HN7.out.lt))
      clear hb8 HB7 HG7 HX7 HN7 k0 k1 k2 k3 k4 k5 k6 k7 k8
      go_wp2_with fail
      refine (HSb.out _).mono ?_
      rintro e w9 ⟨rfl, hb9⟩
      have HB9 := Lib.hid (HB8.out.trans (hb9.mono HB8.out.size))
      have HG9 := Lib.hid (HG8.out.below hb9)
      have HX9 := Lib.hid (HX8.out.of (hb9.block _ HX8.out.lt))
      have HN9 := Lib.hid (HN8.out.of (hb9.block _ HN8.out.lt))
      clear hb9 HB8 HG8 HX8 HN8
      go_wp2_with fail
      refine (HWB.out _ HG9.out).mono ?_
      rintro e w10 ⟨rfl, hb10⟩
      have HB10 := Lib.hid (HB9.out.trans (hb10.mono HB9.out.size))
      have HG10 := Lib.hid (HG9.out.below hb10)
      have HX10 := Lib.hid (HX9.out.of (hb10.block _ HX9.out.lt))
      have HN10 := Lib.hid (HN9.out.of (hb10.block _ HN9.out.lt))
      clear hb10 HB9 HG9 HX9 HN9
      have k0 := HX10.out.cell 0
      have k1 := HX10.out.cell 1
      have k2 := HX10.out.cell 2
      have k3 := HX10.out.cell 3
      have k4 := HX10.out.cell 4
      have k5 := HX10.out.cell 5
      have k6 := HX10.out.cell 6
      have k7 := HX10.out.cell 7
      have k8 := HX10.out.cell 8
      go_wp2_with fail
      refine (HSc.out _).mono ?_
      rintro e w11 ⟨rfl, hb11⟩
      have HB11 := Lib.hid (HB10.out.trans (hb11.mono HB10.out.size))
      have HG11 := Lib.hid (HG10.out.below hb11)
      have HX11 := Lib.hid (HX10.out.of (hb11.block _ HX10.out.lt))
      have HN11 := Lib.hid (HN10.out.of (hb11.block _ HN10.out.lt))
      clear hb11 HB10 HG10 HX10 HN10 k0 k1 k2 k3 k4 k5 k6 k7 k8
      go_wp2_with fail
      refine (HWC.out _ HG11.out).mono ?_
      rintro e w12 ⟨rfl, hb12⟩
      have HB12 := Lib.hid (HB11.out.trans (hb12.mono HB11.out.size))
      have HG12 := Lib.hid (HG11.out.below hb12)
      have HX12 := Lib.hid (HX11.out.of (hb12.block _ HX11.out.lt))
      have HN12 := Lib.hid (HN11.out.of (hb12.block _ HN11.out.lt))
      clear hb12 HB11 HG11 HX11 HN11
      have n1 := HN12.out.cell 0
      have n2 := HN12.out.cell 1
      simp at n1 n2
      go_wp2_with fail
      go_ret
      exact ⟨rfl, HB12.out⟩
    · have HWA := Lib.hid (HWa.out ha)
      have HWB := Lib.hid (HWb.out ha)
      have HWC := Lib.hid (HWc.out hb)
      clear HWa HWb HWc HW0
      clear ha hb
      have k0 := HX5.out.cell 0
      have k1 := HX5.out.cell 1
      have k2 := HX5.out.cell 2
      have k3 := HX5.out.cell 3
      have k4 := HX5.out.cell 4
      have k5 := HX5.out.cell 5
      have k6 := HX5.out.cell 6
      have k7 := HX5.out.cell 7
      have k8 := HX5.out.cell 8
      go_wp2_with fail
      refine (HSa.out _).mono ?_
      rintro e w6 ⟨rfl, hb6⟩
      have HB6 := Lib.hid (HB5.out.trans (hb6.mono HB5.out.size))
      have HG6 := Lib.hid (HG5.out.below hb6)
      have HX6 := Lib.hid (HX5.out.of (hb6.block _ HX5.out.lt))
      have HN6 := Lib.hid (HN5.out.of (hb6.block _ HN5.out.lt))
      clear hb6 HB5 HG5 HX5 HN5 k0 k1 k2 k3 k4 k5 k6 k7 k8
      go_wp2_with fail
      refine (HWA.out _ HG6.out).mono ?_
      rintro e w7 ⟨rfl, hb7⟩
      have HB7 := Lib.hid (HB6.out.trans (hb7.mono HB6.out.size))
      have HG7 := Lib.hid (HG6.out.below hb7)
      have HX7 := Lib.hid (HX6.out.of (hb7.block _ HX6.out.lt))
      have HN7 := Lib.hid (HN6.out.of (hb7.block _ HN6.out.lt))
      clear hb7 HB6 HG6 HX6 HN6
      have k0 := HX7.out.cell 0
      have k1 := HX7.out.cell 1
      have k2 := HX7.out.cell 2
      have k3 := HX7.out.cell 3
      have k4 := HX7.out.cell 4
      have k5 := HX7.out.cell 5
      have k6 := HX7.out.cell 6
      have k7 := HX7.out.cell 7
      have k8 := HX7.out.cell 8
      go_wp2_with fail
      refine (HSa.out _).mono ?_
      rintro e w8 ⟨rfl, hb8⟩
      have HB8 := Lib.hid (HB7.out.trans (hb8.mono HB7.out.size))
      have HG8 := Lib.hid (HG7.out.below hb8)
      have HX8 := Lib.hid (HX7.out.of (hb8.block _ HX7.out.lt))
      have HN8 := Lib.hid (HN7.out.of (hb8.block _ HN7.out.lt))
      clear hb8 HB7 HG7 HX7 HN7 k0 k1 k2 k3 k4 k5 k6 k7 k8
      go_wp2_with fail
      refine (HSb.out _).mono ?_
      rintro e w9 ⟨rfl, hb9⟩
      have HB9 := Lib.hid (HB8.out.trans (hb9.mono HB8.out.size))
      have HG9 := Lib.hid (HG8.out.below hb9)
      have HX9 := Lib.hid (HX8.out.of (hb9.block _ HX8.out.lt))
      have HN9 := Lib.hid (HN8.out.of (hb9.block _ HN8.out.lt))
      clear hb9 HB8 HG8 HX8 HN8
      go_wp2_with fail
      refine (HWB.out _ HG9.out).mono ?_
      rintro e w10 ⟨rfl, hb10⟩
      have HB10 := Lib.hid (HB9.out.trans (hb10.mono HB9.out.size))
      have HG10 := Lib.hid (HG9.out.below hb10)
      have HX10 := Lib.hid (HX9.out.of (hb10.block _ HX9.out.lt))
      have HN10 := Lib.hid (HN9.out.of (hb10.block _ HN9.out.lt))
      clear hb10 HB9 HG9 HX9 HN9
      have k0 := HX10.out.cell 0
      have k1 := HX10.out.cell 1
      have k2 := HX10.out.cell 2
      have k3 := HX10.out.cell 3
      have k4 := HX10.out.cell 4
      have k5 := HX10.out.cell 5
      have k6 := HX10.out.cell 6
      have k7 := HX10.out.cell 7
      have k8 := HX10.out.cell 8
      go_wp2_with fail
      refine (HSc.out _).mono ?_
      rintro e w11 ⟨rfl, hb11⟩
      have HB11 := Lib.hid (HB10.out.trans (hb11.mono HB10.out.size))
      have HG11 := Lib.hid (HG10.out.below hb11)
      have HX11 := Lib.hid (HX10.out.of (hb11.block _ HX10.out.lt))
      have HN11 := Lib.hid (HN10.out.of (hb11.block _ HN10.out.lt))
      clear hb11 HB10 HG10 HX10 HN10 k0 k1 k2 k3 k4 k5 k6 k7 k8
      go_wp2_with fail
      refine (HWC.out _ HG11.out).mono ?_
      rintro e w12 ⟨rfl, hb12⟩
      have HB12 := Lib.hid (HB11.out.trans (hb12.mono HB11.out.size))
      have HG12 := Lib.hid (HG11.out.below hb12)
      have HX12 := Lib.hid (HX11.out.of (hb12.block _ HX11.out.lt))
      have HN12 := Lib.hid (HN11.out.of (hb12.block _ HN11.out.lt))
      clear hb12 HB11 HG11 HX11 HN11
      have n1 := HN12.out.cell 0
      have n2 := HN12.out.cell 1
      simp at n1 n2
      go_wp2_with fail
      go_ret
      exact ⟨rfl, HB12.out⟩
  · rcases (by omega : b < 1 ∨ (1 ≤ b ∧ 16 < b)) with g | ⟨g, g'⟩
    · have HWA := Lib.hid (HWa.out ha)
      have HWB := Lib.hid (HWb.out ha)
      have HWC := Lib.hid (HWc.out hb)
      clear HWa HWb HWc HW0
      clear ha hb
      have k0 := HX5.out.cell 0
      have k1 := HX5.out.cell 1
      have k2 := HX5.out.cell 2
      have k3 := HX5.out.cell 3
      have k4 := HX5.out.cell 4
      have k5 := HX5.out.cell 5
      have k6 := HX5.out.cell 6
      have k7 := HX5.out.cell 7
      have k8 := HX5.out.cell 8
      go_wp2_with fail
      refine (HSa.out _).mono ?_
      rintro e w6 ⟨rfl, hb6⟩
      have HB6 := Lib.hid (HB5.out.trans (hb6.mono HB5.out.size))
      have HG6 := Lib.hid (HG5.out.below hb6)
      have HX6 := Lib.hid (HX5.out.of (hb6.block _ HX5.out.lt))
      have HN6 := Lib.hid (HN5.out.of (hb6.block _ HN5.out.lt))
      clear hb6 HB5 HG5 HX5 HN5 k0 k1 k2 k3 k4 k5 k6 k7 k8
      go_wp2_with fail
      refine (HWA.out _ HG6.out).mono ?_
      rintro e w7 ⟨rfl, hb7⟩
      have HB7 := Lib.hid (HB6.out.trans (hb7.mono HB6.out.size))
      have HG7 := Lib.hid (HG6.out.below hb7)
      have HX7 := Lib.hid (HX6.out.of (hb7.block _ HX6.out.lt))
      have HN7 := Lib.hid (HN6.out.of (hb7.block _ HN6.out.lt))
      clear hb7 HB6 HG6 HX6 HN6
      have k0 := HX7.out.cell 0
      have k1 := HX7.out.cell 1
      have k2 := HX7.out.cell 2
      have k3 := HX7.out.cell 3
      have k4 := HX7.out.cell 4
      have k5 := HX7.out.cell 5
      have k6 := HX7.out.cell 6
      have k7 := HX7.out.cell 7
      have k8 := HX7.out.cell 8
      go_wp2_with fail
      refine (HSa.out _).mono ?_
      rintro e w8 ⟨rfl, hb8⟩
      have HB8 := Lib.hid (HB7.out.trans (hb8.mono HB7.out.size))
      have HG8 := Lib.hid (HG7.out.below hb8)
      have HX8 := Lib.hid (HX7.out.of (hb8.block _ HX7.out.lt))
      have HN8 := Lib.hid (HN7.out.of (hb8.block _ HN7.out.lt))
      clear hb8 HB7 HG7 HX7 HN7 k0 k1 k2 k3 k4 k5 k6 k7 k8
      go_wp2_with fail
      refine (HSb.out _).mono ?_
      rintro e w9 ⟨rfl, hb9⟩
      have HB9 := Lib.hid (HB8.out.trans (hb9.mono HB8.out.size))
      have HG9 := Lib.hid (HG8.out.below hb9)
      have HX9 := Lib.hid (HX8.out.of (hb9.block _ HX8.out.lt))
      have HN9 := Lib.hid (HN8.out.of (hb9.block _ HN8.out.lt))
      clear hb9 HB8 HG8 HX8 HN8
      go_wp2_with fail
      refine (HWB.out _ HG9.out).mono ?_
      rintro e w10 ⟨rfl, hb10⟩
      have HB10 := Lib.hid (HB9.out.trans (hb10.mono HB9.out.size))
      have HG10 := Lib.hid (HG9.out.below hb10)
      have HX10 := Lib.hid (HX9.out.of (hb10.block _ HX9.out.lt))
      have HN10 := Lib.hid (HN9.out.of (hb10.block _ HN9.out.lt))
      clear hb10 HB9 HG9 HX9 HN9
      have k0 := HX10.out.cell 0
      have k1 := HX10.out.cell 1
      have k2 := HX10.out.cell 2
      have k3 := HX10.out.cell 3
      have k4 := HX10.out.cell 4
      have k5 := HX10.out.cell 5
      have k6 := HX10.out.cell 6
      have k7 := HX10.out.cell 7
      have k8 := HX10.out.cell 8
      go_wp2_with fail
      refine (HSc.out _).mono ?_
      rintro e w11 ⟨rfl, hb11⟩
      have HB11 := Lib.hid (HB10.out.trans (hb11.mono HB10.out.size))
      have HG11 := Lib.hid (HG10.out.below hb11)
      have HX11 := Lib.hid (HX10.out.of (hb11.block _ HX10.out.lt))
      have HN11 := Lib.hid (HN10.out.of (hb11.block _ HN10.out.lt))
      clear hb11 HB10 HG10 HX10 HN10 k0 k1 k2 k3 k4 k5 k6 k7 k8
      go_wp2_with fail
      refine (HWC.out _ HG11.out).mono ?_
      rintro e w12 ⟨rfl, hb12⟩
      have HB12 := Lib.hid (HB11.out.trans (hb12.mono HB11.out.size))
      have HG12 := Lib.hid (HG11.out.below hb12)
      have HX12 := Lib.hid (HX11.out.of (hb12.block _ HX11.out.lt))
      have HN12 := Lib.hid (HN11.out.of (hb12.block _ HN11.out.lt))
      clear hb12 HB11 HG11 HX11 HN11
      have n1 := HN12.out.cell 0
      have n2 := HN12.out.cell 1
      simp at n1 n2
      go_wp2_with fail
      go_ret
      exact ⟨rfl, HB12.out⟩
    · have HWA := Lib.hid (HWa.out ha)
      have HWB := Lib.hid (HWb.out ha)
      have HWC := Lib.hid (HWc.out hb)
      clear HWa HWb HWc HW0
      clear ha hb
      have k0 := HX5.out.cell 0
      have k1 := HX5.out.cell 1
      have k2 := HX5.out.cell 2
      have k3 := HX5.out.cell 3
      have k4 := HX5.out.cell 4
      have k5 := HX5.out.cell 5
      have k6 := HX5.out.cell 6
      have k7 := HX5.out.cell 7
      have k8 := HX5.out.cell 8
      go_wp2_with fail
      refine (HSa.out _).mono ?_
      rintro e w6 ⟨rfl, hb6⟩
      have HB6 := Lib.hid (HB5.out.trans (hb6.mono HB5.out.size))
      have HG6 := Lib.hid (HG5.out.below hb6)
      have HX6 := Lib.hid (HX5.out.of (hb6.block _ HX5.out.lt))
      have HN6 := Lib.hid (HN5.out.of (hb6.block _ HN5.out.lt))
      clear hb6 HB5 HG5 HX5 HN5 k0 k1 k2 k3 k4 k5 k6 k7 k8
      go_wp2_with fail
      refine (HWA.out _ HG6.out).mono ?_
      rintro e w7 ⟨rfl, hb7⟩
      have HB7 := Lib.hid (HB6.out.trans (hb7.mono HB6.out.size))
      have HG7 := Lib.hid (HG6.out.below hb7)
      have HX7 := Lib.hid (HX6.out.of (hb7.block _ HX6.out.lt))
      have HN7 := Lib.hid (HN6.out.of (hb7.block _ HN6.out.lt))
      clear hb7 HB6 HG6 HX6 HN6
      have k0 := HX7.out.cell 0
      have k1 := HX7.out.cell 1
      have k2 := HX7.out.cell 2
      have k3 := HX7.out.cell 3
      have k4 := HX7.out.cell 4
      have k5 := HX7.out.cell 5
      have k6 := HX7.out.cell 6
      have k7 := HX7.out.cell 7
      have k8 := HX7.out.cell 8
      go_wp2_with fail
      refine (HSa.out _).mono ?_
      rintro e w8 ⟨rfl, hb8⟩
      have HB8 := Lib.hid (HB7.out.trans (hb8.mono HB7.out.size))
      have HG8 := Lib.hid (HG7.out.below hb8)
      have HX8 := Lib.hid (HX7.out.of (hb8.block _ HX7.out.lt))
      have HN8 := Lib.hid (HN7.out.of (hb8.block _ HN7.out.lt))
      clear hb8 HB7 HG7 HX7 HN7 k0 k1 k2 k3 k4 k5 k6 k7 k8
      go_wp2_with fail
      refine (HSb.out _).mono ?_
      rintro e w9 ⟨rfl, hb9⟩
      have HB9 := Lib.hid (HB8.out.trans (hb9.mono HB8.out.size))
      have HG9 := Lib.hid (HG8.out.below hb9)
      have HX9 := Lib.hid (HX8.out.of (hb9.block _ HX8.out.lt))
      have HN9 := Lib.hid (HN8.out.of (hb9.block _ HN8.out.lt))
      clear hb9 HB8 HG8 HX8 HN8
      go_wp2_with fail
      refine (HWB.out _ HG9.out).mono ?_
      rintro e w10 ⟨rfl, hb10⟩
      have HB10 := Lib.hid (HB9.out.trans (hb10.mono HB9.out.size))
      have HG10 := Lib.hid (HG9.out.below hb10)
      have HX10 := Lib.hid (HX9.out.of (hb10.block _ HX9.out.lt))
      have HN10 := Lib.hid (HN9.out.of (hb10.block _ HN9.out.lt))
      clear hb10 HB9 HG9 HX9 HN9
      have k0 := HX10.out.cell 0
      have k1 := HX10.out.cell 1
      have k2 := HX10.out.cell 2
      have k3 := HX10.out.cell 3
      have k4 := HX10.out.cell 4
      have k5 := HX10.out.cell 5
      have k6 := HX10.out.cell 6
      have k7 := HX10.out.cell 7
      have k8 := HX10.out.cell 8
      go_wp2_with fail
      refine (HSc.out _).mono ?_
      rintro e w11 ⟨rfl, hb11⟩
      have HB11 := Lib.hid (HB10.out.trans (hb11.mono HB10.out.size))
      have HG11 := Lib.hid (HG10.out.below hb11)
      have HX11 := Lib.hid (HX10.out.of (hb11.block _ HX10.out.lt))
      have HN11 := Lib.hid (HN10.out.of (hb11.block _ HN10.out.lt))
      clear hb11 HB10 HG10 HX10 HN10 k0 k1 k2 k3 k4 k5 k6 k7 k8
      go_wp2_with fail
      refine (HWC.out _ HG11.out).mono ?_
      rintro e w12 ⟨rfl, hb12⟩
      have HB12 := Lib.hid (HB11.out.trans (hb12.mono HB11.out.size))
      have HG12 := Lib.hid (HG11.out.below hb12)
      have HX12 := Lib.hid (HX11.out.of (hb12.block _ HX11.out.lt))
      have HN12 := Lib.hid (HN11.out.of (hb12.block _ HN11.out.lt))
      clear hb12 HB11 HG11 HX11 HN11
      have n1 := HN12.out.cell 0
      have n2 := HN12.out.cell 1
      simp at n1 n2
      go_wp2_with fail
      go_ret
      exact ⟨rfl, HB12.out⟩
set_option maxRecDepth 100000 in
set_option maxHeartbeats 2000000 in
theorem first_02 (A B K P T S H V O a b : Int) (w : World) (hT : Rg T) (hF : Fst ⟨A, B, K, P, T, S, H, V, O⟩ 7) (hg : ErrType w) : Calls Tryd.prog 5 #[.agg #[.int .i64 A, .int .i64 B, .int .i64 K, .int .i64 P, .int .i64 T, .int .i64 S, .int .i64 H, .int .i64 V, .int .i64 O], .int .i64 0, .int .i64 2, .int .i64 a, .int .i64 b] w fun e w' => e = .returned (.bool true) ∧ Below w.heap.size w w' := by
  obtain ⟨hA, hB, hK, hP, hO, _, _, _, _, _⟩ := hF.okC
  dsimp only at hA hB hK hP hO
  have HW0 := Lib.hid (fun W hg => why_F (i := 7) (nm := ⟨#[]⟩) (c := ⟨A, B, K, P, T, S, H, V, O⟩) (E := 0) hT hF rfl rfl W hg)
  have HWa : Hid (¬ (1 ≤ a ∧ a ≤ 64) → ∀ W, ErrType W → Calls Tryd.prog 10 #[.agg #[.int .i64 a, .int .i64 B, .int .i64 K, .int .i64 P, .int .i64 T, .int .i64 S, .int .i64 H, .int .i64 V, .int .i64 O]] W fun e w' => e = .returned (.tuple #[.string ⟨#[67, 97, 112, 97, 99, 105, 116, 121]⟩, .int .i64 2]) ∧ Below W.heap.size W w') := Lib.hid (fun ha W hg => by
    have hb : wtE a 1 64 ≠ 0 := fun e => ha (wtE_zero.1 e)
    exact why_F (i := 0) (nm := ⟨#[67, 97, 112, 97, 99, 105, 116, 121]⟩) (c := (⟨a, B, K, P, T, S, H, V, O⟩ : Cfg)) (E := 2) hT ⟨by decide, fun j hj => absurd hj (by omega), fun _ => hb⟩ rfl (wtE_two hb) W hg)
  have HWb : Hid (¬ (1 ≤ a ∧ a ≤ 64) → ∀ W, ErrType W → Calls Tryd.prog 10 #[.agg #[.int .i64 a, .int .i64 B, .int .i64 b, .int .i64 P, .int .i64 T, .int .i64 S, .int .i64 H, .int .i64 V, .int .i64 O]] W fun e w' => e = .returned (.tuple #[.string ⟨#[67, 97, 112, 97, 99, 105, 116, 121]⟩, .int .i64 2]) ∧ Below W.heap.size W w') := Lib.hid (fun ha W hg => by
    have hb : wtE a 1 64 ≠ 0 := fun e => ha (wtE_zero.1 e)
    exact why_F (i := 0) (nm := ⟨#[67, 97, 112, 97, 99, 105, 116, 121]⟩) (c := (⟨a, B, b, P, T, S, H, V, O⟩ : Cfg)) (E := 2) hT ⟨by decide, fun j hj => absurd hj (by omega), fun _ => hb⟩ rfl (wtE_two hb) W hg)
  have HWc : Hid (¬ (1 ≤ b ∧ b ≤ 16) → ∀ W, ErrType W → Calls Tryd.prog 10 #[.agg #[.int .i64 A, .int .i64 B, .int .i64 b, .int .i64 P, .int .i64 T, .int .i64 S, .int .i64 H, .int .i64 V, .int .i64 O]] W fun e w' => e = .returned (.tuple #[.string ⟨#[75, 105, 99, 107, 115]⟩, .int .i64 2]) ∧ Below W.heap.size W w') := Lib.hid (fun ha W hg => by
    have hb : wtE b 1 16 ≠ 0 := fun e => ha (wtE_zero.1 e)
    exact why_F (i := 2) (nm := ⟨#[75, 105, 99, 107, 115]⟩) (c := (⟨A, B, b, P, T, S, H, V, O⟩ : Cfg)) (E := 2) hT ⟨by decide, fun j hj => by
      match j, hj with
      | 0, _ => exact (wtE_zero.2 hA)
      | 1, _ => exact (wtE_zero.2 hB)
, fun _ => hb⟩ rfl (wtE_two hb) W hg)
  have HSa := Lib.hid (fun W => set_0 A B K P T S H V O a W)
  have HSb := Lib.hid (fun W => set_2 a B K P T S H V O b W)
  have HSc := Lib.hid (fun W => set_2 A B K P T S H V O b W)
  have HG0 := Lib.hid hg
  clear hg hF hT hA hB hK hP hO
  obtain ⟨p, hp⟩ : ∃ p, w.heap.size = p := ⟨_, rfl⟩
  obtain ⟨w2, hw2⟩ : ∃ w2, w.alloc (.cells #[.int .i64 A, .int .i64 B, .int .i64 K, .int .i64 P, .int .i64 T, .int .i64 S, .int .i64 H, .int .i64 V, .int .i64 O] 23) = w2 := ⟨_, rfl⟩
  have hx : Box w2 p 23 #[.int .i64 A, .int .i64 B, .int .i64 K, .int .i64 P, .int .i64 T, .int .i64 S, .int .i64 H, .int .i64 V, .int .i64 O] := by rw [← hw2, ← hp]; exact Box.new w _ _
  have HB := Lib.hid (show Below w.heap.size w w2 by rw [← hw2]; exact (Below.refl _ w).alloc (Nat.le_refl _) _)
  have HX := Lib.hid hx
  have HPP := Lib.hid hp
  have HWW := Lib.hid hw2
  have k0 := hx.cell 0
  have k1 := hx.cell 1
  have k2 := hx.cell 2
  have k3 := hx.cell 3
  have k4 := hx.cell 4
  have k5 := hx.cell 5
  have k6 := hx.cell 6
  have k7 := hx.cell 7
  have k8 := hx.cell 8
  clear hx hp hw2
  have HG := Lib.hid (HG0.out.below (show Below w.heap.size w w2 from HB.out))
  go_enter Tryd.func5, Tryd.ntmps5
  go_upto_region 1 with fail
  rw [HPP.out, HWW.out]
  go_wp2_with fail
  refine (shown_any _ HG.out).mono ?_
  rintro e w3 ⟨rfl, hb3⟩
  have HG3 := Lib.hid (HG.out.below hb3)
  have HB3 := Lib.hid (HB.out.trans (hb3.mono HB.out.size))
  have HX3 := Lib.hid (HX.out.of (hb3.block _ HX.out.lt))
  clear hb3 HG HB HX HWW k0 k1 k2 k3 k4 k5 k6 k7 k8
  have k0 := HX3.out.cell 0
  have k1 := HX3.out.cell 1
  have k2 := HX3.out.cell 2
  have k3 := HX3.out.cell 3
  have k4 := HX3.out.cell 4
  have k5 := HX3.out.cell 5
  have k6 := HX3.out.cell 6
  have k7 := HX3.out.cell 7
  have k8 := HX3.out.cell 8
  go_wp2_with fail
  refine (HW0.out _ HG3.out).mono ?_
  rintro e w4 ⟨rfl, hb4⟩
  have HG4 := Lib.hid (HG3.out.below hb4)
  have HB4 := Lib.hid (HB3.out.trans (hb4.mono HB3.out.size))
  have HX4 := Lib.hid (HX3.out.of (hb4.block _ HX3.out.lt))
  clear hb4 HG3 HB3 HX3 k0 k1 k2 k3 k4 k5 k6 k7 k8
  go_upto_region 8 with fail
  obtain ⟨q, hq⟩ : ∃ q, w4.heap.size = q := ⟨_, rfl⟩
  have b1 := Box.new w4 9 #[.string ⟨#[67, 97, 112, 97, 99, 105, 116, 121]⟩, .string ⟨#[66, 97, 116, 99, 104]⟩, .string ⟨#[75, 105, 99, 107, 115]⟩, .string ⟨#[83, 112, 105, 108, 108]⟩, .string ⟨#[80, 111, 108, 105, 99, 121]⟩]
  have b2 := Box.new (w4.alloc (.cells #[.string ⟨#[67, 97, 112, 97, 99, 105, 116, 121]⟩, .string ⟨#[66, 97, 116, 99, 104]⟩, .string ⟨#[75, 105, 99, 107, 115]⟩, .string ⟨#[83, 112, 105, 108, 108]⟩, .string ⟨#[80, 111, 108, 105, 99, 121]⟩] 9)) 3 #[.int .i64 1, .int .i64 1, .int .i64 1, .int .i64 1, .int .i64 0]
  have b3 := Box.new ((w4.alloc (.cells #[.string ⟨#[67, 97, 112, 97, 99, 105, 116, 121]⟩, .string ⟨#[66, 97, 116, 99, 104]⟩, .string ⟨#[75, 105, 99, 107, 115]⟩, .string ⟨#[83, 112, 105, 108, 108]⟩, .string ⟨#[80, 111, 108, 105, 99, 121]⟩] 9)).alloc (.cells #[.int .i64 1, .int .i64 1, .int .i64 1, .int .i64 1, .int .i64 0] 3)) 3 #[.int .i64 64, .int .i64 16, .int .i64 16, .int .i64 32, .int .i64 2]
  obtain ⟨w5, hw5⟩ : ∃ w5, (((w4.alloc (.cells #[.string ⟨#[67, 97, 112, 97, 99, 105, 116, 121]⟩, .string ⟨#[66, 97, 116, 99, 104]⟩, .string ⟨#[75, 105, 99, 107, 115]⟩, .string ⟨#[83, 112, 105, 108, 108]⟩, .string ⟨#[80, 111, 108, 105, 99, 121]⟩] 9)).alloc (.cells #[.int .i64 1, .int .i64 1, .int .i64 1, .int .i64 1, .int .i64 0] 3)).alloc (.cells #[.int .i64 64, .int .i64 16, .int .i64 16, .int .i64 32, .int .i64 2] 3)) = w5 := ⟨_, rfl⟩
  have bN : Box w5 q 9 #[.string ⟨#[67, 97, 112, 97, 99, 105, 116, 121]⟩, .string ⟨#[66, 97, 116, 99, 104]⟩, .string ⟨#[75, 105, 99, 107, 115]⟩, .string ⟨#[83, 112, 105, 108, 108]⟩, .string ⟨#[80, 111, 108, 105, 99, 121]⟩] := by rw [← hw5, ← hq]; exact (b1.alloc _).alloc _
  have bL : Box w5 (q + 1) 3 #[.int .i64 1, .int .i64 1, .int .i64 1, .int .i64 1, .int .i64 0] := by
    have h := b2.alloc (.cells #[.int .i64 64, .int .i64 16, .int .i64 16, .int .i64 32, .int .i64 2] 3)
    rw [hw5, World.size_alloc, hq] at h
    exact h
  have bM : Box w5 (q + 2) 3 #[.int .i64 64, .int .i64 16, .int .i64 16, .int .i64 32, .int .i64 2] := by
    have h := b3
    rw [hw5, World.size_alloc, World.size_alloc, hq] at h
    exact h
  have hE5 : Below w4.heap.size w4 w5 := by rw [← hw5]; exact (((Below.refl _ w4).alloc (Nat.le_refl _) _).alloc (by simp) _).alloc (by simp; omega) _
  have HB5 := Lib.hid (HB4.out.trans (hE5.mono HB4.out.size))
  have HG5 := Lib.hid (HG4.out.below hE5)
  have HX5 := Lib.hid (HX4.out.of (hE5.block _ HX4.out.lt))
  have HN5 := Lib.hid bN
  have l1 := bL.cell 0
  have l2 := bL.cell 2
  have m1 := bM.cell 0
  have m2 := bM.cell 2
  simp at l1 l2 m1 m2
  have e2 : q + 1 + 1 = q + 2 := rfl
  simp only [hq, hw5, e2]
  clear hq hw5 b1 b2 b3 bN bL bM hE5 HB4 HG4 HX4 e2
  by_cases ha : 1 ≤ a ∧ a ≤ 64
  · obtain ⟨a1, a2⟩ := ha
    go_wp2_with fail
    go_ret
    exact ⟨rfl, HB5.out⟩
  by_cases hb : 1 ≤ b ∧ b ≤ 16
  · obtain ⟨b1, b2⟩ := hb
    rcases (by omega : a < 1 ∨ 64 < a) with h | h
    · clear ha
      go_wp2_with fail
      go_ret
      exact ⟨rfl, HB5.out⟩
    · clear ha
      have h' : 1 ≤ a := by omega
      go_wp2_with fail
      go_ret
      exact ⟨rfl, HB5.out⟩
  rcases (by omega : a < 1 ∨ (1 ≤ a ∧ 64 < a)) with h | ⟨h, h'⟩
  · rcases (by omega : b < 1 ∨ (1 ≤ b ∧ 16 < b)) with g | ⟨g, g'⟩
    · have HWA := Lib.hid (HWa.out ha)
      have HWB := Lib.hid (HWb.out ha)
      have HWC := Lib.hid (HWc.out hb)
      clear HWa HWb HWc HW0
      clear ha hb
      have k0 := HX5.out.cell 0
      have k1 := HX5.out.cell 1
      have k2 := HX5.out.cell 2
      have k3 := HX5.out.cell 3
      have k4 := HX5.out.cell 4
      have k5 := HX5.out.cell 5
      have k6 := HX5.out.cell 6
      have k7 := HX5.out.cell 7
      have k8 := HX5.out.cell 8
      go_wp2_with fail
      refine (HSa.out _).mono ?_
      rintro e w6 ⟨rfl, hb6⟩
      have HB6 := Lib.hid (HB5.out.trans (hb6.mono HB5.out.size))
      have HG6 := Lib.hid (HG5.out.below hb6)
      have HX6 := Lib.hid (HX5.out.of (hb6.block _ HX5.out.lt))
      have HN6 := Lib.hid (HN5.out.of (hb6.block _ HN5.out.lt))
      clear hb6 HB5 HG5 HX5 HN5 k0 k1 k2 k3 k4 k5 k6 k7 k8
      go_wp2_with fail
      refine (HWA.out _ HG6.out).mono ?_
      rintro e w7 ⟨rfl, hb7⟩
      have HB7 := Lib.hid (HB6.out.trans (hb7.mono HB6.out.size))
      have HG7 := Lib.hid (HG6.out.below hb7)
      have HX7 := Lib.hid (HX6.out.of (hb7.block _ HX6.out.lt))
      have HN7 := Lib.hid (HN6.out.of (hb7.block _ HN6.out.lt))
      clear hb7 HB6 HG6 HX6 HN6
      have k0 := HX7.out.cell 0
      have k1 := HX7.out.cell 1
      have k2 := HX7.out.cell 2
      have k3 := HX7.out.cell 3
      have k4 := HX7.out.cell 4
      have k5 := HX7.out.cell 5
      have k6 := HX7.out.cell 6
      have k7 := HX7.out.cell 7
      have k8 := HX7.out.cell 8
      go_wp2_with fail
      refine (HSa.out _).mono ?_
      rintro e w8 ⟨rfl, hb8⟩
      have HB8 := Lib.hid (HB7.out.trans (hb8.mono HB7.out.size))
      have HG8 := Lib.hid (HG7.out.below hb8)
      have HX8 := Lib.hid (HX7.out.of (hb8.block _ HX7.out.lt))
      have HN8 := Lib.hid (HN7.out.of (hb8.block _ HN7.out.lt))
      clear hb8 HB7 HG7 HX7 HN7 k0 k1 k2 k3 k4 k5 k6 k7 k8
      go_wp2_with fail
      refine (HSb.out _).mono ?_
      rintro e w9 ⟨rfl, hb9⟩
      have HB9 := Lib.hid (HB8.out.trans (hb9.mono HB8.out.size))
      have HG9 := Lib.hid (HG8.out.below hb9)
      have HX9 := Lib.hid (HX8.out.of (hb9.block _ HX8.out.lt))
      have HN9 := Lib.hid (HN8.out.of (hb9.block _ HN8.out.lt))
      clear hb9 HB8 HG8 HX8 HN8
      go_wp2_with fail
      refine (HWB.out _ HG9.out).mono ?_
      rintro e w10 ⟨rfl, hb10⟩
      have HB10 := Lib.hid (HB9.out.trans (hb10.mono HB9.out.size))
      have HG10 := Lib.hid (HG9.out.below hb10)
      have HX10 := Lib.hid (HX9.out.of (hb10.block _ HX9.out.lt))
      have HN10 := Lib.hid (HN9.out.of (hb10.block _ HN9.out.lt))
      clear hb10 HB9 HG9 HX9 HN9
      have k0 := HX10.out.cell 0
      have k1 := HX10.out.cell 1
      have k2 := HX10.out.cell 2
      have k3 := HX10.out.cell 3
      have k4 := HX10.out.cell 4
      have k5 := HX10.out.cell 5
      have k6 := HX10.out.cell 6
      have k7 := HX10.out.cell 7
      have k8 := HX10.out.cell 8
      go_wp2_with fail
      refine (HSc.out _).mono ?_
      rintro e w11 ⟨rfl, hb11⟩
      have HB11 := Lib.hid (HB10.out.trans (hb11.mono HB10.out.size))
      have HG11 := Lib.hid (HG10.out.below hb11)
      have HX11 := Lib.hid (HX10.out.of (hb11.block _ HX10.out.lt))
      have HN11 := Lib.hid (HN10.out.of (hb11.block _ HN10.out.lt))
      clear hb11 HB10 HG10 HX10 HN10 k0 k1 k2 k3 k4 k5 k6 k7 k8
      go_wp2_with fail
      refine (HWC.out _ HG11.out).mono ?_
      rintro e w12 ⟨rfl, hb12⟩
      have HB12 := Lib.hid (HB11.out.trans (hb12.mono HB11.out.size))
      have HG12 := Lib.hid (HG11.out.below hb12)
      have HX12 := Lib.hid (HX11.out.of (hb12.block _ HX11.out.lt))
      have HN12 := Lib.hid (HN11.out.of (hb12.block _ HN11.out.lt))
      clear hb12 HB11 HG11 HX11 HN11
      have n1 := HN12.out.cell 0
      have n2 := HN12.out.cell 2
      simp at n1 n2
      go_wp2_with fail
      go_ret
      exact ⟨rfl, HB12.out⟩
    · have HWA := Lib.hid (HWa.out ha)
      have HWB := Lib.hid (HWb.out ha)
      have HWC := Lib.hid (HWc.out hb)
      clear HWa HWb HWc HW0
      clear ha hb
      have k0 := HX5.out.cell 0
      have k1 := HX5.out.cell 1
      have k2 := HX5.out.cell 2
      have k3 := HX5.out.cell 3
      have k4 := HX5.out.cell 4
      have k5 := HX5.out.cell 5
      have k6 := HX5.out.cell 6
      have k7 := HX5.out.cell 7
      have k8 := HX5.out.cell 8
      go_wp2_with fail
      refine (HSa.out _).mono ?_
      rintro e w6 ⟨rfl, hb6⟩
      have HB6 := Lib.hid (HB5.out.trans (hb6.mono HB5.out.size))
      have HG6 := Lib.hid (HG5.out.below hb6)
      have HX6 := Lib.hid (HX5.out.of (hb6.block _ HX5.out.lt))
      have HN6 := Lib.hid (HN5.out.of (hb6.block _ HN5.out.lt))
      clear hb6 HB5 HG5 HX5 HN5 k0 k1 k2 k3 k4 k5 k6 k7 k8
      go_wp2_with fail
      refine (HWA.out _ HG6.out).mono ?_
      rintro e w7 ⟨rfl, hb7⟩
      have HB7 := Lib.hid (HB6.out.trans (hb7.mono HB6.out.size))
      have HG7 := Lib.hid (HG6.out.below hb7)
      have HX7 := Lib.hid (HX6.out.of (hb7.block _ HX6.out.lt))
      have HN7 := Lib.hid (HN6.out.of (hb7.block _ HN6.out.lt))
      clear hb7 HB6 HG6 HX6 HN6
      have k0 := HX7.out.cell 0
      have k1 := HX7.out.cell 1
      have k2 := HX7.out.cell 2
      have k3 := HX7.out.cell 3
      have k4 := HX7.out.cell 4
      have k5 := HX7.out.cell 5
      have k6 := HX7.out.cell 6
      have k7 := HX7.out.cell 7
      have k8 := HX7.out.cell 8
      go_wp2_with fail
      refine (HSa.out _).mono ?_
      rintro e w8 ⟨rfl, hb8⟩
      have HB8 := Lib.hid (HB7.out.trans (hb8.mono HB7.out.size))
      have HG8 := Lib.hid (HG7.out.below hb8)
      have HX8 := Lib.hid (HX7.out.of (hb8.block _ HX7.out.lt))
      have HN8 := Lib.hid (HN7.out.of (hb8.block _ HN7.out.lt))
      clear hb8 HB7 HG7 HX7 HN7 k0 k1 k2 k3 k4 k5 k6 k7 k8
      go_wp2_with fail
      refine (HSb.out _).mono ?_
      rintro e w9 ⟨rfl, hb9⟩
      have HB9 := Lib.hid (HB8.out.trans (hb9.mono HB8.out.size))
      have HG9 := Lib.hid (HG8.out.below hb9)
      have HX9 := Lib.hid (HX8.out.of (hb9.block _ HX8.out.lt))
      have HN9 := Lib.hid (HN8.out.of (hb9.block _ HN8.out.lt))
      clear hb9 HB8 HG8 HX8 HN8
      go_wp2_with fail
      refine (HWB.out _ HG9.out).mono ?_
      rintro e w10 ⟨rfl, hb10⟩
      have HB10 := Lib.hid (HB9.out.trans (hb10.mono HB9.out.size))
      have HG10 := Lib.hid (HG9.out.below hb10)
      have HX10 := Lib.hid (HX9.out.of (hb10.block _ HX9.out.lt))
      have HN10 := Lib.hid (HN9.out.of (hb10.block _ HN9.out.lt))
      clear hb10 HB9 HG9 HX9 HN9
      have k0 := HX10.out.cell 0
      have k1 := HX10.out.cell 1
      have k2 := HX10.out.cell 2
      have k3 := HX10.out.cell 3
      have k4 := HX10.out.cell 4
      have k5 := HX10.out.cell 5
      have k6 := HX10.out.cell 6
      have k7 := HX10.out.cell 7
      have k8 := HX10.out.cell 8
      go_wp2_with fail
      refine (HSc.out _).mono ?_
      rintro e w11 ⟨rfl, hb11⟩
      have HB11 := Lib.hid (HB10.out.trans (hb11.mono HB10.out.size))
      have HG11 := Lib.hid (HG10.out.below hb11)
      have HX11 := Lib.hid (HX10.out.of (hb11.block _ HX10.out.lt))
      have HN11 := Lib.hid (HN10.out.of (hb11.block _ HN10.out.lt))
      clear hb11 HB10 HG10 HX10 HN10 k0 k1 k2 k3 k4 k5 k6 k7 k8
      go_wp2_with fail
      refine (HWC.out _ HG11.out).mono ?_
      rintro e w12 ⟨rfl, hb12⟩
      have HB12 := Lib.hid (HB11.out.trans (hb12.mono HB11.out.size))
      have HG12 := Lib.hid (HG11.out.below hb12)
      have HX12 := Lib.hid (HX11.out.of (hb12.block _ HX11.out.lt))
      have HN12 := Lib.hid (HN11.out.of (hb12.block _ HN11.out.lt))
      clear hb12 HB11 HG11 HX11 HN11
      have n1 := HN12.out.cell 0
      have n2 := HN12.out.cell 2
      simp at n1 n2
      go_wp2_with fail
      go_ret
      exact ⟨rfl, HB12.out⟩
  · rcases (by omega : b < 1 ∨ (1 ≤ b ∧ 16 < b)) with g | ⟨g, g'⟩
    · have HWA := Lib.hid (HWa.out ha)
      have HWB := Lib.hid (HWb.out ha)
      have HWC := Lib.hid (HWc.out hb)
      clear HWa HWb HWc HW0
      clear ha hb
      have k0 := HX5.out.cell 0
      have k1 := HX5.out.cell 1
      have k2 := HX5.out.cell 2
      have k3 := HX5.out.cell 3
      have k4 := HX5.out.cell 4
      have k5 := HX5.out.cell 5
      have k6 := HX5.out.cell 6
      have k7 := HX5.out.cell 7
      have k8 := HX5.out.cell 8
      go_wp2_with fail
      refine (HSa.out _).mono ?_
      rintro e w6 ⟨rfl, hb6⟩
      have HB6 := Lib.hid (HB5.out.trans (hb6.mono HB5.out.size))
      have HG6 := Lib.hid (HG5.out.below hb6)
      have HX6 := Lib.hid (HX5.out.of (hb6.block _ HX5.out.lt))
      have HN6 := Lib.hid (HN5.out.of (hb6.block _ HN5.out.lt))
      clear hb6 HB5 HG5 HX5 HN5 k0 k1 k2 k3 k4 k5 k6 k7 k8
      go_wp2_with fail
      refine (HWA.out _ HG6.out).mono ?_
      rintro e w7 ⟨rfl, hb7⟩
      have HB7 := Lib.hid (HB6.out.trans (hb7.mono HB6.out.size))
      have HG7 := Lib.hid (HG6.out.below hb7)
      have HX7 := Lib.hid (HX6.out.of (hb7.block _ HX6.out.lt))
      have HN7 := Lib.hid (HN6.out.of (hb7.block _ HN6.out.lt))
      clear hb7 HB6 HG6 HX6 HN6
      have k0 := HX7.out.cell 0
      have k1 := HX7.out.cell 1
      have k2 := HX7.out.cell 2
      have k3 := HX7.out.cell 3
      have k4 := HX7.out.cell 4
      have k5 := HX7.out.cell 5
      have k6 := HX7.out.cell 6
      have k7 := HX7.out.cell 7
      have k8 := HX7.out.cell 8
      go_wp2_with fail
      refine (HSa.out _).mono ?_
      rintro e w8 ⟨rfl, hb8⟩
      have HB8 := Lib.hid (HB7.out.trans (hb8.mono HB7.out.size))
      have HG8 := Lib.hid (HG7.out.below hb8)
      have HX8 := Lib.hid (HX7.out.of (hb8.block _ HX7.out.lt))
      have HN8 := Lib.hid (HN7.out.of (hb8.block _ HN7.out.lt))
      clear hb8 HB7 HG7 HX7 HN7 k0 k1 k2 k3 k4 k5 k6 k7 k8
      go_wp2_with fail
      refine (HSb.out _).mono ?_
      rintro e w9 ⟨rfl, hb9⟩
      have HB9 := Lib.hid (HB8.out.trans (hb9.mono HB8.out.size))
      have HG9 := Lib.hid (HG8.out.below hb9)
      have HX9 := Lib.hid (HX8.out.of (hb9.block _ HX8.out.lt))
      have HN9 := Lib.hid (HN8.out.of (hb9.block _ HN8.out.lt))
      clear hb9 HB8 HG8 HX8 HN8
      go_wp2_with fail
      refine (HWB.out _ HG9.out).mono ?_
      rintro e w10 ⟨rfl, hb10⟩
      have HB10 := Lib.hid (HB9.out.trans (hb10.mono HB9.out.size))
      have HG10 := Lib.hid (HG9.out.below hb10)
      have HX10 := Lib.hid (HX9.out.of (hb10.block _ HX9.out.lt))
      have HN10 := Lib.hid (HN9.out.of (hb10.block _ HN9.out.lt))
      clear hb10 HB9 HG9 HX9 HN9
      have k0 := HX10.out.cell 0
      have k1 := HX10.out.cell 1
      have k2 := HX10.out.cell 2
      have k3 := HX10.out.cell 3
      have k4 := HX10.out.cell 4
      have k5 := HX10.out.cell 5
      have k6 := HX10.out.cell 6
      have k7 := HX10.out.cell 7
      have k8 := HX10.out.cell 8
      go_wp2_with fail
      refine (HSc.out _).mono ?_
      rintro e w11 ⟨rfl, hb11⟩
      have HB11 := Lib.hid (HB10.out.trans (hb11.mono HB10.out.size))
      have HG11 := Lib.hid (HG10.out.below hb11)
      have HX11 := Lib.hid (HX10.out.of (hb11.block _ HX10.out.lt))
      have HN11 := Lib.hid (HN10.out.of (hb11.block _ HN10.out.lt))
      clear hb11 HB10 HG10 HX10 HN10 k0 k1 k2 k3 k4 k5 k6 k7 k8
      go_wp2_with fail
      refine (HWC.out _ HG11.out).mono ?_
      rintro e w12 ⟨rfl, hb12⟩
      have HB12 := Lib.hid (HB11.out.trans (hb12.mono HB11.out.size))
      have HG12 := Lib.hid (HG11.out.below hb12)
      have HX12 := Lib.hid (HX11.out.of (hb12.block _ HX11.out.lt))
      have HN12 := Lib.hid (HN11.out.of (hb12.block _ HN11.out.lt))
      clear hb12 HB11 HG11 HX11 HN11
      have n1 := HN12.out.cell 0
      have n2 := HN12.out.cell 2
      simp at n1 n2
      go_wp2_with fail
      go_ret
      exact ⟨rfl, HB12.out⟩
    · have HWA := Lib.hid (HWa.out ha)
      have HWB := Lib.hid (HWb.out ha)
      have HWC := Lib.hid (HWc.out hb)
      clear HWa HWb HWc HW0
      clear ha hb
      have k0 := HX5.out.cell 0
      have k1 := HX5.out.cell 1
      have k2 := HX5.out.cell 2
      have k3 := HX5.out.cell 3
      have k4 := HX5.out.cell 4
      have k5 := HX5.out.cell 5
      have k6 := HX5.out.cell 6
      have k7 := HX5.out.cell 7
      have k8 := HX5.out.cell 8
      go_wp2_with fail
      refine (HSa.out _).mono ?_
      rintro e w6 ⟨rfl, hb6⟩
      have HB6 := Lib.hid (HB5.out.trans (hb6.mono HB5.out.size))
      have HG6 := Lib.hid (HG5.out.below hb6)
      have HX6 := Lib.hid (HX5.out.of (hb6.block _ HX5.out.lt))
      have HN6 := Lib.hid (HN5.out.of (hb6.block _ HN5.out.lt))
      clear hb6 HB5 HG5 HX5 HN5 k0 k1 k2 k3 k4 k5 k6 k7 k8
      go_wp2_with fail
      refine (HWA.out _ HG6.out).mono ?_
      rintro e w7 ⟨rfl, hb7⟩
      have HB7 := Lib.hid (HB6.out.trans (hb7.mono HB6.out.size))
      have HG7 := Lib.hid (HG6.out.below hb7)
      have HX7 := Lib.hid (HX6.out.of (hb7.block _ HX6.out.lt))
      have HN7 := Lib.hid (HN6.out.of (hb7.block _ HN6.out.lt))
      clear hb7 HB6 HG6 HX6 HN6
      have k0 := HX7.out.cell 0
      have k1 := HX7.out.cell 1
      have k2 := HX7.out.cell 2
      have k3 := HX7.out.cell 3
      have k4 := HX7.out.cell 4
      have k5 := HX7.out.cell 5
      have k6 := HX7.out.cell 6
      have k7 := HX7.out.cell 7
      have k8 := HX7.out.cell 8
      go_wp2_with fail
      refine (HSa.out _).mono ?_
      rintro e w8 ⟨rfl, hb8⟩
      have HB8 := Lib.hid (HB7.out.trans (hb8.mono HB7.out.size))
      have HG8 := Lib.hid (HG7.out.below hb8)
      have HX8 := Lib.hid (HX7.out.of (hb8.block _ HX7.out.lt))
      have HN8 := Lib.hid (HN7.out.of (hb8.block _ HN7.out.lt))
      clear hb8 HB7 HG7 HX7 HN7 k0 k1 k2 k3 k4 k5 k6 k7 k8
      go_wp2_with fail
      refine (HSb.out _).mono ?_
      rintro e w9 ⟨rfl, hb9⟩
      have HB9 := Lib.hid (HB8.out.trans (hb9.mono HB8.out.size))
      have HG9 := Lib.hid (HG8.out.below hb9)
      have HX9 := Lib.hid (HX8.out.of (hb9.block _ HX8.out.lt))
      have HN9 := Lib.hid (HN8.out.of (hb9.block _ HN8.out.lt))
      clear hb9 HB8 HG8 HX8 HN8
      go_wp2_with fail
      refine (HWB.out _ HG9.out).mono ?_
      rintro e w10 ⟨rfl, hb10⟩
      have HB10 := Lib.hid (HB9.out.trans (hb10.mono HB9.out.size))
      have HG10 := Lib.hid (HG9.out.below hb10)
      have HX10 := Lib.hid (HX9.out.of (hb10.block _ HX9.out.lt))
      have HN10 := Lib.hid (HN9.out.of (hb10.block _ HN9.out.lt))
      clear hb10 HB9 HG9 HX9 HN9
      have k0 := HX10.out.cell 0
      have k1 := HX10.out.cell 1
      have k2 := HX10.out.cell 2
      have k3 := HX10.out.cell 3
      have k4 := HX10.out.cell 4
      have k5 := HX10.out.cell 5
      have k6 := HX10.out.cell 6
      have k7 := HX10.out.cell 7
      have k8 := HX10.out.cell 8
      go_wp2_with fail
      refine (HSc.out _).mono ?_
      rintro e w11 ⟨rfl, hb11⟩
      have HB11 := Lib.hid (HB10.out.trans (hb11.mono HB10.out.size))
      have HG11 := Lib.hid (HG10.out.below hb11)
      have HX11 := Lib.hid (HX10.out.of (hb11.block _ HX10.out.lt))
      have HN11 := Lib.hid (HN10.out.of (hb11.block _ HN10.out.lt))
      clear hb11 HB10 HG10 HX10 HN10 k0 k1 k2 k3 k4 k5 k6 k7 k8
      go_wp2_with fail
      refine (HWC.out _ HG11.out).mono ?_
      rintro e w12 ⟨rfl, hb12⟩
      have HB12 := Lib.hid (HB11.out.trans (hb12.mono HB11.out.size))
      have HG12 := Lib.hid (HG11.out.below hb12)
      have HX12 := Lib.hid (HX11.out.of (hb12.block _ HX11.out.lt))
      have HN12 := Lib.hid (HN11.out.of (hb12.block _ HN11.out.lt))
      clear hb12 HB11 HG11 HX11 HN11
      have n1 := HN12.out.cell 0
      have n2 := HN12.out.cell 2
      simp at n1 n2
      go_wp2_with fail
      go_ret
      exact ⟨rfl, HB12.out⟩
set_option maxRecDepth 100000 in
set_option maxHeartbeats 2000000 in
theorem first_03 (A B K P T S H V O a b : Int) (w : World) (hT : Rg T) (hF : Fst ⟨A, B, K, P, T, S, H, V, O⟩ 7) (hg : ErrType w) : Calls Tryd.prog 5 #[.agg #[.int .i64 A, .int .i64 B, .int .i64 K, .int .i64 P, .int .i64 T, .int .i64 S, .int .i64 H, .int .i64 V, .int .i64 O], .int .i64 0, .int .i64 3, .int .i64 a, .int .i64 b] w fun e w' => e = .returned (.bool true) ∧ Below w.heap.size w w' := by
  obtain ⟨hA, hB, hK, hP, hO, _, _, _, _, _⟩ := hF.okC
  dsimp only at hA hB hK hP hO
  have HW0 := Lib.hid (fun W hg => why_F (i := 7) (nm := ⟨#[]⟩) (c := ⟨A, B, K, P, T, S, H, V, O⟩) (E := 0) hT hF rfl rfl W hg)
  have HWa : Hid (¬ (1 ≤ a ∧ a ≤ 64) → ∀ W, ErrType W → Calls Tryd.prog 10 #[.agg #[.int .i64 a, .int .i64 B, .int .i64 K, .int .i64 P, .int .i64 T, .int .i64 S, .int .i64 H, .int .i64 V, .int .i64 O]] W fun e w' => e = .returned (.tuple #[.string ⟨#[67, 97, 112, 97, 99, 105, 116, 121]⟩, .int .i64 2]) ∧ Below W.heap.size W w') := Lib.hid (fun ha W hg => by
    have hb : wtE a 1 64 ≠ 0 := fun e => ha (wtE_zero.1 e)
    exact why_F (i := 0) (nm := ⟨#[67, 97, 112, 97, 99, 105, 116, 121]⟩) (c := (⟨a, B, K, P, T, S, H, V, O⟩ : Cfg)) (E := 2) hT ⟨by decide, fun j hj => absurd hj (by omega), fun _ => hb⟩ rfl (wtE_two hb) W hg)
  have HWb : Hid (¬ (1 ≤ a ∧ a ≤ 64) → ∀ W, ErrType W → Calls Tryd.prog 10 #[.agg #[.int .i64 a, .int .i64 B, .int .i64 K, .int .i64 b, .int .i64 T, .int .i64 S, .int .i64 H, .int .i64 V, .int .i64 O]] W fun e w' => e = .returned (.tuple #[.string ⟨#[67, 97, 112, 97, 99, 105, 116, 121]⟩, .int .i64 2]) ∧ Below W.heap.size W w') := Lib.hid (fun ha W hg => by
    have hb : wtE a 1 64 ≠ 0 := fun e => ha (wtE_zero.1 e)
    exact why_F (i := 0) (nm := ⟨#[67, 97, 112, 97, 99, 105, 116, 121]⟩) (c := (⟨a, B, K, b, T, S, H, V, O⟩ : Cfg)) (E := 2) hT ⟨by decide, fun j hj => absurd hj (by omega), fun _ => hb⟩ rfl (wtE_two hb) W hg)
  have HWc : Hid (¬ (1 ≤ b ∧ b ≤ 32) → ∀ W, ErrType W → Calls Tryd.prog 10 #[.agg #[.int .i64 A, .int .i64 B, .int .i64 K, .int .i64 b, .int .i64 T, .int .i64 S, .int .i64 H, .int .i64 V, .int .i64 O]] W fun e w' => e = .returned (.tuple #[.string ⟨#[83, 112, 105, 108, 108]⟩, .int .i64 2]) ∧ Below W.heap.size W w') := Lib.hid (fun ha W hg => by
    have hb : wtE b 1 32 ≠ 0 := fun e => ha (wtE_zero.1 e)
    exact why_F (i := 3) (nm := ⟨#[83, 112, 105, 108, 108]⟩) (c := (⟨A, B, K, b, T, S, H, V, O⟩ : Cfg)) (E := 2) hT ⟨by decide, fun j hj => by
      match j, hj with
      | 0, _ => exact (wtE_zero.2 hA)
      | 1, _ => exact (wtE_zero.2 hB)
      | 2, _ => exact (wtE_zero.2 hK)
, fun _ => hb⟩ rfl (wtE_two hb) W hg)
  have HSa := Lib.hid (fun W => set_0 A B K P T S H V O a W)
  have HSb := Lib.hid (fun W => set_3 a B K P T S H V O b W)
  have HSc := Lib.hid (fun W => set_3 A B K P T S H V O b W)
  have HG0 := Lib.hid hg
  clear hg hF hT hA hB hK hP hO
  obtain ⟨p, hp⟩ : ∃ p, w.heap.size = p := ⟨_, rfl⟩
  obtain ⟨w2, hw2⟩ : ∃ w2, w.alloc (.cells #[.int .i64 A, .int .i64 B, .int .i64 K, .int .i64 P, .int .i64 T, .int .i64 S, .int .i64 H, .int .i64 V, .int .i64 O] 23) = w2 := ⟨_, rfl⟩
  have hx : Box w2 p 23 #[.int .i64 A, .int .i64 B, .int .i64 K, .int .i64 P, .int .i64 T, .int .i64 S, .int .i64 H, .int .i64 V, .int .i64 O] := by rw [← hw2, ← hp]; exact Box.new w _ _
  have HB := Lib.hid (show Below w.heap.size w w2 by rw [← hw2]; exact (Below.refl _ w).alloc (Nat.le_refl _) _)
  have HX := Lib.hid hx
  have HPP := Lib.hid hp
  have HWW := Lib.hid hw2
  have k0 := hx.cell 0
  have k1 := hx.cell 1
  have k2 := hx.cell 2
  have k3 := hx.cell 3
  have k4 := hx.cell 4
  have k5 := hx.cell 5
  have k6 := hx.cell 6
  have k7 := hx.cell 7
  have k8 := hx.cell 8
  clear hx hp hw2
  have HG := Lib.hid (HG0.out.below (show Below w.heap.size w w2 from HB.out))
  go_enter Tryd.func5, Tryd.ntmps5
  go_upto_region 1 with fail
  rw [HPP.out, HWW.out]
  go_wp2_with fail
  refine (shown_any _ HG.out).mono ?_
  rintro e w3 ⟨rfl, hb3⟩
  have HG3 := Lib.hid (HG.out.below hb3)
  have HB3 := Lib.hid (HB.out.trans (hb3.mono HB.out.size))
  have HX3 := Lib.hid (HX.out.of (hb3.block _ HX.out.lt))
  clear hb3 HG HB HX HWW k0 k1 k2 k3 k4 k5 k6 k7 k8
  have k0 := HX3.out.cell 0
  have k1 := HX3.out.cell 1
  have k2 := HX3.out.cell 2
  have k3 := HX3.out.cell 3
  have k4 := HX3.out.cell 4
  have k5 := HX3.out.cell 5
  have k6 := HX3.out.cell 6
  have k7 := HX3.out.cell 7
  have k8 := HX3.out.cell 8
  go_wp2_with fail
  refine (HW0.out _ HG3.out).mono ?_
  rintro e w4 ⟨rfl, hb4⟩
  have HG4 := Lib.hid (HG3.out.below hb4)
  have HB4 := Lib.hid (HB3.out.trans (hb4.mono HB3.out.size))
  have HX4 := Lib.hid (HX3.out.of (hb4.block _ HX3.out.lt))
  clear hb4 HG3 HB3 HX3 k0 k1 k2 k3 k4 k5 k6 k7 k8
  go_upto_region 8 with fail
  obtain ⟨q, hq⟩ : ∃ q, w4.heap.size = q := ⟨_, rfl⟩
  have b1 := Box.new w4 9 #[.string ⟨#[67, 97, 112, 97, 99, 105, 116, 121]⟩, .string ⟨#[66, 97, 116, 99, 104]⟩, .string ⟨#[75, 105, 99, 107, 115]⟩, .string ⟨#[83, 112, 105, 108, 108]⟩, .string ⟨#[80, 111, 108, 105, 99, 121]⟩]
  have b2 := Box.new (w4.alloc (.cells #[.string ⟨#[67, 97, 112, 97, 99, 105, 116, 121]⟩, .string ⟨#[66, 97, 116, 99, 104]⟩, .string ⟨#[75, 105, 99, 107, 115]⟩, .string ⟨#[83, 112, 105, 108, 108]⟩, .string ⟨#[80, 111, 108, 105, 99, 121]⟩] 9)) 3 #[.int .i64 1, .int .i64 1, .int .i64 1, .int .i64 1, .int .i64 0]
  have b3 := Box.new ((w4.alloc (.cells #[.string ⟨#[67, 97, 112, 97, 99, 105, 116, 121]⟩, .string ⟨#[66, 97, 116, 99, 104]⟩, .string ⟨#[75, 105, 99, 107, 115]⟩, .string ⟨#[83, 112, 105, 108, 108]⟩, .string ⟨#[80, 111, 108, 105, 99, 121]⟩] 9)).alloc (.cells #[.int .i64 1, .int .i64 1, .int .i64 1, .int .i64 1, .int .i64 0] 3)) 3 #[.int .i64 64, .int .i64 16, .int .i64 16, .int .i64 32, .int .i64 2]
  obtain ⟨w5, hw5⟩ : ∃ w5, (((w4.alloc (.cells #[.string ⟨#[67, 97, 112, 97, 99, 105, 116, 121]⟩, .string ⟨#[66, 97, 116, 99, 104]⟩, .string ⟨#[75, 105, 99, 107, 115]⟩, .string ⟨#[83, 112, 105, 108, 108]⟩, .string ⟨#[80, 111, 108, 105, 99, 121]⟩] 9)).alloc (.cells #[.int .i64 1, .int .i64 1, .int .i64 1, .int .i64 1, .int .i64 0] 3)).alloc (.cells #[.int .i64 64, .int .i64 16, .int .i64 16, .int .i64 32, .int .i64 2] 3)) = w5 := ⟨_, rfl⟩
  have bN : Box w5 q 9 #[.string ⟨#[67, 97, 112, 97, 99, 105, 116, 121]⟩, .string ⟨#[66, 97, 116, 99, 104]⟩, .string ⟨#[75, 105, 99, 107, 115]⟩, .string ⟨#[83, 112, 105, 108, 108]⟩, .string ⟨#[80, 111, 108, 105, 99, 121]⟩] := by rw [← hw5, ← hq]; exact (b1.alloc _).alloc _
  have bL : Box w5 (q + 1) 3 #[.int .i64 1, .int .i64 1, .int .i64 1, .int .i64 1, .int .i64 0] := by
    have h := b2.alloc (.cells #[.int .i64 64, .int .i64 16, .int .i64 16, .int .i64 32, .int .i64 2] 3)
    rw [hw5, World.size_alloc, hq] at h
    exact h
  have bM : Box w5 (q + 2) 3 #[.int .i64 64, .int .i64 16, .int .i64 16, .int .i64 32, .int .i64 2] := by
    have h := b3
    rw [hw5, World.size_alloc, World.size_alloc, hq] at h
    exact h
  have hE5 : Below w4.heap.size w4 w5 := by rw [← hw5]; exact (((Below.refl _ w4).alloc (Nat.le_refl _) _).alloc (by simp) _).alloc (by simp; omega) _
  have HB5 := Lib.hid (HB4.out.trans (hE5.mono HB4.out.size))
  have HG5 := Lib.hid (HG4.out.below hE5)
  have HX5 := Lib.hid (HX4.out.of (hE5.block _ HX4.out.lt))
  have HN5 := Lib.hid bN
  have l1 := bL.cell 0
  have l2 := bL.cell 3
  have m1 := bM.cell 0
  have m2 := bM.cell 3
  simp at l1 l2 m1 m2
  have e2 : q + 1 + 1 = q + 2 := rfl
  simp only [hq, hw5, e2]
  clear hq hw5 b1 b2 b3 bN bL bM hE5 HB4 HG4 HX4 e2
  by_cases ha : 1 ≤ a ∧ a ≤ 64
  · obtain ⟨a1, a2⟩ := ha
    go_wp2_with fail
    go_ret
    exact ⟨rfl, HB5.out⟩
  by_cases hb : 1 ≤ b ∧ b ≤ 32
  · obtain ⟨b1, b2⟩ := hb
    rcases (by omega : a < 1 ∨ 64 < a) with h | h
    · clear ha
      go_wp2_with fail
      go_ret
      exact ⟨rfl, HB5.out⟩
    · clear ha
      have h' : 1 ≤ a := by omega
      go_wp2_with fail
      go_ret
      exact ⟨rfl, HB5.out⟩
  rcases (by omega : a < 1 ∨ (1 ≤ a ∧ 64 < a)) with h | ⟨h, h'⟩
  · rcases (by omega : b < 1 ∨ (1 ≤ b ∧ 32 < b)) with g | ⟨g, g'⟩
    · have HWA := Lib.hid (HWa.out ha)
      have HWB := Lib.hid (HWb.out ha)
      have HWC := Lib.hid (HWc.out hb)
      clear HWa HWb HWc HW0
      clear ha hb
      have k0 := HX5.out.cell 0
      have k1 := HX5.out.cell 1
      have k2 := HX5.out.cell 2
      have k3 := HX5.out.cell 3
      have k4 := HX5.out.cell 4
      have k5 := HX5.out.cell 5
      have k6 := HX5.out.cell 6
      have k7 := HX5.out.cell 7
      have k8 := HX5.out.cell 8
      go_wp2_with fail
      refine (HSa.out _).mono ?_
      rintro e w6 ⟨rfl, hb6⟩
      have HB6 := Lib.hid (HB5.out.trans (hb6.mono HB5.out.size))
      have HG6 := Lib.hid (HG5.out.below hb6)
      have HX6 := Lib.hid (HX5.out.of (hb6.block _ HX5.out.lt))
      have HN6 := Lib.hid (HN5.out.of (hb6.block _ HN5.out.lt))
      clear hb6 HB5 HG5 HX5 HN5 k0 k1 k2 k3 k4 k5 k6 k7 k8
      go_wp2_with fail
      refine (HWA.out _ HG6.out).mono ?_
      rintro e w7 ⟨rfl, hb7⟩
      have HB7 := Lib.hid (HB6.out.trans (hb7.mono HB6.out.size))
      have HG7 := Lib.hid (HG6.out.below hb7)
      have HX7 := Lib.hid (HX6.out.of (hb7.block _ HX6.out.lt))
      have HN7 := Lib.hid (HN6.out.of (hb7.block _ HN6.out.lt))
      clear hb7 HB6 HG6 HX6 HN6
      have k0 := HX7.out.cell 0
      have k1 := HX7.out.cell 1
      have k2 := HX7.out.cell 2
      have k3 := HX7.out.cell 3
      have k4 := HX7.out.cell 4
      have k5 := HX7.out.cell 5
      have k6 := HX7.out.cell 6
      have k7 := HX7.out.cell 7
      have k8 := HX7.out.cell 8
      go_wp2_with fail
      refine (HSa.out _).mono ?_
      rintro e w8 ⟨rfl, hb8⟩
      have HB8 := Lib.hid (HB7.out.trans (hb8.mono HB7.out.size))
      have HG8 := Lib.hid (HG7.out.below hb8)
      have HX8 := Lib.hid (HX7.out.of (hb8.block _ HX7.out.lt))
      have HN8 := Lib.hid (HN7.out.of (hb8.block _ HN7.out.lt))
      clear hb8 HB7 HG7 HX7 HN7 k0 k1 k2 k3 k4 k5 k6 k7 k8
      go_wp2_with fail
      refine (HSb.out _).mono ?_
      rintro e w9 ⟨rfl, hb9⟩
      have HB9 := Lib.hid (HB8.out.trans (hb9.mono HB8.out.size))
      have HG9 := Lib.hid (HG8.out.below hb9)
      have HX9 := Lib.hid (HX8.out.of (hb9.block _ HX8.out.lt))
      have HN9 := Lib.hid (HN8.out.of (hb9.block _ HN8.out.lt))
      clear hb9 HB8 HG8 HX8 HN8
      go_wp2_with fail
      refine (HWB.out _ HG9.out).mono ?_
      rintro e w10 ⟨rfl, hb10⟩
      have HB10 := Lib.hid (HB9.out.trans (hb10.mono HB9.out.size))
      have HG10 := Lib.hid (HG9.out.below hb10)
      have HX10 := Lib.hid (HX9.out.of (hb10.block _ HX9.out.lt))
      have HN10 := Lib.hid (HN9.out.of (hb10.block _ HN9.out.lt))
      clear hb10 HB9 HG9 HX9 HN9
      have k0 := HX10.out.cell 0
      have k1 := HX10.out.cell 1
      have k2 := HX10.out.cell 2
      have k3 := HX10.out.cell 3
      have k4 := HX10.out.cell 4
      have k5 := HX10.out.cell 5
      have k6 := HX10.out.cell 6
      have k7 := HX10.out.cell 7
      have k8 := HX10.out.cell 8
      go_wp2_with fail
      refine (HSc.out _).mono ?_
      rintro e w11 ⟨rfl, hb11⟩
      have HB11 := Lib.hid (HB10.out.trans (hb11.mono HB10.out.size))
      have HG11 := Lib.hid (HG10.out.below hb11)
      have HX11 := Lib.hid (HX10.out.of (hb11.block _ HX10.out.lt))
      have HN11 := Lib.hid (HN10.out.of (hb11.block _ HN10.out.lt))
      clear hb11 HB10 HG10 HX10 HN10 k0 k1 k2 k3 k4 k5 k6 k7 k8
      go_wp2_with fail
      refine (HWC.out _ HG11.out).mono ?_
      rintro e w12 ⟨rfl, hb12⟩
      have HB12 := Lib.hid (HB11.out.trans (hb12.mono HB11.out.size))
      have HG12 := Lib.hid (HG11.out.below hb12)
      have HX12 := Lib.hid (HX11.out.of (hb12.block _ HX11.out.lt))
      have HN12 := Lib.hid (HN11.out.of (hb12.block _ HN11.out.lt))
      clear hb12 HB11 HG11 HX11 HN11
      have n1 := HN12.out.cell 0
      have n2 := HN12.out.cell 3
      simp at n1 n2
      go_wp2_with fail
      go_ret
      exact ⟨rfl, HB12.out⟩
    · have HWA := Lib.hid (HWa.out ha)
      have HWB := Lib.hid (HWb.out ha)
      have HWC := Lib.hid (HWc.out hb)
      clear HWa HWb HWc HW0
      clear ha hb
      have k0 := HX5.out.cell 0
      have k1 := HX5.out.cell 1
      have k2 := HX5.out.cell 2
      have k3 := HX5.out.cell 3
      have k4 := HX5.out.cell 4
      have k5 := HX5.out.cell 5
      have k6 := HX5.out.cell 6
      have k7 := HX5.out.cell 7
      have k8 := HX5.out.cell 8
      go_wp2_with fail
      refine (HSa.out _).mono ?_
      rintro e w6 ⟨rfl, hb6⟩
      have HB6 := Lib.hid (HB5.out.trans (hb6.mono HB5.out.size))
      have HG6 := Lib.hid (HG5.out.below hb6)
      have HX6 := Lib.hid (HX5.out.of (hb6.block _ HX5.out.lt))
      have HN6 := Lib.hid (HN5.out.of (hb6.block _ HN5.out.lt))
      clear hb6 HB5 HG5 HX5 HN5 k0 k1 k2 k3 k4 k5 k6 k7 k8
      go_wp2_with fail
      refine (HWA.out _ HG6.out).mono ?_
      rintro e w7 ⟨rfl, hb7⟩
      have HB7 := Lib.hid (HB6.out.trans (hb7.mono HB6.out.size))
      have HG7 := Lib.hid (HG6.out.below hb7)
      have HX7 := Lib.hid (HX6.out.of (hb7.block _ HX6.out.lt))
      have HN7 := Lib.hid (HN6.out.of (hb7.block _ HN6.out.lt))
      clear hb7 HB6 HG6 HX6 HN6
      have k0 := HX7.out.cell 0
      have k1 := HX7.out.cell 1
      have k2 := HX7.out.cell 2
      have k3 := HX7.out.cell 3
      have k4 := HX7.out.cell 4
      have k5 := HX7.out.cell 5
      have k6 := HX7.out.cell 6
      have k7 := HX7.out.cell 7
      have k8 := HX7.out.cell 8
      go_wp2_with fail
      refine (HSa.out _).mono ?_
      rintro e w8 ⟨rfl, hb8⟩
      have HB8 := Lib.hid (HB7.out.trans (hb8.mono HB7.out.size))
      have HG8 := Lib.hid (HG7.out.below hb8)
      have HX8 := Lib.hid (HX7.out.of (hb8.block _ HX7.out.lt))
      have HN8 := Lib.hid (HN7.out.of (hb8.block _ HN7.out.lt))
      clear hb8 HB7 HG7 HX7 HN7 k0 k1 k2 k3 k4 k5 k6 k7 k8
      go_wp2_with fail
      refine (HSb.out _).mono ?_
      rintro e w9 ⟨rfl, hb9⟩
      have HB9 := Lib.hid (HB8.out.trans (hb9.mono HB8.out.size))
      have HG9 := Lib.hid (HG8.out.below hb9)
      have HX9 := Lib.hid (HX8.out.of (hb9.block _ HX8.out.lt))
      have HN9 := Lib.hid (HN8.out.of (hb9.block _ HN8.out.lt))
      clear hb9 HB8 HG8 HX8 HN8
      go_wp2_with fail
      refine (HWB.out _ HG9.out).mono ?_
      rintro e w10 ⟨rfl, hb10⟩
      have HB10 := Lib.hid (HB9.out.trans (hb10.mono HB9.out.size))
      have HG10 := Lib.hid (HG9.out.below hb10)
      have HX10 := Lib.hid (HX9.out.of (hb10.block _ HX9.out.lt))
      have HN10 := Lib.hid (HN9.out.of (hb10.block _ HN9.out.lt))
      clear hb10 HB9 HG9 HX9 HN9
      have k0 := HX10.out.cell 0
      have k1 := HX10.out.cell 1
      have k2 := HX10.out.cell 2
      have k3 := HX10.out.cell 3
      have k4 := HX10.out.cell 4
      have k5 := HX10.out.cell 5
      have k6 := HX10.out.cell 6
      have k7 := HX10.out.cell 7
      have k8 := HX10.out.cell 8
      go_wp2_with fail
      refine (HSc.out _).mono ?_
      rintro e w11 ⟨rfl, hb11⟩
      have HB11 := Lib.hid (HB10.out.trans (hb11.mono HB10.out.size))
      have HG11 := Lib.hid (HG10.out.below hb11)
      have HX11 := Lib.hid (HX10.out.of (hb11.block _ HX10.out.lt))
      have HN11 := Lib.hid (HN10.out.of (hb11.block _ HN10.out.lt))
      clear hb11 HB10 HG10 HX10 HN10 k0 k1 k2 k3 k4 k5 k6 k7 k8
      go_wp2_with fail
      refine (HWC.out _ HG11.out).mono ?_
      rintro e w12 ⟨rfl, hb12⟩
      have HB12 := Lib.hid (HB11.out.trans (hb12.mono HB11.out.size))
      have HG12 := Lib.hid (HG11.out.below hb12)
      have HX12 := Lib.hid (HX11.out.of (hb12.block _ HX11.out.lt))
      have HN12 := Lib.hid (HN11.out.of (hb12.block _ HN11.out.lt))
      clear hb12 HB11 HG11 HX11 HN11
      have n1 := HN12.out.cell 0
      have n2 := HN12.out.cell 3
      simp at n1 n2
      go_wp2_with fail
      go_ret
      exact ⟨rfl, HB12.out⟩
  · rcases (by omega : b < 1 ∨ (1 ≤ b ∧ 32 < b)) with g | ⟨g, g'⟩
    · have HWA := Lib.hid (HWa.out ha)
      have HWB := Lib.hid (HWb.out ha)
      have HWC := Lib.hid (HWc.out hb)
      clear HWa HWb HWc HW0
      clear ha hb
      have k0 := HX5.out.cell 0
      have k1 := HX5.out.cell 1
      have k2 := HX5.out.cell 2
      have k3 := HX5.out.cell 3
      have k4 := HX5.out.cell 4
      have k5 := HX5.out.cell 5
      have k6 := HX5.out.cell 6
      have k7 := HX5.out.cell 7
      have k8 := HX5.out.cell 8
      go_wp2_with fail
      refine (HSa.out _).mono ?_
      rintro e w6 ⟨rfl, hb6⟩
      have HB6 := Lib.hid (HB5.out.trans (hb6.mono HB5.out.size))
      have HG6 := Lib.hid (HG5.out.below hb6)
      have HX6 := Lib.hid (HX5.out.of (hb6.block _ HX5.out.lt))
      have HN6 := Lib.hid (HN5.out.of (hb6.block _ HN5.out.lt))
      clear hb6 HB5 HG5 HX5 HN5 k0 k1 k2 k3 k4 k5 k6 k7 k8
      go_wp2_with fail
      refine (HWA.out _ HG6.out).mono ?_
      rintro e w7 ⟨rfl, hb7⟩
      have HB7 := Lib.hid (HB6.out.trans (hb7.mono HB6.out.size))
      have HG7 := Lib.hid (HG6.out.below hb7)
      have HX7 := Lib.hid (HX6.out.of (hb7.block _ HX6.out.lt))
      have HN7 := Lib.hid (HN6.out.of (hb7.block _ HN6.out.lt))
      clear hb7 HB6 HG6 HX6 HN6
      have k0 := HX7.out.cell 0
      have k1 := HX7.out.cell 1
      have k2 := HX7.out.cell 2
      have k3 := HX7.out.cell 3
      have k4 := HX7.out.cell 4
      have k5 := HX7.out.cell 5
      have k6 := HX7.out.cell 6
      have k7 := HX7.out.cell 7
      have k8 := HX7.out.cell 8
      go_wp2_with fail
      refine (HSa.out _).mono ?_
      rintro e w8 ⟨rfl, hb8⟩
      have HB8 := Lib.hid (HB7.out.trans (hb8.mono HB7.out.size))
      have HG8 := Lib.hid (HG7.out.below hb8)
      have HX8 := Lib.hid (HX7.out.of (hb8.block _ HX7.out.lt))
      have HN8 := Lib.hid (HN7.out.of (hb8.block _ HN7.out.lt))
      clear hb8 HB7 HG7 HX7 HN7 k0 k1 k2 k3 k4 k5 k6 k7 k8
      go_wp2_with fail
      refine (HSb.out _).mono ?_
      rintro e w9 ⟨rfl, hb9⟩
      have HB9 := Lib.hid (HB8.out.trans (hb9.mono HB8.out.size))
      have HG9 := Lib.hid (HG8.out.below hb9)
      have HX9 := Lib.hid (HX8.out.of (hb9.block _ HX8.out.lt))
      have HN9 := Lib.hid (HN8.out.of (hb9.block _ HN8.out.lt))
      clear hb9 HB8 HG8 HX8 HN8
      go_wp2_with fail
      refine (HWB.out _ HG9.out).mono ?_
      rintro e w10 ⟨rfl, hb10⟩
      have HB10 := Lib.hid (HB9.out.trans (hb10.mono HB9.out.size))
      have HG10 := Lib.hid (HG9.out.below hb10)
      have HX10 := Lib.hid (HX9.out.of (hb10.block _ HX9.out.lt))
      have HN10 := Lib.hid (HN9.out.of (hb10.block _ HN9.out.lt))
      clear hb10 HB9 HG9 HX9 HN9
      have k0 := HX10.out.cell 0
      have k1 := HX10.out.cell 1
      have k2 := HX10.out.cell 2
      have k3 := HX10.out.cell 3
      have k4 := HX10.out.cell 4
      have k5 := HX10.out.cell 5
      have k6 := HX10.out.cell 6
      have k7 := HX10.out.cell 7
      have k8 := HX10.out.cell 8
      go_wp2_with fail
      refine (HSc.out _).mono ?_
      rintro e w11 ⟨rfl, hb11⟩
      have HB11 := Lib.hid (HB10.out.trans (hb11.mono HB10.out.size))
      have HG11 := Lib.hid (HG10.out.below hb11)
      have HX11 := Lib.hid (HX10.out.of (hb11.block _ HX10.out.lt))
      have HN11 := Lib.hid (HN10.out.of (hb11.block _ HN10.out.lt))
      clear hb11 HB10 HG10 HX10 HN10 k0 k1 k2 k3 k4 k5 k6 k7 k8
      go_wp2_with fail
      refine (HWC.out _ HG11.out).mono ?_
      rintro e w12 ⟨rfl, hb12⟩
      have HB12 := Lib.hid (HB11.out.trans (hb12.mono HB11.out.size))
      have HG12 := Lib.hid (HG11.out.below hb12)
      have HX12 := Lib.hid (HX11.out.of (hb12.block _ HX11.out.lt))
      have HN12 := Lib.hid (HN11.out.of (hb12.block _ HN11.out.lt))
      clear hb12 HB11 HG11 HX11 HN11
      have n1 := HN12.out.cell 0
      have n2 := HN12.out.cell 3
      simp at n1 n2
      go_wp2_with fail
      go_ret
      exact ⟨rfl, HB12.out⟩
    · have HWA := Lib.hid (HWa.out ha)
      have HWB := Lib.hid (HWb.out ha)
      have HWC := Lib.hid (HWc.out hb)
      clear HWa HWb HWc HW0
      clear ha hb
      have k0 := HX5.out.cell 0
      have k1 := HX5.out.cell 1
      have k2 := HX5.out.cell 2
      have k3 := HX5.out.cell 3
      have k4 := HX5.out.cell 4
      have k5 := HX5.out.cell 5
      have k6 := HX5.out.cell 6
      have k7 := HX5.out.cell 7
      have k8 := HX5.out.cell 8
      go_wp2_with fail
      refine (HSa.out _).mono ?_
      rintro e w6 ⟨rfl, hb6⟩
      have HB6 := Lib.hid (HB5.out.trans (hb6.mono HB5.out.size))
      have HG6 := Lib.hid (HG5.out.below hb6)
      have HX6 := Lib.hid (HX5.out.of (hb6.block _ HX5.out.lt))
      have HN6 := Lib.hid (HN5.out.of (hb6.block _ HN5.out.lt))
      clear hb6 HB5 HG5 HX5 HN5 k0 k1 k2 k3 k4 k5 k6 k7 k8
      go_wp2_with fail
      refine (HWA.out _ HG6.out).mono ?_
      rintro e w7 ⟨rfl, hb7⟩
      have HB7 := Lib.hid (HB6.out.trans (hb7.mono HB6.out.size))
      have HG7 := Lib.hid (HG6.out.below hb7)
      have HX7 := Lib.hid (HX6.out.of (hb7.block _ HX6.out.lt))
      have HN7 := Lib.hid (HN6.out.of (hb7.block _ HN6.out.lt))
      clear hb7 HB6 HG6 HX6 HN6
      have k0 := HX7.out.cell 0
      have k1 := HX7.out.cell 1
      have k2 := HX7.out.cell 2
      have k3 := HX7.out.cell 3
      have k4 := HX7.out.cell 4
      have k5 := HX7.out.cell 5
      have k6 := HX7.out.cell 6
      have k7 := HX7.out.cell 7
      have k8 := HX7.out.cell 8
      go_wp2_with fail
      refine (HSa.out _).mono ?_
      rintro e w8 ⟨rfl, hb8⟩
      have HB8 := Lib.hid (HB7.out.trans (hb8.mono HB7.out.size))
      have HG8 := Lib.hid (HG7.out.below hb8)
      have HX8 := Lib.hid (HX7.out.of (hb8.block _ HX7.out.lt))
      have HN8 := Lib.hid (HN7.out.of (hb8.block _ HN7.out.lt))
      clear hb8 HB7 HG7 HX7 HN7 k0 k1 k2 k3 k4 k5 k6 k7 k8
      go_wp2_with fail
      refine (HSb.out _).mono ?_
      rintro e w9 ⟨rfl, hb9⟩
      have HB9 := Lib.hid (HB8.out.trans (hb9.mono HB8.out.size))
      have HG9 := Lib.hid (HG8.out.below hb9)
      have HX9 := Lib.hid (HX8.out.of (hb9.block _ HX8.out.lt))
      have HN9 := Lib.hid (HN8.out.of (hb9.block _ HN8.out.lt))
      clear hb9 HB8 HG8 HX8 HN8
      go_wp2_with fail
      refine (HWB.out _ HG9.out).mono ?_
      rintro e w10 ⟨rfl, hb10⟩
      have HB10 := Lib.hid (HB9.out.trans (hb10.mono HB9.out.size))
      have HG10 := Lib.hid (HG9.out.below hb10)
      have HX10 := Lib.hid (HX9.out.of (hb10.block _ HX9.out.lt))
      have HN10 := Lib.hid (HN9.out.of (hb10.block _ HN9.out.lt))
      clear hb10 HB9 HG9 HX9 HN9
      have k0 := HX10.out.cell 0
      have k1 := HX10.out.cell 1
      have k2 := HX10.out.cell 2
      have k3 := HX10.out.cell 3
      have k4 := HX10.out.cell 4
      have k5 := HX10.out.cell 5
      have k6 := HX10.out.cell 6
      have k7 := HX10.out.cell 7
      have k8 := HX10.out.cell 8
      go_wp2_with fail
      refine (HSc.out _).mono ?_
      rintro e w11 ⟨rfl, hb11⟩
      have HB11 := Lib.hid (HB10.out.trans (hb11.mono HB10.out.size))
      have HG11 := Lib.hid (HG10.out.below hb11)
      have HX11 := Lib.hid (HX10.out.of (hb11.block _ HX10.out.lt))
      have HN11 := Lib.hid (HN10.out.of (hb11.block _ HN10.out.lt))
      clear hb11 HB10 HG10 HX10 HN10 k0 k1 k2 k3 k4 k5 k6 k7 k8
      go_wp2_with fail
      refine (HWC.out _ HG11.out).mono ?_
      rintro e w12 ⟨rfl, hb12⟩
      have HB12 := Lib.hid (HB11.out.trans (hb12.mono HB11.out.size))
      have HG12 := Lib.hid (HG11.out.below hb12)
      have HX12 := Lib.hid (HX11.out.of (hb12.block _ HX11.out.lt))
      have HN12 := Lib.hid (HN11.out.of (hb12.block _ HN11.out.lt))
      clear hb12 HB11 HG11 HX11 HN11
      have n1 := HN12.out.cell 0
      have n2 := HN12.out.cell 3
      simp at n1 n2
      go_wp2_with fail
      go_ret
      exact ⟨rfl, HB12.out⟩
set_option maxRecDepth 100000 in
set_option maxHeartbeats 2000000 in
theorem first_04 (A B K P T S H V O a b : Int) (w : World) (hT : Rg T) (hF : Fst ⟨A, B, K, P, T, S, H, V, O⟩ 7) (hg : ErrType w) : Calls Tryd.prog 5 #[.agg #[.int .i64 A, .int .i64 B, .int .i64 K, .int .i64 P, .int .i64 T, .int .i64 S, .int .i64 H, .int .i64 V, .int .i64 O], .int .i64 0, .int .i64 4, .int .i64 a, .int .i64 b] w fun e w' => e = .returned (.bool true) ∧ Below w.heap.size w w' := by
  obtain ⟨hA, hB, hK, hP, hO, _, _, _, _, _⟩ := hF.okC
  dsimp only at hA hB hK hP hO
  have HW0 := Lib.hid (fun W hg => why_F (i := 7) (nm := ⟨#[]⟩) (c := ⟨A, B, K, P, T, S, H, V, O⟩) (E := 0) hT hF rfl rfl W hg)
  have HWa : Hid (¬ (1 ≤ a ∧ a ≤ 64) → ∀ W, ErrType W → Calls Tryd.prog 10 #[.agg #[.int .i64 a, .int .i64 B, .int .i64 K, .int .i64 P, .int .i64 T, .int .i64 S, .int .i64 H, .int .i64 V, .int .i64 O]] W fun e w' => e = .returned (.tuple #[.string ⟨#[67, 97, 112, 97, 99, 105, 116, 121]⟩, .int .i64 2]) ∧ Below W.heap.size W w') := Lib.hid (fun ha W hg => by
    have hb : wtE a 1 64 ≠ 0 := fun e => ha (wtE_zero.1 e)
    exact why_F (i := 0) (nm := ⟨#[67, 97, 112, 97, 99, 105, 116, 121]⟩) (c := (⟨a, B, K, P, T, S, H, V, O⟩ : Cfg)) (E := 2) hT ⟨by decide, fun j hj => absurd hj (by omega), fun _ => hb⟩ rfl (wtE_two hb) W hg)
  have HWb : Hid (¬ (1 ≤ a ∧ a ≤ 64) → ∀ W, ErrType W → Calls Tryd.prog 10 #[.agg #[.int .i64 a, .int .i64 B, .int .i64 K, .int .i64 P, .int .i64 T, .int .i64 S, .int .i64 H, .int .i64 V, .int .i64 b]] W fun e w' => e = .returned (.tuple #[.string ⟨#[67, 97, 112, 97, 99, 105, 116, 121]⟩, .int .i64 2]) ∧ Below W.heap.size W w') := Lib.hid (fun ha W hg => by
    have hb : wtE a 1 64 ≠ 0 := fun e => ha (wtE_zero.1 e)
    exact why_F (i := 0) (nm := ⟨#[67, 97, 112, 97, 99, 105, 116, 121]⟩) (c := (⟨a, B, K, P, T, S, H, V, b⟩ : Cfg)) (E := 2) hT ⟨by decide, fun j hj => absurd hj (by omega), fun _ => hb⟩ rfl (wtE_two hb) W hg)
  have HWc : Hid (¬ (0 ≤ b ∧ b ≤ 2) → ∀ W, ErrType W → Calls Tryd.prog 10 #[.agg #[.int .i64 A, .int .i64 B, .int .i64 K, .int .i64 P, .int .i64 T, .int .i64 S, .int .i64 H, .int .i64 V, .int .i64 b]] W fun e w' => e = .returned (.tuple #[.string ⟨#[80, 111, 108, 105, 99, 121]⟩, .int .i64 2]) ∧ Below W.heap.size W w') := Lib.hid (fun ha W hg => by
    have hb : wtE b 0 2 ≠ 0 := fun e => ha (wtE_zero.1 e)
    exact why_F (i := 4) (nm := ⟨#[80, 111, 108, 105, 99, 121]⟩) (c := (⟨A, B, K, P, T, S, H, V, b⟩ : Cfg)) (E := 2) hT ⟨by decide, fun j hj => by
      match j, hj with
      | 0, _ => exact (wtE_zero.2 hA)
      | 1, _ => exact (wtE_zero.2 hB)
      | 2, _ => exact (wtE_zero.2 hK)
      | 3, _ => exact (wtE_zero.2 hP)
, fun _ => hb⟩ rfl (wtE_two hb) W hg)
  have HSa := Lib.hid (fun W => set_0 A B K P T S H V O a W)
  have HSb := Lib.hid (fun W => set_4 a B K P T S H V O b W)
  have HSc := Lib.hid (fun W => set_4 A B K P T S H V O b W)
  have HG0 := Lib.hid hg
  clear hg hF hT hA hB hK hP hO
  obtain ⟨p, hp⟩ : ∃ p, w.heap.size = p := ⟨_, rfl⟩
  obtain ⟨w2, hw2⟩ : ∃ w2, w.alloc (.cells #[.int .i64 A, .int .i64 B, .int .i64 K, .int .i64 P, .int .i64 T, .int .i64 S, .int .i64 H, .int .i64 V, .int .i64 O] 23) = w2 := ⟨_, rfl⟩
  have hx : Box w2 p 23 #[.int .i64 A, .int .i64 B, .int .i64 K, .int .i64 P, .int .i64 T, .int .i64 S, .int .i64 H, .int .i64 V, .int .i64 O] := by rw [← hw2, ← hp]; exact Box.new w _ _
  have HB := Lib.hid (show Below w.heap.size w w2 by rw [← hw2]; exact (Below.refl _ w).alloc (Nat.le_refl _) _)
  have HX := Lib.hid hx
  have HPP := Lib.hid hp
  have HWW := Lib.hid hw2
  have k0 := hx.cell 0
  have k1 := hx.cell 1
  have k2 := hx.cell 2
  have k3 := hx.cell 3
  have k4 := hx.cell 4
  have k5 := hx.cell 5
  have k6 := hx.cell 6
  have k7 := hx.cell 7
  have k8 := hx.cell 8
  clear hx hp hw2
  have HG := Lib.hid (HG0.out.below (show Below w.heap.size w w2 from HB.out))
  go_enter Tryd.func5, Tryd.ntmps5
  go_upto_region 1 with fail
  rw [HPP.out, HWW.out]
  go_wp2_with fail
  refine (shown_any _ HG.out).mono ?_
  rintro e w3 ⟨rfl, hb3⟩
  have HG3 := Lib.hid (HG.out.below hb3)
  have HB3 := Lib.hid (HB.out.trans (hb3.mono HB.out.size))
  have HX3 := Lib.hid (HX.out.of (hb3.block _ HX.out.lt))
  clear hb3 HG HB HX HWW k0 k1 k2 k3 k4 k5 k6 k7 k8
  have k0 := HX3.out.cell 0
  have k1 := HX3.out.cell 1
  have k2 := HX3.out.cell 2
  have k3 := HX3.out.cell 3
  have k4 := HX3.out.cell 4
  have k5 := HX3.out.cell 5
  have k6 := HX3.out.cell 6
  have k7 := HX3.out.cell 7
  have k8 := HX3.out.cell 8
  go_wp2_with fail
  refine (HW0.out _ HG3.out).mono ?_
  rintro e w4 ⟨rfl, hb4⟩
  have HG4 := Lib.hid (HG3.out.below hb4)
  have HB4 := Lib.hid (HB3.out.trans (hb4.mono HB3.out.size))
  have HX4 := Lib.hid (HX3.out.of (hb4.block _ HX3.out.lt))
  clear hb4 HG3 HB3 HX3 k0 k1 k2 k3 k4 k5 k6 k7 k8
  go_upto_region 8 with fail
  obtain ⟨q, hq⟩ : ∃ q, w4.heap.size = q := ⟨_, rfl⟩
  have b1 := Box.new w4 9 #[.string ⟨#[67, 97, 112, 97, 99, 105, 116, 121]⟩, .string ⟨#[66, 97, 116, 99, 104]⟩, .string ⟨#[75, 105, 99, 107, 115]⟩, .string ⟨#[83, 112, 105, 108, 108]⟩, .string ⟨#[80, 111, 108, 105, 99, 121]⟩]
  have b2 := Box.new (w4.alloc (.cells #[.string ⟨#[67, 97, 112, 97, 99, 105, 116, 121]⟩, .string ⟨#[66, 97, 116, 99, 104]⟩, .string ⟨#[75, 105, 99, 107, 115]⟩, .string ⟨#[83, 112, 105, 108, 108]⟩, .string ⟨#[80, 111, 108, 105, 99, 121]⟩] 9)) 3 #[.int .i64 1, .int .i64 1, .int .i64 1, .int .i64 1, .int .i64 0]
  have b3 := Box.new ((w4.alloc (.cells #[.string ⟨#[67, 97, 112, 97, 99, 105, 116, 121]⟩, .string ⟨#[66, 97, 116, 99, 104]⟩, .string ⟨#[75, 105, 99, 107, 115]⟩, .string ⟨#[83, 112, 105, 108, 108]⟩, .string ⟨#[80, 111, 108, 105, 99, 121]⟩] 9)).alloc (.cells #[.int .i64 1, .int .i64 1, .int .i64 1, .int .i64 1, .int .i64 0] 3)) 3 #[.int .i64 64, .int .i64 16, .int .i64 16, .int .i64 32, .int .i64 2]
  obtain ⟨w5, hw5⟩ : ∃ w5, (((w4.alloc (.cells #[.string ⟨#[67, 97, 112, 97, 99, 105, 116, 121]⟩, .string ⟨#[66, 97, 116, 99, 104]⟩, .string ⟨#[75, 105, 99, 107, 115]⟩, .string ⟨#[83, 112, 105, 108, 108]⟩, .string ⟨#[80, 111, 108, 105, 99, 121]⟩] 9)).alloc (.cells #[.int .i64 1, .int .i64 1, .int .i64 1, .int .i64 1, .int .i64 0] 3)).alloc (.cells #[.int .i64 64, .int .i64 16, .int .i64 16, .int .i64 32, .int .i64 2] 3)) = w5 := ⟨_, rfl⟩
  have bN : Box w5 q 9 #[.string ⟨#[67, 97, 112, 97, 99, 105, 116, 121]⟩, .string ⟨#[66, 97, 116, 99, 104]⟩, .string ⟨#[75, 105, 99, 107, 115]⟩, .string ⟨#[83, 112, 105, 108, 108]⟩, .string ⟨#[80, 111, 108, 105, 99, 121]⟩] := by rw [← hw5, ← hq]; exact (b1.alloc _).alloc _
  have bL : Box w5 (q + 1) 3 #[.int .i64 1, .int .i64 1, .int .i64 1, .int .i64 1, .int .i64 0] := by
    have h := b2.alloc (.cells #[.int .i64 64, .int .i64 16, .int .i64 16, .int .i64 32, .int .i64 2] 3)
    rw [hw5, World.size_alloc, hq] at h
    exact h
  have bM : Box w5 (q + 2) 3 #[.int .i64 64, .int .i64 16, .int .i64 16, .int .i64 32, .int .i64 2] := by
    have h := b3
    rw [hw5, World.size_alloc, World.size_alloc, hq] at h
    exact h
  have hE5 : Below w4.heap.size w4 w5 := by rw [← hw5]; exact (((Below.refl _ w4).alloc (Nat.le_refl _) _).alloc (by simp) _).alloc (by simp; omega) _
  have HB5 := Lib.hid (HB4.out.trans (hE5.mono HB4.out.size))
  have HG5 := Lib.hid (HG4.out.below hE5)
  have HX5 := Lib.hid (HX4.out.of (hE5.block _ HX4.out.lt))
  have HN5 := Lib.hid bN
  have l1 := bL.cell 0
  have l2 := bL.cell 4
  have m1 := bM.cell 0
  have m2 := bM.cell 4
  simp at l1 l2 m1 m2
  have e2 : q + 1 + 1 = q + 2 := rfl
  simp only [hq, hw5, e2]
  clear hq hw5 b1 b2 b3 bN bL bM hE5 HB4 HG4 HX4 e2
  by_cases ha : 1 ≤ a ∧ a ≤ 64
  · obtain ⟨a1, a2⟩ := ha
    go_wp2_with fail
    go_ret
    exact ⟨rfl, HB5.out⟩
  by_cases hb : 0 ≤ b ∧ b ≤ 2
  · obtain ⟨b1, b2⟩ := hb
    rcases (by omega : a < 1 ∨ 64 < a) with h | h
    · clear ha
      go_wp2_with fail
      go_ret
      exact ⟨rfl, HB5.out⟩
    · clear ha
      have h' : 1 ≤ a := by omega
      go_wp2_with fail
      go_ret
      exact ⟨rfl, HB5.out⟩
  rcases (by omega : a < 1 ∨ (1 ≤ a ∧ 64 < a)) with h | ⟨h, h'⟩
  · rcases (by omega : b < 0 ∨ (0 ≤ b ∧ 2 < b)) with g | ⟨g, g'⟩
    · have HWA := Lib.hid (HWa.out ha)
      have HWB := Lib.hid (HWb.out ha)
      have HWC := Lib.hid (HWc.out hb)
      clear HWa HWb HWc HW0
      clear ha hb
      have k0 := HX5.out.cell 0
      have k1 := HX5.out.cell 1
      have k2 := HX5.out.cell 2
      have k3 := HX5.out.cell 3
      have k4 := HX5.out.cell 4
      have k5 := HX5.out.cell 5
      have k6 := HX5.out.cell 6
      have k7 := HX5.out.cell 7
      have k8 := HX5.out.cell 8
      go_wp2_with fail
      refine (HSa.out _).mono ?_
      rintro e w6 ⟨rfl, hb6⟩
      have HB6 := Lib.hid (HB5.out.trans (hb6.mono HB5.out.size))
      have HG6 := Lib.hid (HG5.out.below hb6)
      have HX6 := Lib.hid (HX5.out.of (hb6.block _ HX5.out.lt))
      have HN6 := Lib.hid (HN5.out.of (hb6.block _ HN5.out.lt))
      clear hb6 HB5 HG5 HX5 HN5 k0 k1 k2 k3 k4 k5 k6 k7 k8
      go_wp2_with fail
      refine (HWA.out _ HG6.out).mono ?_
      rintro e w7 ⟨rfl, hb7⟩
      have HB7 := Lib.hid (HB6.out.trans (hb7.mono HB6.out.size))
      have HG7 := Lib.hid (HG6.out.below hb7)
      have HX7 := Lib.hid (HX6.out.of (hb7.block _ HX6.out.lt))
      have HN7 := Lib.hid (HN6.out.of (hb7.block _ HN6.out.lt))
      clear hb7 HB6 HG6 HX6 HN6
      have k0 := HX7.out.cell 0
      have k1 := HX7.out.cell 1
      have k2 := HX7.out.cell 2
      have k3 := HX7.out.cell 3
      have k4 := HX7.out.cell 4
      have k5 := HX7.out.cell 5
      have k6 := HX7.out.cell 6
      have k7 := HX7.out.cell 7
      have k8 := HX7.out.cell 8
      go_wp2_with fail
      refine (HSa.out _).mono ?_
      rintro e w8 ⟨rfl, hb8⟩
      have HB8 := Lib.hid (HB7.out.trans (hb8.mono HB7.out.size))
      have HG8 := Lib.hid (HG7.out.below hb8)
      have HX8 := Lib.hid (HX7.out.of (hb8.block _ HX7.out.lt))
      have HN8 := Lib.hid (HN7.out.of (hb8.block _ HN7.out.lt))
      clear hb8 HB7 HG7 HX7 HN7 k0 k1 k2 k3 k4 k5 k6 k7 k8
      go_wp2_with fail
      refine (HSb.out _).mono ?_
      rintro e w9 ⟨rfl, hb9⟩
      have HB9 := Lib.hid (HB8.out.trans (hb9.mono HB8.out.size))
      have HG9 := Lib.hid (HG8.out.below hb9)
      have HX9 := Lib.hid (HX8.out.of (hb9.block _ HX8.out.lt))
      have HN9 := Lib.hid (HN8.out.of (hb9.block _ HN8.out.lt))
      clear hb9 HB8 HG8 HX8 HN8
      go_wp2_with fail
      refine (HWB.out _ HG9.out).mono ?_
      rintro e w10 ⟨rfl, hb10⟩
      have HB10 := Lib.hid (HB9.out.trans (hb10.mono HB9.out.size))
      have HG10 := Lib.hid (HG9.out.below hb10)
      have HX10 := Lib.hid (HX9.out.of (hb10.block _ HX9.out.lt))
      have HN10 := Lib.hid (HN9.out.of (hb10.block _ HN9.out.lt))
      clear hb10 HB9 HG9 HX9 HN9
      have k0 := HX10.out.cell 0
      have k1 := HX10.out.cell 1
      have k2 := HX10.out.cell 2
      have k3 := HX10.out.cell 3
      have k4 := HX10.out.cell 4
      have k5 := HX10.out.cell 5
      have k6 := HX10.out.cell 6
      have k7 := HX10.out.cell 7
      have k8 := HX10.out.cell 8
      go_wp2_with fail
      refine (HSc.out _).mono ?_
      rintro e w11 ⟨rfl, hb11⟩
      have HB11 := Lib.hid (HB10.out.trans (hb11.mono HB10.out.size))
      have HG11 := Lib.hid (HG10.out.below hb11)
      have HX11 := Lib.hid (HX10.out.of (hb11.block _ HX10.out.lt))
      have HN11 := Lib.hid (HN10.out.of (hb11.block _ HN10.out.lt))
      clear hb11 HB10 HG10 HX10 HN10 k0 k1 k2 k3 k4 k5 k6 k7 k8
      go_wp2_with fail
      refine (HWC.out _ HG11.out).mono ?_
      rintro e w12 ⟨rfl, hb12⟩
      have HB12 := Lib.hid (HB11.out.trans (hb12.mono HB11.out.size))
      have HG12 := Lib.hid (HG11.out.below hb12)
      have HX12 := Lib.hid (HX11.out.of (hb12.block _ HX11.out.lt))
      have HN12 := Lib.hid (HN11.out.of (hb12.block _ HN11.out.lt))
      clear hb12 HB11 HG11 HX11 HN11
      have n1 := HN12.out.cell 0
      have n2 := HN12.out.cell 4
      simp at n1 n2
      go_wp2_with fail
      go_ret
      exact ⟨rfl, HB12.out⟩
    · have HWA := Lib.hid (HWa.out ha)
      have HWB := Lib.hid (HWb.out ha)
      have HWC := Lib.hid (HWc.out hb)
      clear HWa HWb HWc HW0
      clear ha hb
      have k0 := HX5.out.cell 0
      have k1 := HX5.out.cell 1
      have k2 := HX5.out.cell 2
      have k3 := HX5.out.cell 3
      have k4 := HX5.out.cell 4
      have k5 := HX5.out.cell 5
      have k6 := HX5.out.cell 6
      have k7 := HX5.out.cell 7
      have k8 := HX5.out.cell 8
      go_wp2_with fail
      refine (HSa.out _).mono ?_
      rintro e w6 ⟨rfl, hb6⟩
      have HB6 := Lib.hid (HB5.out.trans (hb6.mono HB5.out.size))
      have HG6 := Lib.hid (HG5.out.below hb6)
      have HX6 := Lib.hid (HX5.out.of (hb6.block _ HX5.out.lt))
      have HN6 := Lib.hid (HN5.out.of (hb6.block _ HN5.out.lt))
      clear hb6 HB5 HG5 HX5 HN5 k0 k1 k2 k3 k4 k5 k6 k7 k8
      go_wp2_with fail
      refine (HWA.out _ HG6.out).mono ?_
      rintro e w7 ⟨rfl, hb7⟩
      have HB7 := Lib.hid (HB6.out.trans (hb7.mono HB6.out.size))
      have HG7 := Lib.hid (HG6.out.below hb7)
      have HX7 := Lib.hid (HX6.out.of (hb7.block _ HX6.out.lt))
      have HN7 := Lib.hid (HN6.out.of (hb7.block _ HN6.out.lt))
      clear hb7 HB6 HG6 HX6 HN6
      have k0 := HX7.out.cell 0
      have k1 := HX7.out.cell 1
      have k2 := HX7.out.cell 2
      have k3 := HX7.out.cell 3
      have k4 := HX7.out.cell 4
      have k5 := HX7.out.cell 5
      have k6 := HX7.out.cell 6
      have k7 := HX7.out.cell 7
      have k8 := HX7.out.cell 8
      go_wp2_with fail
      refine (HSa.out _).mono ?_
      rintro e w8 ⟨rfl, hb8⟩
      have HB8 := Lib.hid (HB7.out.trans (hb8.mono HB7.out.size))
      have HG8 := Lib.hid (HG7.out.below hb8)
      have HX8 := Lib.hid (HX7.out.of (hb8.block _ HX7.out.lt))
      have HN8 := Lib.hid (HN7.out.of (hb8.block _ HN7.out.lt))
      clear hb8 HB7 HG7 HX7 HN7 k0 k1 k2 k3 k4 k5 k6 k7 k8
      go_wp2_with fail
      refine (HSb.out _).mono ?_
      rintro e w9 ⟨rfl, hb9⟩
      have HB9 := Lib.hid (HB8.out.trans (hb9.mono HB8.out.size))
      have HG9 := Lib.hid (HG8.out.below hb9)
      have HX9 := Lib.hid (HX8.out.of (hb9.block _ HX8.out.lt))
      have HN9 := Lib.hid (HN8.out.of (hb9.block _ HN8.out.lt))
      clear hb9 HB8 HG8 HX8 HN8
      go_wp2_with fail
      refine (HWB.out _ HG9.out).mono ?_
      rintro e w10 ⟨rfl, hb10⟩
      have HB10 := Lib.hid (HB9.out.trans (hb10.mono HB9.out.size))
      have HG10 := Lib.hid (HG9.out.below hb10)
      have HX10 := Lib.hid (HX9.out.of (hb10.block _ HX9.out.lt))
      have HN10 := Lib.hid (HN9.out.of (hb10.block _ HN9.out.lt))
      clear hb10 HB9 HG9 HX9 HN9
      have k0 := HX10.out.cell 0
      have k1 := HX10.out.cell 1
      have k2 := HX10.out.cell 2
      have k3 := HX10.out.cell 3
      have k4 := HX10.out.cell 4
      have k5 := HX10.out.cell 5
      have k6 := HX10.out.cell 6
      have k7 := HX10.out.cell 7
      have k8 := HX10.out.cell 8
      go_wp2_with fail
      refine (HSc.out _).mono ?_
      rintro e w11 ⟨rfl, hb11⟩
      have HB11 := Lib.hid (HB10.out.trans (hb11.mono HB10.out.size))
      have HG11 := Lib.hid (HG10.out.below hb11)
      have HX11 := Lib.hid (HX10.out.of (hb11.block _ HX10.out.lt))
      have HN11 := Lib.hid (HN10.out.of (hb11.block _ HN10.out.lt))
      clear hb11 HB10 HG10 HX10 HN10 k0 k1 k2 k3 k4 k5 k6 k7 k8
      go_wp2_with fail
      refine (HWC.out _ HG11.out).mono ?_
      rintro e w12 ⟨rfl, hb12⟩
      have HB12 := Lib.hid (HB11.out.trans (hb12.mono HB11.out.size))
      have HG12 := Lib.hid (HG11.out.below hb12)
      have HX12 := Lib.hid (HX11.out.of (hb12.block _ HX11.out.lt))
      have HN12 := Lib.hid (HN11.out.of (hb12.block _ HN11.out.lt))
      clear hb12 HB11 HG11 HX11 HN11
      have n1 := HN12.out.cell 0
      have n2 := HN12.out.cell 4
      simp at n1 n2
      go_wp2_with fail
      go_ret
      exact ⟨rfl, HB12.out⟩
  · rcases (by omega : b < 0 ∨ (0 ≤ b ∧ 2 < b)) with g | ⟨g, g'⟩
    · have HWA := Lib.hid (HWa.out ha)
      have HWB := Lib.hid (HWb.out ha)
      have HWC := Lib.hid (HWc.out hb)
      clear HWa HWb HWc HW0
      clear ha hb
      have k0 := HX5.out.cell 0
      have k1 := HX5.out.cell 1
      have k2 := HX5.out.cell 2
      have k3 := HX5.out.cell 3
      have k4 := HX5.out.cell 4
      have k5 := HX5.out.cell 5
      have k6 := HX5.out.cell 6
      have k7 := HX5.out.cell 7
      have k8 := HX5.out.cell 8
      go_wp2_with fail
      refine (HSa.out _).mono ?_
      rintro e w6 ⟨rfl, hb6⟩
      have HB6 := Lib.hid (HB5.out.trans (hb6.mono HB5.out.size))
      have HG6 := Lib.hid (HG5.out.below hb6)
      have HX6 := Lib.hid (HX5.out.of (hb6.block _ HX5.out.lt))
      have HN6 := Lib.hid (HN5.out.of (hb6.block _ HN5.out.lt))
      clear hb6 HB5 HG5 HX5 HN5 k0 k1 k2 k3 k4 k5 k6 k7 k8
      go_wp2_with fail
      refine (HWA.out _ HG6.out).mono ?_
      rintro e w7 ⟨rfl, hb7⟩
      have HB7 := Lib.hid (HB6.out.trans (hb7.mono HB6.out.size))
      have HG7 := Lib.hid (HG6.out.below hb7)
      have HX7 := Lib.hid (HX6.out.of (hb7.block _ HX6.out.lt))
      have HN7 := Lib.hid (HN6.out.of (hb7.block _ HN6.out.lt))
      clear hb7 HB6 HG6 HX6 HN6
      have k0 := HX7.out.cell 0
      have k1 := HX7.out.cell 1
      have k2 := HX7.out.cell 2
      have k3 := HX7.out.cell 3
      have k4 := HX7.out.cell 4
      have k5 := HX7.out.cell 5
      have k6 := HX7.out.cell 6
      have k7 := HX7.out.cell 7
      have k8 := HX7.out.cell 8
      go_wp2_with fail
      refine (HSa.out _).mono ?_
      rintro e w8 ⟨rfl, hb8⟩
      have HB8 := Lib.hid (HB7.out.trans (hb8.mono HB7.out.size))
      have HG8 := Lib.hid (HG7.out.below hb8)
      have HX8 := Lib.hid (HX7.out.of (hb8.block _ HX7.out.lt))
      have HN8 := Lib.hid (HN7.out.of (hb8.block _ HN7.out.lt))
      clear hb8 HB7 HG7 HX7 HN7 k0 k1 k2 k3 k4 k5 k6 k7 k8
      go_wp2_with fail
      refine (HSb.out _).mono ?_
      rintro e w9 ⟨rfl, hb9⟩
      have HB9 := Lib.hid (HB8.out.trans (hb9.mono HB8.out.size))
      have HG9 := Lib.hid (HG8.out.below hb9)
      have HX9 := Lib.hid (HX8.out.of (hb9.block _ HX8.out.lt))
      have HN9 := Lib.hid (HN8.out.of (hb9.block _ HN8.out.lt))
      clear hb9 HB8 HG8 HX8 HN8
      go_wp2_with fail
      refine (HWB.out _ HG9.out).mono ?_
      rintro e w10 ⟨rfl, hb10⟩
      have HB10 := Lib.hid (HB9.out.trans (hb10.mono HB9.out.size))
      have HG10 := Lib.hid (HG9.out.below hb10)
      have HX10 := Lib.hid (HX9.out.of (hb10.block _ HX9.out.lt))
      have HN10 := Lib.hid (HN9.out.of (hb10.block _ HN9.out.lt))
      clear hb10 HB9 HG9 HX9 HN9
      have k0 := HX10.out.cell 0
      have k1 := HX10.out.cell 1
      have k2 := HX10.out.cell 2
      have k3 := HX10.out.cell 3
      have k4 := HX10.out.cell 4
      have k5 := HX10.out.cell 5
      have k6 := HX10.out.cell 6
      have k7 := HX10.out.cell 7
      have k8 := HX10.out.cell 8
      go_wp2_with fail
      refine (HSc.out _).mono ?_
      rintro e w11 ⟨rfl, hb11⟩
      have HB11 := Lib.hid (HB10.out.trans (hb11.mono HB10.out.size))
      have HG11 := Lib.hid (HG10.out.below hb11)
      have HX11 := Lib.hid (HX10.out.of (hb11.block _ HX10.out.lt))
      have HN11 := Lib.hid (HN10.out.of (hb11.block _ HN10.out.lt))
      clear hb11 HB10 HG10 HX10 HN10 k0 k1 k2 k3 k4 k5 k6 k7 k8
      go_wp2_with fail
      refine (HWC.out _ HG11.out).mono ?_
      rintro e w12 ⟨rfl, hb12⟩
      have HB12 := Lib.hid (HB11.out.trans (hb12.mono HB11.out.size))
      have HG12 := Lib.hid (HG11.out.below hb12)
      have HX12 := Lib.hid (HX11.out.of (hb12.block _ HX11.out.lt))
      have HN12 := Lib.hid (HN11.out.of (hb12.block _ HN11.out.lt))
      clear hb12 HB11 HG11 HX11 HN11
      have n1 := HN12.out.cell 0
      have n2 := HN12.out.cell 4
      simp at n1 n2
      go_wp2_with fail
      go_ret
      exact ⟨rfl, HB12.out⟩
    · have HWA := Lib.hid (HWa.out ha)
      have HWB := Lib.hid (HWb.out ha)
      have HWC := Lib.hid (HWc.out hb)
      clear HWa HWb HWc HW0
      clear ha hb
      have k0 := HX5.out.cell 0
      have k1 := HX5.out.cell 1
      have k2 := HX5.out.cell 2
      have k3 := HX5.out.cell 3
      have k4 := HX5.out.cell 4
      have k5 := HX5.out.cell 5
      have k6 := HX5.out.cell 6
      have k7 := HX5.out.cell 7
      have k8 := HX5.out.cell 8
      go_wp2_with fail
      refine (HSa.out _).mono ?_
      rintro e w6 ⟨rfl, hb6⟩
      have HB6 := Lib.hid (HB5.out.trans (hb6.mono HB5.out.size))
      have HG6 := Lib.hid (HG5.out.below hb6)
      have HX6 := Lib.hid (HX5.out.of (hb6.block _ HX5.out.lt))
      have HN6 := Lib.hid (HN5.out.of (hb6.block _ HN5.out.lt))
      clear hb6 HB5 HG5 HX5 HN5 k0 k1 k2 k3 k4 k5 k6 k7 k8
      go_wp2_with fail
      refine (HWA.out _ HG6.out).mono ?_
      rintro e w7 ⟨rfl, hb7⟩
      have HB7 := Lib.hid (HB6.out.trans (hb7.mono HB6.out.size))
      have HG7 := Lib.hid (HG6.out.below hb7)
      have HX7 := Lib.hid (HX6.out.of (hb7.block _ HX6.out.lt))
      have HN7 := Lib.hid (HN6.out.of (hb7.block _ HN6.out.lt))
      clear hb7 HB6 HG6 HX6 HN6
      have k0 := HX7.out.cell 0
      have k1 := HX7.out.cell 1
      have k2 := HX7.out.cell 2
      have k3 := HX7.out.cell 3
      have k4 := HX7.out.cell 4
      have k5 := HX7.out.cell 5
      have k6 := HX7.out.cell 6
      have k7 := HX7.out.cell 7
      have k8 := HX7.out.cell 8
      go_wp2_with fail
      refine (HSa.out _).mono ?_
      rintro e w8 ⟨rfl, hb8⟩
      have HB8 := Lib.hid (HB7.out.trans (hb8.mono HB7.out.size))
      have HG8 := Lib.hid (HG7.out.below hb8)
      have HX8 := Lib.hid (HX7.out.of (hb8.block _ HX7.out.lt))
      have HN8 := Lib.hid (HN7.out.of (hb8.block _ HN7.out.lt))
      clear hb8 HB7 HG7 HX7 HN7 k0 k1 k2 k3 k4 k5 k6 k7 k8
      go_wp2_with fail
      refine (HSb.out _).mono ?_
      rintro e w9 ⟨rfl, hb9⟩
      have HB9 := Lib.hid (HB8.out.trans (hb9.mono HB8.out.size))
      have HG9 := Lib.hid (HG8.out.below hb9)
      have HX9 := Lib.hid (HX8.out.of (hb9.block _ HX8.out.lt))
      have HN9 := Lib.hid (HN8.out.of (hb9.block _ HN8.out.lt))
      clear hb9 HB8 HG8 HX8 HN8
      go_wp2_with fail
      refine (HWB.out _ HG9.out).mono ?_
      rintro e w10 ⟨rfl, hb10⟩
      have HB10 := Lib.hid (HB9.out.trans (hb10.mono HB9.out.size))
      have HG10 := Lib.hid (HG9.out.below hb10)
      have HX10 := Lib.hid (HX9.out.of (hb10.block _ HX9.out.lt))
      have HN10 := Lib.hid (HN9.out.of (hb10.block _ HN9.out.lt))
      clear hb10 HB9 HG9 HX9 HN9
      have k0 := HX10.out.cell 0
      have k1 := HX10.out.cell 1
      have k2 := HX10.out.cell 2
      have k3 := HX10.out.cell 3
      have k4 := HX10.out.cell 4
      have k5 := HX10.out.cell 5
      have k6 := HX10.out.cell 6
      have k7 := HX10.out.cell 7
      have k8 := HX10.out.cell 8
      go_wp2_with fail
      refine (HSc.out _).mono ?_
      rintro e w11 ⟨rfl, hb11⟩
      have HB11 := Lib.hid (HB10.out.trans (hb11.mono HB10.out.size))
      have HG11 := Lib.hid (HG10.out.below hb11)
      have HX11 := Lib.hid (HX10.out.of (hb11.block _ HX10.out.lt))
      have HN11 := Lib.hid (HN10.out.of (hb11.block _ HN10.out.lt))
      clear hb11 HB10 HG10 HX10 HN10 k0 k1 k2 k3 k4 k5 k6 k7 k8
      go_wp2_with fail
      refine (HWC.out _ HG11.out).mono ?_
      rintro e w12 ⟨rfl, hb12⟩
      have HB12 := Lib.hid (HB11.out.trans (hb12.mono HB11.out.size))
      have HG12 := Lib.hid (HG11.out.below hb12)
      have HX12 := Lib.hid (HX11.out.of (hb12.block _ HX11.out.lt))
      have HN12 := Lib.hid (HN11.out.of (hb12.block _ HN11.out.lt))
      clear hb12 HB11 HG11 HX11 HN11
      have n1 := HN12.out.cell 0
      have n2 := HN12.out.cell 4
      simp at n1 n2
      go_wp2_with fail
      go_ret
      exact ⟨rfl, HB12.out⟩
end Go.Proofs.YteiilfdbddpodaaDoor
