/- Texts of ours put together: CfWhy, CfLaw. -/
import Derived.Test.YteiilfdbddpodaaDoorG21
import Derived.Test.YteiilfdbddpodaaDoorG28
import Derived.Test.YteiilfdbddpodaaDoorG25
/- config: Why: the first field that is wrong, and what is wrong; nothing and OK, if none is. Nothing that was in memory changes. Conditions: each number is an int; the library's variable of the type error holds that type. -/
namespace Go.Proofs.YteiilfdbddpodaaDoor
set_option maxRecDepth 100000
open Go.RowKit Go.ChangeShapes Go.WideShapes Go.ChangeAt

/-- What Why answers. -/
def WyPost (w : World) (c : Cfg) (e : Ending) (w' : World) : Prop := ∃ i, Fst c i ∧ e = .returned (.tuple #[.string (nmA i), .int .i64 (ftE c i)]) ∧ Below w.heap.size w w'
/-- None of the Errnos that were asked so far is it. -/
def NeAt (E k : Int) : Prop := (1 ≤ k → E ≠ 2) ∧ (2 ≤ k → E ≠ 3) ∧ (3 ≤ k → E ≠ 4) ∧ (4 ≤ k → E ≠ 1)
theorem cd_ix0 (w : World) : (Instr.index 61 (.agg #[.int .i64 2, .int .i64 3, .int .i64 4, .int .i64 1]) (.int .i64 0)).run Tryd.prog w = .ok (.int .i64 2) w := by kernel_rfl
theorem cd_ix1 (w : World) : (Instr.index 61 (.agg #[.int .i64 2, .int .i64 3, .int .i64 4, .int .i64 1]) (.int .i64 1)).run Tryd.prog w = .ok (.int .i64 3) w := by kernel_rfl
theorem cd_ix2 (w : World) : (Instr.index 61 (.agg #[.int .i64 2, .int .i64 3, .int .i64 4, .int .i64 1]) (.int .i64 2)).run Tryd.prog w = .ok (.int .i64 4) w := by kernel_rfl
theorem cd_ix3 (w : World) : (Instr.index 61 (.agg #[.int .i64 2, .int .i64 3, .int .i64 4, .int .i64 1]) (.int .i64 3)).run Tryd.prog w = .ok (.int .i64 1) w := by kernel_rfl
set_option maxRecDepth 100000 in
set_option maxHeartbeats 4000000 in
theorem why_any (c : Cfg) (w : World) (hT : Rg c.T) (hg : ErrType w) : Calls Tryd.prog 10 #[.agg c.a] w (WyPost w c) := by
  have HK := Lib.hid (fun W => check_any c W hT)
  have HP : Hid (∀ i W, Fst c i → Below w.heap.size w W → ∀ nm E, nmA i = nm → ftE c i = E → WyPost w c (.returned (.tuple #[.string nm, .int .i64 E])) W) := Lib.hid (fun i W h1 h2 nm E e1 e2 => ⟨i, h1, by rw [e1, e2], h2⟩)
  have HO := Lib.hid (ftE_or c)
  generalize WyPost w c = POST at *
  have HG := Lib.hid hg
  unfold CkPost at HK
  have HN7 : Hid (nmA 7 = ⟨#[]⟩ ∧ ftE c 7 = 0) := Lib.hid ⟨rfl, rfl⟩
  have HBAD : Hid (∀ i, Fst c i → i < 7 → ftE c i ≠ 0) := Lib.hid (fun i h => h.bad)
  generalize ftE c = ft at *
  generalize Fst c = FS at *
  obtain ⟨A, B, K, P, T, S, H, V, O⟩ := c
  simp only [Cfg.a] at *
  clear hT hg
  obtain ⟨p, hp⟩ : ∃ p, w.heap.size = p := ⟨_, rfl⟩
  obtain ⟨w2, hw2⟩ : ∃ w2, w.alloc (.cells #[.int .i64 A, .int .i64 B, .int .i64 K, .int .i64 P, .int .i64 T, .int .i64 S, .int .i64 H, .int .i64 V, .int .i64 O] 23) = w2 := ⟨_, rfl⟩
  have hx : Box w2 p 23 #[.int .i64 A, .int .i64 B, .int .i64 K, .int .i64 P, .int .i64 T, .int .i64 S, .int .i64 H, .int .i64 V, .int .i64 O] := by rw [← hw2, ← hp]; exact Box.new w _ _
  have HB := Lib.hid (show Below w.heap.size w w2 by rw [← hw2]; exact (Below.refl _ w).alloc (Nat.le_refl _) _)
  have HPP := Lib.hid hp
  have HWW := Lib.hid hw2
  have k0 := hx.cell 0
  have k1 := hx.cell 1
  have k2 := hx.cell 2
  have k3 := hx.cell 3
  have k4 := hx.cell 4
  have k5 := hx.cell 5
  have k6 := hx.cell 6
  have k7 := hx.cell 7
  have k8 := hx.cell 8
  clear hx hp hw2
  have ix0 := cd_ix0
  have ix1 := cd_ix1
  have ix2 := cd_ix2
  have ix3 := cd_ix3
  go_enter Tryd.func10, Tryd.ntmps10
  go_upto_region 1 with fail
  rw [HPP.out, HWW.out]
  go_wp2_with fail
  refine (HK.out _).mono ?_
  rintro e w3 ⟨i, hF, hb3, ⟨hi, rfl⟩ | ⟨hi, g, rfl, hbx⟩⟩
  · have HB3 := Lib.hid (HB.out.trans (hb3.mono HB.out.size))
    have HE := Lib.hid (HP.out i (w3.alloc (.cells #[.pointer none] 60)) hF (HB3.out.alloc HB3.out.size _) ⟨#[]⟩ 0 (by rw [hi]; exact HN7.out.1) (by rw [hi]; exact HN7.out.2))
    clear hb3 k0 k1 k2 k3 k4 k5 k6 k7 k8 HWW HB hF hi HB3
    generalize hw4 : w3.alloc (.cells #[.pointer none] 60) = w4 at *
    go_wp2_with fail
    go_loopw [11] (fun i wr => ∃ k : Int, i = .int .i64 k ∧ 0 ≤ k ∧ k ≤ 4 ∧ wr = w4) (fun i _ => 4 - (intOf i).toNat)
    case atStart => exact ⟨0, rfl, by omega, by omega, rfl⟩
    case round =>
      obtain ⟨k, rfl, hk0, hk, rfl⟩ := hrel
      clear hw4
      by_cases hlt : k < 4
      · rcases (by omega : k = 0 ∨ k = 1 ∨ k = 2 ∨ k = 3) with rfl | rfl | rfl | rfl
        · go_wp2_with fail
          refine (is_nil 2 _).mono ?_
          rintro e w5 ⟨rfl, rfl⟩
          go_wp2_with fail
          go_roundw
          case rel => exact ⟨1, rfl, by omega, by omega, trivial⟩
          case measure => simp [intOf]
        · go_wp2_with fail
          refine (is_nil 3 _).mono ?_
          rintro e w5 ⟨rfl, rfl⟩
          go_wp2_with fail
          go_roundw
          case rel => exact ⟨2, rfl, by omega, by omega, trivial⟩
          case measure => simp [intOf]
        · go_wp2_with fail
          refine (is_nil 4 _).mono ?_
          rintro e w5 ⟨rfl, rfl⟩
          go_wp2_with fail
          go_roundw
          case rel => exact ⟨3, rfl, by omega, by omega, trivial⟩
          case measure => simp [intOf]
        · go_wp2_with fail
          refine (is_nil 1 _).mono ?_
          rintro e w5 ⟨rfl, rfl⟩
          go_wp2_with fail
          go_roundw
          case rel => exact ⟨4, rfl, by omega, by omega, trivial⟩
          case measure => simp [intOf]
      · obtain rfl : k = 4 := by omega
        go_wp2_with fail
        exact HE.out
  · have HB3 := Lib.hid (HB.out.trans (hb3.mono HB.out.size))
    have HG3 := Lib.hid ((HG.out.below HB.out).below (hb3.mono (Nat.le_refl _)))
    have hglt := hbx.lt
    have HX4 := Lib.hid (hbx.alloc (.cells #[.pointer none] 60))
    have HG4 := Lib.hid (HG3.out.below ((Below.refl _ w3).alloc (Nat.le_refl _) (.cells #[.pointer none] 60)))
    have HY4 := Lib.hid (Box.new w3 60 #[.pointer none])
    have HB4 := Lib.hid (HB3.out.alloc HB3.out.size (.cells #[.pointer none] 60))
    have hE := HO.out i
    have hE0 := HBAD.out i hF hi
    have HPI := Lib.hid (fun W (hb : Below w.heap.size w W) => HP.out i W hF hb _ _ rfl rfl)
    have hszw := HB3.out.size
    obtain ⟨E, hEE⟩ : ∃ E, ft i = E := ⟨_, rfl⟩
    obtain ⟨nm, hnm⟩ : ∃ nm, nmA i = nm := ⟨_, rfl⟩
    obtain ⟨tb, htb⟩ : ∃ tb, w3.heap.size = tb := ⟨_, rfl⟩
    rw [hEE, hnm] at HX4 HPI
    rw [hEE] at hE hE0
    rw [htb] at HY4 hszw hglt
    have hE4 : E = 1 ∨ E = 2 ∨ E = 3 ∨ E = 4 := by omega
    clear hb3 k0 k1 k2 k3 k4 k5 k6 k7 k8 HWW HB hF hi HB3 HG3 HP HN7 HBAD HO hE hE0 hEE hnm hbx
    obtain ⟨w4, hw4⟩ : ∃ w4, w3.alloc (.cells #[.pointer none] 60) = w4 := ⟨_, rfl⟩
    rw [hw4] at HX4 HG4 HY4 HB4
    have HE4 := Lib.hid hE4
    clear hE4
    go_wp2_with fail
    go_loopw [11] (fun i wr => ∃ k : Int, i = .int .i64 k ∧ 0 ≤ k ∧ k ≤ 4 ∧ NeAt E k ∧ wr = w4) (fun i _ => 4 - (intOf i).toNat)
    case atStart => exact ⟨0, rfl, by omega, by omega, by unfold NeAt; omega, rfl⟩
    case round =>
      obtain ⟨k, rfl, hk0, hk, hne, rfl⟩ := hrel
      clear hw4 htb
      have HNE := Lib.hid hne
      clear hne
      have x1 := HX4.out.cell 1
      by_cases hlt : k < 4
      · rcases (by omega : k = 0 ∨ k = 1 ∨ k = 2 ∨ k = 3) with rfl | rfl | rfl | rfl
        · by_cases he : E = 2
          · subst he
            go_wp2_with fail
            refine (is_fault g 2 2 _ x1).mono ?_
            rintro e w5 ⟨rfl, rfl⟩
            go_wp2_with fail
            refine (as_fault g tb _ _ HG4.out HY4.out).mono ?_
            rintro e w6 ⟨rfl, hy6, ho6⟩
            have HX6 := HX4.out.only ho6 (just_ne (by omega))
            have y0 := hy6.cell 0
            have x0 := HX6.cell 0
            have HF := Lib.hid (HPI.out w6 (below_only HB4.out ho6 HB4.out.size (fun i hi e => by have e : i = tb := e; omega)))
            clear hy6 ho6 HX6 x1
            simp at y0 x0
            go_wp2_with fail
            exact HF.out
          · have hq : (E == 2) = false := by simpa using he
            go_wp2_with fail
            refine (is_fault g E 2 _ x1).mono ?_
            rintro e w5 ⟨rfl, rfl⟩
            rw [hq]
            have HN1 : Hid (NeAt E 1) := Lib.hid (by have := HNE.out; unfold NeAt at *; omega)
            clear hq he
            go_wp2_with fail
            go_roundw
            case rel => exact ⟨1, rfl, by omega, by omega, HN1.out, trivial⟩
            case measure => simp [intOf]
        · by_cases he : E = 3
          · subst he
            go_wp2_with fail
            refine (is_fault g 3 3 _ x1).mono ?_
            rintro e w5 ⟨rfl, rfl⟩
            go_wp2_with fail
            refine (as_fault g tb _ _ HG4.out HY4.out).mono ?_
            rintro e w6 ⟨rfl, hy6, ho6⟩
            have HX6 := HX4.out.only ho6 (just_ne (by omega))
            have y0 := hy6.cell 0
            have x0 := HX6.cell 0
            have HF := Lib.hid (HPI.out w6 (below_only HB4.out ho6 HB4.out.size (fun i hi e => by have e : i = tb := e; omega)))
            clear hy6 ho6 HX6 x1
            simp at y0 x0
            go_wp2_with fail
            exact HF.out
          · have hq : (E == 3) = false := by simpa using he
            go_wp2_with fail
            refine (is_fault g E 3 _ x1).mono ?_
            rintro e w5 ⟨rfl, rfl⟩
            rw [hq]
            have HN1 : Hid (NeAt E 2) := Lib.hid (by have := HNE.out; unfold NeAt at *; omega)
            clear hq he
            go_wp2_with fail
            go_roundw
            case rel => exact ⟨2, rfl, by omega, by omega, HN1.out, trivial⟩
            case measure => simp [intOf]
        · by_cases he : E = 4
          · subst he
            go_wp2_with fail
            refine (is_fault g 4 4 _ x1).mono ?_
            rintro e w5 ⟨rfl, rfl⟩
            go_wp2_with fail
            refine (as_fault g tb _ _ HG4.out HY4.out).mono ?_
            rintro e w6 ⟨rfl, hy6, ho6⟩
            have HX6 := HX4.out.only ho6 (just_ne (by omega))
            have y0 := hy6.cell 0
            have x0 := HX6.cell 0
            have HF := Lib.hid (HPI.out w6 (below_only HB4.out ho6 HB4.out.size (fun i hi e => by have e : i = tb := e; omega)))
            clear hy6 ho6 HX6 x1
            simp at y0 x0
            go_wp2_with fail
            exact HF.out
          · have hq : (E == 4) = false := by simpa using he
            go_wp2_with fail
            refine (is_fault g E 4 _ x1).mono ?_
            rintro e w5 ⟨rfl, rfl⟩
            rw [hq]
            have HN1 : Hid (NeAt E 3) := Lib.hid (by have := HNE.out; unfold NeAt at *; omega)
            clear hq he
            go_wp2_with fail
            go_roundw
            case rel => exact ⟨3, rfl, by omega, by omega, HN1.out, trivial⟩
            case measure => simp [intOf]
        · by_cases he : E = 1
          · subst he
            go_wp2_with fail
            refine (is_fault g 1 1 _ x1).mono ?_
            rintro e w5 ⟨rfl, rfl⟩
            go_wp2_with fail
            refine (as_fault g tb _ _ HG4.out HY4.out).mono ?_
            rintro e w6 ⟨rfl, hy6, ho6⟩
            have HX6 := HX4.out.only ho6 (just_ne (by omega))
            have y0 := hy6.cell 0
            have x0 := HX6.cell 0
            have HF := Lib.hid (HPI.out w6 (below_only HB4.out ho6 HB4.out.size (fun i hi e => by have e : i = tb := e; omega)))
            clear hy6 ho6 HX6 x1
            simp at y0 x0
            go_wp2_with fail
            exact HF.out
          · have hq : (E == 1) = false := by simpa using he
            go_wp2_with fail
            refine (is_fault g E 1 _ x1).mono ?_
            rintro e w5 ⟨rfl, rfl⟩
            rw [hq]
            have HN1 : Hid (NeAt E 4) := Lib.hid (by have := HNE.out; unfold NeAt at *; omega)
            clear hq he
            go_wp2_with fail
            go_roundw
            case rel => exact ⟨4, rfl, by omega, by omega, HN1.out, trivial⟩
            case measure => simp [intOf]
      · obtain rfl : k = 4 := by omega
        have h1 := HNE.out
        have h2 := HE4.out
        unfold NeAt at h1
        omega
end Go.Proofs.YteiilfdbddpodaaDoor

/- What the laws of layer 13 share: a config as an argument; shown, as, sameInts, set. Nothing that was in memory changes. Conditions: each number is an int; the library's variable of the type error holds that type. -/
namespace Go.Proofs.YteiilfdbddpodaaDoor
set_option maxRecDepth 100000
open Go.RowKit Go.ChangeShapes Go.WideShapes Go.ChangeAt

/-- The chapter's two examples. -/
def exA : Cfg := ⟨3, 1, 2, 2, 3, 2, 4, 1, 0⟩
def exB : Cfg := ⟨3, 1, 2, 2, 4, 2, 4, 1, 0⟩
theorem exA_fst : Fst exA 5 := ⟨by decide, fun j hj => (by
  match j, hj with
  | 0, _ => decide
  | 1, _ => decide
  | 2, _ => decide
  | 3, _ => decide
  | 4, _ => decide), fun _ => by decide⟩
theorem exA_e : ftE exA 5 = 3 := by decide
theorem exB_fst : Fst exB 7 := ⟨by decide, fun j hj => (by
  match j, hj with
  | 0, _ => decide
  | 1, _ => decide
  | 2, _ => decide
  | 3, _ => decide
  | 4, _ => decide
  | 5, _ => decide +kernel
  | 6, _ => decide +kernel), fun h => absurd h (by decide)⟩
theorem why_is {c : Cfg} {w : World} {e : Ending} {w' : World} {i : Nat} (hi : Fst c i) (h : WyPost w c e w') : e = .returned (.tuple #[.string (nmA i), .int .i64 (ftE c i)]) ∧ Below w.heap.size w w' := by
  obtain ⟨j, hj, rfl, hb⟩ := h
  obtain rfl := hj.only hi
  exact ⟨rfl, hb⟩
set_option maxRecDepth 100000 in
set_option maxHeartbeats 2000000 in
theorem shown_any (w : World) (hg : ErrType w) : Calls Tryd.prog 9 #[] w fun e w' => e = .returned (.bool true) ∧ Below w.heap.size w w' := by
  have HA : Hid (∀ W, ErrType W → Calls Tryd.prog 10 #[.agg #[.int .i64 3, .int .i64 1, .int .i64 2, .int .i64 2, .int .i64 3, .int .i64 2, .int .i64 4, .int .i64 1, .int .i64 0]] W fun e w' => e = .returned (.tuple #[.string ⟨#[84, 97, 98, 108, 101]⟩, .int .i64 3]) ∧ Below W.heap.size W w') := Lib.hid (fun W hg => by
    refine (why_any exA W (by unfold Rg; decide) hg).mono ?_
    intro e w' h
    obtain ⟨e1, h1⟩ := why_is exA_fst h
    rw [exA_e] at e1
    exact ⟨e1, h1⟩)
  have HB : Hid (∀ W, ErrType W → Calls Tryd.prog 10 #[.agg #[.int .i64 3, .int .i64 1, .int .i64 2, .int .i64 2, .int .i64 4, .int .i64 2, .int .i64 4, .int .i64 1, .int .i64 0]] W fun e w' => e = .returned (.tuple #[.string ⟨#[]⟩, .int .i64 0]) ∧ Below W.heap.size W w') := Lib.hid (fun W hg => by
    refine (why_any exB W (by unfold Rg; decide) hg).mono ?_
    intro e w' h
    exact why_is exB_fst h)
  have HG := Lib.hid hg
  clear hg
  go_enter Tryd.func9, Tryd.ntmps9
  go_wp2_with fail
  refine (HA.out _ HG.out).mono ?_
  rintro e w1 ⟨rfl, hb1⟩
  have HG1 := Lib.hid (HG.out.below hb1)
  have HB1 := Lib.hid hb1
  clear hb1
  go_wp2_with fail
  refine (HB.out _ HG1.out).mono ?_
  rintro e w2 ⟨rfl, hb2⟩
  have HB2 := Lib.hid (HB1.out.trans (hb2.mono HB1.out.size))
  clear hb2
  go_wp2_with fail
  go_ret
  exact ⟨rfl, HB2.out⟩
set_option maxRecDepth 100000 in
set_option maxHeartbeats 2000000 in
theorem as_any (c : Cfg) (w : World) : Calls Tryd.prog 12 #[.agg c.a] w fun e w' => e = .returned (.agg c.a) ∧ Below w.heap.size w w' := by
  obtain ⟨A, B, K, P, T, S, H, V, O⟩ := c
  simp only [Cfg.a] at *
  obtain ⟨p, hp⟩ : ∃ p, w.heap.size = p := ⟨_, rfl⟩
  obtain ⟨w2, hw2⟩ : ∃ w2, ((w.alloc (.cells #[.int .i64 A, .int .i64 B, .int .i64 K, .int .i64 P, .int .i64 T, .int .i64 S, .int .i64 H, .int .i64 V, .int .i64 O] 23)).alloc (.cells #[.int .i64 0, .int .i64 0, .int .i64 0, .int .i64 0, .int .i64 0, .int .i64 0, .int .i64 0, .int .i64 0, .int .i64 0] 29)) = w2 := ⟨_, rfl⟩
  have hx : Box w2 p 23 #[.int .i64 A, .int .i64 B, .int .i64 K, .int .i64 P, .int .i64 T, .int .i64 S, .int .i64 H, .int .i64 V, .int .i64 O] := by rw [← hw2, ← hp]; exact (Box.new w _ _).alloc _
  have hy : Box w2 (p + 1) 29 #[.int .i64 0, .int .i64 0, .int .i64 0, .int .i64 0, .int .i64 0, .int .i64 0, .int .i64 0, .int .i64 0, .int .i64 0] := by
    rw [← hw2, ← hp]
    have := Box.new (w.alloc (.cells #[.int .i64 A, .int .i64 B, .int .i64 K, .int .i64 P, .int .i64 T, .int .i64 S, .int .i64 H, .int .i64 V, .int .i64 O] 23)) 29 #[.int .i64 0, .int .i64 0, .int .i64 0, .int .i64 0, .int .i64 0, .int .i64 0, .int .i64 0, .int .i64 0, .int .i64 0]
    simpa using this
  have HB := Lib.hid (show Below w.heap.size w w2 by rw [← hw2]; exact ((Below.refl _ w).alloc (Nat.le_refl _) _).alloc (by simp) _)
  have HPP := Lib.hid hp
  have HWW := Lib.hid hw2
  have k0 := hx.cell 0
  have k1 := hx.cell 1
  have k2 := hx.cell 2
  have k3 := hx.cell 3
  have k4 := hx.cell 4
  have k5 := hx.cell 5
  have k6 := hx.cell 6
  have k7 := hx.cell 7
  have k8 := hx.cell 8
  have y0 := hy.cell 0
  have y1 := hy.cell 1
  have y2 := hy.cell 2
  have y3 := hy.cell 3
  have y4 := hy.cell 4
  have y5 := hy.cell 5
  have y6 := hy.cell 6
  have y7 := hy.cell 7
  have y8 := hy.cell 8
  have f0 := hy.frozen 0
  have f1 := hy.frozen 1
  have f2 := hy.frozen 2
  have f3 := hy.frozen 3
  have f4 := hy.frozen 4
  have f5 := hy.frozen 5
  have f6 := hy.frozen 6
  have f7 := hy.frozen 7
  have f8 := hy.frozen 8
  have z0 : Box (w2.setCell ⟨p + 1, 0, none⟩ (.int .i64 A)) (p + 1) 29 #[.int .i64 A, .int .i64 0, .int .i64 0, .int .i64 0, .int .i64 0, .int .i64 0, .int .i64 0, .int .i64 0, .int .i64 0] := hy.put 0 (.int .i64 A)
  have z1 : Box ((w2.setCell ⟨p + 1, 0, none⟩ (.int .i64 A)).setCell ⟨p + 1, 1, none⟩ (.int .i64 B)) (p + 1) 29 #[.int .i64 A, .int .i64 B, .int .i64 0, .int .i64 0, .int .i64 0, .int .i64 0, .int .i64 0, .int .i64 0, .int .i64 0] := z0.put 1 (.int .i64 B)
  have z2 : Box (((w2.setCell ⟨p + 1, 0, none⟩ (.int .i64 A)).setCell ⟨p + 1, 1, none⟩ (.int .i64 B)).setCell ⟨p + 1, 2, none⟩ (.int .i64 K)) (p + 1) 29 #[.int .i64 A, .int .i64 B, .int .i64 K, .int .i64 0, .int .i64 0, .int .i64 0, .int .i64 0, .int .i64 0, .int .i64 0] := z1.put 2 (.int .i64 K)
  have z3 : Box ((((w2.setCell ⟨p + 1, 0, none⟩ (.int .i64 A)).setCell ⟨p + 1, 1, none⟩ (.int .i64 B)).setCell ⟨p + 1, 2, none⟩ (.int .i64 K)).setCell ⟨p + 1, 3, none⟩ (.int .i64 P)) (p + 1) 29 #[.int .i64 A, .int .i64 B, .int .i64 K, .int .i64 P, .int .i64 0, .int .i64 0, .int .i64 0, .int .i64 0, .int .i64 0] := z2.put 3 (.int .i64 P)
  have z4 : Box (((((w2.setCell ⟨p + 1, 0, none⟩ (.int .i64 A)).setCell ⟨p + 1, 1, none⟩ (.int .i64 B)).setCell ⟨p + 1, 2, none⟩ (.int .i64 K)).setCell ⟨p + 1, 3, none⟩ (.int .i64 P)).setCell ⟨p + 1, 4, none⟩ (.int .i64 T)) (p + 1) 29 #[.int .i64 A, .int .i64 B, .int .i64 K, .int .i64 P, .int .i64 T, .int .i64 0, .int .i64 0, .int .i64 0, .int .i64 0] := z3.put 4 (.int .i64 T)
  have z5 : Box ((((((w2.setCell ⟨p + 1, 0, none⟩ (.int .i64 A)).setCell ⟨p + 1, 1, none⟩ (.int .i64 B)).setCell ⟨p + 1, 2, none⟩ (.int .i64 K)).setCell ⟨p + 1, 3, none⟩ (.int .i64 P)).setCell ⟨p + 1, 4, none⟩ (.int .i64 T)).setCell ⟨p + 1, 5, none⟩ (.int .i64 S)) (p + 1) 29 #[.int .i64 A, .int .i64 B, .int .i64 K, .int .i64 P, .int .i64 T, .int .i64 S, .int .i64 0, .int .i64 0, .int .i64 0] := z4.put 5 (.int .i64 S)
  have z6 : Box (((((((w2.setCell ⟨p + 1, 0, none⟩ (.int .i64 A)).setCell ⟨p + 1, 1, none⟩ (.int .i64 B)).setCell ⟨p + 1, 2, none⟩ (.int .i64 K)).setCell ⟨p + 1, 3, none⟩ (.int .i64 P)).setCell ⟨p + 1, 4, none⟩ (.int .i64 T)).setCell ⟨p + 1, 5, none⟩ (.int .i64 S)).setCell ⟨p + 1, 6, none⟩ (.int .i64 H)) (p + 1) 29 #[.int .i64 A, .int .i64 B, .int .i64 K, .int .i64 P, .int .i64 T, .int .i64 S, .int .i64 H, .int .i64 0, .int .i64 0] := z5.put 6 (.int .i64 H)
  have z7 : Box ((((((((w2.setCell ⟨p + 1, 0, none⟩ (.int .i64 A)).setCell ⟨p + 1, 1, none⟩ (.int .i64 B)).setCell ⟨p + 1, 2, none⟩ (.int .i64 K)).setCell ⟨p + 1, 3, none⟩ (.int .i64 P)).setCell ⟨p + 1, 4, none⟩ (.int .i64 T)).setCell ⟨p + 1, 5, none⟩ (.int .i64 S)).setCell ⟨p + 1, 6, none⟩ (.int .i64 H)).setCell ⟨p + 1, 7, none⟩ (.int .i64 V)) (p + 1) 29 #[.int .i64 A, .int .i64 B, .int .i64 K, .int .i64 P, .int .i64 T, .int .i64 S, .int .i64 H, .int .i64 V, .int .i64 0] := z6.put 7 (.int .i64 V)
  have z8 : Box (((((((((w2.setCell ⟨p + 1, 0, none⟩ (.int .i64 A)).setCell ⟨p + 1, 1, none⟩ (.int .i64 B)).setCell ⟨p + 1, 2, none⟩ (.int .i64 K)).setCell ⟨p + 1, 3, none⟩ (.int .i64 P)).setCell ⟨p + 1, 4, none⟩ (.int .i64 T)).setCell ⟨p + 1, 5, none⟩ (.int .i64 S)).setCell ⟨p + 1, 6, none⟩ (.int .i64 H)).setCell ⟨p + 1, 7, none⟩ (.int .i64 V)).setCell ⟨p + 1, 8, none⟩ (.int .i64 O)) (p + 1) 29 #[.int .i64 A, .int .i64 B, .int .i64 K, .int .i64 P, .int .i64 T, .int .i64 S, .int .i64 H, .int .i64 V, .int .i64 O] := z7.put 8 (.int .i64 O)
  have HZ := Lib.hid z8
  clear z0 z1 z2 z3 z4 z5 z6 z7 z8
  have HE := Lib.hid (below_only HB.out ((((((((((Only.refl (just (p + 1)) w2).setCell (p := ⟨p + 1, 0, none⟩) (.inl (just_self _)) (.int .i64 A)).setCell (p := ⟨p + 1, 1, none⟩) (.inl (just_self _)) (.int .i64 B)).setCell (p := ⟨p + 1, 2, none⟩) (.inl (just_self _)) (.int .i64 K)).setCell (p := ⟨p + 1, 3, none⟩) (.inl (just_self _)) (.int .i64 P)).setCell (p := ⟨p + 1, 4, none⟩) (.inl (just_self _)) (.int .i64 T)).setCell (p := ⟨p + 1, 5, none⟩) (.inl (just_self _)) (.int .i64 S)).setCell (p := ⟨p + 1, 6, none⟩) (.inl (just_self _)) (.int .i64 H)).setCell (p := ⟨p + 1, 7, none⟩) (.inl (just_self _)) (.int .i64 V)).setCell (p := ⟨p + 1, 8, none⟩) (.inl (just_self _)) (.int .i64 O)) HB.out.size (fun i hi e => by have e : i = p + 1 := e; omega))
  clear hx hy hw2
  go_enter Tryd.func12, Tryd.ntmps12
  go_upto_region 1 with fail
  rw [HWW.out]
  go_wp2_with fail
  exact bodyPost_ret (v := .agg #[.int .i64 A, .int .i64 B, .int .i64 K, .int .i64 P, .int .i64 T, .int .i64 S, .int .i64 H, .int .i64 V, .int .i64 O]) (results_one Tryd.results12 rfl (load_box HZ.out Tryd.underlying29 rfl (by kernel_rfl))) rfl ⟨rfl, HE.out⟩
set_option maxRecDepth 100000 in
set_option maxHeartbeats 2000000 in
theorem same13 (a b : Option Addr) (n c d B C : Nat) (z : Nat → Int) (w : World) (hn : n ≤ 9223372036854775807) (ha : Nums .i64 w B a n z) (hb : Nums .i64 w C b n z) :
    Calls Tryd.prog 19 #[.slice a n c, .slice b n d] w fun e w' => e = .returned (.bool true) ∧ ∃ k, w' = w.drewN k := by
  have HA := Lib.hid ha
  have HB := Lib.hid hb
  clear ha hb
  go_enter Tryd.func19, Tryd.ntmps19
  go_wp2_with fail
  go_loopw [5] (fun v wr => ∃ i : Nat, v = .int .i64 i ∧ i ≤ n ∧ ∃ k, wr = w.drewN k) (fun v _ => n - (intOf v).toNat)
  case atStart => exact ⟨0, rfl, by omega, 0, rfl⟩
  case round =>
    obtain ⟨i, rfl, hle, hwk⟩ := hrel
    have HW := Lib.hid hwk
    by_cases hlt : i < n
    · obtain ⟨k, hk⟩ := hwk
      obtain ⟨b1, o1, rfl, _, c1⟩ := (show Nums .i64 (w.drewN k) B a n z from HA.out).at hlt
      obtain ⟨b2, o2, rfl, _, c2⟩ := (show Nums .i64 (w.drewN k) C b n z from HB.out).at hlt
      rw [← hk] at c1 c2
      clear hk
      go_wp2_with fail
      go_quiet (fail)
      go_wp2_with fail
      go_roundw
      case rel =>
        obtain ⟨k, hk⟩ := HW.out
        exact ⟨i + 1, by go_num, by omega, k + nq, by rw [hk]; simp [World.drewN, Nat.add_assoc]⟩
      case measure => simp [intOf]; omega
    · clear hwk
      go_wp2_with fail
      go_ret
      exact ⟨rfl, HW.out⟩
end Go.Proofs.YteiilfdbddpodaaDoor
