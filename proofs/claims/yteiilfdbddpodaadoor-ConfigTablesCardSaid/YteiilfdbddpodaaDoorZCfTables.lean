/- The law ConfigTables, walked: for every three numbers it returns true, and nothing that was in memory changes. Conditions: each number is an int; the library's variable of the type error holds that type. -/
import Derived.Test.YteiilfdbddpodaaDoorG29
namespace Go.Proofs.YteiilfdbddpodaaDoor
set_option maxRecDepth 100000
open Go.RowKit Go.ChangeShapes Go.WideShapes Go.ChangeAt

/-- The config of the law. -/
def cfT (A B T : Int) : Cfg := ⟨A, B, 1, 1, T, 1, 4, 1, 0⟩
theorem and_pow : ∀ t : Fin 129, 1 ≤ t.1 → ((t.1 &&& (t.1 - 1) = 0) ↔ rd (t.1 : Int) = (t.1 : Int)) := by decide +kernel
theorem and_tab (T : Int) (h1 : 1 ≤ T) (h2 : T ≤ 128) : (bits .and .i64 T (T - 1) = 0) ↔ rd T = T := by
  obtain ⟨n, rfl⟩ : ∃ n : Nat, T = (n : Int) := ⟨T.toNat, by omega⟩
  have h := and_pow ⟨n, by omega⟩ (by show 1 ≤ n; omega)
  rw [show (n : Int) - 1 = ((n - 1 : Nat) : Int) by omega, and_i64 n (n - 1) (by omega) (by omega)]
  constructor
  · intro e; exact h.1 (by show n &&& (n - 1) = 0; omega)
  · intro e; have := h.2 e; show ((n &&& (n - 1) : Nat) : Int) = 0; have h9 : n &&& (n - 1) = 0 := this; omega
set_option linter.unusedSectionVars false
section
variable {A B T : Int} (hA : 1 ≤ A ∧ A ≤ 64) (hB : 1 ≤ B ∧ B ≤ 16)
include hA hB
theorem cfT_ok4 : ∀ j, j < 5 → ftE (cfT A B T) j = 0 := fun j hj => by
  match j, hj with
  | 0, _ => exact wtE_zero.2 hA
  | 1, _ => exact wtE_zero.2 hB
  | 2, _ => exact (wtE_zero (n := 1) (l := 1) (g := 16)).2 ⟨by decide, by decide⟩
  | 3, _ => exact (wtE_zero (n := 1) (l := 1) (g := 32)).2 ⟨by decide, by decide⟩
  | 4, _ => exact (wtE_zero (n := 0) (l := 0) (g := 2)).2 ⟨by decide, by decide⟩
theorem cfT_bad (h : tbE (cfT A B T) ≠ 0) : Fst (cfT A B T) 5 := ⟨by decide, cfT_ok4 hA hB, fun _ => h⟩
theorem cfT_e2 (h : T < 1 ∨ 128 < T) : tbE (cfT A B T) = 2 := by
  have e : wtE T 1 128 = 2 := by unfold wtE; rw [if_pos (by omega)]
  show (if wtE T 1 128 ≠ 0 then wtE T 1 128 else _) = 2
  rw [e, if_pos (by decide)]
theorem cfT_e3 (h1 : 1 ≤ T) (h2 : T ≤ 128) (h : rd T ≠ T) : tbE (cfT A B T) = 3 := by
  have e : wtE T 1 128 = 0 := wtE_zero.2 ⟨h1, h2⟩
  show (if wtE T 1 128 ≠ 0 then wtE T 1 128 else if rd T ≠ T then 3 else _) = 3
  rw [e, if_neg (by decide), if_pos h]
theorem cfT_e4 (h1 : 1 ≤ T) (h2 : T ≤ 128) (h : rd T = T) (hl : T < A + B) : tbE (cfT A B T) = 4 := by
  have e : wtE T 1 128 = 0 := wtE_zero.2 ⟨h1, h2⟩
  have ew : wA (cfT A B T) = A + B := wA_in hA hB
  show (if wtE T 1 128 ≠ 0 then wtE T 1 128 else if rd T ≠ T then 3 else if T < wA (cfT A B T) then 4 else 0) = 4
  rw [e, if_neg (by decide), if_neg (by omega), ew, if_pos hl]
theorem cfT_e0 (h1 : 1 ≤ T) (h2 : T ≤ 128) (h : rd T = T) (hl : A + B ≤ T) : Fst (cfT A B T) 7 := by
  have e : wtE T 1 128 = 0 := wtE_zero.2 ⟨h1, h2⟩
  have ew : wA (cfT A B T) = A + B := wA_in hA hB
  have e5 : tbE (cfT A B T) = 0 := by
    show (if wtE T 1 128 ≠ 0 then wtE T 1 128 else if rd T ≠ T then 3 else if T < wA (cfT A B T) then 4 else 0) = 0
    rw [e, if_neg (by decide), if_neg (by omega), ew, if_neg (by omega)]
  have e6 : lvE (cfT A B T) = 0 := by
    obtain ⟨b, hb, hN⟩ := nB_tree (c := cfT A B T) hA hB ⟨h1, h2⟩
    have hn : nB (cfT A B T) ≤ 1023 := by
      have e2 : wrap64 (wrap64 (2 * T) + wA (cfT A B T)) = 2 * T + A + B := by
        rw [ew]; unfold wrap64; omega
      show rd (wrap64 (wrap64 (2 * T) + wA (cfT A B T))) ≤ 1023
      rw [e2]
      have := (rd_mid (2 * T + A + B) (by omega) (by omega)).2 (by omega)
      omega
    have hs : stR (nB (cfT A B T)) 1 4 1 = true := (stR_iff _ _ _ _).2 ⟨b, 1, 4, 1, hb, hN, rfl, rfl, rfl, by decide, by decide, by decide, by decide, by decide, by decide⟩
    have hz : bigL (szI (nB (cfT A B T)) 1 4 1) = false := by
      rw [hN] at hn ⊢
      rw [show szI ((2 ^ b : Nat) : Int) 1 4 1 = szS b 1 4 1 from szI_yes (s := 1) (t := 4) (n := 1) hb (by decide) (by decide) (by decide) (by decide) (by decide) (by decide)]
      obtain ⟨Q, P, _, hq, _, hQ⟩ := conf_of (D := b - 2 * 0) (S := 1) (H := 4) (by omega) (by decide) (by decide) (by decide) (by decide)
      have e3 : szS b 1 4 1 = [((blN b 0 : Nat) : Int), ((1 * (2 * 2 ^ (b - 2 * 0) - 1) : Nat) : Int), ((4 : Nat) : Int), qOf (b - 2 * 0) 1 4] := rfl
      rw [e3, hq]
      unfold blN
      rw [show b - 2 * 0 = b by omega]
      generalize 2 ^ b = N at *
      unfold bigL
      simp only [List.any_cons, List.any_nil, Bool.or_false, Bool.or_eq_false_iff, decide_eq_false_iff_not]
      refine ⟨by omega, by omega, by omega, by omega⟩
    show (if stR (nB (cfT A B T)) 1 4 1 = true ∧ bigL (szI (nB (cfT A B T)) 1 4 1) = false then (0 : Int) else 1) = 0
    rw [if_pos ⟨hs, hz⟩]
  exact ⟨by decide, fun j hj => by
    rcases Nat.lt_or_ge j 5 with l | l
    · exact cfT_ok4 hA hB j l
    · rcases (by omega : j = 5 ∨ j = 6) with rfl | rfl
      · exact e5
      · exact e6, fun h => absurd h (by decide)⟩
theorem cfT_nB (h1 : 1 ≤ T) (h2 : T ≤ 128) : 2 * T + A + B ≤ nB (cfT A B T) ∧ nB (cfT A B T) < 2 * (2 * T + A + B) := by
  have ew : wA (cfT A B T) = A + B := wA_in hA hB
  have e2 : wrap64 (wrap64 (2 * T) + wA (cfT A B T)) = 2 * T + A + B := by
    rw [ew]; unfold wrap64; omega
  show 2 * T + A + B ≤ rd (wrap64 (wrap64 (2 * T) + wA (cfT A B T))) ∧ rd (wrap64 (wrap64 (2 * T) + wA (cfT A B T))) < _
  rw [e2]
  have h := rd_mid (2 * T + A + B) (by omega) (by omega)
  exact ⟨h.1, h.2 (by omega)⟩
end
theorem why_T {A B T : Int} {i : Nat} {nm : ByteArray} {E : Int} (hT : Rg T) (hi : Fst (cfT A B T) i) (hn : nmA i = nm) (hE : ftE (cfT A B T) i = E) (W : World) (hg : ErrType W) : Calls Tryd.prog 10 #[.agg #[.int .i64 A, .int .i64 B, .int .i64 1, .int .i64 1, .int .i64 T, .int .i64 1, .int .i64 4, .int .i64 1, .int .i64 0]] W fun e w' => e = .returned (.tuple #[.string nm, .int .i64 E]) ∧ Below W.heap.size W w' := by
  refine (why_any (cfT A B T) W hT hg).mono ?_
  intro e w' h
  have := why_is hi h
  rw [hn, hE] at this
  exact this
theorem st_field (N S H V : Int) (w : World) : (Instr.field 32 (.agg #[.int .i64 N, .int .i64 S, .int .i64 H, .int .i64 V]) 0).run Tryd.prog w = .ok (.int .i64 N) w := by kernel_rfl
set_option maxRecDepth 100000 in
set_option maxHeartbeats 2000000 in
theorem tables_law (A B T : Int) (w : World) (hT : Rg T) (hg : ErrType w) : Calls Tryd.prog 6 #[.int .i64 A, .int .i64 B, .int .i64 T] w fun e w' => e = .returned (.bool true) ∧ Below w.heap.size w w' := by
  have HG := Lib.hid hg
  clear hg
  by_cases g1 : A < 1
  · go_enter Tryd.func6, Tryd.ntmps6
    go_wp2_with fail
    refine (shown_any _ HG.out).mono ?_
    rintro e w3 ⟨rfl, hb3⟩
    have HG3 := Lib.hid (HG.out.below hb3)
    have HB3 := Lib.hid hb3
    clear hb3 HG
    go_wp2_with fail
    go_ret
    exact ⟨rfl, HB3.out⟩
  by_cases g2 : 64 < A
  · go_enter Tryd.func6, Tryd.ntmps6
    go_wp2_with fail
    refine (shown_any _ HG.out).mono ?_
    rintro e w3 ⟨rfl, hb3⟩
    have HG3 := Lib.hid (HG.out.below hb3)
    have HB3 := Lib.hid hb3
    clear hb3 HG
    go_wp2_with fail
    go_ret
    exact ⟨rfl, HB3.out⟩
  by_cases g3 : B < 1
  · go_enter Tryd.func6, Tryd.ntmps6
    go_wp2_with fail
    refine (shown_any _ HG.out).mono ?_
    rintro e w3 ⟨rfl, hb3⟩
    have HG3 := Lib.hid (HG.out.below hb3)
    have HB3 := Lib.hid hb3
    clear hb3 HG
    go_wp2_with fail
    go_ret
    exact ⟨rfl, HB3.out⟩
  by_cases g4 : 16 < B
  · go_enter Tryd.func6, Tryd.ntmps6
    go_wp2_with fail
    refine (shown_any _ HG.out).mono ?_
    rintro e w3 ⟨rfl, hb3⟩
    have HG3 := Lib.hid (HG.out.below hb3)
    have HB3 := Lib.hid hb3
    clear hb3 HG
    go_wp2_with fail
    go_ret
    exact ⟨rfl, HB3.out⟩
  have hA : 1 ≤ A ∧ A ≤ 64 := by omega
  have hB : 1 ≤ B ∧ B ≤ 16 := by omega
  clear g1 g2 g3 g4
  by_cases hr : T < 1 ∨ 128 < T
  · have HWY := Lib.hid (fun W hg => why_T (A := A) (B := B) (T := T) (nm := ⟨#[84, 97, 98, 108, 101]⟩) (E := 2) hT (cfT_bad hA hB (by rw [cfT_e2 hA hB hr]; decide)) rfl (cfT_e2 hA hB hr) W hg)
    clear hT
    rcases hr with hr | hr
    · go_enter Tryd.func6, Tryd.ntmps6
      go_wp2_with fail
      refine (shown_any _ HG.out).mono ?_
      rintro e w3 ⟨rfl, hb3⟩
      have HG3 := Lib.hid (HG.out.below hb3)
      have HB3 := Lib.hid hb3
      clear hb3 HG
      go_upto_region 5 with fail
      obtain ⟨q, hq⟩ : ∃ q, w3.heap.size = q := ⟨_, rfl⟩
      obtain ⟨w4, hw4⟩ : ∃ w4, w3.alloc (.cells #[.int .i64 A, .int .i64 B, .int .i64 1, .int .i64 1, .int .i64 T, .int .i64 1, .int .i64 4, .int .i64 1, .int .i64 0] 23) = w4 := ⟨_, rfl⟩
      have hx : Box w4 q 23 #[.int .i64 A, .int .i64 B, .int .i64 1, .int .i64 1, .int .i64 T, .int .i64 1, .int .i64 4, .int .i64 1, .int .i64 0] := by rw [← hw4, ← hq]; exact Box.new w3 _ _
      have HB4 := Lib.hid (show Below w.heap.size w w4 by rw [← hw4]; exact HB3.out.alloc HB3.out.size _)
      have HG4 := Lib.hid (show ErrType w4 by rw [← hw4]; exact HG3.out.below ((Below.refl _ w3).alloc (Nat.le_refl _) _))
      have HX4 := Lib.hid hx
      have k0 := hx.cell 0
      have k1 := hx.cell 1
      have k2 := hx.cell 2
      have k3 := hx.cell 3
      have k4 := hx.cell 4
      have k5 := hx.cell 5
      have k6 := hx.cell 6
      have k7 := hx.cell 7
      have k8 := hx.cell 8
      clear hx HG3 HB3
      simp only [hq, hw4]
      clear hq hw4
      go_wp2_with fail
      refine (HWY.out _ HG4.out).mono ?_
      rintro e w5 ⟨rfl, hb5⟩
      have HB5 := Lib.hid (HB4.out.trans (hb5.mono HB4.out.size))
      have HX5 := Lib.hid (HX4.out.of (hb5.block _ HX4.out.lt))
      clear hb5 HG4 HB4 HX4 k0 k1 k2 k3 k4 k5 k6 k7 k8
      go_wp2_with fail
      go_ret
      exact ⟨rfl, HB5.out⟩
    · go_enter Tryd.func6, Tryd.ntmps6
      go_wp2_with fail
      refine (shown_any _ HG.out).mono ?_
      rintro e w3 ⟨rfl, hb3⟩
      have HG3 := Lib.hid (HG.out.below hb3)
      have HB3 := Lib.hid hb3
      clear hb3 HG
      go_upto_region 5 with fail
      obtain ⟨q, hq⟩ : ∃ q, w3.heap.size = q := ⟨_, rfl⟩
      obtain ⟨w4, hw4⟩ : ∃ w4, w3.alloc (.cells #[.int .i64 A, .int .i64 B, .int .i64 1, .int .i64 1, .int .i64 T, .int .i64 1, .int .i64 4, .int .i64 1, .int .i64 0] 23) = w4 := ⟨_, rfl⟩
      have hx : Box w4 q 23 #[.int .i64 A, .int .i64 B, .int .i64 1, .int .i64 1, .int .i64 T, .int .i64 1, .int .i64 4, .int .i64 1, .int .i64 0] := by rw [← hw4, ← hq]; exact Box.new w3 _ _
      have HB4 := Lib.hid (show Below w.heap.size w w4 by rw [← hw4]; exact HB3.out.alloc HB3.out.size _)
      have HG4 := Lib.hid (show ErrType w4 by rw [← hw4]; exact HG3.out.below ((Below.refl _ w3).alloc (Nat.le_refl _) _))
      have HX4 := Lib.hid hx
      have k0 := hx.cell 0
      have k1 := hx.cell 1
      have k2 := hx.cell 2
      have k3 := hx.cell 3
      have k4 := hx.cell 4
      have k5 := hx.cell 5
      have k6 := hx.cell 6
      have k7 := hx.cell 7
      have k8 := hx.cell 8
      clear hx HG3 HB3
      simp only [hq, hw4]
      clear hq hw4
      go_wp2_with fail
      refine (HWY.out _ HG4.out).mono ?_
      rintro e w5 ⟨rfl, hb5⟩
      have HB5 := Lib.hid (HB4.out.trans (hb5.mono HB4.out.size))
      have HX5 := Lib.hid (HX4.out.of (hb5.block _ HX4.out.lt))
      clear hb5 HG4 HB4 HX4 k0 k1 k2 k3 k4 k5 k6 k7 k8
      go_wp2_with fail
      go_ret
      exact ⟨rfl, HB5.out⟩
  have h1 : 1 ≤ T := by omega
  have h2 : T ≤ 128 := by omega
  clear hr
  by_cases hp : rd T = T
  · by_cases hl : T < A + B
    · have HWY := Lib.hid (fun W hg => why_T (A := A) (B := B) (T := T) (nm := ⟨#[84, 97, 98, 108, 101]⟩) (E := 4) hT (cfT_bad hA hB (by rw [cfT_e4 hA hB h1 h2 hp hl]; decide)) rfl (cfT_e4 hA hB h1 h2 hp hl) W hg)
      clear hT
      have hy : bits .and .i64 T (T - 1) = 0 := (and_tab T h1 h2).2 hp
      clear hp
      go_enter Tryd.func6, Tryd.ntmps6
      go_wp2_with fail
      refine (shown_any _ HG.out).mono ?_
      rintro e w3 ⟨rfl, hb3⟩
      have HG3 := Lib.hid (HG.out.below hb3)
      have HB3 := Lib.hid hb3
      clear hb3 HG
      go_upto_region 5 with fail
      obtain ⟨q, hq⟩ : ∃ q, w3.heap.size = q := ⟨_, rfl⟩
      obtain ⟨w4, hw4⟩ : ∃ w4, w3.alloc (.cells #[.int .i64 A, .int .i64 B, .int .i64 1, .int .i64 1, .int .i64 T, .int .i64 1, .int .i64 4, .int .i64 1, .int .i64 0] 23) = w4 := ⟨_, rfl⟩
      have hx : Box w4 q 23 #[.int .i64 A, .int .i64 B, .int .i64 1, .int .i64 1, .int .i64 T, .int .i64 1, .int .i64 4, .int .i64 1, .int .i64 0] := by rw [← hw4, ← hq]; exact Box.new w3 _ _
      have HB4 := Lib.hid (show Below w.heap.size w w4 by rw [← hw4]; exact HB3.out.alloc HB3.out.size _)
      have HG4 := Lib.hid (show ErrType w4 by rw [← hw4]; exact HG3.out.below ((Below.refl _ w3).alloc (Nat.le_refl _) _))
      have HX4 := Lib.hid hx
      have k0 := hx.cell 0
      have k1 := hx.cell 1
      have k2 := hx.cell 2
      have k3 := hx.cell 3
      have k4 := hx.cell 4
      have k5 := hx.cell 5
      have k6 := hx.cell 6
      have k7 := hx.cell 7
      have k8 := hx.cell 8
      clear hx HG3 HB3
      simp only [hq, hw4]
      clear hq hw4
      go_wp2_with fail
      refine (HWY.out _ HG4.out).mono ?_
      rintro e w5 ⟨rfl, hb5⟩
      have HB5 := Lib.hid (HB4.out.trans (hb5.mono HB4.out.size))
      have HX5 := Lib.hid (HX4.out.of (hb5.block _ HX4.out.lt))
      clear hb5 HG4 HB4 HX4 k0 k1 k2 k3 k4 k5 k6 k7 k8
      go_wp2_with fail
      go_ret
      exact ⟨rfl, HB5.out⟩
    have hl : A + B ≤ T := by omega
    have hF := cfT_e0 hA hB h1 h2 hp hl
    have HWY := Lib.hid (fun W hg => why_T (A := A) (B := B) (T := T) (nm := ⟨#[]⟩) (E := 0) hT hF rfl rfl W hg)
    have HST : Hid (∀ W, Calls Tryd.prog 13 #[.agg #[.int .i64 A, .int .i64 B, .int .i64 1, .int .i64 1, .int .i64 T, .int .i64 1, .int .i64 4, .int .i64 1, .int .i64 0]] W fun e w' => e = .returned (.agg #[.int .i64 (nB (cfT A B T)), .int .i64 1, .int .i64 4, .int .i64 1]) ∧ Below W.heap.size W w') := Lib.hid (fun W => cst_ok (cfT A B T) W hT hF)
    have HCE : Hid (∀ W, Calls Tryd.prog 17 #[.agg #[.int .i64 A, .int .i64 B, .int .i64 1, .int .i64 1, .int .i64 T, .int .i64 1, .int .i64 4, .int .i64 1, .int .i64 0]] W fun e w' => e = .returned (.int .i64 (A + B)) ∧ Below W.heap.size W w') := Lib.hid (fun W => ccells_ok (cfT A B T) W hT hF)
    obtain ⟨n1, n2⟩ := cfT_nB hA hB h1 h2
    have hy : bits .and .i64 T (T - 1) = 0 := (and_tab T h1 h2).2 hp
    generalize nB (cfT A B T) = N at *
    have hfl := st_field N 1 4 1
    clear hp hF hT
    obtain ⟨a1, a2⟩ := hA
    obtain ⟨b1, b2⟩ := hB
    go_enter Tryd.func6, Tryd.ntmps6
    go_wp2_with fail
    refine (shown_any _ HG.out).mono ?_
    rintro e w3 ⟨rfl, hb3⟩
    have HG3 := Lib.hid (HG.out.below hb3)
    have HB3 := Lib.hid hb3
    clear hb3 HG
    go_upto_region 5 with fail
    obtain ⟨q, hq⟩ : ∃ q, w3.heap.size = q := ⟨_, rfl⟩
    obtain ⟨w4, hw4⟩ : ∃ w4, w3.alloc (.cells #[.int .i64 A, .int .i64 B, .int .i64 1, .int .i64 1, .int .i64 T, .int .i64 1, .int .i64 4, .int .i64 1, .int .i64 0] 23) = w4 := ⟨_, rfl⟩
    have hx : Box w4 q 23 #[.int .i64 A, .int .i64 B, .int .i64 1, .int .i64 1, .int .i64 T, .int .i64 1, .int .i64 4, .int .i64 1, .int .i64 0] := by rw [← hw4, ← hq]; exact Box.new w3 _ _
    have HB4 := Lib.hid (show Below w.heap.size w w4 by rw [← hw4]; exact HB3.out.alloc HB3.out.size _)
    have HG4 := Lib.hid (show ErrType w4 by rw [← hw4]; exact HG3.out.below ((Below.refl _ w3).alloc (Nat.le_refl _) _))
    have HX4 := Lib.hid hx
    have k0 := hx.cell 0
    have k1 := hx.cell 1
    have k2 := hx.cell 2
    have k3 := hx.cell 3
    have k4 := hx.cell 4
    have k5 := hx.cell 5
    have k6 := hx.cell 6
    have k7 := hx.cell 7
    have k8 := hx.cell 8
    clear hx HG3 HB3
    simp only [hq, hw4]
    clear hq hw4
    go_wp2_with fail
    refine (HWY.out _ HG4.out).mono ?_
    rintro e w5 ⟨rfl, hb5⟩
    have HB5 := Lib.hid (HB4.out.trans (hb5.mono HB4.out.size))
    have HX5 := Lib.hid (HX4.out.of (hb5.block _ HX4.out.lt))
    clear hb5 HG4 HB4 HX4 k0 k1 k2 k3 k4 k5 k6 k7 k8
    have k0 := HX5.out.cell 0
    have k1 := HX5.out.cell 1
    have k2 := HX5.out.cell 2
    have k3 := HX5.out.cell 3
    have k4 := HX5.out.cell 4
    have k5 := HX5.out.cell 5
    have k6 := HX5.out.cell 6
    have k7 := HX5.out.cell 7
    have k8 := HX5.out.cell 8
    go_wp2_with fail
    refine (HST.out _).mono ?_
    rintro e w6 ⟨rfl, hb6⟩
    have HB6 := Lib.hid (HB5.out.trans (hb6.mono HB5.out.size))
    have HX6 := Lib.hid (HX5.out.of (hb6.block _ HX5.out.lt))
    clear hb6 HB5 HX5 k0 k1 k2 k3 k4 k5 k6 k7 k8
    have k0 := HX6.out.cell 0
    have k1 := HX6.out.cell 1
    have k2 := HX6.out.cell 2
    have k3 := HX6.out.cell 3
    have k4 := HX6.out.cell 4
    have k5 := HX6.out.cell 5
    have k6 := HX6.out.cell 6
    have k7 := HX6.out.cell 7
    have k8 := HX6.out.cell 8
    go_wp2_with fail
    refine (HCE.out _).mono ?_
    rintro e w7 ⟨rfl, hb7⟩
    have HB7 := Lib.hid (HB6.out.trans (hb7.mono HB6.out.size))
    clear hb7 HB6 HX6 k0 k1 k2 k3 k4 k5 k6 k7 k8
    go_wp2_with fail
    go_ret
    exact ⟨rfl, HB7.out⟩
  have HWY := Lib.hid (fun W hg => why_T (A := A) (B := B) (T := T) (nm := ⟨#[84, 97, 98, 108, 101]⟩) (E := 3) hT (cfT_bad hA hB (by rw [cfT_e3 hA hB h1 h2 hp]; decide)) rfl (cfT_e3 hA hB h1 h2 hp) W hg)
  clear hT
  have hy0 : bits .and .i64 T (T - 1) ≠ 0 := fun e => hp ((and_tab T h1 h2).1 e)
  obtain ⟨y, hy⟩ : ∃ y, bits .and .i64 T (T - 1) = y := ⟨_, rfl⟩
  rw [hy] at hy0
  have hyb : (y == 0) = false := by simpa using hy0
  clear hp
  go_enter Tryd.func6, Tryd.ntmps6
  go_wp2_with fail
  refine (shown_any _ HG.out).mono ?_
  rintro e w3 ⟨rfl, hb3⟩
  have HG3 := Lib.hid (HG.out.below hb3)
  have HB3 := Lib.hid hb3
  clear hb3 HG
  go_upto_region 5 with fail
  obtain ⟨q, hq⟩ : ∃ q, w3.heap.size = q := ⟨_, rfl⟩
  obtain ⟨w4, hw4⟩ : ∃ w4, w3.alloc (.cells #[.int .i64 A, .int .i64 B, .int .i64 1, .int .i64 1, .int .i64 T, .int .i64 1, .int .i64 4, .int .i64 1, .int .i64 0] 23) = w4 := ⟨_, rfl⟩
  have hx : Box w4 q 23 #[.int .i64 A, .int .i64 B, .int .i64 1, .int .i64 1, .int .i64 T, .int .i64 1, .int .i64 4, .int .i64 1, .int .i64 0] := by rw [← hw4, ← hq]; exact Box.new w3 _ _
  have HB4 := Lib.hid (show Below w.heap.size w w4 by rw [← hw4]; exact HB3.out.alloc HB3.out.size _)
  have HG4 := Lib.hid (show ErrType w4 by rw [← hw4]; exact HG3.out.below ((Below.refl _ w3).alloc (Nat.le_refl _) _))
  have HX4 := Lib.hid hx
  have k0 := hx.cell 0
  have k1 := hx.cell 1
  have k2 := hx.cell 2
  have k3 := hx.cell 3
  have k4 := hx.cell 4
  have k5 := hx.cell 5
  have k6 := hx.cell 6
  have k7 := hx.cell 7
  have k8 := hx.cell 8
  clear hx HG3 HB3
  simp only [hq, hw4]
  clear hq hw4
  go_wp2_with fail
  refine (HWY.out _ HG4.out).mono ?_
  rintro e w5 ⟨rfl, hb5⟩
  have HB5 := Lib.hid (HB4.out.trans (hb5.mono HB4.out.size))
  have HX5 := Lib.hid (HX4.out.of (hb5.block _ HX4.out.lt))
  clear hb5 HG4 HB4 HX4 k0 k1 k2 k3 k4 k5 k6 k7 k8
  go_wp2_with fail
  go_ret
  exact ⟨rfl, HB5.out⟩
end Go.Proofs.YteiilfdbddpodaaDoor
