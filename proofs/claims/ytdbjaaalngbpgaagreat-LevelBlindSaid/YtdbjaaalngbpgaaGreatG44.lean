/- Texts of ours put together: LevelShown, LevelHead. -/
import Derived.Test.YtdbjaaalngbpgaaGreatG43
import Derived.Test.YtdbjaaalngbpgaaGreatG28
import Derived.Test.YtdbjaaalngbpgaaGreatG14
import Derived.Test.YtdbjaaalngbpgaaGreatG47
import Derived.Test.YtdbjaaalngbpgaaGreatG1
/- The tenth chapter's example, as the law texts ask it first: it is true; nothing that was there turns. -/
namespace Go.Proofs.YtdbjaaalngbpgaaGreat
set_option maxRecDepth 100000
open Go.RowKit Go.ChangeShapes Go.WideShapes Go.ChangeAt Go.Maps

theorem setB_two (m : Bm) (i : Int) (b c : Option (Nat × (Nat → Int))) : setB (setB m i b) i c = setB m i c := by
  funext j
  unfold setB
  by_cases h : j = i
  · rw [if_pos h, if_pos h]
  · rw [if_neg h, if_neg h, if_neg h]
theorem setB_at (m : Bm) (i : Int) (b : Option (Nat × (Nat → Int))) : setB m i b i = b := by unfold setB; rw [if_pos rfl]
/-- The example's blocks: id 7, or none. -/
def shM (b : Option (Nat × (Nat → Int))) : Bm := setB (fun _ => none) 7 b
theorem shM_next (b : Option (Nat × (Nat → Int))) (op at' : Int) (d : Nat → Int) (lf to : Int) : nextB (shM b) ⟨op, 7, at', d, lf, to⟩ = shM (newM op at' to.toNat d b) := by
  show setB (shM b) 7 (newM op at' to.toNat d (shM b 7)) = _
  unfold shM
  rw [setB_two, setB_at]
theorem shM_none : shM none = fun _ => none := by
  funext j
  unfold shM setB
  split <;> rfl
theorem shM_one (b : Option (Nat × (Nat → Int))) (id : Int) (x : Nat × (Nat → Int)) (h : shM b id = some x) : id ∈ [(7 : Int)] := by
  unfold shM setB at h
  by_cases e : id = 7
  · simp [e]
  · rw [if_neg e] at h; cases h
theorem shM_leaf {b : Option (Nat × (Nat → Int))} (hb : ∀ l d, b = some (l, d) → l = 0) (l : Nat) (d : Nat → Int) (h : shM b 7 = some (l, d)) : (l : Int) = 0 := by
  rw [shM, setB_at] at h
  rw [hb l d h]
  rfl
/-- One access of the example. -/
theorem shown_step {H : Type} {n Q P : Nat} (h : Conf 1 1 2 0 1 n Q P) {X : Nat → Prop} {mp lp bm : Nat} {I : List Int} {M : MS} {k : Nat} {w : World} {b : Option (Nat × (Nat → Int))} (hL : Lv H 1 1 0 2 Q X mp lp bm 1 false I M k w) (hI : LvInv 1 0 2 (cellsE 1 M.c) (shM b)) (op : Int) (d : Nat → Int)
    (hk : k < 20000) (hop : op = 0 ∨ op = 1 ∨ op = 3) (hd : ∀ j, 0 ≤ d j ∧ d j ≤ 18446744073709551615) (hb : ∀ l d, b = some (l, d) → l = 0) :
    Calls Tryz.prog 19 #[.pointer (some ⟨lp, 0, none⟩), .int .i64 op, .int .u64 7, .int .i64 0, .agg (DA d), .int .i64 0, .int .i64 0] w fun e w' =>
      e = .returned (.tuple #[.agg (DA (dat b)), .bool b.isSome]) ∧ ∃ M', Lv H 1 1 0 2 Q X mp lp bm 1 false (if op = 1 then I ++ [7] else I) M' (k + 1) w' ∧ LvInv 1 0 2 (cellsE 1 M'.c) (shM (newM op 0 0 d b)) ∧ Kept (fun j => X j ∧ j ≠ lp ∧ j ≠ bm) w w' := by
  have hok : (⟨op, 7, 0, d, 0, 0⟩ : Ask).ok 1 = true := by
    rcases hop with rfl | rfl | rfl
    · show isAsk 1 0 7 0 0 0 = true; decide
    · show isAsk 1 1 7 0 0 0 = true; decide
    · show isAsk 1 3 7 0 0 0 = true; decide
  refine (hL.step h hI ⟨op, 7, 0, d, 0, 0⟩ (by decide) hk (by show (0 : Int) ≤ 7; decide) hd hok (fun l e he => shM_leaf hb l e he)).mono ?_
  rintro e w' ⟨rfl, ov, M', hl, h1, h2, hK⟩
  have e7 : shM b 7 = b := by unfold shM; exact setB_at _ _ _
  have hov : ov = false := h2 [7] (fun id' x hx => by rw [shM_next] at hx; exact shM_one _ _ _ hx) (by decide)
  subst hov
  have hi := h1 rfl
  rw [shM_next] at hi
  refine ⟨by show _ = Ending.returned (.tuple #[.agg (DA (dat b)), .bool b.isSome]); rw [← e7]; rfl, M', ?_, hi, hK⟩
  have ei : acI 1 ⟨op, 7, 0, d, 0, 0⟩ I = if op = 1 then I ++ [7] else I := by
    unfold acI
    rw [hok, Bool.true_and]
    rcases hop with rfl | rfl | rfl <;> rfl
  rw [ei] at hl
  exact hl
set_option maxRecDepth 100000 in
set_option maxHeartbeats 2000000 in
theorem shown_of (w : World) : Calls Tryz.prog 11 #[] w fun e w' => e = .returned (.bool true) ∧ Below w.heap.size w w' := by
  obtain ⟨Q, P, hC⟩ := Conf.mk' (D := 0) (N := 1) (S := 1) (T := 2) (by decide) (by decide) (by decide) (by decide) (by decide) (by decide)
  have HMd := Lib.hid (fun W => made_of (H := Unit) hC W (by decide))
  have HDt := Lib.hid (fun W => data_of 1 W)
  have HC := Lib.hid hC
  have HI0 : Hid (LvInv 1 0 2 (cellsE 1 (mdM 1 0 2 Q).c) (shM none)) := Lib.hid (by rw [shM_none]; exact mdM_inv 1 0 2 Q)
  go_enter Tryz.func11, Tryz.ntmps11
  go_wp2_with fail
  refine (HMd.out _).mono ?_
  rintro e w1 ⟨mp, lp, bm, rfl, ho1, hlp, hbm, hL1⟩
  have HS1 : Hid (∀ i, old w i → Sav (old2 w lp bm) lp bm i) := Lib.hid fun i hi => ⟨.inl hi, by have hi : i < w.heap.size := hi; omega, by have hi : i < w.heap.size := hi; omega⟩
  have HK1 : Hid (Kept (old w) w w1) := Lib.hid (Kept.of_none ho1)
  generalize old2 w lp bm = X1 at *
  have HL1 := Lib.hid hL1
  clear ho1 hL1 hlp hbm hC HMd
  go_upto_region 5 with fail
  obtain ⟨X2, hL2, hs2, hn2⟩ := HL1.out.one (.cells #[.int .u64 0, .int .u64 0, .int .u64 0, .int .u64 0, .int .u64 0, .int .u64 0, .int .u64 0, .int .u64 0] 48)
  have hb2 : Box (w1.alloc (.cells #[.int .u64 0, .int .u64 0, .int .u64 0, .int .u64 0, .int .u64 0, .int .u64 0, .int .u64 0, .int .u64 0] 48)) w1.heap.size 48 (DA fun _ => 0) := Box.new w1 _ _
  have HK2 := Lib.hid (HK1.out.alloc (.cells #[.int .u64 0, .int .u64 0, .int .u64 0, .int .u64 0, .int .u64 0, .int .u64 0, .int .u64 0, .int .u64 0] 48))
  have HS2 : Hid (∀ i, old w i → Sav X2 lp bm i) := Lib.hid fun i hi => hs2 i (HS1.out i hi)
  obtain ⟨nb, hnb⟩ : ∃ b, w1.heap.size = b := ⟨_, rfl⟩
  rw [hnb] at hn2 hb2 ⊢
  have HN2 := Lib.hid hn2
  have HB2 := Lib.hid hb2
  have HL2 := Lib.hid hL2
  generalize w1.alloc (.cells #[.int .u64 0, .int .u64 0, .int .u64 0, .int .u64 0, .int .u64 0, .int .u64 0, .int .u64 0, .int .u64 0] 48) = w2 at *
  clear hnb hn2 hs2 hb2 hL2 HL1 HS1 HK1
  go_wp2_with fail
  refine (HDt.out _).mono ?_
  rintro e w3 ⟨rfl, hb⟩
  have ho3 : Only nobody w2 w3 := Only.of_below hb
  have HL3 := Lib.hid (HL2.out.nob ho3)
  have HB3 := Lib.hid (HB2.out.only ho3 (not_nobody _))
  have HK3 := Lib.hid (HK2.out.trans (Kept.of_none ho3))
  clear hb ho3 HL2 HB2 HK2
  go_wp2_with fail
  refine (shown_step HC.out (b := none) HL3.out HI0.out 1 (dw 1) (by decide) (.inr (.inl rfl)) (fun j => dw_rng 1 j) (fun _ _ h => by cases h)).mono ?_
  rintro e w4 ⟨rfl, M4, hL4, hI4, hK4⟩
  rw [if_pos rfl, List.nil_append] at hL4
  have hK4 : Kept (Sav X2 lp bm) w3 w4 := hK4
  have HB4 := Lib.hid (hK4.box HB3.out HN2.out)
  have HN4 := HN2
  have HS4 := HS2
  have HK4 := Lib.hid (HK3.out.trans (hK4.mono HS2.out))
  have HI4 : Hid (LvInv 1 0 2 (cellsE 1 M4.c) (shM (some (0, dw 1)))) := Lib.hid hI4
  have HL4 := Lib.hid hL4
  clear hL4 hI4 hK4 HI0 HL3 HB3 HK3
  go_upto_region 6 with (refine wpList_store_newD rfl (.tmp 4) (.tmp 23) rfl rfl _ rfl rfl ?_)
  obtain ⟨X3, hL5, hs5, hn5⟩ := HL4.out.one (.cells (DA (dat none)) 48)
  have hb5 : Box (w4.alloc (.cells (DA (dat none)) 48)) w4.heap.size 48 (DA (dat none)) := Box.new w4 _ _
  have HK5 := Lib.hid (HK4.out.alloc (.cells (DA (dat none)) 48))
  have HB5 := Lib.hid (HB4.out.alloc (.cells (DA (dat none)) 48))
  have HS5 : Hid (∀ i, old w i → Sav X3 lp bm i) := Lib.hid fun i hi => hs5 i (HS4.out i hi)
  have HN5 := Lib.hid (hs5 _ HN4.out)
  generalize w4.heap.size = nz at hn5 hb5 ⊢
  have HL5 := Lib.hid hL5
  clear hn5 hs5 hb5 hL5 HL4 HS4 HK4 HB4 HN4 
  generalize w4.alloc (.cells (DA (dat none)) 48) = w5 at *
  have z0 : w5.cell? ⟨nb, 0, none⟩ = some (.int .u64 0) := HB5.out.cell 0
  have z1 : w5.cell? ⟨nb, 1, none⟩ = some (.int .u64 0) := HB5.out.cell 1
  have z2 : w5.cell? ⟨nb, 2, none⟩ = some (.int .u64 0) := HB5.out.cell 2
  have z3 : w5.cell? ⟨nb, 3, none⟩ = some (.int .u64 0) := HB5.out.cell 3
  have z4 : w5.cell? ⟨nb, 4, none⟩ = some (.int .u64 0) := HB5.out.cell 4
  have z5 : w5.cell? ⟨nb, 5, none⟩ = some (.int .u64 0) := HB5.out.cell 5
  have z6 : w5.cell? ⟨nb, 6, none⟩ = some (.int .u64 0) := HB5.out.cell 6
  have z7 : w5.cell? ⟨nb, 7, none⟩ = some (.int .u64 0) := HB5.out.cell 7
  go_wp2_with fail
  refine (shown_step HC.out (b := some (0, dw 1)) HL5.out HI4.out 0 (fun _ => 0) (by decide) (.inl rfl) (fun _ => ⟨Int.le_refl 0, by show (0 : Int) ≤ 18446744073709551615; decide⟩) (fun _ _ h => by injection h with h; injection h with h _; exact h.symm)).mono ?_
  clear z0 z1 z2 z3 z4 z5 z6 z7
  rintro e w6 ⟨rfl, M6, hL6, hI6, hK6⟩
  rw [if_neg (by decide)] at hL6
  have hK6 : Kept (Sav X3 lp bm) w5 w6 := hK6
  have HB6 := Lib.hid (hK6.box HB5.out HN5.out)
  have HN6 := HN5
  have HS6 := HS5
  have HK6 := Lib.hid (HK5.out.trans (hK6.mono HS5.out))
  have HI6 : Hid (LvInv 1 0 2 (cellsE 1 M6.c) (shM (some (0, dw 1)))) := Lib.hid hI6
  have HL6 := Lib.hid hL6
  clear hL6 hI6 hK6 HI4 HL5 HB5 HK5 HN5 HS5 
  go_upto_region 7 with (refine wpList_store_newD rfl (.tmp 6) (.tmp 29) rfl rfl _ rfl rfl ?_)
  obtain ⟨X4, hL7, hs7, hn7⟩ := HL6.out.one (.cells (DA (dat (some (0, dw 1)))) 48)
  have hb7 : Box (w6.alloc (.cells (DA (dat (some (0, dw 1)))) 48)) w6.heap.size 48 (DA (dat (some (0, dw 1)))) := Box.new w6 _ _
  have HK7 := Lib.hid (HK6.out.alloc (.cells (DA (dat (some (0, dw 1)))) 48))
  have HB7 := Lib.hid (HB6.out.alloc (.cells (DA (dat (some (0, dw 1)))) 48))
  have HS7 : Hid (∀ i, old w i → Sav X4 lp bm i) := Lib.hid fun i hi => hs7 i (HS6.out i hi)
  have HN7 := Lib.hid (hs7 _ HN6.out)
  obtain ⟨nx, hx⟩ : ∃ b, w6.heap.size = b := ⟨_, rfl⟩
  rw [hx] at hn7 hb7 ⊢
  have HNx7 := Lib.hid hn7
  have HBx7 := Lib.hid hb7
  clear hx
  have HL7 := Lib.hid hL7
  clear hn7 hs7 hb7 hL7 HL6 HS6 HK6 HB6 HN6 
  generalize w6.alloc (.cells (DA (dat (some (0, dw 1)))) 48) = w7 at *
  have z0 : w7.cell? ⟨nb, 0, none⟩ = some (.int .u64 0) := HB7.out.cell 0
  have z1 : w7.cell? ⟨nb, 1, none⟩ = some (.int .u64 0) := HB7.out.cell 1
  have z2 : w7.cell? ⟨nb, 2, none⟩ = some (.int .u64 0) := HB7.out.cell 2
  have z3 : w7.cell? ⟨nb, 3, none⟩ = some (.int .u64 0) := HB7.out.cell 3
  have z4 : w7.cell? ⟨nb, 4, none⟩ = some (.int .u64 0) := HB7.out.cell 4
  have z5 : w7.cell? ⟨nb, 5, none⟩ = some (.int .u64 0) := HB7.out.cell 5
  have z6 : w7.cell? ⟨nb, 6, none⟩ = some (.int .u64 0) := HB7.out.cell 6
  have z7 : w7.cell? ⟨nb, 7, none⟩ = some (.int .u64 0) := HB7.out.cell 7
  go_wp2_with fail
  refine (shown_step HC.out (b := some (0, dw 1)) HL7.out HI6.out 3 (fun _ => 0) (by decide) (.inr (.inr rfl)) (fun _ => ⟨Int.le_refl 0, by show (0 : Int) ≤ 18446744073709551615; decide⟩) (fun _ _ h => by injection h with h; injection h with h _; exact h.symm)).mono ?_
  clear z0 z1 z2 z3 z4 z5 z6 z7
  rintro e w8 ⟨rfl, M8, hL8, hI8, hK8⟩
  rw [if_neg (by decide)] at hL8
  have hK8 : Kept (Sav X4 lp bm) w7 w8 := hK8
  have HB8 := Lib.hid (hK8.box HB7.out HN7.out)
  have HN8 := HN7
  have HS8 := HS7
  have HK8 := Lib.hid (HK7.out.trans (hK8.mono HS7.out))
  have HI8 : Hid (LvInv 1 0 2 (cellsE 1 M8.c) (shM none)) := Lib.hid hI8
  have HL8 := Lib.hid hL8
  have HBx8 := Lib.hid (hK8.box HBx7.out HNx7.out)
  have HNx8 := HNx7
  clear hL8 hI8 hK8 HI6 HL7 HB7 HK7 HN7 HS7 HBx7 HNx7
  go_upto_region 8 with (refine wpList_store_newD rfl (.tmp 8) (.tmp 35) rfl rfl _ rfl rfl ?_)
  obtain ⟨X5, hL9, hs9, hn9⟩ := HL8.out.one (.cells (DA (dat (some (0, dw 1)))) 48)
  have hb9 : Box (w8.alloc (.cells (DA (dat (some (0, dw 1)))) 48)) w8.heap.size 48 (DA (dat (some (0, dw 1)))) := Box.new w8 _ _
  have HK9 := Lib.hid (HK8.out.alloc (.cells (DA (dat (some (0, dw 1)))) 48))
  have HB9 := Lib.hid (HB8.out.alloc (.cells (DA (dat (some (0, dw 1)))) 48))
  have HS9 : Hid (∀ i, old w i → Sav X5 lp bm i) := Lib.hid fun i hi => hs9 i (HS8.out i hi)
  have HN9 := Lib.hid (hs9 _ HN8.out)
  have HBx9 := Lib.hid (HBx8.out.alloc (.cells (DA (dat (some (0, dw 1)))) 48))
  have HNx9 := Lib.hid (hs9 _ HNx8.out)
  obtain ⟨ny, hy⟩ : ∃ b, w8.heap.size = b := ⟨_, rfl⟩
  rw [hy] at hn9 hb9 ⊢
  have HNy9 := Lib.hid hn9
  have HBy9 := Lib.hid hb9
  clear hy
  have HL9 := Lib.hid hL9
  clear hn9 hs9 hb9 hL9 HL8 HS8 HK8 HB8 HN8 HBx8 HNx8
  generalize w8.alloc (.cells (DA (dat (some (0, dw 1)))) 48) = w9 at *
  have z0 : w9.cell? ⟨nb, 0, none⟩ = some (.int .u64 0) := HB9.out.cell 0
  have z1 : w9.cell? ⟨nb, 1, none⟩ = some (.int .u64 0) := HB9.out.cell 1
  have z2 : w9.cell? ⟨nb, 2, none⟩ = some (.int .u64 0) := HB9.out.cell 2
  have z3 : w9.cell? ⟨nb, 3, none⟩ = some (.int .u64 0) := HB9.out.cell 3
  have z4 : w9.cell? ⟨nb, 4, none⟩ = some (.int .u64 0) := HB9.out.cell 4
  have z5 : w9.cell? ⟨nb, 5, none⟩ = some (.int .u64 0) := HB9.out.cell 5
  have z6 : w9.cell? ⟨nb, 6, none⟩ = some (.int .u64 0) := HB9.out.cell 6
  have z7 : w9.cell? ⟨nb, 7, none⟩ = some (.int .u64 0) := HB9.out.cell 7
  go_wp2_with fail
  refine (shown_step HC.out (b := none) HL9.out HI8.out 0 (fun _ => 0) (by decide) (.inl rfl) (fun _ => ⟨Int.le_refl 0, by show (0 : Int) ≤ 18446744073709551615; decide⟩) (fun _ _ h => by cases h)).mono ?_
  clear z0 z1 z2 z3 z4 z5 z6 z7
  rintro e w10 ⟨rfl, M10, hL10, hI10, hK10⟩
  rw [if_neg (by decide)] at hL10
  have hK10 : Kept (Sav X5 lp bm) w9 w10 := hK10
  have HB10 := Lib.hid (hK10.box HB9.out HN9.out)
  have HN10 := HN9
  have HS10 := HS9
  have HK10 := Lib.hid (HK9.out.trans (hK10.mono HS9.out))
  have HI10 : Hid (LvInv 1 0 2 (cellsE 1 M10.c) (shM none)) := Lib.hid hI10
  have HL10 := Lib.hid hL10
  have HBx10 := Lib.hid (hK10.box HBx9.out HNx9.out)
  have HNx10 := HNx9
  have HBy10 := Lib.hid (hK10.box HBy9.out HNy9.out)
  have HNy10 := HNy9
  clear hL10 hI10 hK10 HI8 HL9 HB9 HK9 HN9 HS9 HBx9 HNx9 HBy9 HNy9
  go_upto_region 9 with (refine wpList_store_newD rfl (.tmp 10) (.tmp 41) rfl rfl _ rfl rfl ?_)
  have hE : Lv Unit 1 1 0 2 Q X5 mp lp bm 1 false [7] M10 4 (w10.alloc (.cells (DA (dat none)) 48)).drew ∧ Kept (old w) w (w10.alloc (.cells (DA (dat none)) 48)).drew := ⟨HL10.out.nob (((Only.refl nobody w10).alloc _).drew), HK10.out.trans (Kept.of_none (((Only.refl nobody w10).alloc _).drew))⟩
  refine held_s (S := fun w' => Box w' nx 48 (DA (dw 1)) ∧ Box w' ny 48 (DA (dw 1))) 33 rfl (by kernel_rfl) ⟨(HBx10.out.alloc _).drewN 1, (HBy10.out.alloc _).drewN 1⟩ (fun hHeld => ?_)
  simp only [Array.replicate_succ, Array.replicate_zero, List.push_toArray, List.nil_append, List.cons_append]
  generalize (w10.alloc (.cells (DA (dat none)) 48)).drew = w11 at *
  clear HL10 HK10 HB10 HN10 HS10 HI10 HBx10 HBy10 HNx10 HNy10 HC
  refine wpAnyH_take (i := 0) (oi := ⟨some 43, _, _, _, _, _⟩) (v := (.bool false)) rfl (by kernel_rfl) (by kernel_rfl) (by kernel_rfl) (fun _ _ _ h => h) (Or.inl ⟨by rfl, fun w' hw => by go_simp⟩) hHeld ?_
  try simp only [Act.put, List.setIfInBounds_toArray, List.set_cons_zero, List.set_cons_succ]
  refine wpAnyH_take (i := 1) (oi := ⟨some 44, _, _, _, _, _⟩) (v := (.bool true)) rfl (by kernel_rfl) (by kernel_rfl) (by kernel_rfl) (fun _ _ _ h => h) (Or.inl ⟨by rfl, fun w' hw => by go_simp⟩) hHeld ?_
  try simp only [Act.put, List.setIfInBounds_toArray, List.set_cons_zero, List.set_cons_succ]
  refine wpAnyH_take (i := 2) (oi := ⟨some 45, _, _, _, _, _⟩) (v := (.bool true)) rfl (by kernel_rfl) (by kernel_rfl) (by kernel_rfl) (fun _ _ _ h => h) (Or.inl ⟨by rfl, fun w' hw => by go_simp⟩) hHeld ?_
  try simp only [Act.put, List.setIfInBounds_toArray, List.set_cons_zero, List.set_cons_succ]
  refine wpAnyH_take (i := 3) (oi := ⟨some 46, _, _, _, _, _⟩) (v := (.bool true)) rfl (by kernel_rfl) (by kernel_rfl) (by kernel_rfl) (fun _ _ _ h => h) (Or.inl ⟨by rfl, fun w' hw => by go_simp⟩) hHeld ?_
  try simp only [Act.put, List.setIfInBounds_toArray, List.set_cons_zero, List.set_cons_succ]
  refine wpAnyH_take (i := 4) (oi := ⟨some 47, _, _, _, _, _⟩) (v := (.bool true)) rfl (by kernel_rfl) (by kernel_rfl) (by kernel_rfl) (fun _ _ _ h => h) (Or.inl ⟨by rfl, fun w' hw => by go_simp⟩) hHeld ?_
  try simp only [Act.put, List.setIfInBounds_toArray, List.set_cons_zero, List.set_cons_succ]
  refine wpAnyH_take (i := 5) (oi := ⟨some 48, _, _, _, _, _⟩) (v := (.bool true)) rfl (by kernel_rfl) (by kernel_rfl) (by kernel_rfl) (fun _ _ _ h => h) (Or.inl ⟨by rfl, fun w' hw => by go_simp⟩) hHeld ?_
  try simp only [Act.put, List.setIfInBounds_toArray, List.set_cons_zero, List.set_cons_succ]
  refine take_row 6 (oi := ⟨some 49, _, _, _, _, _⟩) (DA (dw 1)).toList rfl (by kernel_rfl) (by kernel_rfl) (by kernel_rfl) (fun _ _ _ h => h) (by rfl) _ _ rfl _ _ rfl _ (fun w' hw => hw.1.range) Tryz.underlying48 rfl (infoData (dw 1)) hHeld ?_
  try simp only [Act.put, List.setIfInBounds_toArray, List.set_cons_zero, List.set_cons_succ]
  refine one_ready 7 rfl (by kernel_rfl) (fun K hK => ?_)
  go_simp
  refine (HDt.out _).mono ?_
  rintro e w13 ⟨rfl, hb⟩
  have ho : Only nobody _ w13 := Only.of_below hb
  have hE := And.intro (hE.1.nob ho) (hE.2.trans (Kept.of_none ho))
  refine hK.out _ _ ⟨hHeld.1.only ho (not_nobody _), hHeld.2.only ho (not_nobody _)⟩ (fun hHeld => ?_)
  clear hK K ho hb
  simp only [List.setIfInBounds_toArray, List.set_cons_zero, List.set_cons_succ]
  refine wpAnyH_take (i := 8) (oi := ⟨some 51, _, _, _, _, _⟩) (v := (.bool true)) rfl (by kernel_rfl) (by kernel_rfl) (by kernel_rfl) (fun _ _ _ h => h) (Or.inl ⟨by rfl, fun w' hw => by (have q1 := eql_data (dw 1) (dw 1); rw [deq_self] at q1; go_simp)⟩) hHeld ?_
  try simp only [Act.put, List.setIfInBounds_toArray, List.set_cons_zero, List.set_cons_succ]
  refine wpAnyH_take (i := 9) (oi := ⟨some 52, _, _, _, _, _⟩) (v := (.bool true)) rfl (by kernel_rfl) (by kernel_rfl) (by kernel_rfl) (fun _ _ _ h => h) (Or.inl ⟨by rfl, fun w' hw => by go_simp⟩) hHeld ?_
  try simp only [Act.put, List.setIfInBounds_toArray, List.set_cons_zero, List.set_cons_succ]
  refine wpAnyH_take (i := 10) (oi := ⟨some 53, _, _, _, _, _⟩) (v := (.bool true)) rfl (by kernel_rfl) (by kernel_rfl) (by kernel_rfl) (fun _ _ _ h => h) (Or.inl ⟨by rfl, fun w' hw => by go_simp⟩) hHeld ?_
  try simp only [Act.put, List.setIfInBounds_toArray, List.set_cons_zero, List.set_cons_succ]
  refine wpAnyH_take (i := 11) (oi := ⟨some 54, _, _, _, _, _⟩) (v := (.bool true)) rfl (by kernel_rfl) (by kernel_rfl) (by kernel_rfl) (fun _ _ _ h => h) (Or.inl ⟨by rfl, fun w' hw => by go_simp⟩) hHeld ?_
  try simp only [Act.put, List.setIfInBounds_toArray, List.set_cons_zero, List.set_cons_succ]
  refine wpAnyH_take (i := 12) (oi := ⟨some 55, _, _, _, _, _⟩) (v := (.bool true)) rfl (by kernel_rfl) (by kernel_rfl) (by kernel_rfl) (fun _ _ _ h => h) (Or.inl ⟨by rfl, fun w' hw => by go_simp⟩) hHeld ?_
  try simp only [Act.put, List.setIfInBounds_toArray, List.set_cons_zero, List.set_cons_succ]
  refine wpAnyH_take (i := 13) (oi := ⟨some 56, _, _, _, _, _⟩) (v := (.bool true)) rfl (by kernel_rfl) (by kernel_rfl) (by kernel_rfl) (fun _ _ _ h => h) (Or.inl ⟨by rfl, fun w' hw => by go_simp⟩) hHeld ?_
  try simp only [Act.put, List.setIfInBounds_toArray, List.set_cons_zero, List.set_cons_succ]
  refine take_row 14 (oi := ⟨some 57, _, _, _, _, _⟩) (DA (dw 1)).toList rfl (by kernel_rfl) (by kernel_rfl) (by kernel_rfl) (fun _ _ _ h => h) (by rfl) _ _ rfl _ _ rfl _ (fun w' hw => hw.2.range) Tryz.underlying48 rfl (infoData (dw 1)) hHeld ?_
  try simp only [Act.put, List.setIfInBounds_toArray, List.set_cons_zero, List.set_cons_succ]
  refine one_ready 15 rfl (by kernel_rfl) (fun K hK => ?_)
  go_simp
  refine (HDt.out _).mono ?_
  rintro e w13 ⟨rfl, hb⟩
  have ho : Only nobody _ w13 := Only.of_below hb
  have hE := And.intro (hE.1.nob ho) (hE.2.trans (Kept.of_none ho))
  refine hK.out _ _ ⟨hHeld.1.only ho (not_nobody _), hHeld.2.only ho (not_nobody _)⟩ (fun hHeld => ?_)
  clear hK K ho hb
  simp only [List.setIfInBounds_toArray, List.set_cons_zero, List.set_cons_succ]
  refine wpAnyH_take (i := 16) (oi := ⟨some 59, _, _, _, _, _⟩) (v := (.bool true)) rfl (by kernel_rfl) (by kernel_rfl) (by kernel_rfl) (fun _ _ _ h => h) (Or.inl ⟨by rfl, fun w' hw => by (have q1 := eql_data (dw 1) (dw 1); rw [deq_self] at q1; go_simp)⟩) hHeld ?_
  try simp only [Act.put, List.setIfInBounds_toArray, List.set_cons_zero, List.set_cons_succ]
  refine wpAnyH_take (i := 17) (oi := ⟨some 60, _, _, _, _, _⟩) (v := (.bool true)) rfl (by kernel_rfl) (by kernel_rfl) (by kernel_rfl) (fun _ _ _ h => h) (Or.inl ⟨by rfl, fun w' hw => by go_simp⟩) hHeld ?_
  try simp only [Act.put, List.setIfInBounds_toArray, List.set_cons_zero, List.set_cons_succ]
  refine wpAnyH_take (i := 18) (oi := ⟨some 61, _, _, _, _, _⟩) (v := (.bool true)) rfl (by kernel_rfl) (by kernel_rfl) (by kernel_rfl) (fun _ _ _ h => h) (Or.inl ⟨by rfl, fun w' hw => by go_simp⟩) hHeld ?_
  try simp only [Act.put, List.setIfInBounds_toArray, List.set_cons_zero, List.set_cons_succ]
  refine wpAnyH_take (i := 19) (oi := ⟨some 62, _, _, _, _, _⟩) (v := (.bool false)) rfl (by kernel_rfl) (by kernel_rfl) (by kernel_rfl) (fun _ _ _ h => h) (Or.inl ⟨by rfl, fun w' hw => by go_simp⟩) hHeld ?_
  try simp only [Act.put, List.setIfInBounds_toArray, List.set_cons_zero, List.set_cons_succ]
  refine wpAnyH_take (i := 20) (oi := ⟨some 63, _, _, _, _, _⟩) (v := (.bool true)) rfl (by kernel_rfl) (by kernel_rfl) (by kernel_rfl) (fun _ _ _ h => h) (Or.inl ⟨by rfl, fun w' hw => by go_simp⟩) hHeld ?_
  try simp only [Act.put, List.setIfInBounds_toArray, List.set_cons_zero, List.set_cons_succ]
  refine wpAnyH_take (i := 21) (oi := ⟨some 64, _, _, _, _, _⟩) (v := (.bool true)) rfl (by kernel_rfl) (by kernel_rfl) (by kernel_rfl) (fun _ _ _ h => h) (Or.inl ⟨by rfl, fun w' hw => by go_simp⟩) hHeld ?_
  try simp only [Act.put, List.setIfInBounds_toArray, List.set_cons_zero, List.set_cons_succ]
  refine wpAnyH_take (i := 22) (oi := ⟨some 65, _, _, _, _, _⟩) (v := (.bool true)) rfl (by kernel_rfl) (by kernel_rfl) (by kernel_rfl) (fun _ _ _ h => h) (Or.inl ⟨by rfl, fun w' hw => by go_simp⟩) hHeld ?_
  try simp only [Act.put, List.setIfInBounds_toArray, List.set_cons_zero, List.set_cons_succ]
  refine wpAnyH_take (i := 23) (oi := ⟨some 66, _, _, _, _, _⟩) (v := (.pointer (some ⟨lp, 0, none⟩))) rfl (by kernel_rfl) (by kernel_rfl) (by kernel_rfl) (fun _ _ _ h => h) (Or.inl ⟨by rfl, fun w' hw => by go_simp⟩) hHeld ?_
  try simp only [Act.put, List.setIfInBounds_toArray, List.set_cons_zero, List.set_cons_succ]
  refine one_ready 24 rfl (by kernel_rfl) (fun K hK => ?_)
  go_simp
  refine (hE.1.over).mono ?_
  rintro e w13 ⟨rfl, he⟩
  rw [he]
  refine hK.out _ _ hHeld (fun hHeld => ?_)
  clear hK K he w13
  simp only [List.setIfInBounds_toArray, List.set_cons_zero, List.set_cons_succ]
  refine wpAnyH_take (i := 25) (oi := ⟨some 68, _, _, _, _, _⟩) (v := (.bool true)) rfl (by kernel_rfl) (by kernel_rfl) (by kernel_rfl) (fun _ _ _ h => h) (Or.inl ⟨by rfl, fun w' hw => by go_simp⟩) hHeld ?_
  try simp only [Act.put, List.setIfInBounds_toArray, List.set_cons_zero, List.set_cons_succ]
  refine wpAnyH_take (i := 26) (oi := ⟨some 69, _, _, _, _, _⟩) (v := (.bool true)) rfl (by kernel_rfl) (by kernel_rfl) (by kernel_rfl) (fun _ _ _ h => h) (Or.inl ⟨by rfl, fun w' hw => by go_simp⟩) hHeld ?_
  try simp only [Act.put, List.setIfInBounds_toArray, List.set_cons_zero, List.set_cons_succ]
  refine wpAnyH_take (i := 27) (oi := ⟨some 70, _, _, _, _, _⟩) (v := (.bool true)) rfl (by kernel_rfl) (by kernel_rfl) (by kernel_rfl) (fun _ _ _ h => h) (Or.inl ⟨by rfl, fun w' hw => by go_simp⟩) hHeld ?_
  try simp only [Act.put, List.setIfInBounds_toArray, List.set_cons_zero, List.set_cons_succ]
  refine wpAnyH_take (i := 28) (oi := ⟨some 71, _, _, _, _, _⟩) (v := (.pointer (some ⟨lp, 0, none⟩))) rfl (by kernel_rfl) (by kernel_rfl) (by kernel_rfl) (fun _ _ _ h => h) (Or.inl ⟨by rfl, fun w' hw => by go_simp⟩) hHeld ?_
  try simp only [Act.put, List.setIfInBounds_toArray, List.set_cons_zero, List.set_cons_succ]
  refine one_ready 29 rfl (by kernel_rfl) (fun K hK => ?_)
  go_simp
  refine (hE.1.blocks).mono ?_
  rintro e w13 ⟨rfl, he⟩
  rw [he]
  refine hK.out _ _ hHeld (fun hHeld => ?_)
  clear hK K he w13
  simp only [List.setIfInBounds_toArray, List.set_cons_zero, List.set_cons_succ]
  refine wpAnyH_take (i := 30) (oi := ⟨some 73, _, _, _, _, _⟩) (v := (.bool true)) rfl (by kernel_rfl) (by kernel_rfl) (by kernel_rfl) (fun _ _ _ h => h) (Or.inl ⟨by rfl, fun w' hw => by (go_simp; rfl)⟩) hHeld ?_
  try simp only [Act.put, List.setIfInBounds_toArray, List.set_cons_zero, List.set_cons_succ]
  refine wpAnyH_take (i := 31) (oi := ⟨some 74, _, _, _, _, _⟩) (v := (.bool true)) rfl (by kernel_rfl) (by kernel_rfl) (by kernel_rfl) (fun _ _ _ h => h) (Or.inl ⟨by rfl, fun w' hw => by go_simp⟩) hHeld ?_
  try simp only [Act.put, List.setIfInBounds_toArray, List.set_cons_zero, List.set_cons_succ]
  refine wpAnyH_take (i := 32) (oi := ⟨some 0, _, _, _, _, _⟩) (v := (.bool true)) rfl (by kernel_rfl) (by kernel_rfl) (by kernel_rfl) (fun _ _ _ h => h) (Or.inl ⟨by rfl, fun w' hw => by go_simp⟩) hHeld ?_
  try simp only [Act.put, List.setIfInBounds_toArray, List.set_cons_zero, List.set_cons_succ]
  refine wpAnyH_done (by kernel_rfl) ?_ _
  go_wp2_with fail
  go_ret
  exact ⟨rfl, Kept.below hE.2 (Nat.le_refl _) (fun i hi => hi)⟩
end Go.Proofs.YtdbjaaalngbpgaaGreat

/- What the laws of layer 10 share: a law's config; masks; what is asked by picks is right. -/
namespace Go.Proofs.YtdbjaaalngbpgaaGreat
set_option maxRecDepth 100000
open Go.RowKit Go.ChangeShapes Go.WideShapes Go.ChangeAt Go.Maps

theorem law_config (n : Int) (h0 : -9223372036854775808 ≤ n) (h1 : n ≤ 9223372036854775807) : ∃ N S T D L m Q P, Conf N S T D L m Q P ∧ S * (2 * 2 ^ D - 1) ≤ 4096 ∧ (N ≤ 8 ∧ S ≤ 3 ∧ T ≤ 8) ∧
    ∀ w, Calls Tryz.prog 12 #[.int .i64 n] w fun e w' => e = .returned (.agg #[.int .i64 (N : Int), .int .i64 (S : Int), .int .i64 (T : Int)]) ∧ Below w.heap.size w w' := by
  obtain ⟨r1, r2, r3⟩ := cf_rng n
  have hp : 2 ^ pik n 4 ≤ 2 ^ 3 := Nat.pow_le_pow_right (by decide) (by omega)
  obtain ⟨Q, P, hC⟩ := Conf.mk' (D := pik n 4) (N := cfN n) (S := cfS n) (T := cfT n) (by omega) rfl (by unfold cfS; omega) (by unfold cfS; omega) (by unfold cfT; omega) (by unfold cfT; omega)
  refine ⟨_, _, _, _, _, _, Q, P, hC, ?_, ?_, fun w => config_of n w h0 h1⟩
  · have : cfS n * (2 * 2 ^ pik n 4 - 1) ≤ 3 * 15 := Nat.mul_le_mul (by unfold cfS; omega) (by omega)
    omega
  · unfold cfN cfS cfT
    omega
theorem and_low (a : Int) : ∃ k : Nat, k ≤ 65535 ∧ bits .and .u64 a 65535 = (k : Int) := by
  refine ⟨(BitVec.ofInt 64 a).toNat % 65536, by have := Nat.mod_lt (BitVec.ofInt 64 a).toNat (show 0 < 65536 by decide); omega, ?_⟩
  show IntKind.u64.wrap ((BitVec.ofInt 64 a &&& BitVec.ofInt 64 (65535 : Int)).toNat : Int) = _
  rw [BitVec.toNat_and, show (BitVec.ofInt 64 (65535 : Int)).toNat = 2 ^ 16 - 1 by decide, IntKind.wrap_u64, Nat.and_two_pow_sub_one_eq_mod]
  have := Nat.mod_lt (BitVec.ofInt 64 a).toNat (show 0 < 2 ^ 16 by decide)
  omega
theorem ok_of {N : Nat} {op id at' lf to : Nat} (d : Nat → Int) (h1 : op < 4) (h2 : id ≤ 2147483648) (h3 : at' < 7) (h4 : lf < N) (h5 : to < N) : (⟨op, id, at', d, lf, to⟩ : Ask).ok N = true := by
  show isAsk N op id at' lf to = true
  unfold isAsk isLf
  simp only [Bool.and_eq_true, Bool.or_eq_true, decide_eq_true_eq]
  omega
/-- A law's config, stored into a new variable. -/
theorem infoCfg (N S T : Nat) : (Tryz.prog.info? 25).map (·.size) = some (cfA N S T).size := by kernel_rfl
theorem wpList_store_newC {ops : Array Oper} {rest : List Oper} {op : Oper} {a : Act} {w : World} {Q : Exit → Act → World → Prop} (hgd : op.guard = none) (x y : Operand) (ho : op.op = .store 25 x y)
    (hx : a.eval x = .pointer (some ⟨w.heap.size, 0, none⟩)) (N S T : Nat) (hy : a.eval y = .agg #[.int .i64 (N : Int), .int .i64 (S : Int), .int .i64 (T : Int)]) {c : Array Value} (hc : c.size = 3)
    (h : wpList Tryz.prog ops Q rest (a.put op.dst undef) (w.alloc (.cells (cfA N S T) 25))) : wpList Tryz.prog ops Q (op :: rest) a (w.alloc (.cells c 25)) := by
  refine wpList_plain hgd fun K hK => ?_
  have hr := run_storeAt_new (P := Tryz.prog) w 25 c (cfA N S T) (infoCfg N S T) (by rw [hc]; rfl) (by simp [cfA, Value.oneCell'])
  have hy' : a.eval y = .agg (cfA N S T) := hy
  unfold Oper.wp execOp
  simp only [ho, hx, hy', Sem.run_bind, Result.andThen_ok, hr, Sem.run_pure]
  exact hK _ _ h
theorem StOk.rng {y : Stp} (h : StOk y) : (-9223372036854775808 ≤ y.1 ∧ y.1 ≤ 9223372036854775807) ∧ (0 ≤ y.2.1 ∧ y.2.1 ≤ 18446744073709551615) ∧ (-9223372036854775808 ≤ y.2.2.1 ∧ y.2.2.1 ≤ 9223372036854775807) ∧ (0 ≤ y.2.2.2.1 ∧ y.2.2.2.1 ≤ 18446744073709551615) ∧
    (-9223372036854775808 ≤ y.2.2.2.2.1 ∧ y.2.2.2.2.1 ≤ 9223372036854775807) ∧ (-9223372036854775808 ≤ y.2.2.2.2.2 ∧ y.2.2.2.2.2 ≤ 9223372036854775807) :=
  ⟨i64_rng h.1, u64_rng h.2.1, i64_rng h.2.2.1, u64_rng h.2.2.2.1, i64_rng h.2.2.2.2.1, i64_rng h.2.2.2.2.2⟩
section
variable {w : World} {cb N S T : Nat}
theorem cf_0 (h : Box w cb 25 (cfA N S T)) : w.cell? ⟨cb, 0, none⟩ = some (.int .i64 (N : Int)) := h.cell 0
theorem cf_1 (h : Box w cb 25 (cfA N S T)) : w.cell? ⟨cb, 1, none⟩ = some (.int .i64 (S : Int)) := h.cell 1
theorem cf_2 (h : Box w cb 25 (cfA N S T)) : w.cell? ⟨cb, 2, none⟩ = some (.int .i64 (T : Int)) := h.cell 2
end
theorem st_cells {w : World} {b o : Nat} {y : Stp} (h : w.rangeAt b o (stc y).toList) : w.cell? ⟨b, o, none⟩ = some (.int .i64 y.1) ∧ w.cell? ⟨b, o + 1, none⟩ = some (.int .u64 y.2.1) ∧ w.cell? ⟨b, o + 2, none⟩ = some (.int .i64 y.2.2.1) ∧
    w.cell? ⟨b, o + 3, none⟩ = some (.int .u64 y.2.2.2.1) ∧ w.cell? ⟨b, o + 4, none⟩ = some (.int .i64 y.2.2.2.2.1) ∧ w.cell? ⟨b, o + 5, none⟩ = some (.int .i64 y.2.2.2.2.2) :=
  ⟨h 0 _ rfl, h 1 _ rfl, h 2 _ rfl, h 3 _ rfl, h 4 _ rfl, h 5 _ rfl⟩
end Go.Proofs.YtdbjaaalngbpgaaGreat
