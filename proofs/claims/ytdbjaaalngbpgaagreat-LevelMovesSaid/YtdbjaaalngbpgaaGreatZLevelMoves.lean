/- LevelMoves: a block that is looked at is from then on on the way to its new leaf, or in the stash; a Part changes two words. -/
import Derived.Test.YtdbjaaalngbpgaaGreatG48
namespace Go.Proofs.YtdbjaaalngbpgaaGreat
set_option maxRecDepth 100000
open Go.RowKit Go.ChangeShapes Go.WideShapes Go.ChangeAt Go.Maps Go.Deep

theorem st_rng {u : World} {B b o nl : Nat} {y : Nat → Stp} (h : Stps u B (some ⟨b, o, none⟩) nl y) {i : Nat} (hi : i < nl) : u.rangeAt b (o + i * 6) (stc (y i)).toList := by
  obtain ⟨b', o', e, _, hr⟩ := h.at hi
  injection e with e
  injection e with e1 e2
  rw [e1, e2]
  exact hr
/-- Blocks of ids below 6, on leaf 0. -/
def MvOk (m : Bm) : Prop := ∀ id l d, m id = some (l, d) → 0 ≤ id ∧ id < 6 ∧ l = 0
theorem MvOk.leaf {m : Bm} (h : MvOk m) {id : Int} (l : Nat) (d : Nat → Int) (e : m id = some (l, d)) : (l : Int) = 0 := by rw [(h id l d e).2.2]; rfl
theorem MvOk.next {m : Bm} (h : MvOk m) (op at' id : Int) (d : Nat → Int) (h0 : 0 ≤ id) (h6 : id < 6) : MvOk (nextB m ⟨op, id, at', d, 0, 0⟩) := by
  intro x l e hx
  unfold nextB setB at hx
  split at hx
  · rename_i hxi
    have := newM_leaf hx
    exact ⟨by rw [hxi]; exact h0, by rw [hxi]; exact h6, by rw [this]; rfl⟩
  · exact h x l e hx
theorem MvOk.none {m : Bm} (h : MvOk m) {id : Int} (hi : 6 ≤ id) : m id = none := by
  cases e : m id with
  | none => rfl
  | some b => have := (h id b.1 b.2 e).2.1; omega
theorem zero_rng (j : Nat) : 0 ≤ (fun _ => (0 : Int)) j ∧ (fun _ => (0 : Int)) j ≤ 18446744073709551615 := ⟨Int.le_refl 0, by show (0 : Int) ≤ 18446744073709551615; decide⟩
theorem MvOk.ok {N op at' : Nat} {id : Int} {d : Nat → Int} (h1 : op < 4) (h2 : at' < 7) (h3 : 0 ≤ id) (h4 : id < 6) (h5 : 1 ≤ N) : (⟨(op : Int), id, (at' : Int), d, 0, 0⟩ : Ask).ok N = true := by
  obtain ⟨k, rfl⟩ := Int.eq_ofNat_of_zero_le h3
  exact ok_of (lf := 0) (to := 0) d h1 (by omega) h2 h5 h5
set_option maxRecDepth 100000 in
set_option maxHeartbeats 4000000 in
theorem moves_law (n : Int) (a : Option Addr) (nl c : Nat) (y : Nat → Stp) (at' x1 x2 to : Int) (w : World) (hn : (Lit.int .i64 n).wf = true) (hS : Stps w w.heap.size a nl y) (hy : ∀ j, j < nl → StOk (y j)) (ha : (Lit.int .i64 at').wf = true) (hto : (Lit.int .i64 to).wf = true) :
    Calls Tryz.prog 8 #[.int .i64 n, .slice a nl c, .int .i64 at', .int .u64 x1, .int .u64 x2, .int .i64 to] w fun e w' => e = .returned (.bool true) ∧ Below w.heap.size w w' := by
  by_cases hl : 12 < nl
  · have h12 : (12 : Int) < (nl : Int) := by omega
    clear hS hy
    go_enter Tryz.func8, Tryz.ntmps8
    go_wp2_with fail
    refine (shown_of _).mono ?_
    rintro e w1 ⟨rfl, hb1⟩
    have HB1 := Lib.hid hb1
    clear hb1
    go_wp2_with fail
    go_ret
    exact ⟨rfl, HB1.out⟩
  · have h12 : ¬ (12 : Int) < (nl : Int) := by omega
    obtain ⟨N, S, T, D, L, m, Q, P, hC, hsz, hsm, hcf⟩ := law_config n (i64_rng hn).1 (i64_rng hn).2
    have hN := hC.n1
    have hN1 := hN.1
    have HCf := Lib.hid hcf
    have HMd := Lib.hid (fun W => made_of (H := Unit) hC W hsz)
    have HC := Lib.hid hC
    have HSt := Lib.hid hS
    have HYk := Lib.hid hy
    have HAt := Lib.hid (i64_rng ha)
    have HTo := Lib.hid (i64_rng hto)
    clear hcf hsz hC hS hy hn ha hto
    go_enter Tryz.func8, Tryz.ntmps8
    go_wp2_with fail
    refine (shown_of _).mono ?_
    rintro e w1 ⟨rfl, hb1⟩
    have HB1 := Lib.hid hb1
    clear hb1
    go_wp2_with fail
    refine (HCf.out _).mono ?_
    rintro e w2 ⟨rfl, hb2⟩
    have HB2 := Lib.hid (HB1.out.trans (hb2.mono HB1.out.size))
    clear hb2 HB1 HCf
    go_upto_region 5 with (refine wpList_store_newC rfl (.tmp 14) (.tmp 36) rfl rfl N S T rfl rfl ?_)
    obtain ⟨cb, hcb⟩ : ∃ b, w2.heap.size = b := ⟨_, rfl⟩
    have hbx := Box.new w2 25 (cfA N S T)
    have HB3 := Lib.hid (HB2.out.alloc HB2.out.size (.cells (cfA N S T) 25))
    have hcs : cb < (w2.alloc (.cells (cfA N S T) 25)).heap.size := by rw [← hcb]; exact hbx.lt
    have hws : w.heap.size ≤ cb := by rw [← hcb]; exact HB2.out.size
    rw [hcb] at hbx ⊢
    have HBx := Lib.hid hbx
    have HCs := Lib.hid hcs
    have HWs := Lib.hid hws
    clear hcb hbx hcs hws HB2
    generalize w2.alloc (.cells (cfA N S T) 25) = w3 at *
    have k0 := cf_0 HBx.out
    have k1 := cf_1 HBx.out
    have k2 := cf_2 HBx.out
    go_wp2_with fail
    refine (HMd.out _).mono ?_
    rintro e w4 ⟨mp, lp, bm, rfl, ho4, hlp, hbm, hL⟩
    obtain ⟨Z, hZc, hE⟩ : ∃ Z : Nat → Prop, Z cb ∧ LvS N S D T Q mp lp bm w Z (fun u => Box u cb 25 (cfA N S T) ∧ Stps u w.heap.size a nl y) false [] (fun _ => none) 0 w4 := ⟨fun i => i < w3.heap.size, HCs.out, LvS.made hL hlp hbm ho4 HB3.out ⟨HBx.out, HSt.out.below HB3.out⟩ (fun u u' hs hk g => ⟨hk.box g.1 HCs.out, g.2.below (hk.below hs (fun i hi => Nat.lt_of_lt_of_le hi HB3.out.size))⟩)⟩
    have HZ := Lib.hid hZc
    have HE := Lib.hid hE
    clear ho4 hlp hbm hL HMd HB3 HBx k0 k1 k2 HCs hZc hE w3
    go_wp2_with fail
    go_loopw [17] (fun v wr => ∃ i : Nat, v = .int .i64 i ∧ i ≤ nl ∧ ∃ ov I m, MvOk m ∧ LvS N S D T Q mp lp bm w Z (fun u => Box u cb 25 (cfA N S T) ∧ Stps u w.heap.size a nl y) ov I m i wr) (fun v _ => nl - (intOf v).toNat)
    case atStart => exact ⟨0, rfl, by omega, _, _, _, (fun _ _ _ h => by cases h), HE.out⟩
    case round =>
      obtain ⟨i, rfl, hle, ov, I, mb, hM, hE⟩ := hrel
      clear HE
      by_cases hin : i < nl
      · obtain ⟨yb, yo, rfl, _, _⟩ := hE.hF.2.at hin
        obtain ⟨r0, r1, r2, r3, r4, r5⟩ := (HYk.out i hin).rng
        have hop : pik (y i).1 4 < 4 := pik_lt _ (by decide)
        have hat : pik (y i).2.2.1 7 < 7 := pik_lt _ (by decide)
        have hid : 0 ≤ (y i).2.1 % 6 := by omega
        have hid6 : (y i).2.1 % 6 < 6 := by omega
        have htm : Int.tmod (y i).2.1 6 = (y i).2.1 % 6 := Int.tmod_eq_emod_of_nonneg r1.1
        go_upto_region 11 with fail
        have hE := hE.drew
        refine held_s (S := (fun u => Box u cb 25 (cfA N S T) ∧ Stps u w.heap.size (some ⟨yb, yo, none⟩) nl y)) 26 rfl (by kernel_rfl) hE.hF (fun hHeld => ?_)
        simp only [Array.replicate_succ, Array.replicate_zero, List.push_toArray, List.nil_append, List.cons_append]
        generalize World.drew _ = wd at *
        refine wpAnyH_take (i := 0) (oi := ⟨some 50, _, _, _, _, _⟩) (v := (.pointer (some ⟨lp, 0, none⟩))) rfl (by kernel_rfl) (by kernel_rfl) (by kernel_rfl) (fun _ _ _ h => h) (Or.inl ⟨by rfl, fun w' hw => by go_simp⟩) hHeld ?_
        try simp only [Act.put, List.setIfInBounds_toArray, List.set_cons_zero, List.set_cons_succ]
        refine wpAnyH_take (i := 1) (oi := ⟨some 51, _, _, _, _, _⟩) (v := (.slice (some ⟨yb, yo, none⟩) nl c)) rfl (by kernel_rfl) (by kernel_rfl) (by kernel_rfl) (fun _ _ _ h => h) (Or.inl ⟨by rfl, fun w' hw => by go_simp⟩) hHeld ?_
        try simp only [Act.put, List.setIfInBounds_toArray, List.set_cons_zero, List.set_cons_succ]
        refine wpAnyH_take (i := 2) (oi := ⟨some 52, _, _, _, _, _⟩) (v := (.int .i64 (i : Int))) rfl (by kernel_rfl) (by kernel_rfl) (by kernel_rfl) (fun _ _ _ h => h) (Or.inl ⟨by rfl, fun w' hw => by go_simp⟩) hHeld ?_
        try simp only [Act.put, List.setIfInBounds_toArray, List.set_cons_zero, List.set_cons_succ]
        refine wpAnyH_take (i := 3) (oi := ⟨some 53, _, _, _, _, _⟩) (v := (.pointer (some ⟨yb, yo + i * 6, none⟩))) rfl (by kernel_rfl) (by kernel_rfl) (by kernel_rfl) (fun _ _ _ h => h) (Or.inl ⟨by rfl, fun w' hw => by go_simp⟩) hHeld ?_
        try simp only [Act.put, List.setIfInBounds_toArray, List.set_cons_zero, List.set_cons_succ]
        refine wpAnyH_take (i := 4) (oi := ⟨some 54, _, _, _, _, _⟩) (v := (.pointer (some ⟨yb, yo + i * 6, none⟩))) rfl (by kernel_rfl) (by kernel_rfl) (by kernel_rfl) (fun _ _ _ h => h) (Or.inl ⟨by rfl, fun w' hw => by go_simp⟩) hHeld ?_
        try simp only [Act.put, List.setIfInBounds_toArray, List.set_cons_zero, List.set_cons_succ]
        refine wpAnyH_take (i := 5) (oi := ⟨some 55, _, _, _, _, _⟩) (v := (.int .i64 (y i).1)) rfl (by kernel_rfl) (by kernel_rfl) (by kernel_rfl) (fun _ _ _ h => h) (Or.inl ⟨by rfl, fun w' hw => by (obtain ⟨q0, q1, q2, q3, q4, q5⟩ := st_cells (st_rng hw.2 hin); have k0 := cf_0 hw.1; go_simp)⟩) hHeld ?_
        try simp only [Act.put, List.setIfInBounds_toArray, List.set_cons_zero, List.set_cons_succ]
        refine wpAnyH_take (i := 7) (oi := ⟨some 57, _, _, _, _, _⟩) (v := (.slice (some ⟨yb, yo, none⟩) nl c)) rfl (by kernel_rfl) (by kernel_rfl) (by kernel_rfl) (fun _ _ _ h => h) (Or.inl ⟨by rfl, fun w' hw => by go_simp⟩) hHeld ?_
        try simp only [Act.put, List.setIfInBounds_toArray, List.set_cons_zero, List.set_cons_succ]
        refine wpAnyH_take (i := 8) (oi := ⟨some 58, _, _, _, _, _⟩) (v := (.int .i64 (i : Int))) rfl (by kernel_rfl) (by kernel_rfl) (by kernel_rfl) (fun _ _ _ h => h) (Or.inl ⟨by rfl, fun w' hw => by go_simp⟩) hHeld ?_
        try simp only [Act.put, List.setIfInBounds_toArray, List.set_cons_zero, List.set_cons_succ]
        refine wpAnyH_take (i := 9) (oi := ⟨some 59, _, _, _, _, _⟩) (v := (.pointer (some ⟨yb, yo + i * 6, none⟩))) rfl (by kernel_rfl) (by kernel_rfl) (by kernel_rfl) (fun _ _ _ h => h) (Or.inl ⟨by rfl, fun w' hw => by go_simp⟩) hHeld ?_
        try simp only [Act.put, List.setIfInBounds_toArray, List.set_cons_zero, List.set_cons_succ]
        refine wpAnyH_take (i := 10) (oi := ⟨some 60, _, _, _, _, _⟩) (v := (.pointer (some ⟨yb, yo + i * 6 + 1, none⟩))) rfl (by kernel_rfl) (by kernel_rfl) (by kernel_rfl) (fun _ _ _ h => h) (Or.inl ⟨by rfl, fun w' hw => by go_simp⟩) hHeld ?_
        try simp only [Act.put, List.setIfInBounds_toArray, List.set_cons_zero, List.set_cons_succ]
        refine wpAnyH_take (i := 11) (oi := ⟨some 61, _, _, _, _, _⟩) (v := (.int .u64 (y i).2.1)) rfl (by kernel_rfl) (by kernel_rfl) (by kernel_rfl) (fun _ _ _ h => h) (Or.inl ⟨by rfl, fun w' hw => by (obtain ⟨q0, q1, q2, q3, q4, q5⟩ := st_cells (st_rng hw.2 hin); have k0 := cf_0 hw.1; go_simp)⟩) hHeld ?_
        try simp only [Act.put, List.setIfInBounds_toArray, List.set_cons_zero, List.set_cons_succ]
        refine wpAnyH_take (i := 12) (oi := ⟨some 62, _, _, _, _, _⟩) (v := (.int .u64 ((y i).2.1 % 6))) rfl (by kernel_rfl) (by kernel_rfl) (by kernel_rfl) (fun _ _ _ h => h) (Or.inl ⟨by rfl, fun w' hw => by (go_simp; try rw [htm])⟩) hHeld ?_
        try simp only [Act.put, List.setIfInBounds_toArray, List.set_cons_zero, List.set_cons_succ]
        refine wpAnyH_take (i := 13) (oi := ⟨some 63, _, _, _, _, _⟩) (v := (.slice (some ⟨yb, yo, none⟩) nl c)) rfl (by kernel_rfl) (by kernel_rfl) (by kernel_rfl) (fun _ _ _ h => h) (Or.inl ⟨by rfl, fun w' hw => by go_simp⟩) hHeld ?_
        try simp only [Act.put, List.setIfInBounds_toArray, List.set_cons_zero, List.set_cons_succ]
        refine wpAnyH_take (i := 14) (oi := ⟨some 64, _, _, _, _, _⟩) (v := (.int .i64 (i : Int))) rfl (by kernel_rfl) (by kernel_rfl) (by kernel_rfl) (fun _ _ _ h => h) (Or.inl ⟨by rfl, fun w' hw => by go_simp⟩) hHeld ?_
        try simp only [Act.put, List.setIfInBounds_toArray, List.set_cons_zero, List.set_cons_succ]
        refine wpAnyH_take (i := 15) (oi := ⟨some 65, _, _, _, _, _⟩) (v := (.pointer (some ⟨yb, yo + i * 6, none⟩))) rfl (by kernel_rfl) (by kernel_rfl) (by kernel_rfl) (fun _ _ _ h => h) (Or.inl ⟨by rfl, fun w' hw => by go_simp⟩) hHeld ?_
        try simp only [Act.put, List.setIfInBounds_toArray, List.set_cons_zero, List.set_cons_succ]
        refine wpAnyH_take (i := 16) (oi := ⟨some 66, _, _, _, _, _⟩) (v := (.pointer (some ⟨yb, yo + i * 6 + 2, none⟩))) rfl (by kernel_rfl) (by kernel_rfl) (by kernel_rfl) (fun _ _ _ h => h) (Or.inl ⟨by rfl, fun w' hw => by go_simp⟩) hHeld ?_
        try simp only [Act.put, List.setIfInBounds_toArray, List.set_cons_zero, List.set_cons_succ]
        refine wpAnyH_take (i := 17) (oi := ⟨some 67, _, _, _, _, _⟩) (v := (.int .i64 (y i).2.2.1)) rfl (by kernel_rfl) (by kernel_rfl) (by kernel_rfl) (fun _ _ _ h => h) (Or.inl ⟨by rfl, fun w' hw => by (obtain ⟨q0, q1, q2, q3, q4, q5⟩ := st_cells (st_rng hw.2 hin); have k0 := cf_0 hw.1; go_simp)⟩) hHeld ?_
        try simp only [Act.put, List.setIfInBounds_toArray, List.set_cons_zero, List.set_cons_succ]
        refine wpAnyH_take (i := 19) (oi := ⟨some 69, _, _, _, _, _⟩) (v := (.slice (some ⟨yb, yo, none⟩) nl c)) rfl (by kernel_rfl) (by kernel_rfl) (by kernel_rfl) (fun _ _ _ h => h) (Or.inl ⟨by rfl, fun w' hw => by go_simp⟩) hHeld ?_
        try simp only [Act.put, List.setIfInBounds_toArray, List.set_cons_zero, List.set_cons_succ]
        refine wpAnyH_take (i := 20) (oi := ⟨some 70, _, _, _, _, _⟩) (v := (.int .i64 (i : Int))) rfl (by kernel_rfl) (by kernel_rfl) (by kernel_rfl) (fun _ _ _ h => h) (Or.inl ⟨by rfl, fun w' hw => by go_simp⟩) hHeld ?_
        try simp only [Act.put, List.setIfInBounds_toArray, List.set_cons_zero, List.set_cons_succ]
        refine wpAnyH_take (i := 21) (oi := ⟨some 71, _, _, _, _, _⟩) (v := (.pointer (some ⟨yb, yo + i * 6, none⟩))) rfl (by kernel_rfl) (by kernel_rfl) (by kernel_rfl) (fun _ _ _ h => h) (Or.inl ⟨by rfl, fun w' hw => by go_simp⟩) hHeld ?_
        try simp only [Act.put, List.setIfInBounds_toArray, List.set_cons_zero, List.set_cons_succ]
        refine wpAnyH_take (i := 22) (oi := ⟨some 72, _, _, _, _, _⟩) (v := (.pointer (some ⟨yb, yo + i * 6 + 3, none⟩))) rfl (by kernel_rfl) (by kernel_rfl) (by kernel_rfl) (fun _ _ _ h => h) (Or.inl ⟨by rfl, fun w' hw => by go_simp⟩) hHeld ?_
        try simp only [Act.put, List.setIfInBounds_toArray, List.set_cons_zero, List.set_cons_succ]
        refine wpAnyH_take (i := 23) (oi := ⟨some 73, _, _, _, _, _⟩) (v := (.int .u64 (y i).2.2.2.1)) rfl (by kernel_rfl) (by kernel_rfl) (by kernel_rfl) (fun _ _ _ h => h) (Or.inl ⟨by rfl, fun w' hw => by (obtain ⟨q0, q1, q2, q3, q4, q5⟩ := st_cells (st_rng hw.2 hin); have k0 := cf_0 hw.1; go_simp)⟩) hHeld ?_
        try simp only [Act.put, List.setIfInBounds_toArray, List.set_cons_zero, List.set_cons_succ]
        refine one_ready 6 rfl (by kernel_rfl) (fun K hK => ?_)
        go_simp
        refine (pik_any (y i).1 4 _ (by omega) (by omega) r0.1 r0.2).mono ?_
        rintro e w13 ⟨rfl, he⟩
        rw [he]
        refine hK.out _ _ hHeld (fun hHeld => ?_)
        clear hK K he w13
        simp only [List.setIfInBounds_toArray, List.set_cons_zero, List.set_cons_succ]
        refine one_ready 18 rfl (by kernel_rfl) (fun K hK => ?_)
        go_simp
        refine (pik_any (y i).2.2.1 7 _ (by omega) (by omega) r2.1 r2.2).mono ?_
        rintro e w13 ⟨rfl, he⟩
        rw [he]
        refine hK.out _ _ hHeld (fun hHeld => ?_)
        clear hK K he w13
        simp only [List.setIfInBounds_toArray, List.set_cons_zero, List.set_cons_succ]
        refine one_ready 24 rfl (by kernel_rfl) (fun K hK => ?_)
        go_simp
        refine (data_of (y i).2.2.2.1 _).mono ?_
        rintro e w13 ⟨rfl, hb⟩
        have hE := hE.nob (Only.of_below hb)
        refine hK.out _ _ hE.hF (fun hHeld => ?_)
        clear hK K hb
        simp only [List.setIfInBounds_toArray, List.set_cons_zero, List.set_cons_succ]
        refine one_ready 25 rfl (by kernel_rfl) (fun K hK => ?_)
        go_simp
        refine (hE.step HC.out ⟨(pik (y i).1 4 : Nat), ((y i).2.1 % 6), (pik (y i).2.2.1 7 : Nat), dw (y i).2.2.2.1, 0, 0⟩ (by omega) hid (fun j => dw_rng _ j) (MvOk.ok hop hat hid hid6 hN1) (fun _ l d e => hM.leaf l d e)).mono ?_
        rintro e w13 ⟨d', b', rfl, _, ov', _, _, hE'⟩
        have hM' := hM.next (pik (y i).1 4 : Nat) (pik (y i).2.2.1 7 : Nat) ((y i).2.1 % 6) (dw (y i).2.2.2.1) hid hid6
        clear hE hM
        have hE := hE'
        have hM := hM'
        clear hE' hM'
        refine hK.out _ _ hE.hF (fun hHeld => ?_)
        clear hK K
        simp only [List.setIfInBounds_toArray, List.set_cons_zero, List.set_cons_succ]
        refine wpAnyH_done (by kernel_rfl) ?_ _
        have HE := Lib.hid hE
        have HM := Lib.hid hM
        clear hE hHeld hM
        go_wp2_with fail
        go_roundw
        case rel => exact ⟨i + 1, by go_num, by omega, _, _, _, HM.out, HE.out⟩
        case measure => simp [intOf]; omega
      · have hn' : ¬ (i : Int) < (nl : Int) := by omega
        obtain rfl : i = nl := by omega
        have e7 : mb 7 = none := hM.none (by decide)
        have e8 : mb 8 = none := hM.none (by decide)
        have k0 := cf_0 hE.hF.1
        clear hM
        go_wp2_with fail
        refine (pik_any to N _ (by omega) (by omega) HTo.out.1 HTo.out.2).mono ?_
        rintro e w5 ⟨rfl, rfl⟩
        have hto := pik_lt to (show 0 < N by omega)
        generalize pik to N = t at *
        go_wp2_with fail
        refine (pik_any at' 7 _ (by omega) (by omega) HAt.out.1 HAt.out.2).mono ?_
        rintro e w5 ⟨rfl, rfl⟩
        have hat := pik_lt at' (show 0 < 7 by decide)
        generalize pik at' 7 = p at *
        clear k0
        have HE := Lib.hid hE
        clear hE
        go_wp2_with fail
        refine (HE.out.step HC.out ⟨3, 7, 0, fun _ => 0, 0, ((0 : Nat) : Int)⟩ (by omega) (by decide) zero_rng (ok_of (op := 3) (id := 7) (at' := 0) (lf := 0) (to := 0) _ (by decide) (by decide) (by decide) hN1 hN1) (fun _ l d e => by rw [e7] at e; cases e)).mono ?_
        rintro e w6 ⟨d1, b1, rfl, -, ov1, -, -, hE⟩
        have f7 := nx_drop (m := mb) (id := 7) (at' := 0) (lf := 0) (d := fun _ => 0) (to := 0)
        have f8 := (nx_ne (m := mb) (id := 7) (at' := 0) (lf := 0) (d := fun _ => 0) (to := 0) (op := 3) (x := 8) (by decide)).trans e8
        generalize nextB mb ⟨3, 7, 0, fun _ => 0, 0, ((0 : Nat) : Int)⟩ = m1 at *
        generalize acI N ⟨3, 7, 0, fun _ => 0, 0, ((0 : Nat) : Int)⟩ I = I1 at *
        clear HE e7 e8 mb I ov
        have HE := Lib.hid hE
        clear hE
        go_wp2_with fail
        refine (data_of x1 _).mono ?_
        rintro e w7 ⟨rfl, hb⟩
        have hE := Lib.hid (HE.out.nob (Only.of_below hb))
        clear HE hb
        go_wp2_with fail
        refine (hE.out.step HC.out ⟨1, 7, 0, dw x1, 0, (t : Int)⟩ (by omega) (show (0 : Int) ≤ 7 by decide) (fun j => dw_rng x1 j) (ok_of (op := 1) (id := 7) (at' := 0) (lf := 0) (to := t) _ (by decide) (by decide) (by decide) hN1 hto) (fun _ l d e => by rw [f7] at e; cases e)).mono ?_
        rintro e w8 ⟨d2, b2, rfl, -, ov2, -, -, hE'⟩
        have e7 := nx_put (m := m1) (id := 7) (at' := 0) (lf := 0) (d := dw x1) (to := t)
        have e8 := (nx_ne (m := m1) (id := 7) (at' := 0) (lf := 0) (d := dw x1) (to := t) (op := 1) (x := 8) (by decide)).trans f8
        generalize nextB m1 ⟨1, 7, 0, dw x1, 0, (t : Int)⟩ = m2 at *
        generalize acI N ⟨1, 7, 0, dw x1, 0, (t : Int)⟩ I1 = I2 at *
        clear hE f7 f8 m1 I1 ov1
        have HE := Lib.hid hE'
        clear hE'
        go_wp2_with fail
        refine (data_of x2 _).mono ?_
        rintro e w9 ⟨rfl, hb⟩
        have hE := Lib.hid (HE.out.nob (Only.of_below hb))
        clear HE hb
        go_wp2_with fail
        refine (hE.out.step HC.out ⟨2, 7, (p : Int), dw x2, (t : Int), ((0 : Nat) : Int)⟩ (by omega) (show (0 : Int) ≤ 7 by decide) (fun j => dw_rng x2 j) (ok_of (op := 2) (id := 7) (at' := p) (lf := t) (to := 0) _ (by decide) (by decide) hat hto hN1) (fun _ l d e => by rw [e7] at e; injection e with e; injection e with e _; rw [← e])).mono ?_
        rintro e w10 ⟨d3, b3, rfl, hd3, ov3, ho3, -, hE'⟩
        rw [e7] at hd3
        have f7 := nx_part (m := m2) (id := 7) (at' := (p : Int)) (lf := (t : Int)) (d := dw x2) (to := 0)
        rw [e7] at f7
        have f8 := (nx_ne (m := m2) (id := 7) (at' := (p : Int)) (lf := (t : Int)) (d := dw x2) (to := 0) (op := 2) (x := 8) (by decide)).trans e8
        generalize nextB m2 ⟨2, 7, (p : Int), dw x2, (t : Int), ((0 : Nat) : Int)⟩ = m3 at *
        generalize acI N ⟨2, 7, (p : Int), dw x2, (t : Int), ((0 : Nat) : Int)⟩ I2 = I3 at *
        clear hE e7 e8 m2 I2
        have HE := Lib.hid hE'
        have HD3 := Lib.hid hd3
        have HO3 := Lib.hid ho3
        clear hE' hd3 ho3
        go_upto_region 17 with (refine wpList_store_newD rfl (.tmp 18) (.tmp 97) rfl rfl _ rfl rfl ?_)
        obtain ⟨db, hdb⟩ : ∃ b, w10.heap.size = b := ⟨_, rfl⟩
        have hE := Lib.hid (HE.out.box 48 (DA d3) hdb)
        rw [hdb]
        clear HE hdb
        generalize w10.alloc (.cells (DA d3) 48) = w11 at *
        go_wp2_with fail
        refine (hE.out.step HC.out ⟨0, 7, 0, fun _ => 0, ((0 : Nat) : Int), (t : Int)⟩ (by omega) (show (0 : Int) ≤ 7 by decide) zero_rng (ok_of (op := 0) (id := 7) (at' := 0) (lf := 0) (to := t) _ (by decide) (by decide) (by decide) hN1 hto) (fun _ l d e => by rw [f7] at e; injection e with e; injection e with e _; rw [← e])).mono ?_
        rintro e w12 ⟨d4, b4, rfl, hd4, ov4, ho4, -, hE'⟩
        rw [f7] at hd4
        have e8 := (nx_ne (m := m3) (id := 7) (at' := 0) (lf := ((0 : Nat) : Int)) (d := fun _ => 0) (to := t) (op := 0) (x := 8) (by decide)).trans f8
        generalize nextB m3 ⟨0, 7, 0, fun _ => 0, ((0 : Nat) : Int), (t : Int)⟩ = m4 at *
        generalize acI N ⟨0, 7, 0, fun _ => 0, ((0 : Nat) : Int), (t : Int)⟩ I3 = I4 at *
        have HE := Lib.hid hE'
        have HD4 := Lib.hid hd4
        have HO4 := Lib.hid ho4
        clear hE hE' hd4 ho4 f7 f8 m3 I3
        go_upto_region 18 with (refine wpList_store_newD rfl (.tmp 20) (.tmp 104) rfl rfl _ rfl rfl ?_)
        obtain ⟨eb, heb⟩ : ∃ b, w12.heap.size = b := ⟨_, rfl⟩
        have hE := Lib.hid (HE.out.box 48 (DA d4) heb)
        rw [heb]
        clear HE heb
        generalize w12.alloc (.cells (DA d4) 48) = w13 at *
        go_wp2_with fail
        refine (hE.out.lk.over).mono ?_
        rintro e w14 ⟨rfl, rfl⟩
        cases ov4
        · have o3 : ov3 = false := Bool.eq_false_iff.2 fun e => absurd (HO4.out e) (by decide)
          have o2 : ov2 = false := Bool.eq_false_iff.2 fun e => absurd ((HO3.out e).symm.trans o3) (by decide)
          have q3 : DA d3 = DA (dw x1) := (HD3.out o2).1
          have q4 : DA d4 = DA (updD (dw x1) (p : Int) (dw x2)) := (HD4.out o3).1
          have r3 : b3 = true := (HD3.out o2).2
          have r4 : b4 = true := (HD4.out o3).2
          have hE2 := hE.out
          rw [q3, q4] at hE2
          subst r3 r4
          have HE := Lib.hid hE2
          clear hE hE2 HD3 HD4 HO3 HO4 q3 q4 o2 o3
          go_wp2_with fail
          refine (data_of x1 _).mono ?_
          rintro e w15 ⟨rfl, hb⟩
          have HO15 : Hid (Only nobody w14 w15) := Lib.hid (Only.of_below hb)
          clear hb
          go_upto_region 21 with (refine wpList_store_newD rfl (.tmp 22) (.tmp 109) rfl rfl _ rfl rfl ?_)
          obtain ⟨wb, hwb⟩ : ∃ b, w15.heap.size = b := ⟨_, rfl⟩
          have hW := Box.new w15 48 (DA (dw x1))
          rw [hwb] at hW ⊢
          have HO16 := Lib.hid (HO15.out.alloc (.cells (DA (dw x1)) 48))
          have HW16 := Lib.hid hW
          have HWs : Hid (w14.heap.size ≤ wb) := Lib.hid (by rw [← hwb]; exact HO15.out.size)
          clear hW hwb HO15
          generalize w15.alloc (.cells (DA (dw x1)) 48) = w16 at *
          go_wp2_with fail
          refine (data_of x2 _).mono ?_
          rintro e w17 ⟨rfl, hb⟩
          have HW17 := Lib.hid (HW16.out.only (Only.of_below hb) (not_nobody _))
          have HO17 := Lib.hid (HO16.out.trans (Only.of_below hb))
          clear hb HW16 HO16
          go_upto_region 22 with (refine wpList_store_newD rfl (.tmp 23) (.tmp 111) rfl rfl _ rfl rfl ?_)
          obtain ⟨pb, hpb⟩ : ∃ b, w17.heap.size = b := ⟨_, rfl⟩
          have hP := Box.new w17 48 (DA (dw x2))
          have hW := HW17.out.alloc (.cells (DA (dw x2)) 48)
          have hne : wb ≠ pb := by have := HW17.out.lt; omega
          rw [hpb] at hP ⊢
          have HO18 := Lib.hid (HO17.out.alloc (.cells (DA (dw x2)) 48))
          clear hpb HO17 HW17
          generalize w17.alloc (.cells (DA (dw x2)) 48) = w18 at *
          have p0 : w18.cell? ⟨pb, 0, none⟩ = some (.int .u64 (dw x2 0)) := hP.cell 0
          have p1 : w18.cell? ⟨pb, 1, none⟩ = some (.int .u64 (dw x2 1)) := hP.cell 1
          have cw : w18.cell? ⟨wb, p, none⟩ = some (.int .u64 (dw x1 p)) := (hW.cell p).trans (DA_at _ p (by omega))
          have fw := hW.frozen p
          have HW := Lib.hid hW
          have HP := Lib.hid hP
          have HNe := Lib.hid hne
          clear hW hP
          go_upto_region 23 with fail
          have hW := HW.out.put p (.int .u64 (dw x2 0))
          have hP := HP.out.far (a := ⟨wb, p, none⟩) (fun e => HNe.out e.symm) (.int .u64 (dw x2 0))
          have HO19 : Hid (Only nobody w14 (w18.setCell ⟨wb, p, none⟩ (.int .u64 (dw x2 0)))) := Lib.hid (HO18.out.setCell (p := ⟨wb, p, none⟩) (.inr HWs.out) _)
          clear p0 p1 cw fw HW HP HO18
          generalize w18.setCell ⟨wb, p, none⟩ (.int .u64 (dw x2 0)) = w19 at *
          have p1 : w19.cell? ⟨pb, 1, none⟩ = some (.int .u64 (dw x2 1)) := hP.cell 1
          have cw : w19.cell? ⟨wb, p + 1, none⟩ = some (.int .u64 (dw x1 (p + 1))) := by
            rw [hW.cell (p + 1), Array.getElem?_setIfInBounds_ne (by omega)]
            exact DA_at _ (p + 1) (by omega)
          have fw := hW.frozen (p + 1)
          have HW := Lib.hid hW
          clear hW hP
          go_upto_region 24 with fail
          have hW := HW.out.put (p + 1) (.int .u64 (dw x2 1))
          rw [DA_part (dw x1) (dw x2) p hat] at hW
          have HO20 : Only nobody w14 (w19.setCell ⟨wb, p + 1, none⟩ (.int .u64 (dw x2 1))) := HO19.out.setCell (p := ⟨wb, p + 1, none⟩) (.inr HWs.out) _
          have hlt := hW.lt
          have hE := Lib.hid ((HE.out.more HO20).hasBox hW (.inr ⟨HWs.out, hlt⟩))
          clear p1 cw fw HW HO19 HE HO20 hW hlt
          generalize w19.setCell ⟨wb, p + 1, none⟩ (.int .u64 (dw x2 1)) = w20 at *
          go_wp2_with fail
          refine (hE.out.step HC.out ⟨0, 8, 0, fun _ => 0, (t : Int), (t : Int)⟩ (by omega) (show (0 : Int) ≤ 8 by decide) zero_rng (ok_of (op := 0) (id := 8) (at' := 0) (lf := t) (to := t) _ (by decide) (by decide) (by decide) hto hto) (fun _ l d e => by rw [e8] at e; cases e)).mono ?_
          rintro e w21 ⟨d5, b5, rfl, hd5, ov5, -, -, hE'⟩
          obtain ⟨q5, r5⟩ := hd5 rfl
          rw [e8] at q5 r5
          subst r5
          have HE := Lib.hid hE'
          have HQ5 := Lib.hid q5
          clear hE hE' hd5 q5 e8
          go_upto_region 25 with (refine wpList_store_newD rfl (.tmp 24) (.tmp 127) rfl rfl _ rfl rfl ?_)
          obtain ⟨fb, hfb⟩ : ∃ b, w21.heap.size = b := ⟨_, rfl⟩
          have hE := HE.out.box 48 (DA d5) hfb
          rw [hfb]
          rw [HQ5.out] at hE ⊢
          clear HE hfb HQ5
          generalize w21.alloc (.cells (DA (dat none)) 48) = w22 at *
          have hE := hE.drew
          refine held_s (S := (fun u => ((((Box u cb 25 (cfA N S T) ∧ Stps u w.heap.size a i y) ∧ Box u db 48 (DA (dw x1))) ∧ Box u eb 48 (DA (updD (dw x1) (p : Int) (dw x2)))) ∧ Box u wb 48 (DA (updD (dw x1) (p : Int) (dw x2)))) ∧ Box u fb 48 (DA (dat none)))) 25 rfl (by kernel_rfl) hE.hF (fun hHeld => ?_)
          simp only [Array.replicate_succ, Array.replicate_zero, List.push_toArray, List.nil_append, List.cons_append]
          generalize World.drew _ = wd at *
          refine wpAnyH_take (i := 0) (oi := ⟨some 129, _, _, _, _, _⟩) (v := (.bool true)) rfl (by kernel_rfl) (by kernel_rfl) (by kernel_rfl) (fun _ _ _ h => h) (Or.inl ⟨by rfl, fun w' hw => by go_simp⟩) hHeld ?_
          try simp only [Act.put, List.setIfInBounds_toArray, List.set_cons_zero, List.set_cons_succ]
          refine wpAnyH_take (i := 1) (oi := ⟨some 130, _, _, _, _, _⟩) (v := (.bool true)) rfl (by kernel_rfl) (by kernel_rfl) (by kernel_rfl) (fun _ _ _ h => h) (Or.inl ⟨by rfl, fun w' hw => by go_simp⟩) hHeld ?_
          try simp only [Act.put, List.setIfInBounds_toArray, List.set_cons_zero, List.set_cons_succ]
          refine take_row 2 (oi := ⟨some 131, _, _, _, _, _⟩) (DA (dw x1)).toList rfl (by kernel_rfl) (by kernel_rfl) (by kernel_rfl) (fun _ _ _ h => h) (by rfl) _ _ rfl _ _ rfl _ (fun w' hw => hw.1.1.1.2.range) Tryz.underlying48 rfl (infoData (dw x1)) hHeld ?_
          try simp only [Act.put, List.setIfInBounds_toArray, List.set_cons_zero, List.set_cons_succ]
          refine wpAnyH_take (i := 3) (oi := ⟨some 132, _, _, _, _, _⟩) (v := (.int .u64 x1)) rfl (by kernel_rfl) (by kernel_rfl) (by kernel_rfl) (fun _ _ _ h => h) (Or.inl ⟨by rfl, fun w' hw => by go_simp⟩) hHeld ?_
          try simp only [Act.put, List.setIfInBounds_toArray, List.set_cons_zero, List.set_cons_succ]
          refine one_ready 4 rfl (by kernel_rfl) (fun K hK => ?_)
          go_simp
          refine (data_of x1 _).mono ?_
          rintro e w13 ⟨rfl, hb⟩
          have hE := hE.nob (Only.of_below hb)
          refine hK.out _ _ hE.hF (fun hHeld => ?_)
          clear hK K hb
          simp only [List.setIfInBounds_toArray, List.set_cons_zero, List.set_cons_succ]
          refine wpAnyH_take (i := 5) (oi := ⟨some 134, _, _, _, _, _⟩) (v := (.bool true)) rfl (by kernel_rfl) (by kernel_rfl) (by kernel_rfl) (fun _ _ _ h => h) (Or.inl ⟨by rfl, fun w' hw => by (have q1 := eql_data (dw x1) (dw x1); rw [deq_self] at q1; go_simp)⟩) hHeld ?_
          try simp only [Act.put, List.setIfInBounds_toArray, List.set_cons_zero, List.set_cons_succ]
          refine wpAnyH_take (i := 6) (oi := ⟨some 135, _, _, _, _, _⟩) (v := (.bool true)) rfl (by kernel_rfl) (by kernel_rfl) (by kernel_rfl) (fun _ _ _ h => h) (Or.inl ⟨by rfl, fun w' hw => by go_simp⟩) hHeld ?_
          try simp only [Act.put, List.setIfInBounds_toArray, List.set_cons_zero, List.set_cons_succ]
          refine wpAnyH_take (i := 7) (oi := ⟨some 136, _, _, _, _, _⟩) (v := (.bool true)) rfl (by kernel_rfl) (by kernel_rfl) (by kernel_rfl) (fun _ _ _ h => h) (Or.inl ⟨by rfl, fun w' hw => by go_simp⟩) hHeld ?_
          try simp only [Act.put, List.setIfInBounds_toArray, List.set_cons_zero, List.set_cons_succ]
          refine wpAnyH_take (i := 8) (oi := ⟨some 137, _, _, _, _, _⟩) (v := (.bool true)) rfl (by kernel_rfl) (by kernel_rfl) (by kernel_rfl) (fun _ _ _ h => h) (Or.inl ⟨by rfl, fun w' hw => by go_simp⟩) hHeld ?_
          try simp only [Act.put, List.setIfInBounds_toArray, List.set_cons_zero, List.set_cons_succ]
          refine wpAnyH_take (i := 9) (oi := ⟨some 138, _, _, _, _, _⟩) (v := (.bool true)) rfl (by kernel_rfl) (by kernel_rfl) (by kernel_rfl) (fun _ _ _ h => h) (Or.inl ⟨by rfl, fun w' hw => by go_simp⟩) hHeld ?_
          try simp only [Act.put, List.setIfInBounds_toArray, List.set_cons_zero, List.set_cons_succ]
          refine wpAnyH_take (i := 10) (oi := ⟨some 139, _, _, _, _, _⟩) (v := (.bool true)) rfl (by kernel_rfl) (by kernel_rfl) (by kernel_rfl) (fun _ _ _ h => h) (Or.inl ⟨by rfl, fun w' hw => by go_simp⟩) hHeld ?_
          try simp only [Act.put, List.setIfInBounds_toArray, List.set_cons_zero, List.set_cons_succ]
          refine take_row 11 (oi := ⟨some 140, _, _, _, _, _⟩) (DA (updD (dw x1) (p : Int) (dw x2))).toList rfl (by kernel_rfl) (by kernel_rfl) (by kernel_rfl) (fun _ _ _ h => h) (by rfl) _ _ rfl _ _ rfl _ (fun w' hw => hw.1.1.2.range) Tryz.underlying48 rfl (infoData (updD (dw x1) (p : Int) (dw x2))) hHeld ?_
          try simp only [Act.put, List.setIfInBounds_toArray, List.set_cons_zero, List.set_cons_succ]
          refine take_row 12 (oi := ⟨some 141, _, _, _, _, _⟩) (DA (updD (dw x1) (p : Int) (dw x2))).toList rfl (by kernel_rfl) (by kernel_rfl) (by kernel_rfl) (fun _ _ _ h => h) (by rfl) _ _ rfl _ _ rfl _ (fun w' hw => hw.1.2.range) Tryz.underlying48 rfl (infoData (updD (dw x1) (p : Int) (dw x2))) hHeld ?_
          try simp only [Act.put, List.setIfInBounds_toArray, List.set_cons_zero, List.set_cons_succ]
          refine wpAnyH_take (i := 13) (oi := ⟨some 142, _, _, _, _, _⟩) (v := (.bool true)) rfl (by kernel_rfl) (by kernel_rfl) (by kernel_rfl) (fun _ _ _ h => h) (Or.inl ⟨by rfl, fun w' hw => by (have q1 := eql_data (updD (dw x1) (p : Int) (dw x2)) (updD (dw x1) (p : Int) (dw x2)); rw [deq_self] at q1; go_simp)⟩) hHeld ?_
          try simp only [Act.put, List.setIfInBounds_toArray, List.set_cons_zero, List.set_cons_succ]
          refine wpAnyH_take (i := 14) (oi := ⟨some 143, _, _, _, _, _⟩) (v := (.bool true)) rfl (by kernel_rfl) (by kernel_rfl) (by kernel_rfl) (fun _ _ _ h => h) (Or.inl ⟨by rfl, fun w' hw => by go_simp⟩) hHeld ?_
          try simp only [Act.put, List.setIfInBounds_toArray, List.set_cons_zero, List.set_cons_succ]
          refine wpAnyH_take (i := 15) (oi := ⟨some 144, _, _, _, _, _⟩) (v := (.bool true)) rfl (by kernel_rfl) (by kernel_rfl) (by kernel_rfl) (fun _ _ _ h => h) (Or.inl ⟨by rfl, fun w' hw => by go_simp⟩) hHeld ?_
          try simp only [Act.put, List.setIfInBounds_toArray, List.set_cons_zero, List.set_cons_succ]
          refine wpAnyH_take (i := 16) (oi := ⟨some 145, _, _, _, _, _⟩) (v := (.bool false)) rfl (by kernel_rfl) (by kernel_rfl) (by kernel_rfl) (fun _ _ _ h => h) (Or.inl ⟨by rfl, fun w' hw => by go_simp⟩) hHeld ?_
          try simp only [Act.put, List.setIfInBounds_toArray, List.set_cons_zero, List.set_cons_succ]
          refine wpAnyH_take (i := 17) (oi := ⟨some 146, _, _, _, _, _⟩) (v := (.bool true)) rfl (by kernel_rfl) (by kernel_rfl) (by kernel_rfl) (fun _ _ _ h => h) (Or.inl ⟨by rfl, fun w' hw => by go_simp⟩) hHeld ?_
          try simp only [Act.put, List.setIfInBounds_toArray, List.set_cons_zero, List.set_cons_succ]
          refine wpAnyH_take (i := 18) (oi := ⟨some 147, _, _, _, _, _⟩) (v := (.bool true)) rfl (by kernel_rfl) (by kernel_rfl) (by kernel_rfl) (fun _ _ _ h => h) (Or.inl ⟨by rfl, fun w' hw => by go_simp⟩) hHeld ?_
          try simp only [Act.put, List.setIfInBounds_toArray, List.set_cons_zero, List.set_cons_succ]
          refine wpAnyH_take (i := 19) (oi := ⟨some 148, _, _, _, _, _⟩) (v := (.bool true)) rfl (by kernel_rfl) (by kernel_rfl) (by kernel_rfl) (fun _ _ _ h => h) (Or.inl ⟨by rfl, fun w' hw => by go_simp⟩) hHeld ?_
          try simp only [Act.put, List.setIfInBounds_toArray, List.set_cons_zero, List.set_cons_succ]
          refine take_row 20 (oi := ⟨some 149, _, _, _, _, _⟩) (DA (dat none)).toList rfl (by kernel_rfl) (by kernel_rfl) (by kernel_rfl) (fun _ _ _ h => h) (by rfl) _ _ rfl _ _ rfl _ (fun w' hw => hw.2.range) Tryz.underlying48 rfl (infoData (dat none)) hHeld ?_
          try simp only [Act.put, List.setIfInBounds_toArray, List.set_cons_zero, List.set_cons_succ]
          refine wpAnyH_take (i := 21) (oi := ⟨some 150, _, _, _, _, _⟩) (v := (.agg (DA (dat none)))) rfl (by kernel_rfl) (by kernel_rfl) (by kernel_rfl) (fun _ _ _ h => h) (Or.inl ⟨by rfl, fun w' hw => by (go_simp; rfl)⟩) hHeld ?_
          try simp only [Act.put, List.setIfInBounds_toArray, List.set_cons_zero, List.set_cons_succ]
          refine wpAnyH_take (i := 22) (oi := ⟨some 151, _, _, _, _, _⟩) (v := (.bool true)) rfl (by kernel_rfl) (by kernel_rfl) (by kernel_rfl) (fun _ _ _ h => h) (Or.inl ⟨by rfl, fun w' hw => by (have q1 := eql_data (dat none) (dat none); rw [deq_self] at q1; go_simp)⟩) hHeld ?_
          try simp only [Act.put, List.setIfInBounds_toArray, List.set_cons_zero, List.set_cons_succ]
          refine wpAnyH_take (i := 23) (oi := ⟨some 152, _, _, _, _, _⟩) (v := (.bool true)) rfl (by kernel_rfl) (by kernel_rfl) (by kernel_rfl) (fun _ _ _ h => h) (Or.inl ⟨by rfl, fun w' hw => by go_simp⟩) hHeld ?_
          try simp only [Act.put, List.setIfInBounds_toArray, List.set_cons_zero, List.set_cons_succ]
          refine wpAnyH_take (i := 24) (oi := ⟨some 12, _, _, _, _, _⟩) (v := (.bool true)) rfl (by kernel_rfl) (by kernel_rfl) (by kernel_rfl) (fun _ _ _ h => h) (Or.inl ⟨by rfl, fun w' hw => by go_simp⟩) hHeld ?_
          try simp only [Act.put, List.setIfInBounds_toArray, List.set_cons_zero, List.set_cons_succ]
          refine wpAnyH_done (by kernel_rfl) ?_ _
          have HB := Lib.hid hE.kp
          clear hE hHeld
          go_wp2_with fail
          go_ret
          exact ⟨rfl, HB.out⟩
        · go_wp2_with fail
          go_ret
          exact ⟨rfl, hE.out.kp⟩
end Go.Proofs.YtdbjaaalngbpgaaGreat
