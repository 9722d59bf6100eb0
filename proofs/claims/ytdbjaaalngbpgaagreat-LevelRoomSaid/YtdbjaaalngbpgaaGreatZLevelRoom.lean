/- LevelRoom: while no more than Stash blocks were ever put, each looked for where it is, none is lost. -/
import Derived.Test.YtdbjaaalngbpgaaGreatG43
import Derived.Test.YtdbjaaalngbpgaaGreatG44
import Derived.Test.YtdbjaaalngbpgaaGreatG14
import Derived.Test.YtdbjaaalngbpgaaGreatG8
namespace Go.Proofs.YtdbjaaalngbpgaaGreat
set_option maxRecDepth 100000
open Go.RowKit Go.ChangeShapes Go.WideShapes Go.ChangeAt Go.Maps Go.Deep

section
variable {w : World} {cb N S T : Nat}
theorem cf_0 (h : Box w cb 25 (cfA N S T)) : w.cell? ⟨cb, 0, none⟩ = some (.int .i64 (N : Int)) := h.cell 0
theorem cf_1 (h : Box w cb 25 (cfA N S T)) : w.cell? ⟨cb, 1, none⟩ = some (.int .i64 (S : Int)) := h.cell 1
theorem cf_2 (h : Box w cb 25 (cfA N S T)) : w.cell? ⟨cb, 2, none⟩ = some (.int .i64 (T : Int)) := h.cell 2
end
theorem st_cells {w : World} {b o : Nat} {y : Stp} (h : w.rangeAt b o (stc y).toList) : w.cell? ⟨b, o, none⟩ = some (.int .i64 y.1) ∧ w.cell? ⟨b, o + 1, none⟩ = some (.int .u64 y.2.1) ∧ w.cell? ⟨b, o + 2, none⟩ = some (.int .i64 y.2.2.1) ∧
    w.cell? ⟨b, o + 3, none⟩ = some (.int .u64 y.2.2.2.1) ∧ w.cell? ⟨b, o + 4, none⟩ = some (.int .i64 y.2.2.2.2.1) ∧ w.cell? ⟨b, o + 5, none⟩ = some (.int .i64 y.2.2.2.2.2) :=
  ⟨h 0 _ rfl, h 1 _ rfl, h 2 _ rfl, h 3 _ rfl, h 4 _ rfl, h 5 _ rfl⟩
/-- The loop's state: the blocks lie where g' says, the law's row says g. -/
structure RmIn (N S D T Q mp lp bm cb gb : Nat) (W : World) (a : Option Addr) (nl : Nat) (y : Nat → Stp) (g g' : Nat → Nat) (I : List Int) (m : Bm) (k : Nat) (wr : World) : Prop where
  lk : LvK Unit N S D T Q mp lp bm (fun j => j < W.heap.size ∨ j = cb ∨ j = gb) false I m k wr
  ok : RmOk T N g' m I
  row : wr.rowIs gb 3 T (fun j => .int .i64 ((g j : Nat) : Int))
  box : Box wr cb 25 (cfA N S T)
  st : Stps wr W.heap.size a nl y
  kp : Kept (old W) W wr
  ne : cb ≠ gb
  gt : W.heap.size ≤ gb
section
variable {N S D T L n Q P mp lp bm cb gb : Nat} {W : World} {a : Option Addr} {nl : Nat} {y : Nat → Stp} {g g' : Nat → Nat} {I : List Int} {m : Bm} {k : Nat} {wr w' : World}
theorem RmIn.nob (h : RmIn N S D T Q mp lp bm cb gb W a nl y g g' I m k wr) (ho : Only nobody wr w') : RmIn N S D T Q mp lp bm cb gb W a nl y g g' I m k w' :=
  ⟨h.lk.nob ho, h.ok, ho.row h.row (not_nobody _), h.box.only ho (not_nobody _), h.st.below (ho.below (h.kp.size) (fun _ _ => not_nobody _)), h.kp.trans (Kept.of_none ho), h.ne, h.gt⟩
theorem RmIn.drew (h : RmIn N S D T Q mp lp bm cb gb W a nl y g g' I m k wr) : RmIn N S D T Q mp lp bm cb gb W a nl y g g' I m k wr.drew := h.nob (Only.refl _ _).drew
theorem RmIn.rng {b o : Nat} (h : RmIn N S D T Q mp lp bm cb gb W (some ⟨b, o, none⟩) nl y g g' I m k wr) {i : Nat} (hi : i < nl) : wr.rangeAt b (o + i * 6) (stc (y i)).toList := by
  obtain ⟨b', o', e, _, hr⟩ := h.st.at hi
  injection e with e
  injection e with e1 e2
  rw [e1, e2]
  exact hr
theorem RmIn.step (hC : Conf N S T D L n Q P) (h : RmIn N S D T Q mp lp bm cb gb W a nl y g g I m k wr) (op at' : Nat) (d : Nat → Int) (id to : Nat) (hop : op < 4) (hat : at' < 7) (hid : id < T) (hto : to < N) (hk : k < 40) (hd : ∀ j, 0 ≤ d j ∧ d j ≤ 18446744073709551615) :
    Calls Tryz.prog 19 #[.pointer (some ⟨lp, 0, none⟩), .int .i64 (op : Int), .int .u64 (id : Int), .int .i64 (at' : Int), .agg (DA d), .int .i64 ((g id : Nat) : Int), .int .i64 (to : Int)] wr fun e w' =>
      ∃ d' b' m' I', e = .returned (.tuple #[.agg (DA d'), .bool b']) ∧ RmIn N S D T Q mp lp bm cb gb W a nl y g (updN g id to) I' m' (k + 1) w' := by
  have h64 := hC.t64
  refine (h.lk.step hC ⟨(op : Int), (id : Int), (at' : Int), d, ((g id : Nat) : Int), (to : Int)⟩ (by omega) (by show (0 : Int) ≤ (id : Int); omega) hd (ok_of d hop (by omega) hat (h.ok.lt id) hto) (fun _ l e he => h.ok.leaf l e he)).mono ?_
  rintro e w' ⟨d', b', rfl, _, ov, hl, _, h2, hK⟩
  have hok := h.ok.next (op : Int) (at' : Int) id to d hid hto
  have hov : ov = false := h2 rfl (idsTo T) (fun i b hb => hok.all i b hb) (by rw [idsTo_len]; exact Nat.le_refl _)
  subst hov
  have hKo : Kept (old W) wr w' := hK.mono fun i hi => .inl hi
  exact ⟨d', b', _, _, rfl, hl, hok, hK.row h.row (.inr (.inr rfl)), hK.box h.box (.inr (.inl rfl)), h.st.below (hKo.below h.kp.size (fun _ h => h)), h.kp.trans hKo, h.ne, h.gt⟩
theorem RmIn.put {id to : Nat} (h : RmIn N S D T Q mp lp bm cb gb W a nl y g (updN g id to) I m k wr) : RmIn N S D T Q mp lp bm cb gb W a nl y (updN g id to) (updN g id to) I m k (wr.setCell ⟨gb, id, none⟩ (.int .i64 (to : Int))) := by
  have ho : Only (just gb) wr (wr.setCell ⟨gb, id, none⟩ (.int .i64 (to : Int))) := (Only.refl _ _).setCell (p := ⟨gb, id, none⟩) (.inl (just_self _)) _
  refine ⟨h.lk.only ho (fun i hi => .inr (.inr hi)), h.ok, (h.row.set id _).congr (fun j _ => ?_), h.box.only ho (fun e => h.ne e), h.st.below (ho.below h.kp.size (fun i hi e => ?_)), ?_, h.ne, h.gt⟩
  · unfold updN
    split <;> rfl
  · have e : i = gb := e
    have := h.gt
    omega
  · exact h.kp.then ho (fun i e => .inr (by have e : i = gb := e; have := h.gt; omega))
end

set_option maxRecDepth 100000 in
set_option maxHeartbeats 4000000 in
theorem room_law (n : Int) (a : Option Addr) (nl c : Nat) (y : Nat → Stp) (w : World) (hn : (Lit.int .i64 n).wf = true) (hS : Stps w w.heap.size a nl y) (hy : ∀ j, j < nl → StOk (y j)) :
    Calls Tryz.prog 7 #[.int .i64 n, .slice a nl c] w fun e w' => e = .returned (.bool true) ∧ Below w.heap.size w w' := by
  by_cases hl : 40 < nl
  · have h40 : (40 : Int) < (nl : Int) := by omega
    clear hS hy
    go_enter Tryz.func7, Tryz.ntmps7
    go_wp2_with fail
    refine (shown_of _).mono ?_
    rintro e w1 ⟨rfl, hb1⟩
    have HB1 := Lib.hid hb1
    clear hb1
    go_wp2_with fail
    go_ret
    exact ⟨rfl, HB1.out⟩
  · have h40 : ¬ (40 : Int) < (nl : Int) := by omega
    obtain ⟨N, S, T, D, L, m, Q, P, hC, hsz, hsm, hcf⟩ := law_config n (i64_rng hn).1 (i64_rng hn).2
    have hT := hC.t1
    have hN := hC.hN
    have hD := Nat.two_pow_pos D
    have hmk := run_make_row' (P := Tryz.prog) 39 3 (.int .i64 0) 8 Tryz.underlying39 infoI64 rfl .i64 .i64 T (by omega) (by omega)
    have HCf := Lib.hid hcf
    have HMd := Lib.hid (fun W => made_of (H := Unit) hC W hsz)
    have HC := Lib.hid hC
    have HN := Lib.hid hN
    have HSt := Lib.hid hS
    have HYk := Lib.hid hy
    clear hcf hsz hC hS hy hn
    go_enter Tryz.func7, Tryz.ntmps7
    go_wp2_with fail
    refine (shown_of _).mono ?_
    rintro e w1 ⟨rfl, hb1⟩
    have HB1 := Lib.hid hb1
    clear hb1
    go_wp2_with fail
    refine (HCf.out _).mono ?_
    rintro e w2 ⟨rfl, hb2⟩
    have HB2 := Lib.hid (HB1.out.trans (hb2.mono HB1.out.size))
    clear hb2 HB1 HCf
    go_upto_region 5 with (refine wpList_store_newC rfl (.tmp 6) (.tmp 23) rfl rfl N S T rfl rfl ?_)
    obtain ⟨cb, hcb⟩ : ∃ b, w2.heap.size = b := ⟨_, rfl⟩
    have hbx := Box.new w2 25 (cfA N S T)
    have HB3 := Lib.hid (HB2.out.alloc HB2.out.size (.cells (cfA N S T) 25))
    have hcs : cb < (w2.alloc (.cells (cfA N S T) 25)).heap.size := by rw [← hcb]; exact hbx.lt
    have hws : w.heap.size ≤ cb := by rw [← hcb]; exact HB2.out.size
    rw [hcb] at hbx ⊢
    have HBx := Lib.hid hbx
    have HCs := Lib.hid hcs
    have HWs := Lib.hid hws
    clear hcb hbx hcs hws HB2
    generalize w2.alloc (.cells (cfA N S T) 25) = w3 at *
    have k0 := cf_0 HBx.out
    have k1 := cf_1 HBx.out
    have k2 := cf_2 HBx.out
    go_wp2_with fail
    refine (HMd.out _).mono ?_
    rintro e w4 ⟨mp, lp, bm, rfl, ho4, hlp, hbm, hL⟩
    have hws := HWs.out
    have hcs := HCs.out
    have HL4 := Lib.hid ((LvK.made hL hlp hbm).weak (Z := fun j => j < w.heap.size ∨ j = cb) (fun i hi => by show i < w3.heap.size; rcases hi with hi | hi <;> omega))
    have HBx4 := Lib.hid (HBx.out.only ho4 (not_nobody _))
    have HB4 := Lib.hid (below_only HB3.out ho4 HB3.out.size (fun _ _ h => h))
    have hs4 := ho4.size
    clear ho4 hlp hbm hL HMd HB3 HBx k0 k1 k2
    have k0 := cf_0 HBx4.out
    have k1 := cf_1 HBx4.out
    have k2 := cf_2 HBx4.out
    obtain ⟨gb, hgb⟩ : ∃ b, w4.heap.size = b := ⟨_, rfl⟩
    have HR : Hid (RmIn N S D T Q mp lp bm cb gb w a nl y (fun _ => 0) (fun _ => 0) [] (fun _ => none) 0 (w4.alloc (.cells (madeCells #[.int .i64 0] T) 3))) := Lib.hid
      ⟨by
        have := HL4.out.alloc (.cells (madeCells #[.int .i64 0] T) 3)
        rw [hgb] at this
        exact this.weak (fun i hi => hi.elim (fun h => .inl (.inl h)) (fun h => h.elim (fun h => .inl (.inr h)) .inr)), RmOk.new (by omega), by rw [← hgb]; exact World.rowIs_made w4 (.int .i64 0) T 3, HBx4.out.alloc _, HSt.out.below (HB4.out.alloc HB4.out.size _), Only.of_below (HB4.out.alloc HB4.out.size _), by omega, by omega⟩
    have HGb := Lib.hid hgb
    clear hgb HL4 HBx4 HB4 hs4 hws hcs
    go_upto_region 9 with fail
    rw [HGb.out]
    go_wp2_with fail
    go_loopw [10] (fun v wr => ∃ i : Nat, v = .int .i64 i ∧ i ≤ nl ∧ ∃ g I m, RmIn N S D T Q mp lp bm cb gb w a nl y g g I m i wr) (fun v _ => nl - (intOf v).toNat)
    case atStart => exact ⟨0, rfl, by omega, _, _, _, HR.out⟩
    case round =>
      obtain ⟨i, rfl, hle, g, I, mb, hE⟩ := hrel
      clear HR k0 k1 k2
      by_cases hin : i < nl
      · obtain ⟨yb, yo, rfl, _, _⟩ := hE.st.at hin
        obtain ⟨r0, r1, r2, r3, r4, r5⟩ := (HYk.out i hin).rng
        obtain ⟨k, hk6, hand⟩ := and_low (y i).2.1
        have hkw : IntKind.i64.wrap (k : Int) = (k : Int) := by rw [IntKind.wrap_i64]; omega
        go_upto_region 12 with fail
        have hE := hE.drew
        refine held_s (S := fun w' => Box w' cb 25 (cfA N S T) ∧ w'.rangeAt yb (yo + i * 6) (stc (y i)).toList ∧ w'.rowIs gb 3 T (fun j => .int .i64 ((g j : Nat) : Int))) 11 rfl (by kernel_rfl) ⟨hE.box, hE.rng hin, hE.row⟩ (fun hHeld => ?_)
        simp only [Array.replicate_succ, Array.replicate_zero, List.push_toArray, List.nil_append, List.cons_append]
        generalize World.drew _ = wd at *
        refine wpAnyH_take (i := 0) (oi := ⟨some 40, _, _, _, _, _⟩) (v := (.slice (some ⟨yb, yo, none⟩) nl c)) rfl (by kernel_rfl) (by kernel_rfl) (by kernel_rfl) (fun _ _ _ h => h) (Or.inl ⟨by rfl, fun w' hw => by go_simp⟩) hHeld ?_
        try simp only [Act.put, List.setIfInBounds_toArray, List.set_cons_zero, List.set_cons_succ]
        refine wpAnyH_take (i := 1) (oi := ⟨some 41, _, _, _, _, _⟩) (v := (.int .i64 (i : Int))) rfl (by kernel_rfl) (by kernel_rfl) (by kernel_rfl) (fun _ _ _ h => h) (Or.inl ⟨by rfl, fun w' hw => by go_simp⟩) hHeld ?_
        try simp only [Act.put, List.setIfInBounds_toArray, List.set_cons_zero, List.set_cons_succ]
        refine wpAnyH_take (i := 2) (oi := ⟨some 42, _, _, _, _, _⟩) (v := (.pointer (some ⟨yb, yo + i * 6, none⟩))) rfl (by kernel_rfl) (by kernel_rfl) (by kernel_rfl) (fun _ _ _ h => h) (Or.inl ⟨by rfl, fun w' hw => by go_simp⟩) hHeld ?_
        try simp only [Act.put, List.setIfInBounds_toArray, List.set_cons_zero, List.set_cons_succ]
        refine wpAnyH_take (i := 3) (oi := ⟨some 43, _, _, _, _, _⟩) (v := (.pointer (some ⟨yb, yo + i * 6 + 1, none⟩))) rfl (by kernel_rfl) (by kernel_rfl) (by kernel_rfl) (fun _ _ _ h => h) (Or.inl ⟨by rfl, fun w' hw => by go_simp⟩) hHeld ?_
        try simp only [Act.put, List.setIfInBounds_toArray, List.set_cons_zero, List.set_cons_succ]
        refine wpAnyH_take (i := 4) (oi := ⟨some 44, _, _, _, _, _⟩) (v := (.int .u64 (y i).2.1)) rfl (by kernel_rfl) (by kernel_rfl) (by kernel_rfl) (fun _ _ _ h => h) (Or.inl ⟨by rfl, fun w' hw => by (have k0 := cf_0 hw.1; have k1 := cf_1 hw.1; have k2 := cf_2 hw.1; obtain ⟨q0, q1, q2, q3, q4, q5⟩ := st_cells hw.2.1; go_simp)⟩) hHeld ?_
        try simp only [Act.put, List.setIfInBounds_toArray, List.set_cons_zero, List.set_cons_succ]
        refine wpAnyH_take (i := 5) (oi := ⟨some 45, _, _, _, _, _⟩) (v := (.int .u64 (k : Int))) rfl (by kernel_rfl) (by kernel_rfl) (by kernel_rfl) (fun _ _ _ h => h) (Or.inl ⟨by rfl, fun w' hw => by go_simp⟩) hHeld ?_
        try simp only [Act.put, List.setIfInBounds_toArray, List.set_cons_zero, List.set_cons_succ]
        refine wpAnyH_take (i := 6) (oi := ⟨some 46, _, _, _, _, _⟩) (v := (.int .i64 (k : Int))) rfl (by kernel_rfl) (by kernel_rfl) (by kernel_rfl) (fun _ _ _ h => h) (Or.inl ⟨by rfl, fun w' hw => by go_simp⟩) hHeld ?_
        try simp only [Act.put, List.setIfInBounds_toArray, List.set_cons_zero, List.set_cons_succ]
        refine wpAnyH_take (i := 7) (oi := ⟨some 47, _, _, _, _, _⟩) (v := (.pointer (some ⟨cb, 2, none⟩))) rfl (by kernel_rfl) (by kernel_rfl) (by kernel_rfl) (fun _ _ _ h => h) (Or.inl ⟨by rfl, fun w' hw => by go_simp⟩) hHeld ?_
        try simp only [Act.put, List.setIfInBounds_toArray, List.set_cons_zero, List.set_cons_succ]
        refine wpAnyH_take (i := 8) (oi := ⟨some 48, _, _, _, _, _⟩) (v := (.int .i64 (T : Int))) rfl (by kernel_rfl) (by kernel_rfl) (by kernel_rfl) (fun _ _ _ h => h) (Or.inl ⟨by rfl, fun w' hw => by (have k0 := cf_0 hw.1; have k1 := cf_1 hw.1; have k2 := cf_2 hw.1; obtain ⟨q0, q1, q2, q3, q4, q5⟩ := st_cells hw.2.1; go_simp)⟩) hHeld ?_
        try simp only [Act.put, List.setIfInBounds_toArray, List.set_cons_zero, List.set_cons_succ]
        refine one_ready 9 rfl (by kernel_rfl) (fun K hK => ?_)
        go_simp
        refine (pik_any (k : Int) T _ (by omega) (by omega) (by omega) (by omega)).mono ?_
        rintro e w13 ⟨rfl, he⟩
        rw [he]
        refine hK.out _ _ hHeld (fun hHeld => ?_)
        clear hK K he w13
        simp only [List.setIfInBounds_toArray, List.set_cons_zero, List.set_cons_succ]
        refine wpAnyH_take (i := 10) (oi := ⟨some 11, _, _, _, _, _⟩) (v := (.int .i64 ((pik (k : Int) T : Nat) : Int))) rfl (by kernel_rfl) (by kernel_rfl) (by kernel_rfl) (fun _ _ _ h => h) (Or.inl ⟨by rfl, fun w' hw => by go_simp⟩) hHeld ?_
        try simp only [Act.put, List.setIfInBounds_toArray, List.set_cons_zero, List.set_cons_succ]
        refine wpAnyH_done (by kernel_rfl) ?_ _
        have hid : pik (k : Int) T < T := pik_lt _ (by omega)
        generalize pik (k : Int) T = id at *
        go_upto_region 13 with fail
        have hE := hE.drew
        refine held_s (S := fun w' => Box w' cb 25 (cfA N S T) ∧ w'.rangeAt yb (yo + i * 6) (stc (y i)).toList ∧ w'.rowIs gb 3 T (fun j => .int .i64 ((g j : Nat) : Int))) 9 rfl (by kernel_rfl) ⟨hE.box, hE.rng hin, hE.row⟩ (fun hHeld => ?_)
        simp only [Array.replicate_succ, Array.replicate_zero, List.push_toArray, List.nil_append, List.cons_append]
        generalize World.drew _ = wd at *
        refine wpAnyH_take (i := 0) (oi := ⟨some 50, _, _, _, _, _⟩) (v := (.slice (some ⟨yb, yo, none⟩) nl c)) rfl (by kernel_rfl) (by kernel_rfl) (by kernel_rfl) (fun _ _ _ h => h) (Or.inl ⟨by rfl, fun w' hw => by go_simp⟩) hHeld ?_
        try simp only [Act.put, List.setIfInBounds_toArray, List.set_cons_zero, List.set_cons_succ]
        refine wpAnyH_take (i := 1) (oi := ⟨some 51, _, _, _, _, _⟩) (v := (.int .i64 (i : Int))) rfl (by kernel_rfl) (by kernel_rfl) (by kernel_rfl) (fun _ _ _ h => h) (Or.inl ⟨by rfl, fun w' hw => by go_simp⟩) hHeld ?_
        try simp only [Act.put, List.setIfInBounds_toArray, List.set_cons_zero, List.set_cons_succ]
        refine wpAnyH_take (i := 2) (oi := ⟨some 52, _, _, _, _, _⟩) (v := (.pointer (some ⟨yb, yo + i * 6, none⟩))) rfl (by kernel_rfl) (by kernel_rfl) (by kernel_rfl) (fun _ _ _ h => h) (Or.inl ⟨by rfl, fun w' hw => by go_simp⟩) hHeld ?_
        try simp only [Act.put, List.setIfInBounds_toArray, List.set_cons_zero, List.set_cons_succ]
        refine wpAnyH_take (i := 3) (oi := ⟨some 53, _, _, _, _, _⟩) (v := (.pointer (some ⟨yb, yo + i * 6 + 5, none⟩))) rfl (by kernel_rfl) (by kernel_rfl) (by kernel_rfl) (fun _ _ _ h => h) (Or.inl ⟨by rfl, fun w' hw => by go_simp⟩) hHeld ?_
        try simp only [Act.put, List.setIfInBounds_toArray, List.set_cons_zero, List.set_cons_succ]
        refine wpAnyH_take (i := 4) (oi := ⟨some 54, _, _, _, _, _⟩) (v := (.int .i64 (y i).2.2.2.2.2)) rfl (by kernel_rfl) (by kernel_rfl) (by kernel_rfl) (fun _ _ _ h => h) (Or.inl ⟨by rfl, fun w' hw => by (have k0 := cf_0 hw.1; have k1 := cf_1 hw.1; have k2 := cf_2 hw.1; obtain ⟨q0, q1, q2, q3, q4, q5⟩ := st_cells hw.2.1; go_simp)⟩) hHeld ?_
        try simp only [Act.put, List.setIfInBounds_toArray, List.set_cons_zero, List.set_cons_succ]
        refine wpAnyH_take (i := 5) (oi := ⟨some 55, _, _, _, _, _⟩) (v := (.pointer (some ⟨cb, 0, none⟩))) rfl (by kernel_rfl) (by kernel_rfl) (by kernel_rfl) (fun _ _ _ h => h) (Or.inl ⟨by rfl, fun w' hw => by go_simp⟩) hHeld ?_
        try simp only [Act.put, List.setIfInBounds_toArray, List.set_cons_zero, List.set_cons_succ]
        refine wpAnyH_take (i := 6) (oi := ⟨some 56, _, _, _, _, _⟩) (v := (.int .i64 (N : Int))) rfl (by kernel_rfl) (by kernel_rfl) (by kernel_rfl) (fun _ _ _ h => h) (Or.inl ⟨by rfl, fun w' hw => by (have k0 := cf_0 hw.1; have k1 := cf_1 hw.1; have k2 := cf_2 hw.1; obtain ⟨q0, q1, q2, q3, q4, q5⟩ := st_cells hw.2.1; go_simp)⟩) hHeld ?_
        try simp only [Act.put, List.setIfInBounds_toArray, List.set_cons_zero, List.set_cons_succ]
        refine one_ready 7 rfl (by kernel_rfl) (fun K hK => ?_)
        go_simp
        refine (pik_any (y i).2.2.2.2.2 N _ (by omega) (by omega) r5.1 r5.2).mono ?_
        rintro e w13 ⟨rfl, he⟩
        rw [he]
        refine hK.out _ _ hHeld (fun hHeld => ?_)
        clear hK K he w13
        simp only [List.setIfInBounds_toArray, List.set_cons_zero, List.set_cons_succ]
        refine wpAnyH_take (i := 8) (oi := ⟨some 12, _, _, _, _, _⟩) (v := (.int .i64 ((pik (y i).2.2.2.2.2 N : Nat) : Int))) rfl (by kernel_rfl) (by kernel_rfl) (by kernel_rfl) (fun _ _ _ h => h) (Or.inl ⟨by rfl, fun w' hw => by go_simp⟩) hHeld ?_
        try simp only [Act.put, List.setIfInBounds_toArray, List.set_cons_zero, List.set_cons_succ]
        refine wpAnyH_done (by kernel_rfl) ?_ _
        have hto : pik (y i).2.2.2.2.2 N < N := pik_lt _ (by omega)
        generalize pik (y i).2.2.2.2.2 N = to at *
        have hiu : IntKind.u64.wrap (id : Int) = (id : Int) := by rw [IntKind.wrap_u64]; omega
        have hop : pik (y i).1 4 < 4 := pik_lt _ (by decide)
        have hat : pik (y i).2.2.1 7 < 7 := pik_lt _ (by decide)
        have hi40 : i < 40 := by omega
        go_upto_region 14 with fail
        have hE := hE.drew
        refine held_s (S := fun w' => Box w' cb 25 (cfA N S T) ∧ w'.rangeAt yb (yo + i * 6) (stc (y i)).toList ∧ w'.rowIs gb 3 T (fun j => .int .i64 ((g j : Nat) : Int))) 27 rfl (by kernel_rfl) ⟨hE.box, hE.rng hin, hE.row⟩ (fun hHeld => ?_)
        simp only [Array.replicate_succ, Array.replicate_zero, List.push_toArray, List.nil_append, List.cons_append]
        generalize World.drew _ = wd at *
        refine wpAnyH_take (i := 0) (oi := ⟨some 58, _, _, _, _, _⟩) (v := (.pointer (some ⟨lp, 0, none⟩))) rfl (by kernel_rfl) (by kernel_rfl) (by kernel_rfl) (fun _ _ _ h => h) (Or.inl ⟨by rfl, fun w' hw => by go_simp⟩) hHeld ?_
        try simp only [Act.put, List.setIfInBounds_toArray, List.set_cons_zero, List.set_cons_succ]
        refine wpAnyH_take (i := 1) (oi := ⟨some 59, _, _, _, _, _⟩) (v := (.slice (some ⟨yb, yo, none⟩) nl c)) rfl (by kernel_rfl) (by kernel_rfl) (by kernel_rfl) (fun _ _ _ h => h) (Or.inl ⟨by rfl, fun w' hw => by go_simp⟩) hHeld ?_
        try simp only [Act.put, List.setIfInBounds_toArray, List.set_cons_zero, List.set_cons_succ]
        refine wpAnyH_take (i := 2) (oi := ⟨some 60, _, _, _, _, _⟩) (v := (.int .i64 (i : Int))) rfl (by kernel_rfl) (by kernel_rfl) (by kernel_rfl) (fun _ _ _ h => h) (Or.inl ⟨by rfl, fun w' hw => by go_simp⟩) hHeld ?_
        try simp only [Act.put, List.setIfInBounds_toArray, List.set_cons_zero, List.set_cons_succ]
        refine wpAnyH_take (i := 3) (oi := ⟨some 61, _, _, _, _, _⟩) (v := (.pointer (some ⟨yb, yo + i * 6, none⟩))) rfl (by kernel_rfl) (by kernel_rfl) (by kernel_rfl) (fun _ _ _ h => h) (Or.inl ⟨by rfl, fun w' hw => by go_simp⟩) hHeld ?_
        try simp only [Act.put, List.setIfInBounds_toArray, List.set_cons_zero, List.set_cons_succ]
        refine wpAnyH_take (i := 4) (oi := ⟨some 62, _, _, _, _, _⟩) (v := (.pointer (some ⟨yb, yo + i * 6, none⟩))) rfl (by kernel_rfl) (by kernel_rfl) (by kernel_rfl) (fun _ _ _ h => h) (Or.inl ⟨by rfl, fun w' hw => by go_simp⟩) hHeld ?_
        try simp only [Act.put, List.setIfInBounds_toArray, List.set_cons_zero, List.set_cons_succ]
        refine wpAnyH_take (i := 5) (oi := ⟨some 63, _, _, _, _, _⟩) (v := (.int .i64 (y i).1)) rfl (by kernel_rfl) (by kernel_rfl) (by kernel_rfl) (fun _ _ _ h => h) (Or.inl ⟨by rfl, fun w' hw => by (have k0 := cf_0 hw.1; have k1 := cf_1 hw.1; have k2 := cf_2 hw.1; obtain ⟨q0, q1, q2, q3, q4, q5⟩ := st_cells hw.2.1; have g0 := hw.2.2.cell hid; go_simp)⟩) hHeld ?_
        try simp only [Act.put, List.setIfInBounds_toArray, List.set_cons_zero, List.set_cons_succ]
        refine wpAnyH_take (i := 7) (oi := ⟨some 65, _, _, _, _, _⟩) (v := (.int .i64 (id : Int))) rfl (by kernel_rfl) (by kernel_rfl) (by kernel_rfl) (fun _ _ _ h => h) (Or.inl ⟨by rfl, fun w' hw => by go_simp⟩) hHeld ?_
        try simp only [Act.put, List.setIfInBounds_toArray, List.set_cons_zero, List.set_cons_succ]
        refine wpAnyH_take (i := 8) (oi := ⟨some 66, _, _, _, _, _⟩) (v := (.int .u64 (id : Int))) rfl (by kernel_rfl) (by kernel_rfl) (by kernel_rfl) (fun _ _ _ h => h) (Or.inl ⟨by rfl, fun w' hw => by go_simp⟩) hHeld ?_
        try simp only [Act.put, List.setIfInBounds_toArray, List.set_cons_zero, List.set_cons_succ]
        refine wpAnyH_take (i := 9) (oi := ⟨some 67, _, _, _, _, _⟩) (v := (.slice (some ⟨yb, yo, none⟩) nl c)) rfl (by kernel_rfl) (by kernel_rfl) (by kernel_rfl) (fun _ _ _ h => h) (Or.inl ⟨by rfl, fun w' hw => by go_simp⟩) hHeld ?_
        try simp only [Act.put, List.setIfInBounds_toArray, List.set_cons_zero, List.set_cons_succ]
        refine wpAnyH_take (i := 10) (oi := ⟨some 68, _, _, _, _, _⟩) (v := (.int .i64 (i : Int))) rfl (by kernel_rfl) (by kernel_rfl) (by kernel_rfl) (fun _ _ _ h => h) (Or.inl ⟨by rfl, fun w' hw => by go_simp⟩) hHeld ?_
        try simp only [Act.put, List.setIfInBounds_toArray, List.set_cons_zero, List.set_cons_succ]
        refine wpAnyH_take (i := 11) (oi := ⟨some 69, _, _, _, _, _⟩) (v := (.pointer (some ⟨yb, yo + i * 6, none⟩))) rfl (by kernel_rfl) (by kernel_rfl) (by kernel_rfl) (fun _ _ _ h => h) (Or.inl ⟨by rfl, fun w' hw => by go_simp⟩) hHeld ?_
        try simp only [Act.put, List.setIfInBounds_toArray, List.set_cons_zero, List.set_cons_succ]
        refine wpAnyH_take (i := 12) (oi := ⟨some 70, _, _, _, _, _⟩) (v := (.pointer (some ⟨yb, yo + i * 6 + 2, none⟩))) rfl (by kernel_rfl) (by kernel_rfl) (by kernel_rfl) (fun _ _ _ h => h) (Or.inl ⟨by rfl, fun w' hw => by go_simp⟩) hHeld ?_
        try simp only [Act.put, List.setIfInBounds_toArray, List.set_cons_zero, List.set_cons_succ]
        refine wpAnyH_take (i := 13) (oi := ⟨some 71, _, _, _, _, _⟩) (v := (.int .i64 (y i).2.2.1)) rfl (by kernel_rfl) (by kernel_rfl) (by kernel_rfl) (fun _ _ _ h => h) (Or.inl ⟨by rfl, fun w' hw => by (have k0 := cf_0 hw.1; have k1 := cf_1 hw.1; have k2 := cf_2 hw.1; obtain ⟨q0, q1, q2, q3, q4, q5⟩ := st_cells hw.2.1; have g0 := hw.2.2.cell hid; go_simp)⟩) hHeld ?_
        try simp only [Act.put, List.setIfInBounds_toArray, List.set_cons_zero, List.set_cons_succ]
        refine wpAnyH_take (i := 15) (oi := ⟨some 73, _, _, _, _, _⟩) (v := (.slice (some ⟨yb, yo, none⟩) nl c)) rfl (by kernel_rfl) (by kernel_rfl) (by kernel_rfl) (fun _ _ _ h => h) (Or.inl ⟨by rfl, fun w' hw => by go_simp⟩) hHeld ?_
        try simp only [Act.put, List.setIfInBounds_toArray, List.set_cons_zero, List.set_cons_succ]
        refine wpAnyH_take (i := 16) (oi := ⟨some 74, _, _, _, _, _⟩) (v := (.int .i64 (i : Int))) rfl (by kernel_rfl) (by kernel_rfl) (by kernel_rfl) (fun _ _ _ h => h) (Or.inl ⟨by rfl, fun w' hw => by go_simp⟩) hHeld ?_
        try simp only [Act.put, List.setIfInBounds_toArray, List.set_cons_zero, List.set_cons_succ]
        refine wpAnyH_take (i := 17) (oi := ⟨some 75, _, _, _, _, _⟩) (v := (.pointer (some ⟨yb, yo + i * 6, none⟩))) rfl (by kernel_rfl) (by kernel_rfl) (by kernel_rfl) (fun _ _ _ h => h) (Or.inl ⟨by rfl, fun w' hw => by go_simp⟩) hHeld ?_
        try simp only [Act.put, List.setIfInBounds_toArray, List.set_cons_zero, List.set_cons_succ]
        refine wpAnyH_take (i := 18) (oi := ⟨some 76, _, _, _, _, _⟩) (v := (.pointer (some ⟨yb, yo + i * 6 + 3, none⟩))) rfl (by kernel_rfl) (by kernel_rfl) (by kernel_rfl) (fun _ _ _ h => h) (Or.inl ⟨by rfl, fun w' hw => by go_simp⟩) hHeld ?_
        try simp only [Act.put, List.setIfInBounds_toArray, List.set_cons_zero, List.set_cons_succ]
        refine wpAnyH_take (i := 19) (oi := ⟨some 77, _, _, _, _, _⟩) (v := (.int .u64 (y i).2.2.2.1)) rfl (by kernel_rfl) (by kernel_rfl) (by kernel_rfl) (fun _ _ _ h => h) (Or.inl ⟨by rfl, fun w' hw => by (have k0 := cf_0 hw.1; have k1 := cf_1 hw.1; have k2 := cf_2 hw.1; obtain ⟨q0, q1, q2, q3, q4, q5⟩ := st_cells hw.2.1; have g0 := hw.2.2.cell hid; go_simp)⟩) hHeld ?_
        try simp only [Act.put, List.setIfInBounds_toArray, List.set_cons_zero, List.set_cons_succ]
        refine wpAnyH_take (i := 21) (oi := ⟨some 79, _, _, _, _, _⟩) (v := (.slice (some ⟨gb, 0, none⟩) T T)) rfl (by kernel_rfl) (by kernel_rfl) (by kernel_rfl) (fun _ _ _ h => h) (Or.inl ⟨by rfl, fun w' hw => by go_simp⟩) hHeld ?_
        try simp only [Act.put, List.setIfInBounds_toArray, List.set_cons_zero, List.set_cons_succ]
        refine wpAnyH_take (i := 22) (oi := ⟨some 80, _, _, _, _, _⟩) (v := (.int .i64 (id : Int))) rfl (by kernel_rfl) (by kernel_rfl) (by kernel_rfl) (fun _ _ _ h => h) (Or.inl ⟨by rfl, fun w' hw => by go_simp⟩) hHeld ?_
        try simp only [Act.put, List.setIfInBounds_toArray, List.set_cons_zero, List.set_cons_succ]
        refine wpAnyH_take (i := 23) (oi := ⟨some 81, _, _, _, _, _⟩) (v := (.pointer (some ⟨gb, id, none⟩))) rfl (by kernel_rfl) (by kernel_rfl) (by kernel_rfl) (fun _ _ _ h => h) (Or.inl ⟨by rfl, fun w' hw => by go_simp⟩) hHeld ?_
        try simp only [Act.put, List.setIfInBounds_toArray, List.set_cons_zero, List.set_cons_succ]
        refine wpAnyH_take (i := 24) (oi := ⟨some 82, _, _, _, _, _⟩) (v := (.int .i64 ((g id : Nat) : Int))) rfl (by kernel_rfl) (by kernel_rfl) (by kernel_rfl) (fun _ _ _ h => h) (Or.inl ⟨by rfl, fun w' hw => by (have k0 := cf_0 hw.1; have k1 := cf_1 hw.1; have k2 := cf_2 hw.1; obtain ⟨q0, q1, q2, q3, q4, q5⟩ := st_cells hw.2.1; have g0 := hw.2.2.cell hid; go_simp)⟩) hHeld ?_
        try simp only [Act.put, List.setIfInBounds_toArray, List.set_cons_zero, List.set_cons_succ]
        refine wpAnyH_take (i := 25) (oi := ⟨some 83, _, _, _, _, _⟩) (v := (.int .i64 (to : Int))) rfl (by kernel_rfl) (by kernel_rfl) (by kernel_rfl) (fun _ _ _ h => h) (Or.inl ⟨by rfl, fun w' hw => by go_simp⟩) hHeld ?_
        try simp only [Act.put, List.setIfInBounds_toArray, List.set_cons_zero, List.set_cons_succ]
        refine one_ready 6 rfl (by kernel_rfl) (fun K hK => ?_)
        go_simp
        refine (pik_any (y i).1 4 _ (by omega) (by omega) r0.1 r0.2).mono ?_
        rintro e w13 ⟨rfl, he⟩
        rw [he]
        refine hK.out _ _ hHeld (fun hHeld => ?_)
        clear hK K he w13
        simp only [List.setIfInBounds_toArray, List.set_cons_zero, List.set_cons_succ]
        refine one_ready 14 rfl (by kernel_rfl) (fun K hK => ?_)
        go_simp
        refine (pik_any (y i).2.2.1 7 _ (by omega) (by omega) r2.1 r2.2).mono ?_
        rintro e w13 ⟨rfl, he⟩
        rw [he]
        refine hK.out _ _ hHeld (fun hHeld => ?_)
        clear hK K he w13
        simp only [List.setIfInBounds_toArray, List.set_cons_zero, List.set_cons_succ]
        refine one_ready 20 rfl (by kernel_rfl) (fun K hK => ?_)
        go_simp
        refine (data_of (y i).2.2.2.1 _).mono ?_
        rintro e w13 ⟨rfl, hb⟩
        have hE := hE.nob (Only.of_below hb)
        refine hK.out _ _ ⟨hE.box, hE.rng hin, hE.row⟩ (fun hHeld => ?_)
        clear hK K hb
        simp only [List.setIfInBounds_toArray, List.set_cons_zero, List.set_cons_succ]
        refine one_ready 26 rfl (by kernel_rfl) (fun K hK => ?_)
        go_simp
        refine (hE.step HC.out (pik (y i).1 4) (pik (y i).2.2.1 7) (dw (y i).2.2.2.1) id to hop hat hid hto hi40 (fun j => dw_rng _ j)).mono ?_
        rintro e w13 ⟨d', b', m', I', rfl, hE'⟩
        clear hE
        have hE := hE'
        clear hE'
        refine hK.out _ _ ⟨hE.box, hE.rng hin, hE.row⟩ (fun hHeld => ?_)
        clear hK K
        simp only [List.setIfInBounds_toArray, List.set_cons_zero, List.set_cons_succ]
        refine wpAnyH_done (by kernel_rfl) ?_ _
        have hlen : ¬ T < (difI I').length := by have := hE.ok.len; omega
        have hlen2 : ¬ (T : Int) < ((difI I').length : Int) := by omega
        have cg := hE.row.cell hid
        have fg := hE.row.frozen id
        go_upto_region 16 with fail
        have hE := hE.put
        clear cg fg
        have hE := hE.drew
        refine held_s (S := fun w' => Box w' cb 25 (cfA N S T)) 9 rfl (by kernel_rfl) hE.box (fun hHeld => ?_)
        simp only [Array.replicate_succ, Array.replicate_zero, List.push_toArray, List.nil_append, List.cons_append]
        generalize World.drew _ = wd at *
        refine wpAnyH_take (i := 0) (oi := ⟨some 89, _, _, _, _, _⟩) (v := (.pointer (some ⟨lp, 0, none⟩))) rfl (by kernel_rfl) (by kernel_rfl) (by kernel_rfl) (fun _ _ _ h => h) (Or.inl ⟨by rfl, fun w' hw => by go_simp⟩) hHeld ?_
        try simp only [Act.put, List.setIfInBounds_toArray, List.set_cons_zero, List.set_cons_succ]
        refine one_ready 1 rfl (by kernel_rfl) (fun K hK => ?_)
        go_simp
        refine (hE.lk.over).mono ?_
        rintro e w13 ⟨rfl, he⟩
        rw [he]
        refine hK.out _ _ hHeld (fun hHeld => ?_)
        clear hK K he w13
        simp only [List.setIfInBounds_toArray, List.set_cons_zero, List.set_cons_succ]
        refine wpAnyH_take (i := 2) (oi := ⟨some 91, _, _, _, _, _⟩) (v := (.bool false)) rfl (by kernel_rfl) (by kernel_rfl) (by kernel_rfl) (fun _ _ _ h => h) (Or.inl ⟨by rfl, fun w' hw => by go_simp⟩) hHeld ?_
        try simp only [Act.put, List.setIfInBounds_toArray, List.set_cons_zero, List.set_cons_succ]
        refine wpAnyH_take (i := 3) (oi := ⟨some 92, _, _, _, _, _⟩) (v := (.pointer (some ⟨lp, 0, none⟩))) rfl (by kernel_rfl) (by kernel_rfl) (by kernel_rfl) (fun _ _ _ h => h) (Or.inl ⟨by rfl, fun w' hw => by go_simp⟩) hHeld ?_
        try simp only [Act.put, List.setIfInBounds_toArray, List.set_cons_zero, List.set_cons_succ]
        refine wpAnyH_take (i := 5) (oi := ⟨some 94, _, _, _, _, _⟩) (v := (.pointer (some ⟨cb, 2, none⟩))) rfl (by kernel_rfl) (by kernel_rfl) (by kernel_rfl) (fun _ _ _ h => h) (Or.inl ⟨by rfl, fun w' hw => by go_simp⟩) hHeld ?_
        try simp only [Act.put, List.setIfInBounds_toArray, List.set_cons_zero, List.set_cons_succ]
        refine wpAnyH_take (i := 6) (oi := ⟨some 95, _, _, _, _, _⟩) (v := (.int .i64 (T : Int))) rfl (by kernel_rfl) (by kernel_rfl) (by kernel_rfl) (fun _ _ _ h => h) (Or.inl ⟨by rfl, fun w' hw => by (have k2 := cf_2 hw; go_simp)⟩) hHeld ?_
        try simp only [Act.put, List.setIfInBounds_toArray, List.set_cons_zero, List.set_cons_succ]
        refine one_ready 4 rfl (by kernel_rfl) (fun K hK => ?_)
        go_simp
        refine (hE.lk.blocks).mono ?_
        rintro e w13 ⟨rfl, he⟩
        rw [he]
        refine hK.out _ _ hHeld (fun hHeld => ?_)
        clear hK K he w13
        simp only [List.setIfInBounds_toArray, List.set_cons_zero, List.set_cons_succ]
        refine wpAnyH_take (i := 7) (oi := ⟨some 96, _, _, _, _, _⟩) (v := (.bool false)) rfl (by kernel_rfl) (by kernel_rfl) (by kernel_rfl) (fun _ _ _ h => h) (Or.inl ⟨by rfl, fun w' hw => by go_simp⟩) hHeld ?_
        try simp only [Act.put, List.setIfInBounds_toArray, List.set_cons_zero, List.set_cons_succ]
        refine wpAnyH_take (i := 8) (oi := ⟨some 97, _, _, _, _, _⟩) (v := (.bool false)) rfl (by kernel_rfl) (by kernel_rfl) (by kernel_rfl) (fun _ _ _ h => h) (Or.inl ⟨by rfl, fun w' hw => by go_simp⟩) hHeld ?_
        try simp only [Act.put, List.setIfInBounds_toArray, List.set_cons_zero, List.set_cons_succ]
        refine wpAnyH_done (by kernel_rfl) ?_ _
        have HE := Lib.hid hE
        clear hE hHeld
        go_wp2_with fail
        go_roundw
        case rel => exact ⟨i + 1, by go_num, by omega, _, _, _, HE.out⟩
        case measure => simp [intOf]; omega
      · have hn' : ¬ (i : Int) < (nl : Int) := by omega
        have HE := Lib.hid hE.kp
        clear hE
        go_wp2_with fail
        go_ret
        exact ⟨rfl, HE.out.below (Nat.le_refl _) (fun _ h => h)⟩
end Go.Proofs.YtdbjaaalngbpgaaGreat
