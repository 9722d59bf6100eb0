/- LevelKeeps: as long as none is lost, each block that is looked for on the way to the leaf that it was given last is what was put last. -/
import Derived.Deep.CutRange
import Derived.Test.YtdbjaaalngbpgaaGreatG49
import Derived.Test.YtdbjaaalngbpgaaGreatG13
namespace Go.Proofs.YtdbjaaalngbpgaaGreat
set_option maxRecDepth 100000
open Go.RowKit Go.ChangeShapes Go.WideShapes Go.ChangeAt Go.Maps Go.Deep

theorem st_rg {u : World} {B b o nl : Nat} {y : Nat → Stp} (h : Stps u B (some ⟨b, o, none⟩) nl y) {i : Nat} (hi : i < nl) : u.rangeAt b (o + i * 6) (stc (y i)).toList := by
  obtain ⟨b', o', e, _, hr⟩ := h.at hi
  injection e with e
  injection e with e1 e2
  rw [e1, e2]
  exact hr
theorem num_cl {k : IntKind} {u : World} {B b o n : Nat} {z : Nat → Int} (h : Nums k u B (some ⟨b, o, none⟩) n z) {j : Nat} (hj : j < n) : u.cell? ⟨b, o + j, none⟩ = some (.int k (z j)) := by
  obtain ⟨b', o', e, _, hr⟩ := h.at hj
  injection e with e
  injection e with e1 e2
  rw [e1, e2]
  exact hr
theorem lv_size {N S D T Q mp lp bm : Nat} {W : World} {Z : Nat → Prop} {F : World → Prop} {ov : Bool} {I : List Int} {m : Bm} {k : Nat} {wr : World} (_ : LvS N S D T Q mp lp bm W Z F ov I m k wr) : ∃ b, wr.heap.size = b := ⟨_, rfl⟩
theorem store_run {u : World} {b o : Nat} (ht : u.there b o 8) (d : Nat → Int) : (storeCells ⟨b, o, none⟩ (DA d).toList).run Tryz.prog u = .ok () (u.setCells b o (DA d).toList) := by
  have hl : (DA d).toList.length = 8 := rfl
  have := run_storeCells_cells (P := Tryz.prog) b o (DA d).toList 0 u (fun j hj => by simpa using (ht j (by omega)).1) (fun j hj => by simpa using (ht j (by omega)).2) (fun v hv => (Array.all_eq_true_iff_forall_mem.1 (DA_ones d)) v (by simpa using hv))
  simpa using this
theorem bx_drew {u : World} {b : Nat} {t : TypeId} {cs : Array Value} (h : Box u b t cs) : Box u.drew b t cs := h
theorem bx_0 {u : World} {b : Nat} {f : Nat → Int} (h : Box u b 48 (DA f)) : u.cell? ⟨b, 0, none⟩ = some (.int .u64 (f 0)) := h.cell 0
theorem bx_1 {u : World} {b : Nat} {f : Nat → Int} (h : Box u b 48 (DA f)) : u.cell? ⟨b, 1, none⟩ = some (.int .u64 (f 1)) := h.cell 1
set_option maxRecDepth 100000 in
set_option maxHeartbeats 8000000 in
theorem keeps_law (n : Int) (a : Option Addr) (nl c : Nat) (y : Nat → Stp) (a2 : Option Addr) (n2 c2 : Nat) (z2 : Nat → Int) (w : World) (hn : (Lit.int .i64 n).wf = true) (hS : Stps w w.heap.size a nl y) (hy : ∀ j, j < nl → StOk (y j)) (hm2 : n2 ≤ 9223372036854775807) (hZ2 : Nums .u64 w w.heap.size a2 n2 z2) (hz : ∀ j, j < n2 → (Lit.int .u64 (z2 j)).wf = true) :
    Calls Tryz.prog 5 #[.int .i64 n, .slice a nl c, .slice a2 n2 c2] w fun e w' => e = .returned (.bool true) ∧ Below w.heap.size w w' := by
  by_cases hl : 40 < nl
  · have h12 : (40 : Int) < (nl : Int) := by omega
    clear hS hy hZ2 hz
    go_enter Tryz.func5, Tryz.ntmps5
    go_wp2_with fail
    refine (shown_of _).mono ?_
    rintro e w1 ⟨rfl, hb1⟩
    have HB1 := Lib.hid hb1
    clear hb1
    go_wp2_with fail
    go_ret
    exact ⟨rfl, HB1.out⟩
  · have h12 : ¬ (40 : Int) < (nl : Int) := by omega
    by_cases hl2 : 200 < n2
    · have h13 : (200 : Int) < (n2 : Int) := by omega
      clear hS hy hZ2 hz
      go_enter Tryz.func5, Tryz.ntmps5
      go_wp2_with fail
      refine (shown_of _).mono ?_
      rintro e w1 ⟨rfl, hb1⟩
      have HB1 := Lib.hid hb1
      clear hb1
      go_wp2_with fail
      go_ret
      exact ⟨rfl, HB1.out⟩
    · have h13 : ¬ (200 : Int) < (n2 : Int) := by omega
      obtain ⟨N, S, T, D, L, m, Q, P, hC, hsz, hsm, hcf⟩ := law_config n (i64_rng hn).1 (i64_rng hn).2
      have hN := hC.n1
      have hN1 := hN.1
      have hmk1 : ∀ W, (Instr.makeSlice 39 (.int .i64 8) (.int .i64 8)).run Tryz.prog W = .ok (.slice (some ⟨W.heap.size, 0, none⟩) 8 8) (W.alloc (.cells (madeCells #[.int .i64 0] 8) 3)) := run_make_row' (P := Tryz.prog) 39 3 (.int .i64 0) 8 Tryz.underlying39 infoI64 rfl .i64 .i64 8 (by decide) (by decide)
      have hmk2 : ∀ W, (Instr.makeSlice 77 (.int .i64 8) (.int .i64 8)).run Tryz.prog W = .ok (.slice (some ⟨W.heap.size, 0, none⟩) 8 8) (W.alloc (.cells (madeCells #[.bool false] 8) 4)) := run_make_row' (P := Tryz.prog) 77 4 (.bool false) 1 Tryz.underlying77 infoBool rfl .i64 .i64 8 (by decide) (by decide)
      have hmk3 := make_data
      have HCf := Lib.hid hcf
      have HMd := Lib.hid (fun W => made_of (H := Unit) hC W hsz)
      have HC := Lib.hid hC
      have HSt := Lib.hid hS
      have HYk := Lib.hid hy
      have HZ2 := Lib.hid hZ2
      have HZr := Lib.hid hz
      clear hcf hsz hC hS hy hn hZ2 hz
      go_enter Tryz.func5, Tryz.ntmps5
      go_wp2_with fail
      refine (shown_of _).mono ?_
      rintro e w1 ⟨rfl, hb1⟩
      have HB1 := Lib.hid hb1
      clear hb1
      go_wp2_with fail
      refine (HCf.out _).mono ?_
      rintro e w2 ⟨rfl, hb2⟩
      have HB2 := Lib.hid (HB1.out.trans (hb2.mono HB1.out.size))
      clear hb2 HB1 HCf
      go_upto_region 5 with (refine wpList_store_newC rfl (.tmp 8) (.tmp 37) rfl rfl N S T rfl rfl ?_)
      obtain ⟨cb, hcb⟩ : ∃ b, w2.heap.size = b := ⟨_, rfl⟩
      have hbx := Box.new w2 25 (cfA N S T)
      have HB3 := Lib.hid (HB2.out.alloc HB2.out.size (.cells (cfA N S T) 25))
      have hcs : cb < (w2.alloc (.cells (cfA N S T) 25)).heap.size := by rw [← hcb]; exact hbx.lt
      have hws : w.heap.size ≤ cb := by rw [← hcb]; exact HB2.out.size
      rw [hcb] at hbx ⊢
      have HBx := Lib.hid hbx
      have HCs := Lib.hid hcs
      have HWs := Lib.hid hws
      clear hcb hbx hcs hws HB2
      generalize w2.alloc (.cells (cfA N S T) 25) = w3 at *
      have k0 := cf_0 HBx.out
      have k1 := cf_1 HBx.out
      have k2 := cf_2 HBx.out
      go_wp2_with fail
      refine (HMd.out _).mono ?_
      rintro e w4 ⟨mp, lp, bm, rfl, ho4, hlp, hbm, hL⟩
      obtain ⟨Z, hZc, hE⟩ : ∃ Z : Nat → Prop, Z cb ∧ LvS N S D T Q mp lp bm w Z (fun u => (Box u cb 25 (cfA N S T) ∧ Stps u w.heap.size a nl y) ∧ Nums .u64 u w.heap.size a2 n2 z2) false [] (fun _ => none) 0 w4 := ⟨fun i => i < w3.heap.size, HCs.out, LvS.made hL hlp hbm ho4 HB3.out ⟨⟨HBx.out, HSt.out.below HB3.out⟩, HZ2.out.below HB3.out⟩ (fun u u' hs hk g => ⟨⟨hk.box g.1.1 HCs.out, g.1.2.below (hk.below hs (fun i hi => Nat.lt_of_lt_of_le hi HB3.out.size))⟩, g.2.below (hk.below hs (fun i hi => Nat.lt_of_lt_of_le hi HB3.out.size))⟩)⟩
      have HZ := Lib.hid hZc
      have HE := Lib.hid hE
      clear ho4 hlp hbm hL HMd HB3 HBx k0 k1 k2 HCs hZc hE w3
      go_upto_region 9 with fail
      obtain ⟨gb, hgb⟩ : ∃ b, w4.heap.size = b := ⟨_, rfl⟩
      have hE := HE.out.row 3 (fun _ => .int .i64 0) (.cells (madeCells #[.int .i64 0] 8) 3) hgb (by rw [← hgb]; exact World.rowIs_made w4 (.int .i64 0) 8 3)
      have ho1 : w.heap.size ≤ gb := by rw [← hgb]; exact HE.out.kp.size
      have hc1 : cb < gb := by rw [← hgb]; exact HE.out.mem HZ.out
      have HO1 := Lib.hid ho1
      have HC1 := Lib.hid hc1
      have HEg := Lib.hid hE
      rw [hgb]
      clear HE hgb hE ho1 hc1 hmk1
      generalize w4.alloc (.cells (madeCells #[.int .i64 0] 8) 3) = w5 at *
      go_upto_region 10 with fail
      obtain ⟨ib, hib⟩ : ∃ b, w5.heap.size = b := ⟨_, rfl⟩
      have hE := HEg.out.row 4 (fun _ => .bool false) (.cells (madeCells #[.bool false] 8) 4) hib (by rw [← hib]; exact World.rowIs_made w5 (.bool false) 8 4)
      have hc2 : gb < ib := by rw [← hib]; exact HEg.out.mem (.inr rfl)
      have HC2 := Lib.hid hc2
      have HEi := Lib.hid hE
      rw [hib]
      clear HEg hib hE hc2 hmk2
      generalize w5.alloc (.cells (madeCells #[.bool false] 8) 4) = w6 at *
      go_upto_region 11 with fail
      obtain ⟨vb, hvb⟩ : ∃ b, w6.heap.size = b := ⟨_, rfl⟩
      have hE := HEi.out.row 48 (vf fun _ _ => 0) (.cells (madeCells (DA fun _ => 0) 64) 48) hvb (by rw [← hvb]; exact made_data w6)
      have hc3 : ib < vb := by rw [← hvb]; exact HEi.out.mem (.inr rfl)
      obtain ⟨ZK, hkz, hE9⟩ : ∃ ZK, KpZ w ZK cb gb ib vb ∧ LvS N S D T Q mp lp bm w ZK (FK N S T cb gb ib vb w a nl y a2 n2 z2 (fun _ => 0) (fun _ => false) (fun _ _ => 0)) false [] (fun _ => none) 0 (w6.alloc (.cells (madeCells (DA fun _ => 0) 64) 48)) :=
        ⟨_, ⟨.inl (.inl (.inl HZ.out)), .inl (.inl (.inr rfl)), .inl (.inr rfl), .inr rfl, hE.hz, HO1.out, by have := HO1.out; have := HC2.out; omega, by have := HO1.out; have := HC2.out; omega, by have := HC1.out; omega, by have := HC1.out; have := HC2.out; omega, by have := HC1.out; have := HC2.out; omega, by have := HC2.out; omega, by have := HC2.out; omega, by omega⟩, hE⟩
      have HE0 := Lib.hid hE9
      have HKZ := Lib.hid hkz
      rw [hvb]
      clear HEi hvb hE hE9 hc3 hmk3 hkz HO1 HC1 HC2 HZ Z
      generalize w6.alloc (.cells (madeCells (DA fun _ => 0) 64) 48) = w7 at *
      go_wp2_with fail
      go_loopw [14] (fun v14 wr => ∃ i : Nat, v14 = .int .i64 i ∧ i ≤ nl ∧ ∃ g s v I m, (∀ j, g j < N) ∧ KpOk g s v m ∧ LvS N S D T Q mp lp bm w ZK (FK N S T cb gb ib vb w a nl y a2 n2 z2 g s v) false I m i wr) (fun v14 _ => nl - (intOf v14).toNat)
      case atStart => exact ⟨0, rfl, by omega, _, _, _, _, _, (fun _ => hN1), KpOk.new, HE0.out⟩
      case round =>
        obtain ⟨i, rfl, hle, g, s, v, I, mb, hgN, hok, hE⟩ := hrel
        clear HE0
        have HOk := Lib.hid hok
        clear hok
        by_cases hin : i < nl
        · obtain ⟨yb, yo, rfl, _, _⟩ := hE.hF.1.1.1.1.2.at hin
          obtain ⟨r0, r1, r2, r3, r4, r5⟩ := (HYk.out i hin).rng
          obtain ⟨k, hk6, hand⟩ := and_low (y i).2.1
          have hkw : IntKind.i64.wrap (k : Int) = (k : Int) := by rw [IntKind.wrap_i64]; omega
          obtain ⟨q0, q1, q2, q3, q4, q5⟩ := st_cells (st_rg hE.hF.1.1.1.1.2 hin)
          have HE := Lib.hid hE
          clear hE
          go_wp2_with fail
          refine (pik_any (k : Int) 8 _ (by omega) (by omega) (by omega) (by omega)).mono ?_
          rintro e w8 ⟨rfl, rfl⟩
          have hid : pik (k : Int) 8 < 8 := pik_lt _ (by decide)
          generalize pik (k : Int) 8 = id at *
          have hid8 : (id : Int) < 8 := by omega
          clear hand hkw
          go_wp2_with fail
          refine (pik_any (y i).1 4 _ (by omega) (by omega) r0.1 r0.2).mono ?_
          rintro e w8 ⟨rfl, rfl⟩
          have hop : pik (y i).1 4 < 4 := pik_lt _ (by decide)
          generalize pik (y i).1 4 = op at *
          go_wp2_with fail
          refine (pik_any (y i).2.2.1 7 _ (by omega) (by omega) r2.1 r2.2).mono ?_
          rintro e w8 ⟨rfl, rfl⟩
          have hp : pik (y i).2.2.1 7 < 7 := pik_lt _ (by decide)
          generalize pik (y i).2.2.1 7 = p at *
          have hp8 : (p : Int) < 8 := by omega
          have hp9 : (p : Int) + 1 < 8 := by omega
          have hp10 : ¬ (p : Int) + 1 < 0 := by omega
          have hpw : IntKind.i64.wrap ((p : Int) + 1) = (p : Int) + 1 := by rw [IntKind.wrap_i64]; omega
          clear q0 q1 q2 q3 q4 q5
          have hE := HE.out
          clear HE
          go_upto_region 17 with fail
          have hE := hE.drew
          refine held_s (S := (fun u => FK N S T cb gb ib vb w (some ⟨yb, yo, none⟩) nl y a2 n2 z2 g s v u)) 9 rfl (by kernel_rfl) hE.hF (fun hHeld => ?_)
          simp only [Array.replicate_succ, Array.replicate_zero, List.push_toArray, List.nil_append, List.cons_append]
          generalize World.drew _ = wd at *
          refine wpAnyH_take (i := 0) (oi := ⟨some 74, _, _, _, _, _⟩) (v := (.slice (some ⟨yb, yo, none⟩) nl c)) rfl (by kernel_rfl) (by kernel_rfl) (by kernel_rfl) (fun _ _ _ h => h) (Or.inl ⟨by rfl, fun w' hw => by go_simp⟩) hHeld ?_
          try simp only [Act.put, List.setIfInBounds_toArray, List.set_cons_zero, List.set_cons_succ]
          refine wpAnyH_take (i := 1) (oi := ⟨some 75, _, _, _, _, _⟩) (v := (.int .i64 (i : Int))) rfl (by kernel_rfl) (by kernel_rfl) (by kernel_rfl) (fun _ _ _ h => h) (Or.inl ⟨by rfl, fun w' hw => by go_simp⟩) hHeld ?_
          try simp only [Act.put, List.setIfInBounds_toArray, List.set_cons_zero, List.set_cons_succ]
          refine wpAnyH_take (i := 2) (oi := ⟨some 76, _, _, _, _, _⟩) (v := (.pointer (some ⟨yb, yo + i * 6, none⟩))) rfl (by kernel_rfl) (by kernel_rfl) (by kernel_rfl) (fun _ _ _ h => h) (Or.inl ⟨by rfl, fun w' hw => by go_simp⟩) hHeld ?_
          try simp only [Act.put, List.setIfInBounds_toArray, List.set_cons_zero, List.set_cons_succ]
          refine wpAnyH_take (i := 3) (oi := ⟨some 77, _, _, _, _, _⟩) (v := (.pointer (some ⟨yb, yo + i * 6 + 5, none⟩))) rfl (by kernel_rfl) (by kernel_rfl) (by kernel_rfl) (fun _ _ _ h => h) (Or.inl ⟨by rfl, fun w' hw => by go_simp⟩) hHeld ?_
          try simp only [Act.put, List.setIfInBounds_toArray, List.set_cons_zero, List.set_cons_succ]
          refine wpAnyH_take (i := 4) (oi := ⟨some 78, _, _, _, _, _⟩) (v := (.int .i64 (y i).2.2.2.2.2)) rfl (by kernel_rfl) (by kernel_rfl) (by kernel_rfl) (fun _ _ _ h => h) (Or.inl ⟨by rfl, fun w' hw => by (obtain ⟨q0, q1, q2, q3, q4, q5⟩ := st_cells (st_rg hw.1.1.1.1.2 hin); have k0 := cf_0 hw.1.1.1.1.1; have g0 := hw.1.1.2.cell hid; go_simp)⟩) hHeld ?_
          try simp only [Act.put, List.setIfInBounds_toArray, List.set_cons_zero, List.set_cons_succ]
          refine wpAnyH_take (i := 5) (oi := ⟨some 79, _, _, _, _, _⟩) (v := (.pointer (some ⟨cb, 0, none⟩))) rfl (by kernel_rfl) (by kernel_rfl) (by kernel_rfl) (fun _ _ _ h => h) (Or.inl ⟨by rfl, fun w' hw => by go_simp⟩) hHeld ?_
          try simp only [Act.put, List.setIfInBounds_toArray, List.set_cons_zero, List.set_cons_succ]
          refine wpAnyH_take (i := 6) (oi := ⟨some 80, _, _, _, _, _⟩) (v := (.int .i64 (N : Int))) rfl (by kernel_rfl) (by kernel_rfl) (by kernel_rfl) (fun _ _ _ h => h) (Or.inl ⟨by rfl, fun w' hw => by (obtain ⟨q0, q1, q2, q3, q4, q5⟩ := st_cells (st_rg hw.1.1.1.1.2 hin); have k0 := cf_0 hw.1.1.1.1.1; have g0 := hw.1.1.2.cell hid; go_simp)⟩) hHeld ?_
          try simp only [Act.put, List.setIfInBounds_toArray, List.set_cons_zero, List.set_cons_succ]
          refine one_ready 7 rfl (by kernel_rfl) (fun K hK => ?_)
          go_simp
          refine (pik_any (y i).2.2.2.2.2 N _ (by omega) (by omega) r5.1 r5.2).mono ?_
          rintro e w13 ⟨rfl, he⟩
          rw [he]
          refine hK.out _ _ hHeld (fun hHeld => ?_)
          clear hK K he w13
          simp only [List.setIfInBounds_toArray, List.set_cons_zero, List.set_cons_succ]
          refine wpAnyH_take (i := 8) (oi := ⟨some 18, _, _, _, _, _⟩) (v := (.int .i64 ((pik (y i).2.2.2.2.2 N : Nat) : Int))) rfl (by kernel_rfl) (by kernel_rfl) (by kernel_rfl) (fun _ _ _ h => h) (Or.inl ⟨by rfl, fun w' hw => by go_simp⟩) hHeld ?_
          try simp only [Act.put, List.setIfInBounds_toArray, List.set_cons_zero, List.set_cons_succ]
          refine wpAnyH_done (by kernel_rfl) ?_ _
          clear hHeld
          have hto : pik (y i).2.2.2.2.2 N < N := pik_lt _ (by omega)
          generalize pik (y i).2.2.2.2.2 N = to0 at *
          go_upto_if 85 with fail
          go_cut [18] from 48 to 201 (fun s18 w' => ∃ tv : Nat, s18 = .int .i64 (tv : Int) ∧ tv < N ∧ LvS N S D T Q mp lp bm w ZK (FK N S T cb gb ib vb w (some ⟨yb, yo, none⟩) nl y a2 n2 z2 g s v) false I mb i w')
          case first =>
            as_aux_lemma =>
              by_cases hit : i < n2
              · obtain ⟨zb, zo, rfl, _, _⟩ := hE.hF.1.1.1.2.at hit
                have hzr := u64_rng (HZr.out i hit)
                go_upto_region 19 with fail
                have hE := hE.drew
                refine held_s (S := (fun u => FK N S T cb gb ib vb w (some ⟨yb, yo, none⟩) nl y (some ⟨zb, zo, none⟩) n2 z2 g s v u)) 8 rfl (by kernel_rfl) hE.hF (fun hHeld => ?_)
                simp only [Array.replicate_succ, Array.replicate_zero, List.push_toArray, List.nil_append, List.cons_append]
                generalize World.drew _ = wd at *
                refine wpAnyH_take (i := 0) (oi := ⟨some 86, _, _, _, _, _⟩) (v := (.slice (some ⟨zb, zo, none⟩) n2 c2)) rfl (by kernel_rfl) (by kernel_rfl) (by kernel_rfl) (fun _ _ _ h => h) (Or.inl ⟨by rfl, fun w' hw => by go_simp⟩) hHeld ?_
                try simp only [Act.put, List.setIfInBounds_toArray, List.set_cons_zero, List.set_cons_succ]
                refine wpAnyH_take (i := 1) (oi := ⟨some 87, _, _, _, _, _⟩) (v := (.int .i64 (i : Int))) rfl (by kernel_rfl) (by kernel_rfl) (by kernel_rfl) (fun _ _ _ h => h) (Or.inl ⟨by rfl, fun w' hw => by go_simp⟩) hHeld ?_
                try simp only [Act.put, List.setIfInBounds_toArray, List.set_cons_zero, List.set_cons_succ]
                refine wpAnyH_take (i := 2) (oi := ⟨some 88, _, _, _, _, _⟩) (v := (.pointer (some ⟨zb, zo + i, none⟩))) rfl (by kernel_rfl) (by kernel_rfl) (by kernel_rfl) (fun _ _ _ h => h) (Or.inl ⟨by rfl, fun w' hw => by go_simp⟩) hHeld ?_
                try simp only [Act.put, List.setIfInBounds_toArray, List.set_cons_zero, List.set_cons_succ]
                refine wpAnyH_take (i := 3) (oi := ⟨some 89, _, _, _, _, _⟩) (v := (.int .u64 (z2 i))) rfl (by kernel_rfl) (by kernel_rfl) (by kernel_rfl) (fun _ _ _ h => h) (Or.inl ⟨by rfl, fun w' hw => by (have k0 := cf_0 hw.1.1.1.1.1; have g0 := num_cl hw.1.1.1.2 hit; go_simp)⟩) hHeld ?_
                try simp only [Act.put, List.setIfInBounds_toArray, List.set_cons_zero, List.set_cons_succ]
                refine wpAnyH_take (i := 4) (oi := ⟨some 90, _, _, _, _, _⟩) (v := (.pointer (some ⟨cb, 0, none⟩))) rfl (by kernel_rfl) (by kernel_rfl) (by kernel_rfl) (fun _ _ _ h => h) (Or.inl ⟨by rfl, fun w' hw => by go_simp⟩) hHeld ?_
                try simp only [Act.put, List.setIfInBounds_toArray, List.set_cons_zero, List.set_cons_succ]
                refine wpAnyH_take (i := 5) (oi := ⟨some 91, _, _, _, _, _⟩) (v := (.int .i64 (N : Int))) rfl (by kernel_rfl) (by kernel_rfl) (by kernel_rfl) (fun _ _ _ h => h) (Or.inl ⟨by rfl, fun w' hw => by (have k0 := cf_0 hw.1.1.1.1.1; have g0 := num_cl hw.1.1.1.2 hit; go_simp)⟩) hHeld ?_
                try simp only [Act.put, List.setIfInBounds_toArray, List.set_cons_zero, List.set_cons_succ]
                refine one_ready 6 rfl (by kernel_rfl) (fun K hK => ?_)
                go_simp
                refine (leaf_of (z2 i) N _ hzr.1 hzr.2 (by omega) hN.2).mono ?_
                rintro e w13 ⟨rfl, he⟩
                rw [he]
                refine hK.out _ _ hHeld (fun hHeld => ?_)
                clear hK K he w13
                simp only [List.setIfInBounds_toArray, List.set_cons_zero, List.set_cons_succ]
                refine wpAnyH_take (i := 7) (oi := ⟨some 18, _, _, _, _, _⟩) (v := (.int .i64 (((z2 i).toNat % N : Nat) : Int))) rfl (by kernel_rfl) (by kernel_rfl) (by kernel_rfl) (fun _ _ _ h => h) (Or.inl ⟨by rfl, fun w' hw => by go_simp⟩) hHeld ?_
                try simp only [Act.put, List.setIfInBounds_toArray, List.set_cons_zero, List.set_cons_succ]
                refine wpAnyH_done (by kernel_rfl) ?_ _
                have hto2 : (z2 i).toNat % N < N := Nat.mod_lt _ (by omega)
                clear hHeld
                go_wp2_with fail
                go_meet
                case rel => exact ⟨(z2 i).toNat % N, rfl, hto2, hE⟩
              · have hit2 : ¬ (i : Int) < (n2 : Int) := by omega
                go_wp2_with fail
                go_meet
                case rel => exact ⟨to0, rfl, hto, hE⟩
          case rest =>
            as_aux_lemma =>
              clear hto hE
              obtain ⟨tv, rfl, hto, hE⟩ := hcut
              have hiu : IntKind.u64.wrap (id : Int) = (id : Int) := by rw [IntKind.wrap_u64]; omega
              go_upto_region 20 with fail
              go_cut [19, 20] from 48 to 201 (fun s19 s20 w' => ∃ db d' b' ov' m' I', s19 = .pointer (some ⟨db, 0, none⟩) ∧ s20 = .bool b' ∧ b' = s id ∧ DA d' = DA (dat (mb (id : Int))) ∧ w'.rangeAt db 0 (DA d').toList ∧ KpOk (updN g id tv) (updB s id (kpB (op : Int) (s id))) (updV v id (kpV (op : Int) (p : Int) (dw (y i).2.2.2.1) (s id) (v id))) m' ∧ LvS N S D T Q mp lp bm w ZK (FK N S T cb gb ib vb w (some ⟨yb, yo, none⟩) nl y a2 n2 z2 g s v) ov' I' m' (i + 1) w')
              case first =>
                as_aux_lemma =>
                  have hE := hE.drew
                  refine held_s (S := (fun u => FK N S T cb gb ib vb w (some ⟨yb, yo, none⟩) nl y a2 n2 z2 g s v u)) 23 rfl (by kernel_rfl) hE.hF (fun hHeld => ?_)
                  simp only [Array.replicate_succ, Array.replicate_zero, List.push_toArray, List.nil_append, List.cons_append]
                  generalize World.drew _ = wd at *
                  refine wpAnyH_take (i := 0) (oi := ⟨some 94, _, _, _, _, _⟩) (v := (.pointer (some ⟨lp, 0, none⟩))) rfl (by kernel_rfl) (by kernel_rfl) (by kernel_rfl) (fun _ _ _ h => h) (Or.inl ⟨by rfl, fun w' hw => by go_simp⟩) hHeld ?_
                  try simp only [Act.put, List.setIfInBounds_toArray, List.set_cons_zero, List.set_cons_succ]
                  refine wpAnyH_take (i := 1) (oi := ⟨some 95, _, _, _, _, _⟩) (v := (.int .i64 (op : Int))) rfl (by kernel_rfl) (by kernel_rfl) (by kernel_rfl) (fun _ _ _ h => h) (Or.inl ⟨by rfl, fun w' hw => by go_simp⟩) hHeld ?_
                  try simp only [Act.put, List.setIfInBounds_toArray, List.set_cons_zero, List.set_cons_succ]
                  refine wpAnyH_take (i := 2) (oi := ⟨some 96, _, _, _, _, _⟩) (v := (.int .i64 (id : Int))) rfl (by kernel_rfl) (by kernel_rfl) (by kernel_rfl) (fun _ _ _ h => h) (Or.inl ⟨by rfl, fun w' hw => by go_simp⟩) hHeld ?_
                  try simp only [Act.put, List.setIfInBounds_toArray, List.set_cons_zero, List.set_cons_succ]
                  refine wpAnyH_take (i := 3) (oi := ⟨some 97, _, _, _, _, _⟩) (v := (.int .u64 (id : Int))) rfl (by kernel_rfl) (by kernel_rfl) (by kernel_rfl) (fun _ _ _ h => h) (Or.inl ⟨by rfl, fun w' hw => by go_simp⟩) hHeld ?_
                  try simp only [Act.put, List.setIfInBounds_toArray, List.set_cons_zero, List.set_cons_succ]
                  refine wpAnyH_take (i := 4) (oi := ⟨some 98, _, _, _, _, _⟩) (v := (.int .i64 (p : Int))) rfl (by kernel_rfl) (by kernel_rfl) (by kernel_rfl) (fun _ _ _ h => h) (Or.inl ⟨by rfl, fun w' hw => by go_simp⟩) hHeld ?_
                  try simp only [Act.put, List.setIfInBounds_toArray, List.set_cons_zero, List.set_cons_succ]
                  refine wpAnyH_take (i := 5) (oi := ⟨some 99, _, _, _, _, _⟩) (v := (.slice (some ⟨yb, yo, none⟩) nl c)) rfl (by kernel_rfl) (by kernel_rfl) (by kernel_rfl) (fun _ _ _ h => h) (Or.inl ⟨by rfl, fun w' hw => by go_simp⟩) hHeld ?_
                  try simp only [Act.put, List.setIfInBounds_toArray, List.set_cons_zero, List.set_cons_succ]
                  refine wpAnyH_take (i := 6) (oi := ⟨some 100, _, _, _, _, _⟩) (v := (.int .i64 (i : Int))) rfl (by kernel_rfl) (by kernel_rfl) (by kernel_rfl) (fun _ _ _ h => h) (Or.inl ⟨by rfl, fun w' hw => by go_simp⟩) hHeld ?_
                  try simp only [Act.put, List.setIfInBounds_toArray, List.set_cons_zero, List.set_cons_succ]
                  refine wpAnyH_take (i := 7) (oi := ⟨some 101, _, _, _, _, _⟩) (v := (.pointer (some ⟨yb, yo + i * 6, none⟩))) rfl (by kernel_rfl) (by kernel_rfl) (by kernel_rfl) (fun _ _ _ h => h) (Or.inl ⟨by rfl, fun w' hw => by go_simp⟩) hHeld ?_
                  try simp only [Act.put, List.setIfInBounds_toArray, List.set_cons_zero, List.set_cons_succ]
                  refine wpAnyH_take (i := 8) (oi := ⟨some 102, _, _, _, _, _⟩) (v := (.pointer (some ⟨yb, yo + i * 6 + 3, none⟩))) rfl (by kernel_rfl) (by kernel_rfl) (by kernel_rfl) (fun _ _ _ h => h) (Or.inl ⟨by rfl, fun w' hw => by go_simp⟩) hHeld ?_
                  try simp only [Act.put, List.setIfInBounds_toArray, List.set_cons_zero, List.set_cons_succ]
                  refine wpAnyH_take (i := 9) (oi := ⟨some 103, _, _, _, _, _⟩) (v := (.int .u64 (y i).2.2.2.1)) rfl (by kernel_rfl) (by kernel_rfl) (by kernel_rfl) (fun _ _ _ h => h) (Or.inl ⟨by rfl, fun w' hw => by (obtain ⟨q0, q1, q2, q3, q4, q5⟩ := st_cells (st_rg hw.1.1.1.1.2 hin); have k0 := cf_0 hw.1.1.1.1.1; have g0 := hw.1.1.2.cell hid; go_simp)⟩) hHeld ?_
                  try simp only [Act.put, List.setIfInBounds_toArray, List.set_cons_zero, List.set_cons_succ]
                  refine wpAnyH_take (i := 11) (oi := ⟨some 105, _, _, _, _, _⟩) (v := (.slice (some ⟨gb, 0, none⟩) 8 8)) rfl (by kernel_rfl) (by kernel_rfl) (by kernel_rfl) (fun _ _ _ h => h) (Or.inl ⟨by rfl, fun w' hw => by go_simp⟩) hHeld ?_
                  try simp only [Act.put, List.setIfInBounds_toArray, List.set_cons_zero, List.set_cons_succ]
                  refine wpAnyH_take (i := 12) (oi := ⟨some 106, _, _, _, _, _⟩) (v := (.int .i64 (id : Int))) rfl (by kernel_rfl) (by kernel_rfl) (by kernel_rfl) (fun _ _ _ h => h) (Or.inl ⟨by rfl, fun w' hw => by go_simp⟩) hHeld ?_
                  try simp only [Act.put, List.setIfInBounds_toArray, List.set_cons_zero, List.set_cons_succ]
                  refine wpAnyH_take (i := 13) (oi := ⟨some 107, _, _, _, _, _⟩) (v := (.pointer (some ⟨gb, id, none⟩))) rfl (by kernel_rfl) (by kernel_rfl) (by kernel_rfl) (fun _ _ _ h => h) (Or.inl ⟨by rfl, fun w' hw => by go_simp⟩) hHeld ?_
                  try simp only [Act.put, List.setIfInBounds_toArray, List.set_cons_zero, List.set_cons_succ]
                  refine wpAnyH_take (i := 14) (oi := ⟨some 108, _, _, _, _, _⟩) (v := (.int .i64 ((g id : Nat) : Int))) rfl (by kernel_rfl) (by kernel_rfl) (by kernel_rfl) (fun _ _ _ h => h) (Or.inl ⟨by rfl, fun w' hw => by (obtain ⟨q0, q1, q2, q3, q4, q5⟩ := st_cells (st_rg hw.1.1.1.1.2 hin); have k0 := cf_0 hw.1.1.1.1.1; have g0 := hw.1.1.2.cell hid; go_simp)⟩) hHeld ?_
                  try simp only [Act.put, List.setIfInBounds_toArray, List.set_cons_zero, List.set_cons_succ]
                  refine wpAnyH_take (i := 15) (oi := ⟨some 109, _, _, _, _, _⟩) (v := (.int .i64 (tv : Int))) rfl (by kernel_rfl) (by kernel_rfl) (by kernel_rfl) (fun _ _ _ h => h) (Or.inl ⟨by rfl, fun w' hw => by go_simp⟩) hHeld ?_
                  try simp only [Act.put, List.setIfInBounds_toArray, List.set_cons_zero, List.set_cons_succ]
                  refine wpAnyH_ready (rs := [10, 20]) (by kernel_rfl) (by simp) ?_
                  refine AllReadyH.cons rfl (fun K hK => ?_) ?_
                  · go_simp
                    refine (data_of (y i).2.2.2.1 _).mono ?_
                    rintro e w13 ⟨rfl, hb⟩
                    have hE := hE.nob (Only.of_below hb)
                    refine hK.out _ _ hE.hF (fun hHeld => ?_)
                    clear hK K hb
                    simp only [List.setIfInBounds_toArray, List.set_cons_zero, List.set_cons_succ]
                    refine wpAnyH_ready (rs := [16, 20]) (by kernel_rfl) (by simp) ?_
                    refine AllReadyH.cons rfl (fun K hK => ?_) ?_
                    · go_simp
                      refine (hE.step HC.out ⟨(op : Int), (id : Int), (p : Int), dw (y i).2.2.2.1, ((g id : Nat) : Int), (tv : Int)⟩ (by omega) (by show (0 : Int) ≤ (id : Int); omega) (fun j => dw_rng _ j) (ok_of _ hop (by omega) hp (hgN id) hto) (fun _ l d e => by rw [((HOk.out id hid).2 l d e).1])).mono ?_
                      rintro e w13 ⟨d', b', rfl, hdb, ov', -, -, hE'⟩
                      obtain ⟨hd0, hb0⟩ := hdb rfl
                      have HD0 := Lib.hid hd0
                      have HB0 := Lib.hid (hb0.trans (HOk.out id hid).1.symm)
                      clear hE hdb hd0 hb0
                      have hE := hE'
                      clear hE'
                      refine hK.out _ _ hE.hF (fun hHeld => ?_)
                      clear hK K
                      simp only [List.setIfInBounds_toArray, List.set_cons_zero, List.set_cons_succ]
                      refine wpAnyH_take (i := 17) (oi := ⟨some 93, _, _, _, _, _⟩) (v := (.tuple #[.agg (DA d'), .bool b'])) rfl (by kernel_rfl) (by kernel_rfl) (by kernel_rfl) (fun _ _ _ h => h) (Or.inl ⟨by rfl, fun w' hw => by go_simp⟩) hHeld ?_
                      try simp only [Act.put, List.setIfInBounds_toArray, List.set_cons_zero, List.set_cons_succ]
                      refine wpAnyH_take (i := 18) (oi := ⟨some 111, _, _, _, _, _⟩) (v := (.agg (DA d'))) rfl (by kernel_rfl) (by kernel_rfl) (by kernel_rfl) (fun _ _ _ h => h) (Or.inl ⟨by rfl, fun w' hw => by go_simp⟩) hHeld ?_
                      try simp only [Act.put, List.setIfInBounds_toArray, List.set_cons_zero, List.set_cons_succ]
                      refine wpAnyH_take (i := 19) (oi := ⟨some 112, _, _, _, _, _⟩) (v := (.bool b')) rfl (by kernel_rfl) (by kernel_rfl) (by kernel_rfl) (fun _ _ _ h => h) (Or.inl ⟨by rfl, fun w' hw => by go_simp⟩) hHeld ?_
                      try simp only [Act.put, List.setIfInBounds_toArray, List.set_cons_zero, List.set_cons_succ]
                      refine one_ready 20 rfl (by kernel_rfl) (fun K hK => ?_)
                      go_simp
                      obtain ⟨xb, hxb⟩ := lv_size hE
                      have hxz : ¬ ZK xb := fun h => by have := hE.mem h; omega
                      have hE' := hE.box 48 #[.int .u64 0, .int .u64 0, .int .u64 0, .int .u64 0, .int .u64 0, .int .u64 0, .int .u64 0, .int .u64 0] hxb
                      rw [hxb]
                      clear hE hxb
                      have hE := hE'
                      clear hE'
                      refine hK.out _ _ hE.hF.1 (fun hHeld => ?_)
                      clear hK K
                      simp only [List.setIfInBounds_toArray, List.set_cons_zero, List.set_cons_succ]
                      refine one_ready 21 (o := ⟨none, _, _, _, _, _⟩) rfl (by kernel_rfl) (fun K hK => ?_)
                      refine step_store_data rfl (.tmp 19) (.tmp 111) rfl xb 0 rfl d' rfl (hE.hF.2.there 8 (by decide)) ?_
                      have hR := World.rangeAt_setCells_same _ xb 0 (DA d').toList (hE.hF.2.there 8 (by decide))
                      have hE' := hE.spent (Z0 := ZK) (b := xb) (only_setCells (S := just xb) (DA d').toList 0 _ (Only.refl _ _) (.inl (just_self _))) (fun i hi => .inl hi) HKZ.out.old (fun u u' hs hk f => FK.keep HKZ.out hs hk f) hxz (.inr rfl)
                      clear hE hxz
                      have hE := hE'
                      clear hE'
                      refine hK.out _ _ hE.hF (fun hHeld => ?_)
                      clear hK K
                      simp only [List.setIfInBounds_toArray, List.set_cons_zero, List.set_cons_succ]
                      refine wpAnyH_take (i := 22) (oi := ⟨some 20, _, _, _, _, _⟩) (v := (.bool b')) rfl (by kernel_rfl) (by kernel_rfl) (by kernel_rfl) (fun _ _ _ h => h) (Or.inl ⟨by rfl, fun w' hw => by go_simp⟩) hHeld ?_
                      try simp only [Act.put, List.setIfInBounds_toArray, List.set_cons_zero, List.set_cons_succ]
                      refine wpAnyH_done (by kernel_rfl) ?_ _
                      clear hHeld
                      go_wp2_with fail
                      go_meet
                      case rel => exact ⟨xb, d', b', ov', _, _, rfl, rfl, HB0.out, HD0.out, hR, HOk.out.next op p id tv (dw (y i).2.2.2.1) ((g id : Nat) : Int) hop hid, hE⟩
                    · refine AllReadyH.cons rfl (fun K hK => ?_) AllReadyH.nil
                      go_simp
                      obtain ⟨xb, hxb⟩ := lv_size hE
                      have hxz : ¬ ZK xb := fun h => by have := hE.mem h; omega
                      have hE' := hE.box 48 #[.int .u64 0, .int .u64 0, .int .u64 0, .int .u64 0, .int .u64 0, .int .u64 0, .int .u64 0, .int .u64 0] hxb
                      rw [hxb]
                      clear hE hxb
                      have hE := hE'
                      clear hE'
                      refine hK.out _ _ hE.hF.1 (fun hHeld => ?_)
                      clear hK K
                      simp only [List.setIfInBounds_toArray, List.set_cons_zero, List.set_cons_succ]
                      refine one_ready 16 rfl (by kernel_rfl) (fun K hK => ?_)
                      go_simp
                      refine (hE.step HC.out ⟨(op : Int), (id : Int), (p : Int), dw (y i).2.2.2.1, ((g id : Nat) : Int), (tv : Int)⟩ (by omega) (by show (0 : Int) ≤ (id : Int); omega) (fun j => dw_rng _ j) (ok_of _ hop (by omega) hp (hgN id) hto) (fun _ l d e => by rw [((HOk.out id hid).2 l d e).1])).mono ?_
                      rintro e w13 ⟨d', b', rfl, hdb, ov', -, -, hE'⟩
                      obtain ⟨hd0, hb0⟩ := hdb rfl
                      have HD0 := Lib.hid hd0
                      have HB0 := Lib.hid (hb0.trans (HOk.out id hid).1.symm)
                      clear hE hdb hd0 hb0
                      have hE := hE'
                      clear hE'
                      refine hK.out _ _ hE.hF.1 (fun hHeld => ?_)
                      clear hK K
                      simp only [List.setIfInBounds_toArray, List.set_cons_zero, List.set_cons_succ]
                      refine wpAnyH_take (i := 17) (oi := ⟨some 93, _, _, _, _, _⟩) (v := (.tuple #[.agg (DA d'), .bool b'])) rfl (by kernel_rfl) (by kernel_rfl) (by kernel_rfl) (fun _ _ _ h => h) (Or.inl ⟨by rfl, fun w' hw => by go_simp⟩) hHeld ?_
                      try simp only [Act.put, List.setIfInBounds_toArray, List.set_cons_zero, List.set_cons_succ]
                      refine wpAnyH_take (i := 18) (oi := ⟨some 111, _, _, _, _, _⟩) (v := (.agg (DA d'))) rfl (by kernel_rfl) (by kernel_rfl) (by kernel_rfl) (fun _ _ _ h => h) (Or.inl ⟨by rfl, fun w' hw => by go_simp⟩) hHeld ?_
                      try simp only [Act.put, List.setIfInBounds_toArray, List.set_cons_zero, List.set_cons_succ]
                      refine wpAnyH_take (i := 19) (oi := ⟨some 112, _, _, _, _, _⟩) (v := (.bool b')) rfl (by kernel_rfl) (by kernel_rfl) (by kernel_rfl) (fun _ _ _ h => h) (Or.inl ⟨by rfl, fun w' hw => by go_simp⟩) hHeld ?_
                      try simp only [Act.put, List.setIfInBounds_toArray, List.set_cons_zero, List.set_cons_succ]
                      refine one_ready 21 (o := ⟨none, _, _, _, _, _⟩) rfl (by kernel_rfl) (fun K hK => ?_)
                      refine step_store_data rfl (.tmp 19) (.tmp 111) rfl xb 0 rfl d' rfl (hE.hF.2.there 8 (by decide)) ?_
                      have hR := World.rangeAt_setCells_same _ xb 0 (DA d').toList (hE.hF.2.there 8 (by decide))
                      have hE' := hE.spent (Z0 := ZK) (b := xb) (only_setCells (S := just xb) (DA d').toList 0 _ (Only.refl _ _) (.inl (just_self _))) (fun i hi => .inl hi) HKZ.out.old (fun u u' hs hk f => FK.keep HKZ.out hs hk f) hxz (.inr rfl)
                      clear hE hxz
                      have hE := hE'
                      clear hE'
                      refine hK.out _ _ hE.hF (fun hHeld => ?_)
                      clear hK K
                      simp only [List.setIfInBounds_toArray, List.set_cons_zero, List.set_cons_succ]
                      refine wpAnyH_take (i := 22) (oi := ⟨some 20, _, _, _, _, _⟩) (v := (.bool b')) rfl (by kernel_rfl) (by kernel_rfl) (by kernel_rfl) (fun _ _ _ h => h) (Or.inl ⟨by rfl, fun w' hw => by go_simp⟩) hHeld ?_
                      try simp only [Act.put, List.setIfInBounds_toArray, List.set_cons_zero, List.set_cons_succ]
                      refine wpAnyH_done (by kernel_rfl) ?_ _
                      clear hHeld
                      go_wp2_with fail
                      go_meet
                      case rel => exact ⟨xb, d', b', ov', _, _, rfl, rfl, HB0.out, HD0.out, hR, HOk.out.next op p id tv (dw (y i).2.2.2.1) ((g id : Nat) : Int) hop hid, hE⟩
                  · refine AllReadyH.cons rfl (fun K hK => ?_) AllReadyH.nil
                    go_simp
                    obtain ⟨xb, hxb⟩ := lv_size hE
                    have hxz : ¬ ZK xb := fun h => by have := hE.mem h; omega
                    have hE' := hE.box 48 #[.int .u64 0, .int .u64 0, .int .u64 0, .int .u64 0, .int .u64 0, .int .u64 0, .int .u64 0, .int .u64 0] hxb
                    rw [hxb]
                    clear hE hxb
                    have hE := hE'
                    clear hE'
                    refine hK.out _ _ hE.hF.1 (fun hHeld => ?_)
                    clear hK K
                    simp only [List.setIfInBounds_toArray, List.set_cons_zero, List.set_cons_succ]
                    refine one_ready 10 rfl (by kernel_rfl) (fun K hK => ?_)
                    go_simp
                    refine (data_of (y i).2.2.2.1 _).mono ?_
                    rintro e w13 ⟨rfl, hb⟩
                    have hE := hE.nob (Only.of_below hb)
                    refine hK.out _ _ hE.hF.1 (fun hHeld => ?_)
                    clear hK K hb
                    simp only [List.setIfInBounds_toArray, List.set_cons_zero, List.set_cons_succ]
                    refine one_ready 16 rfl (by kernel_rfl) (fun K hK => ?_)
                    go_simp
                    refine (hE.step HC.out ⟨(op : Int), (id : Int), (p : Int), dw (y i).2.2.2.1, ((g id : Nat) : Int), (tv : Int)⟩ (by omega) (by show (0 : Int) ≤ (id : Int); omega) (fun j => dw_rng _ j) (ok_of _ hop (by omega) hp (hgN id) hto) (fun _ l d e => by rw [((HOk.out id hid).2 l d e).1])).mono ?_
                    rintro e w13 ⟨d', b', rfl, hdb, ov', -, -, hE'⟩
                    obtain ⟨hd0, hb0⟩ := hdb rfl
                    have HD0 := Lib.hid hd0
                    have HB0 := Lib.hid (hb0.trans (HOk.out id hid).1.symm)
                    clear hE hdb hd0 hb0
                    have hE := hE'
                    clear hE'
                    refine hK.out _ _ hE.hF.1 (fun hHeld => ?_)
                    clear hK K
                    simp only [List.setIfInBounds_toArray, List.set_cons_zero, List.set_cons_succ]
                    refine wpAnyH_take (i := 17) (oi := ⟨some 93, _, _, _, _, _⟩) (v := (.tuple #[.agg (DA d'), .bool b'])) rfl (by kernel_rfl) (by kernel_rfl) (by kernel_rfl) (fun _ _ _ h => h) (Or.inl ⟨by rfl, fun w' hw => by go_simp⟩) hHeld ?_
                    try simp only [Act.put, List.setIfInBounds_toArray, List.set_cons_zero, List.set_cons_succ]
                    refine wpAnyH_take (i := 18) (oi := ⟨some 111, _, _, _, _, _⟩) (v := (.agg (DA d'))) rfl (by kernel_rfl) (by kernel_rfl) (by kernel_rfl) (fun _ _ _ h => h) (Or.inl ⟨by rfl, fun w' hw => by go_simp⟩) hHeld ?_
                    try simp only [Act.put, List.setIfInBounds_toArray, List.set_cons_zero, List.set_cons_succ]
                    refine wpAnyH_take (i := 19) (oi := ⟨some 112, _, _, _, _, _⟩) (v := (.bool b')) rfl (by kernel_rfl) (by kernel_rfl) (by kernel_rfl) (fun _ _ _ h => h) (Or.inl ⟨by rfl, fun w' hw => by go_simp⟩) hHeld ?_
                    try simp only [Act.put, List.setIfInBounds_toArray, List.set_cons_zero, List.set_cons_succ]
                    refine one_ready 21 (o := ⟨none, _, _, _, _, _⟩) rfl (by kernel_rfl) (fun K hK => ?_)
                    refine step_store_data rfl (.tmp 19) (.tmp 111) rfl xb 0 rfl d' rfl (hE.hF.2.there 8 (by decide)) ?_
                    have hR := World.rangeAt_setCells_same _ xb 0 (DA d').toList (hE.hF.2.there 8 (by decide))
                    have hE' := hE.spent (Z0 := ZK) (b := xb) (only_setCells (S := just xb) (DA d').toList 0 _ (Only.refl _ _) (.inl (just_self _))) (fun i hi => .inl hi) HKZ.out.old (fun u u' hs hk f => FK.keep HKZ.out hs hk f) hxz (.inr rfl)
                    clear hE hxz
                    have hE := hE'
                    clear hE'
                    refine hK.out _ _ hE.hF (fun hHeld => ?_)
                    clear hK K
                    simp only [List.setIfInBounds_toArray, List.set_cons_zero, List.set_cons_succ]
                    refine wpAnyH_take (i := 22) (oi := ⟨some 20, _, _, _, _, _⟩) (v := (.bool b')) rfl (by kernel_rfl) (by kernel_rfl) (by kernel_rfl) (fun _ _ _ h => h) (Or.inl ⟨by rfl, fun w' hw => by go_simp⟩) hHeld ?_
                    try simp only [Act.put, List.setIfInBounds_toArray, List.set_cons_zero, List.set_cons_succ]
                    refine wpAnyH_done (by kernel_rfl) ?_ _
                    clear hHeld
                    go_wp2_with fail
                    go_meet
                    case rel => exact ⟨xb, d', b', ov', _, _, rfl, rfl, HB0.out, HD0.out, hR, HOk.out.next op p id tv (dw (y i).2.2.2.1) ((g id : Nat) : Int) hop hid, hE⟩
    
              case rest =>
                as_aux_lemma =>
                  clear hE
                  obtain ⟨db, d', b', ov', m', I', rfl, rfl, hb', hd', hR, hokN, hE⟩ := hcut
                  have HR := Lib.hid hR
                  have HOkN := Lib.hid hokN
                  have HD' := Lib.hid hd'
                  have HE := Lib.hid hE
                  have HBs := Lib.hid hb'
                  clear hR hokN hd' hE hiu hb'
                  go_wp2_with fail
                  refine (HE.out.lk.over).mono ?_
                  rintro e w15 ⟨rfl, rfl⟩
                  cases ov'
                  · have hE := HE.out
                    clear HE
                    go_upto_region 23 with fail
                    go_cut [140] from 48 to 201 (fun s140 w' => s140 = .bool false ∧ LvS N S D T Q mp lp bm w ZK (FK N S T cb gb ib vb w (some ⟨yb, yo, none⟩) nl y a2 n2 z2 g s v) false I' m' (i + 1) w')
                    case first =>
                      as_aux_lemma =>
                        cases hsb : s id
                        · have hb2 : b' = false := HBs.out.trans hsb
                          subst hb2
                          have hdq : deq d' (fun _ => 0) = true := by
                            have hm : mb (id : Int) = none := by
                              have := (HOk.out id hid).1
                              rw [hsb] at this
                              cases h : mb (id : Int) with
                              | none => rfl
                              | some b => rw [h] at this; cases this
                            have h2 := HD'.out
                            rw [hm] at h2
                            exact deq_of _ _ (DA_inj h2)
                          clear HD' HBs
                          have hE := hE.drew
                          refine held_s (S := (fun u => FK N S T cb gb ib vb w (some ⟨yb, yo, none⟩) nl y a2 n2 z2 g s v u ∧ u.rangeAt db 0 (DA d').toList)) 26 rfl (by kernel_rfl) ⟨hE.hF, fun j x hx => HR.out j x hx⟩ (fun hHeld => ?_)
                          simp only [Array.replicate_succ, Array.replicate_zero, List.push_toArray, List.nil_append, List.cons_append]
                          generalize World.drew _ = wd at *
                          refine wpAnyH_take (i := 0) (oi := ⟨some 115, _, _, _, _, _⟩) (v := (.bool false)) rfl (by kernel_rfl) (by kernel_rfl) (by kernel_rfl) (fun _ _ _ h => h) (Or.inl ⟨by rfl, fun w' hw => by go_simp⟩) hHeld ?_
                          try simp only [Act.put, List.setIfInBounds_toArray, List.set_cons_zero, List.set_cons_succ]
                          refine wpAnyH_take (i := 1) (oi := ⟨some 116, _, _, _, _, _⟩) (v := (.slice (some ⟨ib, 0, none⟩) 8 8)) rfl (by kernel_rfl) (by kernel_rfl) (by kernel_rfl) (fun _ _ _ h => h) (Or.inl ⟨by rfl, fun w' hw => by go_simp⟩) hHeld ?_
                          try simp only [Act.put, List.setIfInBounds_toArray, List.set_cons_zero, List.set_cons_succ]
                          refine wpAnyH_take (i := 2) (oi := ⟨some 117, _, _, _, _, _⟩) (v := (.int .i64 (id : Int))) rfl (by kernel_rfl) (by kernel_rfl) (by kernel_rfl) (fun _ _ _ h => h) (Or.inl ⟨by rfl, fun w' hw => by go_simp⟩) hHeld ?_
                          try simp only [Act.put, List.setIfInBounds_toArray, List.set_cons_zero, List.set_cons_succ]
                          refine wpAnyH_take (i := 3) (oi := ⟨some 118, _, _, _, _, _⟩) (v := (.pointer (some ⟨ib, id, none⟩))) rfl (by kernel_rfl) (by kernel_rfl) (by kernel_rfl) (fun _ _ _ h => h) (Or.inl ⟨by rfl, fun w' hw => by go_simp⟩) hHeld ?_
                          try simp only [Act.put, List.setIfInBounds_toArray, List.set_cons_zero, List.set_cons_succ]
                          refine wpAnyH_take (i := 4) (oi := ⟨some 119, _, _, _, _, _⟩) (v := (.bool false)) rfl (by kernel_rfl) (by kernel_rfl) (by kernel_rfl) (fun _ _ _ h => h) (Or.inl ⟨by rfl, fun w' hw => by (have c := hw.1.1.2.cell hid; rw [hsb] at c; go_simp)⟩) hHeld ?_
                          try simp only [Act.put, List.setIfInBounds_toArray, List.set_cons_zero, List.set_cons_succ]
                          refine wpAnyH_take (i := 5) (oi := ⟨some 120, _, _, _, _, _⟩) (v := (.bool false)) rfl (by kernel_rfl) (by kernel_rfl) (by kernel_rfl) (fun _ _ _ h => h) (Or.inl ⟨by rfl, fun w' hw => by go_simp⟩) hHeld ?_
                          try simp only [Act.put, List.setIfInBounds_toArray, List.set_cons_zero, List.set_cons_succ]
                          refine wpAnyH_take (i := 6) (oi := ⟨some 121, _, _, _, _, _⟩) (v := (.bool false)) rfl (by kernel_rfl) (by kernel_rfl) (by kernel_rfl) (fun _ _ _ h => h) (Or.inl ⟨by rfl, fun w' hw => by go_simp⟩) hHeld ?_
                          try simp only [Act.put, List.setIfInBounds_toArray, List.set_cons_zero, List.set_cons_succ]
                          refine wpAnyH_take (i := 7) (oi := ⟨some 122, _, _, _, _, _⟩) (v := (.bool false)) rfl (by kernel_rfl) (by kernel_rfl) (by kernel_rfl) (fun _ _ _ h => h) (Or.inl ⟨by rfl, fun w' hw => by go_simp⟩) hHeld ?_
                          try simp only [Act.put, List.setIfInBounds_toArray, List.set_cons_zero, List.set_cons_succ]
                          refine wpAnyH_take (i := 8) (oi := ⟨some 123, _, _, _, _, _⟩) (v := (.bool false)) rfl (by kernel_rfl) (by kernel_rfl) (by kernel_rfl) (fun _ _ _ h => h) (Or.inl ⟨by rfl, fun w' hw => by go_simp⟩) hHeld ?_
                          try simp only [Act.put, List.setIfInBounds_toArray, List.set_cons_zero, List.set_cons_succ]
                          refine wpAnyH_take (i := 9) (oi := ⟨some 124, _, _, _, _, _⟩) (v := undef) rfl (by kernel_rfl) (by kernel_rfl) (by kernel_rfl) (fun _ _ _ h => h) (Or.inr ⟨by rfl, rfl⟩) hHeld ?_
                          try simp only [Act.put, List.setIfInBounds_toArray, List.set_cons_zero, List.set_cons_succ]
                          refine wpAnyH_take (i := 10) (oi := ⟨some 125, _, _, _, _, _⟩) (v := undef) rfl (by kernel_rfl) (by kernel_rfl) (by kernel_rfl) (fun _ _ _ h => h) (Or.inr ⟨by rfl, rfl⟩) hHeld ?_
                          try simp only [Act.put, List.setIfInBounds_toArray, List.set_cons_zero, List.set_cons_succ]
                          refine wpAnyH_take (i := 11) (oi := ⟨some 126, _, _, _, _, _⟩) (v := undef) rfl (by kernel_rfl) (by kernel_rfl) (by kernel_rfl) (fun _ _ _ h => h) (Or.inr ⟨by rfl, rfl⟩) hHeld ?_
                          try simp only [Act.put, List.setIfInBounds_toArray, List.set_cons_zero, List.set_cons_succ]
                          refine wpAnyH_take (i := 12) (oi := ⟨some 127, _, _, _, _, _⟩) (v := undef) rfl (by kernel_rfl) (by kernel_rfl) (by kernel_rfl) (fun _ _ _ h => h) (Or.inr ⟨by rfl, rfl⟩) hHeld ?_
                          try simp only [Act.put, List.setIfInBounds_toArray, List.set_cons_zero, List.set_cons_succ]
                          refine wpAnyH_take (i := 13) (oi := ⟨some 128, _, _, _, _, _⟩) (v := undef) rfl (by kernel_rfl) (by kernel_rfl) (by kernel_rfl) (fun _ _ _ h => h) (Or.inr ⟨by rfl, rfl⟩) hHeld ?_
                          try simp only [Act.put, List.setIfInBounds_toArray, List.set_cons_zero, List.set_cons_succ]
                          refine wpAnyH_take (i := 14) (oi := ⟨some 129, _, _, _, _, _⟩) (v := undef) rfl (by kernel_rfl) (by kernel_rfl) (by kernel_rfl) (fun _ _ _ h => h) (Or.inr ⟨by rfl, rfl⟩) hHeld ?_
                          try simp only [Act.put, List.setIfInBounds_toArray, List.set_cons_zero, List.set_cons_succ]
                          refine wpAnyH_take (i := 15) (oi := ⟨some 130, _, _, _, _, _⟩) (v := (.bool false)) rfl (by kernel_rfl) (by kernel_rfl) (by kernel_rfl) (fun _ _ _ h => h) (Or.inl ⟨by rfl, fun w' hw => by go_simp⟩) hHeld ?_
                          try simp only [Act.put, List.setIfInBounds_toArray, List.set_cons_zero, List.set_cons_succ]
                          refine wpAnyH_take (i := 16) (oi := ⟨some 131, _, _, _, _, _⟩) (v := (.bool false)) rfl (by kernel_rfl) (by kernel_rfl) (by kernel_rfl) (fun _ _ _ h => h) (Or.inl ⟨by rfl, fun w' hw => by go_simp⟩) hHeld ?_
                          try simp only [Act.put, List.setIfInBounds_toArray, List.set_cons_zero, List.set_cons_succ]
                          refine wpAnyH_take (i := 17) (oi := ⟨some 132, _, _, _, _, _⟩) (v := (.bool false)) rfl (by kernel_rfl) (by kernel_rfl) (by kernel_rfl) (fun _ _ _ h => h) (Or.inl ⟨by rfl, fun w' hw => by go_simp⟩) hHeld ?_
                          try simp only [Act.put, List.setIfInBounds_toArray, List.set_cons_zero, List.set_cons_succ]
                          refine wpAnyH_take (i := 18) (oi := ⟨some 133, _, _, _, _, _⟩) (v := (.bool false)) rfl (by kernel_rfl) (by kernel_rfl) (by kernel_rfl) (fun _ _ _ h => h) (Or.inl ⟨by rfl, fun w' hw => by go_simp⟩) hHeld ?_
                          try simp only [Act.put, List.setIfInBounds_toArray, List.set_cons_zero, List.set_cons_succ]
                          refine wpAnyH_take (i := 19) (oi := ⟨some 134, _, _, _, _, _⟩) (v := (.bool true)) rfl (by kernel_rfl) (by kernel_rfl) (by kernel_rfl) (fun _ _ _ h => h) (Or.inl ⟨by rfl, fun w' hw => by go_simp⟩) hHeld ?_
                          try simp only [Act.put, List.setIfInBounds_toArray, List.set_cons_zero, List.set_cons_succ]
                          refine wpAnyH_take (i := 20) (oi := ⟨some 135, _, _, _, _, _⟩) (v := (.bool true)) rfl (by kernel_rfl) (by kernel_rfl) (by kernel_rfl) (fun _ _ _ h => h) (Or.inl ⟨by rfl, fun w' hw => by go_simp⟩) hHeld ?_
                          try simp only [Act.put, List.setIfInBounds_toArray, List.set_cons_zero, List.set_cons_succ]
                          refine take_row 21 (oi := ⟨some 136, _, _, _, _, _⟩) (DA d').toList rfl (by kernel_rfl) (by kernel_rfl) (by kernel_rfl) (fun _ _ _ h => h) (by rfl) _ _ rfl _ _ rfl _ (fun w' hw => hw.2) Tryz.underlying48 rfl (infoData d') hHeld ?_
                          try simp only [Act.put, List.setIfInBounds_toArray, List.set_cons_zero, List.set_cons_succ]
                          refine wpAnyH_take (i := 22) (oi := ⟨some 137, _, _, _, _, _⟩) (v := (.agg (DA fun _ => 0))) rfl (by kernel_rfl) (by kernel_rfl) (by kernel_rfl) (fun _ _ _ h => h) (Or.inl ⟨by rfl, fun w' hw => by (go_simp; rfl)⟩) hHeld ?_
                          try simp only [Act.put, List.setIfInBounds_toArray, List.set_cons_zero, List.set_cons_succ]
                          refine wpAnyH_take (i := 23) (oi := ⟨some 138, _, _, _, _, _⟩) (v := (.bool false)) rfl (by kernel_rfl) (by kernel_rfl) (by kernel_rfl) (fun _ _ _ h => h) (Or.inl ⟨by rfl, fun w' hw => by (have q1 := neq_data d' (fun _ => 0); rw [hdq] at q1; go_simp)⟩) hHeld ?_
                          try simp only [Act.put, List.setIfInBounds_toArray, List.set_cons_zero, List.set_cons_succ]
                          refine wpAnyH_take (i := 24) (oi := ⟨some 139, _, _, _, _, _⟩) (v := (.bool false)) rfl (by kernel_rfl) (by kernel_rfl) (by kernel_rfl) (fun _ _ _ h => h) (Or.inl ⟨by rfl, fun w' hw => by go_simp⟩) hHeld ?_
                          try simp only [Act.put, List.setIfInBounds_toArray, List.set_cons_zero, List.set_cons_succ]
                          refine wpAnyH_take (i := 25) (oi := ⟨some 140, _, _, _, _, _⟩) (v := (.bool false)) rfl (by kernel_rfl) (by kernel_rfl) (by kernel_rfl) (fun _ _ _ h => h) (Or.inl ⟨by rfl, fun w' hw => by go_simp⟩) hHeld ?_
                          try simp only [Act.put, List.setIfInBounds_toArray, List.set_cons_zero, List.set_cons_succ]
                          refine wpAnyH_done (by kernel_rfl) ?_ _
                          clear hHeld HR hdq
                          go_wp2_with fail
                          go_meet
                          case rel => exact ⟨rfl, hE⟩
                        · have hb2 : b' = true := HBs.out.trans hsb
                          subst hb2
                          have hdq : deq d' (v id) = true := by
                            have h1 := (HOk.out id hid).1
                            rw [hsb] at h1
                            have h2 := HD'.out
                            cases h : mb (id : Int) with
                            | none => rw [h] at h1; cases h1
                            | some b =>
                              rw [h] at h2
                              exact deq_of _ _ (DA_inj (h2.trans ((HOk.out id hid).2 b.1 b.2 h).2.symm))
                          clear HD' HBs
                          have hE := hE.drew
                          refine held_s (S := (fun u => FK N S T cb gb ib vb w (some ⟨yb, yo, none⟩) nl y a2 n2 z2 g s v u ∧ u.rangeAt db 0 (DA d').toList)) 26 rfl (by kernel_rfl) ⟨hE.hF, fun j x hx => HR.out j x hx⟩ (fun hHeld => ?_)
                          simp only [Array.replicate_succ, Array.replicate_zero, List.push_toArray, List.nil_append, List.cons_append]
                          generalize World.drew _ = wd at *
                          refine wpAnyH_take (i := 0) (oi := ⟨some 115, _, _, _, _, _⟩) (v := (.bool true)) rfl (by kernel_rfl) (by kernel_rfl) (by kernel_rfl) (fun _ _ _ h => h) (Or.inl ⟨by rfl, fun w' hw => by go_simp⟩) hHeld ?_
                          try simp only [Act.put, List.setIfInBounds_toArray, List.set_cons_zero, List.set_cons_succ]
                          refine wpAnyH_take (i := 1) (oi := ⟨some 116, _, _, _, _, _⟩) (v := (.slice (some ⟨ib, 0, none⟩) 8 8)) rfl (by kernel_rfl) (by kernel_rfl) (by kernel_rfl) (fun _ _ _ h => h) (Or.inl ⟨by rfl, fun w' hw => by go_simp⟩) hHeld ?_
                          try simp only [Act.put, List.setIfInBounds_toArray, List.set_cons_zero, List.set_cons_succ]
                          refine wpAnyH_take (i := 2) (oi := ⟨some 117, _, _, _, _, _⟩) (v := (.int .i64 (id : Int))) rfl (by kernel_rfl) (by kernel_rfl) (by kernel_rfl) (fun _ _ _ h => h) (Or.inl ⟨by rfl, fun w' hw => by go_simp⟩) hHeld ?_
                          try simp only [Act.put, List.setIfInBounds_toArray, List.set_cons_zero, List.set_cons_succ]
                          refine wpAnyH_take (i := 3) (oi := ⟨some 118, _, _, _, _, _⟩) (v := (.pointer (some ⟨ib, id, none⟩))) rfl (by kernel_rfl) (by kernel_rfl) (by kernel_rfl) (fun _ _ _ h => h) (Or.inl ⟨by rfl, fun w' hw => by go_simp⟩) hHeld ?_
                          try simp only [Act.put, List.setIfInBounds_toArray, List.set_cons_zero, List.set_cons_succ]
                          refine wpAnyH_take (i := 4) (oi := ⟨some 119, _, _, _, _, _⟩) (v := (.bool true)) rfl (by kernel_rfl) (by kernel_rfl) (by kernel_rfl) (fun _ _ _ h => h) (Or.inl ⟨by rfl, fun w' hw => by (have c := hw.1.1.2.cell hid; rw [hsb] at c; go_simp)⟩) hHeld ?_
                          try simp only [Act.put, List.setIfInBounds_toArray, List.set_cons_zero, List.set_cons_succ]
                          refine wpAnyH_take (i := 5) (oi := ⟨some 120, _, _, _, _, _⟩) (v := (.bool false)) rfl (by kernel_rfl) (by kernel_rfl) (by kernel_rfl) (fun _ _ _ h => h) (Or.inl ⟨by rfl, fun w' hw => by go_simp⟩) hHeld ?_
                          try simp only [Act.put, List.setIfInBounds_toArray, List.set_cons_zero, List.set_cons_succ]
                          refine wpAnyH_take (i := 6) (oi := ⟨some 121, _, _, _, _, _⟩) (v := (.bool false)) rfl (by kernel_rfl) (by kernel_rfl) (by kernel_rfl) (fun _ _ _ h => h) (Or.inl ⟨by rfl, fun w' hw => by go_simp⟩) hHeld ?_
                          try simp only [Act.put, List.setIfInBounds_toArray, List.set_cons_zero, List.set_cons_succ]
                          refine wpAnyH_take (i := 7) (oi := ⟨some 122, _, _, _, _, _⟩) (v := (.bool true)) rfl (by kernel_rfl) (by kernel_rfl) (by kernel_rfl) (fun _ _ _ h => h) (Or.inl ⟨by rfl, fun w' hw => by go_simp⟩) hHeld ?_
                          try simp only [Act.put, List.setIfInBounds_toArray, List.set_cons_zero, List.set_cons_succ]
                          refine wpAnyH_take (i := 8) (oi := ⟨some 123, _, _, _, _, _⟩) (v := (.bool true)) rfl (by kernel_rfl) (by kernel_rfl) (by kernel_rfl) (fun _ _ _ h => h) (Or.inl ⟨by rfl, fun w' hw => by go_simp⟩) hHeld ?_
                          try simp only [Act.put, List.setIfInBounds_toArray, List.set_cons_zero, List.set_cons_succ]
                          refine take_row 9 (oi := ⟨some 124, _, _, _, _, _⟩) (DA d').toList rfl (by kernel_rfl) (by kernel_rfl) (by kernel_rfl) (fun _ _ _ h => h) (by rfl) _ _ rfl _ _ rfl _ (fun w' hw => hw.2) Tryz.underlying48 rfl (infoData d') hHeld ?_
                          try simp only [Act.put, List.setIfInBounds_toArray, List.set_cons_zero, List.set_cons_succ]
                          refine wpAnyH_take (i := 10) (oi := ⟨some 125, _, _, _, _, _⟩) (v := (.slice (some ⟨vb, 0, none⟩) 8 8)) rfl (by kernel_rfl) (by kernel_rfl) (by kernel_rfl) (fun _ _ _ h => h) (Or.inl ⟨by rfl, fun w' hw => by go_simp⟩) hHeld ?_
                          try simp only [Act.put, List.setIfInBounds_toArray, List.set_cons_zero, List.set_cons_succ]
                          refine wpAnyH_take (i := 11) (oi := ⟨some 126, _, _, _, _, _⟩) (v := (.int .i64 (id : Int))) rfl (by kernel_rfl) (by kernel_rfl) (by kernel_rfl) (fun _ _ _ h => h) (Or.inl ⟨by rfl, fun w' hw => by go_simp⟩) hHeld ?_
                          try simp only [Act.put, List.setIfInBounds_toArray, List.set_cons_zero, List.set_cons_succ]
                          refine wpAnyH_take (i := 12) (oi := ⟨some 127, _, _, _, _, _⟩) (v := (.pointer (some ⟨vb, id * 8, none⟩))) rfl (by kernel_rfl) (by kernel_rfl) (by kernel_rfl) (fun _ _ _ h => h) (Or.inl ⟨by rfl, fun w' hw => by go_simp⟩) hHeld ?_
                          try simp only [Act.put, List.setIfInBounds_toArray, List.set_cons_zero, List.set_cons_succ]
                          refine take_row 13 (oi := ⟨some 128, _, _, _, _, _⟩) (DA (v id)).toList rfl (by kernel_rfl) (by kernel_rfl) (by kernel_rfl) (fun _ _ _ h => h) (by rfl) _ _ rfl _ _ rfl _ (fun w' hw => vf_range hw.1.2 hid) Tryz.underlying48 rfl (infoData (v id)) hHeld ?_
                          try simp only [Act.put, List.setIfInBounds_toArray, List.set_cons_zero, List.set_cons_succ]
                          refine wpAnyH_take (i := 14) (oi := ⟨some 129, _, _, _, _, _⟩) (v := (.bool false)) rfl (by kernel_rfl) (by kernel_rfl) (by kernel_rfl) (fun _ _ _ h => h) (Or.inl ⟨by rfl, fun w' hw => by (have q1 := neq_data d' (v id); rw [hdq] at q1; go_simp)⟩) hHeld ?_
                          try simp only [Act.put, List.setIfInBounds_toArray, List.set_cons_zero, List.set_cons_succ]
                          refine wpAnyH_take (i := 15) (oi := ⟨some 130, _, _, _, _, _⟩) (v := (.bool false)) rfl (by kernel_rfl) (by kernel_rfl) (by kernel_rfl) (fun _ _ _ h => h) (Or.inl ⟨by rfl, fun w' hw => by go_simp⟩) hHeld ?_
                          try simp only [Act.put, List.setIfInBounds_toArray, List.set_cons_zero, List.set_cons_succ]
                          refine wpAnyH_take (i := 16) (oi := ⟨some 131, _, _, _, _, _⟩) (v := (.bool false)) rfl (by kernel_rfl) (by kernel_rfl) (by kernel_rfl) (fun _ _ _ h => h) (Or.inl ⟨by rfl, fun w' hw => by go_simp⟩) hHeld ?_
                          try simp only [Act.put, List.setIfInBounds_toArray, List.set_cons_zero, List.set_cons_succ]
                          refine wpAnyH_take (i := 17) (oi := ⟨some 132, _, _, _, _, _⟩) (v := (.bool false)) rfl (by kernel_rfl) (by kernel_rfl) (by kernel_rfl) (fun _ _ _ h => h) (Or.inl ⟨by rfl, fun w' hw => by go_simp⟩) hHeld ?_
                          try simp only [Act.put, List.setIfInBounds_toArray, List.set_cons_zero, List.set_cons_succ]
                          refine wpAnyH_take (i := 18) (oi := ⟨some 133, _, _, _, _, _⟩) (v := (.bool true)) rfl (by kernel_rfl) (by kernel_rfl) (by kernel_rfl) (fun _ _ _ h => h) (Or.inl ⟨by rfl, fun w' hw => by go_simp⟩) hHeld ?_
                          try simp only [Act.put, List.setIfInBounds_toArray, List.set_cons_zero, List.set_cons_succ]
                          refine wpAnyH_take (i := 19) (oi := ⟨some 134, _, _, _, _, _⟩) (v := (.bool false)) rfl (by kernel_rfl) (by kernel_rfl) (by kernel_rfl) (fun _ _ _ h => h) (Or.inl ⟨by rfl, fun w' hw => by go_simp⟩) hHeld ?_
                          try simp only [Act.put, List.setIfInBounds_toArray, List.set_cons_zero, List.set_cons_succ]
                          refine wpAnyH_take (i := 20) (oi := ⟨some 135, _, _, _, _, _⟩) (v := (.bool false)) rfl (by kernel_rfl) (by kernel_rfl) (by kernel_rfl) (fun _ _ _ h => h) (Or.inl ⟨by rfl, fun w' hw => by go_simp⟩) hHeld ?_
                          try simp only [Act.put, List.setIfInBounds_toArray, List.set_cons_zero, List.set_cons_succ]
                          refine wpAnyH_take (i := 21) (oi := ⟨some 136, _, _, _, _, _⟩) (v := undef) rfl (by kernel_rfl) (by kernel_rfl) (by kernel_rfl) (fun _ _ _ h => h) (Or.inr ⟨by rfl, rfl⟩) hHeld ?_
                          try simp only [Act.put, List.setIfInBounds_toArray, List.set_cons_zero, List.set_cons_succ]
                          refine wpAnyH_take (i := 22) (oi := ⟨some 137, _, _, _, _, _⟩) (v := undef) rfl (by kernel_rfl) (by kernel_rfl) (by kernel_rfl) (fun _ _ _ h => h) (Or.inr ⟨by rfl, rfl⟩) hHeld ?_
                          try simp only [Act.put, List.setIfInBounds_toArray, List.set_cons_zero, List.set_cons_succ]
                          refine wpAnyH_take (i := 23) (oi := ⟨some 138, _, _, _, _, _⟩) (v := undef) rfl (by kernel_rfl) (by kernel_rfl) (by kernel_rfl) (fun _ _ _ h => h) (Or.inr ⟨by rfl, rfl⟩) hHeld ?_
                          try simp only [Act.put, List.setIfInBounds_toArray, List.set_cons_zero, List.set_cons_succ]
                          refine wpAnyH_take (i := 24) (oi := ⟨some 139, _, _, _, _, _⟩) (v := (.bool false)) rfl (by kernel_rfl) (by kernel_rfl) (by kernel_rfl) (fun _ _ _ h => h) (Or.inl ⟨by rfl, fun w' hw => by go_simp⟩) hHeld ?_
                          try simp only [Act.put, List.setIfInBounds_toArray, List.set_cons_zero, List.set_cons_succ]
                          refine wpAnyH_take (i := 25) (oi := ⟨some 140, _, _, _, _, _⟩) (v := (.bool false)) rfl (by kernel_rfl) (by kernel_rfl) (by kernel_rfl) (fun _ _ _ h => h) (Or.inl ⟨by rfl, fun w' hw => by go_simp⟩) hHeld ?_
                          try simp only [Act.put, List.setIfInBounds_toArray, List.set_cons_zero, List.set_cons_succ]
                          refine wpAnyH_done (by kernel_rfl) ?_ _
                          clear hHeld HR hdq
                          go_wp2_with fail
                          go_meet
                          case rel => exact ⟨rfl, hE⟩
                    case rest =>
                      as_aux_lemma =>
                        clear hE HR HD' HBs
                        obtain ⟨rfl, hE⟩ := hcut
                        obtain ⟨q0, q1, q2, q3, q4, q5⟩ := st_cells (st_rg hE.hF.1.1.1.1.2 hin)
                        have HE := Lib.hid hE
                        clear hE
                        go_wp2_with fail
                        refine (data_of (y i).2.2.2.1 _).mono ?_
                        rintro e w21 ⟨rfl, hb⟩
                        have hE := HE.out.nob (Only.of_below hb)
                        clear HE hb q0 q1 q2 q3 q4 q5
                        have HE := Lib.hid hE
                        clear hE
                        go_upto_region 26 with (refine wpList_store_newD rfl (.tmp 21) (.tmp 146) rfl rfl _ rfl rfl ?_)
                        obtain ⟨eb, heb⟩ : ∃ b, w21.heap.size = b := ⟨_, rfl⟩
                        have hE := HE.out.nob ((Only.refl nobody w21).alloc (.cells (DA (dw (y i).2.2.2.1)) 48))
                        have hB := Box.new w21 48 (DA (dw (y i).2.2.2.1))
                        have HEv : Hid (eb ≠ vb) := Lib.hid (by have := HE.out.mem HKZ.out.zv; omega)
                        rw [heb] at hB ⊢
                        clear HE heb
                        generalize w21.alloc (.cells (DA (dw (y i).2.2.2.1)) 48) = w22 at *
                        go_upto_if 148 with fail
                        go_cut [] from 48 to 201 (fun w' => Box w' eb 48 (DA (dw (y i).2.2.2.1)) ∧ ∃ v1, v1 = (if op = 2 then (updV v id (kpV (op : Int) (p : Int) (dw (y i).2.2.2.1) (s id) (v id))) else v) ∧ LvS N S D T Q mp lp bm w ZK (FK N S T cb gb ib vb w (some ⟨yb, yo, none⟩) nl y a2 n2 z2 g s v1) false I' m' (i + 1) w')
                        case first =>
                          as_aux_lemma =>
                            by_cases hop2 : op = 2
                            · subst hop2
                              have ci := hE.hF.1.2.cell hid
                              go_upto_if 153 with fail
                              go_cut [] from 48 to 201 (fun w' => Box w' eb 48 (DA (dw (y i).2.2.2.1)) ∧ LvS N S D T Q mp lp bm w ZK (FK N S T cb gb ib vb w (some ⟨yb, yo, none⟩) nl y a2 n2 z2 g s (updV v id (if s id = true then v id else fun _ => 0))) false I' m' (i + 1) w')
                              case first =>
                                as_aux_lemma =>
                                  cases hsb : s id
                                  · rw [hsb] at ci
                                    have HT := Lib.hid (vf_there hE.hF.2 hid)
                                    have hbn : ¬ s id = true := by rw [hsb]; decide
                                    go_wp2_with (with_reducible refine wpList_store_data rfl (.tmp 157) (.tmp 156) rfl vb (id * 8) rfl (fun _ => 0) rfl HT.out ?_)
                                    have hE' := hE.put (Y := just vb) (only_setCells (S := just vb) (DA (fun _ => 0)).toList (id * 8) _ (Only.refl _ _) (.inl (just_self _))) (fun j e => by have e : j = vb := e; subst e; exact ⟨HKZ.out.zv, HKZ.out.ov⟩) (FK.setVs HKZ.out hE.hF id (fun _ => 0)) (fun u u' hs hk f => FK.keep HKZ.out hs hk f)
                                    have hB' := hB.only (only_setCells (S := just vb) (DA fun _ => 0).toList (id * 8) _ (Only.refl _ _) (.inl (just_self _))) (fun e => HEv.out e)
                                    go_meet
                                    case rel => exact ⟨hB', by rw [if_neg hbn]; exact hE'⟩
                                  · rw [hsb] at ci
                                    go_wp2_with fail
                                    go_meet
                                    case rel => exact ⟨hB, by rw [if_pos hsb, updV_self]; exact hE⟩
                              case rest =>
                                as_aux_lemma =>
                                  clear hE hB ci
                                  obtain ⟨hB, hE⟩ := hcut
                                  go_upto_region 29 with fail
                                  have hE := hE.drew
                                  have hB := bx_drew hB
                                  refine held_s (S := (fun u => Box u eb 48 (DA (dw (y i).2.2.2.1)))) 8 rfl (by kernel_rfl) hB (fun hHeld => ?_)
                                  simp only [Array.replicate_succ, Array.replicate_zero, List.push_toArray, List.nil_append, List.cons_append]
                                  generalize World.drew _ = wd at *
                                  refine wpAnyH_take (i := 0) (oi := ⟨some 158, _, _, _, _, _⟩) (v := (.slice (some ⟨vb, 0, none⟩) 8 8)) rfl (by kernel_rfl) (by kernel_rfl) (by kernel_rfl) (fun _ _ _ h => h) (Or.inl ⟨by rfl, fun w' hw => by go_simp⟩) hHeld ?_
                                  try simp only [Act.put, List.setIfInBounds_toArray, List.set_cons_zero, List.set_cons_succ]
                                  refine wpAnyH_take (i := 1) (oi := ⟨some 159, _, _, _, _, _⟩) (v := (.int .i64 (id : Int))) rfl (by kernel_rfl) (by kernel_rfl) (by kernel_rfl) (fun _ _ _ h => h) (Or.inl ⟨by rfl, fun w' hw => by go_simp⟩) hHeld ?_
                                  try simp only [Act.put, List.setIfInBounds_toArray, List.set_cons_zero, List.set_cons_succ]
                                  refine wpAnyH_take (i := 2) (oi := ⟨some 160, _, _, _, _, _⟩) (v := (.int .i64 (p : Int))) rfl (by kernel_rfl) (by kernel_rfl) (by kernel_rfl) (fun _ _ _ h => h) (Or.inl ⟨by rfl, fun w' hw => by go_simp⟩) hHeld ?_
                                  try simp only [Act.put, List.setIfInBounds_toArray, List.set_cons_zero, List.set_cons_succ]
                                  refine wpAnyH_take (i := 3) (oi := ⟨some 161, _, _, _, _, _⟩) (v := (.pointer (some ⟨eb, 0, none⟩))) rfl (by kernel_rfl) (by kernel_rfl) (by kernel_rfl) (fun _ _ _ h => h) (Or.inl ⟨by rfl, fun w' hw => by go_simp⟩) hHeld ?_
                                  try simp only [Act.put, List.setIfInBounds_toArray, List.set_cons_zero, List.set_cons_succ]
                                  refine wpAnyH_take (i := 4) (oi := ⟨some 162, _, _, _, _, _⟩) (v := (.int .u64 (dw (y i).2.2.2.1 0))) rfl (by kernel_rfl) (by kernel_rfl) (by kernel_rfl) (fun _ _ _ h => h) (Or.inl ⟨by rfl, fun w' hw => by (have c := bx_0 hw; go_simp)⟩) hHeld ?_
                                  try simp only [Act.put, List.setIfInBounds_toArray, List.set_cons_zero, List.set_cons_succ]
                                  refine wpAnyH_take (i := 5) (oi := ⟨some 163, _, _, _, _, _⟩) (v := (.pointer (some ⟨vb, id * 8, none⟩))) rfl (by kernel_rfl) (by kernel_rfl) (by kernel_rfl) (fun _ _ _ h => h) (Or.inl ⟨by rfl, fun w' hw => by go_simp⟩) hHeld ?_
                                  try simp only [Act.put, List.setIfInBounds_toArray, List.set_cons_zero, List.set_cons_succ]
                                  refine wpAnyH_take (i := 6) (oi := ⟨some 164, _, _, _, _, _⟩) (v := (.pointer (some ⟨vb, id * 8 + p, none⟩))) rfl (by kernel_rfl) (by kernel_rfl) (by kernel_rfl) (fun _ _ _ h => h) (Or.inl ⟨by rfl, fun w' hw => by go_simp⟩) hHeld ?_
                                  try simp only [Act.put, List.setIfInBounds_toArray, List.set_cons_zero, List.set_cons_succ]
                                  refine one_ready 7 (o := ⟨none, _, _, _, _, _⟩) rfl (by kernel_rfl) (fun K hK => ?_)
                                  have cc := hE.hF.2.cell (show id * 8 + p < 64 by omega)
                                  have ff := hE.hF.2.frozen (id * 8 + p)
                                  go_simp
                                  have hE' := hE.put (Y := just vb) ((Only.refl _ _).setCell (p := ⟨vb, id * 8 + p, none⟩) (.inl (just_self _)) (.int .u64 (dw (y i).2.2.2.1 0))) (fun j e => by have e : j = vb := e; subst e; exact ⟨HKZ.out.zv, HKZ.out.ov⟩) (FK.setV HKZ.out hE.hF id (p) (by omega) (dw (y i).2.2.2.1 0)) (fun u u' hs hk f => FK.keep HKZ.out hs hk f)
                                  have hB' := hB.far (a := ⟨vb, id * 8 + p, none⟩) (fun e => HEv.out e) (.int .u64 (dw (y i).2.2.2.1 0))
                                  clear hE hB
                                  have hE := hE'
                                  have hB := hB'
                                  clear hE' hB'
                                  refine hK.out _ _ hB (fun _ => ?_)
                                  clear hK K cc ff hHeld
                                  simp only [List.setIfInBounds_toArray, List.set_cons_zero, List.set_cons_succ]
                                  refine wpAnyH_done (by kernel_rfl) ?_ _
                                  go_upto_region 30 with fail
                                  have hE := hE.drew
                                  have hB := bx_drew hB
                                  refine held_s (S := (fun u => Box u eb 48 (DA (dw (y i).2.2.2.1)))) 9 rfl (by kernel_rfl) hB (fun hHeld => ?_)
                                  simp only [Array.replicate_succ, Array.replicate_zero, List.push_toArray, List.nil_append, List.cons_append]
                                  generalize World.drew _ = wd at *
                                  refine wpAnyH_take (i := 0) (oi := ⟨some 165, _, _, _, _, _⟩) (v := (.slice (some ⟨vb, 0, none⟩) 8 8)) rfl (by kernel_rfl) (by kernel_rfl) (by kernel_rfl) (fun _ _ _ h => h) (Or.inl ⟨by rfl, fun w' hw => by go_simp⟩) hHeld ?_
                                  try simp only [Act.put, List.setIfInBounds_toArray, List.set_cons_zero, List.set_cons_succ]
                                  refine wpAnyH_take (i := 1) (oi := ⟨some 166, _, _, _, _, _⟩) (v := (.int .i64 (id : Int))) rfl (by kernel_rfl) (by kernel_rfl) (by kernel_rfl) (fun _ _ _ h => h) (Or.inl ⟨by rfl, fun w' hw => by go_simp⟩) hHeld ?_
                                  try simp only [Act.put, List.setIfInBounds_toArray, List.set_cons_zero, List.set_cons_succ]
                                  refine wpAnyH_take (i := 2) (oi := ⟨some 167, _, _, _, _, _⟩) (v := (.int .i64 (p : Int))) rfl (by kernel_rfl) (by kernel_rfl) (by kernel_rfl) (fun _ _ _ h => h) (Or.inl ⟨by rfl, fun w' hw => by go_simp⟩) hHeld ?_
                                  try simp only [Act.put, List.setIfInBounds_toArray, List.set_cons_zero, List.set_cons_succ]
                                  refine wpAnyH_take (i := 3) (oi := ⟨some 168, _, _, _, _, _⟩) (v := (.int .i64 ((p : Int) + 1))) rfl (by kernel_rfl) (by kernel_rfl) (by kernel_rfl) (fun _ _ _ h => h) (Or.inl ⟨by rfl, fun w' hw => by go_simp⟩) hHeld ?_
                                  try simp only [Act.put, List.setIfInBounds_toArray, List.set_cons_zero, List.set_cons_succ]
                                  refine wpAnyH_take (i := 4) (oi := ⟨some 169, _, _, _, _, _⟩) (v := (.pointer (some ⟨eb, 1, none⟩))) rfl (by kernel_rfl) (by kernel_rfl) (by kernel_rfl) (fun _ _ _ h => h) (Or.inl ⟨by rfl, fun w' hw => by go_simp⟩) hHeld ?_
                                  try simp only [Act.put, List.setIfInBounds_toArray, List.set_cons_zero, List.set_cons_succ]
                                  refine wpAnyH_take (i := 5) (oi := ⟨some 170, _, _, _, _, _⟩) (v := (.int .u64 (dw (y i).2.2.2.1 1))) rfl (by kernel_rfl) (by kernel_rfl) (by kernel_rfl) (fun _ _ _ h => h) (Or.inl ⟨by rfl, fun w' hw => by (have c := bx_1 hw; go_simp)⟩) hHeld ?_
                                  try simp only [Act.put, List.setIfInBounds_toArray, List.set_cons_zero, List.set_cons_succ]
                                  refine wpAnyH_take (i := 6) (oi := ⟨some 171, _, _, _, _, _⟩) (v := (.pointer (some ⟨vb, id * 8, none⟩))) rfl (by kernel_rfl) (by kernel_rfl) (by kernel_rfl) (fun _ _ _ h => h) (Or.inl ⟨by rfl, fun w' hw => by go_simp⟩) hHeld ?_
                                  try simp only [Act.put, List.setIfInBounds_toArray, List.set_cons_zero, List.set_cons_succ]
                                  refine wpAnyH_take (i := 7) (oi := ⟨some 172, _, _, _, _, _⟩) (v := (.pointer (some ⟨vb, id * 8 + (p + 1), none⟩))) rfl (by kernel_rfl) (by kernel_rfl) (by kernel_rfl) (fun _ _ _ h => h) (Or.inl ⟨by rfl, fun w' hw => by go_simp⟩) hHeld ?_
                                  try simp only [Act.put, List.setIfInBounds_toArray, List.set_cons_zero, List.set_cons_succ]
                                  refine one_ready 8 (o := ⟨none, _, _, _, _, _⟩) rfl (by kernel_rfl) (fun K hK => ?_)
                                  have cc := hE.hF.2.cell (show id * 8 + (p + 1) < 64 by omega)
                                  have ff := hE.hF.2.frozen (id * 8 + (p + 1))
                                  go_simp
                                  have hE' := hE.put (Y := just vb) ((Only.refl _ _).setCell (p := ⟨vb, id * 8 + (p + 1), none⟩) (.inl (just_self _)) (.int .u64 (dw (y i).2.2.2.1 1))) (fun j e => by have e : j = vb := e; subst e; exact ⟨HKZ.out.zv, HKZ.out.ov⟩) (FK.setV HKZ.out hE.hF id ((p + 1)) (by omega) (dw (y i).2.2.2.1 1)) (fun u u' hs hk f => FK.keep HKZ.out hs hk f)
                                  have hB' := hB.far (a := ⟨vb, id * 8 + (p + 1), none⟩) (fun e => HEv.out e) (.int .u64 (dw (y i).2.2.2.1 1))
                                  clear hE hB
                                  have hE := hE'
                                  have hB := hB'
                                  clear hE' hB'
                                  refine hK.out _ _ hB (fun _ => ?_)
                                  clear hK K cc ff hHeld
                                  simp only [List.setIfInBounds_toArray, List.set_cons_zero, List.set_cons_succ]
                                  refine wpAnyH_done (by kernel_rfl) ?_ _
                                  rw [updV_part, updV_two, updV_at] at hE
                                  go_wp2_with fail
                                  go_meet
                                  case rel => exact ⟨hB, _, rfl, hE⟩
                            · have hop2' : ¬ (op : Int) = 2 := by omega
                              go_wp2_with fail
                              go_meet
                              case rel => exact ⟨hB, v, by rw [if_neg hop2], hE⟩
                        case rest =>
                          as_aux_lemma =>
                            clear hE hB
                            obtain ⟨hB, v1, hv1, hE⟩ := hcut
                            go_upto_if 174 with fail
                            go_cut [] from 48 to 201 (fun w' => LvS N S D T Q mp lp bm w ZK (FK N S T cb gb ib vb w (some ⟨yb, yo, none⟩) nl y a2 n2 z2 g s (updV v id (kpV (op : Int) (p : Int) (dw (y i).2.2.2.1) (s id) (v id)))) false I' m' (i + 1) w')
                            case first =>
                              as_aux_lemma =>
                                by_cases hop1 : op = 1
                                · subst hop1
                                  rw [if_neg (by decide)] at hv1
                                  rw [hv1] at hE
                                  have HT := Lib.hid (vf_there hE.hF.2 hid)
                                  have HBr := Lib.hid hB.range
                                  have hst := store_run HT.out (dw (y i).2.2.2.1)
                                  go_wp2_with (with_reducible refine wpList_load_data rfl (.tmp 21) rfl eb 0 rfl (dw (y i).2.2.2.1) HBr.out ?_)
                                  have hE' := hE.put (Y := just vb) (only_setCells (S := just vb) (DA (dw (y i).2.2.2.1)).toList (id * 8) _ (Only.refl _ _) (.inl (just_self _))) (fun j e => by have e : j = vb := e; subst e; exact ⟨HKZ.out.zv, HKZ.out.ov⟩) (FK.setVs HKZ.out hE.hF id (dw (y i).2.2.2.1)) (fun u u' hs hk f => FK.keep HKZ.out hs hk f)
                                  go_meet
                                  case rel => exact hE'
                                · have hop1' : ¬ (op : Int) = 1 := by omega
                                  have hvv : v1 = (updV v id (kpV (op : Int) (p : Int) (dw (y i).2.2.2.1) (s id) (v id))) := by
                                    rw [hv1]
                                    by_cases h2 : op = 2
                                    · rw [if_pos h2]
                                    · rw [if_neg h2]
                                      have h4 : op = 0 ∨ op = 3 := by omega
                                      rcases h4 with rfl | rfl <;> exact (updV_self v id).symm
                                  rw [hvv] at hE
                                  go_wp2_with fail
                                  go_meet
                                  case rel => exact hE
                            case rest =>
                              as_aux_lemma =>
                                clear hE hB hv1
                                have hE := hcut
                                clear hcut
                                have ci := hE.hF.1.2.cell hid
                                have fi := hE.hF.1.2.frozen id
                                go_upto_region 33 with fail
                                go_cut [] from 48 to 201 (fun w' => LvS N S D T Q mp lp bm w ZK (FK N S T cb gb ib vb w (some ⟨yb, yo, none⟩) nl y a2 n2 z2 g (updB s id (kpB (op : Int) (s id))) (updV v id (kpV (op : Int) (p : Int) (dw (y i).2.2.2.1) (s id) (v id)))) false I' m' (i + 1) w')
                                case first =>
                                  as_aux_lemma =>
                                    have hE' := hE.put (Y := just ib) ((Only.refl _ _).setCell (p := ⟨ib, id, none⟩) (.inl (just_self _)) (.bool (kpB (op : Int) (s id)))) (fun j e => by have e : j = ib := e; subst e; exact ⟨HKZ.out.zi, HKZ.out.oi⟩) (FK.setS HKZ.out hE.hF id (kpB (op : Int) (s id))) (fun u u' hs hk f => FK.keep HKZ.out hs hk f)
                                    have HE' := Lib.hid hE'
                                    clear hE' hE
                                    have h4 : op = 0 ∨ op = 1 ∨ op = 2 ∨ op = 3 := by omega
                                    cases hsb : s id <;> rcases h4 with rfl | rfl | rfl | rfl
                                    all_goals
                                      rw [hsb] at HE' ci
                                      go_wp2_with fail
                                      go_meet
                                      case rel => rw [hsb]; exact HE'.out
                                case rest =>
                                  as_aux_lemma =>
                                    clear hE ci fi
                                    have hE := hcut
                                    clear hcut
                                    have ci := hE.hF.1.1.2.cell hid
                                    have fi := hE.hF.1.1.2.frozen id
                                    have HE9 := Lib.hid (hE.put (Y := just gb) ((Only.refl _ _).setCell (p := ⟨gb, id, none⟩) (.inl (just_self _)) (.int .i64 (tv : Int))) (fun j e => by have e : j = gb := e; subst e; exact ⟨HKZ.out.zg, HKZ.out.og⟩) (FK.setG HKZ.out hE.hF id tv) (fun u u' hs hk f => FK.keep HKZ.out hs hk f))
                                    have HgN2 : Hid (∀ j, updN g id tv j < N) := Lib.hid fun j => by unfold updN; split; exact hto; exact hgN j
                                    clear hE
                                    go_wp2_with fail
                                    go_roundw
                                    case rel => exact ⟨i + 1, by go_num, by omega, _, _, _, _, _, HgN2.out, HOkN.out, HE9.out⟩
                                    case measure => simp [intOf]; omega
                  · go_wp2_with fail
                    go_ret
                    exact ⟨rfl, HE.out.kp⟩
        · have hn' : ¬ (i : Int) < (nl : Int) := by omega
          have HK := Lib.hid hE.kp
          clear hE
          go_wp2_with fail
          go_ret
          exact ⟨rfl, HK.out⟩
end Go.Proofs.YtdbjaaalngbpgaaGreat
