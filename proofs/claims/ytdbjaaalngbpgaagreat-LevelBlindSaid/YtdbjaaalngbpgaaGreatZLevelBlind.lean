/- LevelBlind: the events of an access hang on the leaf that it comes from alone. -/
import Derived.Test.YtdbjaaalngbpgaaGreatG57
import Derived.Test.YtdbjaaalngbpgaaGreatG54
namespace Go.Proofs.YtdbjaaalngbpgaaGreat
set_option maxRecDepth 100000
open Go.RowKit Go.ChangeShapes Go.WideShapes Go.ChangeAt Go.Maps Go.Deep

theorem bst_in {u : World} {B b o nl : Nat} {y : Nat → Stp} (h : Stps u B (some ⟨b, o, none⟩) nl y) {i : Nat} (hi : i < nl) : u.rangeAt b (o + i * 6) (stc (y i)).toList := by
  obtain ⟨b', o', e, _, hr⟩ := h.at hi
  injection e with e
  injection e with e1 e2
  rw [e1, e2]
  exact hr
theorem stb_cells {u : World} {b : Nat} {y : Stp} (h : Box u b 45 (stc y)) : u.cell? ⟨b, 0, none⟩ = some (.int .i64 y.1) ∧ u.cell? ⟨b, 1, none⟩ = some (.int .u64 y.2.1) ∧ u.cell? ⟨b, 2, none⟩ = some (.int .i64 y.2.2.1) ∧
    u.cell? ⟨b, 3, none⟩ = some (.int .u64 y.2.2.2.1) ∧ u.cell? ⟨b, 4, none⟩ = some (.int .i64 y.2.2.2.2.1) ∧ u.cell? ⟨b, 5, none⟩ = some (.int .i64 y.2.2.2.2.2) :=
  ⟨h.cell 0, h.cell 1, h.cell 2, h.cell 3, h.cell 4, h.cell 5⟩
theorem stps_more {u : World} {B B' : Nat} {a : Option Addr} {n : Nat} {y : Nat → Stp} (h : Stps u B a n y) (hB : B ≤ B') : Stps u B' a n y := fun hn => by
  obtain ⟨b, off, e, h1, h2⟩ := h hn
  exact ⟨b, off, e, Nat.lt_of_lt_of_le h1 hB, h2⟩
theorem ok_one {N op at' lf tt : Nat} {id : Int} {d : Nat → Int} (h1 : op < 4) (h2 : at' < 7) (h3 : 0 ≤ id) (h4 : id ≤ 1000) (h5 : lf < N) (h6 : tt < N) : (⟨(op : Int), id, (at' : Int), d, (lf : Int), (tt : Int)⟩ : Ask).ok N = true := by
  obtain ⟨k, rfl⟩ := Int.eq_ofNat_of_zero_le h3
  exact ok_of d h1 (by omega) h2 h5 h6
set_option maxRecDepth 100000 in
set_option maxHeartbeats 8000000 in
theorem blind_in10 (n : Int) (a1 : Option Addr) (n1 c1 : Nat) (y1 : Nat → Stp) (a2 : Option Addr) (n2 c2 : Nat) (y2 : Nat → Stp) (ya yb : Stp) (w : World) (hn : (Lit.int .i64 n).wf = true) (hS1 : Stps w w.heap.size a1 n1 y1) (hy1 : ∀ j, j < n1 → StOk (y1 j)) (hS2 : Stps w w.heap.size a2 n2 y2) (hy2 : ∀ j, j < n2 → StOk (y2 j)) (hya : StOk ya) (hyb : StOk yb)
    (hl1 : n1 ≤ 12) (hl2 : n2 ≤ 12) :
    Calls Tryz.prog 6 #[.int .i64 n, .slice a1 n1 c1, .slice a2 n2 c2, .agg (stc ya), .agg (stc yb)] w fun e w' => e = .returned (.bool true) ∧ Below w.heap.size w w' := by
  have g1 : ¬ (12 : Int) < (n1 : Int) := by omega
  have g2 : ¬ (12 : Int) < (n2 : Int) := by omega
  obtain ⟨N, S, T, D, L, n5, Q, P, hC, hsz, hsm, hcf⟩ := law_config n (i64_rng hn).1 (i64_rng hn).2
  have hN := hC.n1
  obtain ⟨w0, hw0⟩ : ∃ w0, (w.alloc (.cells (stc ya) 45)).alloc (.cells (stc yb) 45) = w0 := ⟨_, rfl⟩
  obtain ⟨ab, hab⟩ : ∃ b, w.heap.size = b := ⟨_, rfl⟩
  have HA0 : Hid (Box w0 ab 45 (stc ya)) := Lib.hid (by rw [← hw0, ← hab]; exact (Box.new w _ _).alloc _)
  have HB0 : Hid (Box w0 (ab + 1) 45 (stc yb)) := Lib.hid (by
    rw [← hw0, ← hab]
    have := Box.new (w.alloc (.cells (stc ya) 45)) 45 (stc yb)
    simpa using this)
  have HW0b : Hid (Below w.heap.size w w0) := Lib.hid (by rw [← hw0]; exact ((Below.refl _ w).alloc (Nat.le_refl _) _).alloc (by simp) _)
  have HW0 := Lib.hid hw0
  have HAb := Lib.hid hab
  have HCf := Lib.hid hcf
  have HMd := Lib.hid (fun W => made_of (H := Unit) hC W hsz)
  have HC := Lib.hid hC
  have HS1 := Lib.hid hS1
  have HS2 := Lib.hid hS2
  have HY1 := Lib.hid hy1
  have HY2 := Lib.hid hy2
  have HYa := Lib.hid hya
  have HYb := Lib.hid hyb
  clear hcf hsz hC hS1 hS2 hy1 hy2 hya hyb hn hw0 hab
  go_enter Tryz.func6, Tryz.ntmps6
  go_upto_region 1 with fail
  simp only [HAb.out]
  rw [HW0.out]
  clear HW0
  go_wp2_with fail
  refine (shown_of _).mono ?_
  rintro e w1 ⟨rfl, hb1⟩
  have HA1 := Lib.hid (HA0.out.of (hb1.block _ HA0.out.lt))
  have HBb1 := Lib.hid (HB0.out.of (hb1.block _ HB0.out.lt))
  have HB1 := Lib.hid (HW0b.out.trans (hb1.mono HW0b.out.size))
  clear hb1 HA0 HB0 HW0b
  go_wp2_with fail
  refine (HCf.out _).mono ?_
  rintro e w2 ⟨rfl, hb2⟩
  have HA2 := Lib.hid (HA1.out.of (hb2.block _ HA1.out.lt))
  have HBb2 := Lib.hid (HBb1.out.of (hb2.block _ HBb1.out.lt))
  have HB2 := Lib.hid (HB1.out.trans (hb2.mono HB1.out.size))
  clear hb2 HB1 HCf HA1 HBb1
  go_upto_region 5 with (refine wpList_store_newC rfl (.tmp 12) (.tmp 37) rfl rfl N S T rfl rfl ?_)
  obtain ⟨cb, hcb⟩ : ∃ b, w2.heap.size = b := ⟨_, rfl⟩
  have hbx := Box.new w2 25 (cfA N S T)
  have HB3 := Lib.hid (HB2.out.alloc HB2.out.size (.cells (cfA N S T) 25))
  have HA3 := Lib.hid (HA2.out.alloc (.cells (cfA N S T) 25))
  have HBb3 := Lib.hid (HBb2.out.alloc (.cells (cfA N S T) 25))
  rw [hcb] at hbx ⊢
  have HBx := Lib.hid hbx
  clear hcb hbx HB2 HA2 HBb2
  generalize w2.alloc (.cells (cfA N S T) 25) = w3 at *
  have k0 := cf_0 HBx.out
  have k1 := cf_1 HBx.out
  have k2 := cf_2 HBx.out
  go_wp2_with fail
  refine (HMd.out _).mono ?_
  rintro e w4 ⟨mp, lx, bx, rfl, ho4, hlx, hbx, hL⟩
  have HO4 := Lib.hid ho4
  have HX := Lib.hid (And.intro hlx hbx)
  have HLx := Lib.hid hL
  have HBx4 := Lib.hid (HBx.out.only ho4 (not_nobody _))
  clear ho4 hlx hbx hL k0 k1 k2
  have k0 := cf_0 HBx4.out
  have k1 := cf_1 HBx4.out
  have k2 := cf_2 HBx4.out
  go_wp2_with fail
  refine (HMd.out _).mono ?_
  rintro e w5 ⟨np, lz, bz, rfl, ho5, hlz, hbz, hL2⟩
  have hE : PwS N S T D Q mp np lx bx lz bz w3 (fun u => (((Box u cb 25 (cfA N S T) ∧ Box u ab 45 (stc ya)) ∧ Box u (ab + 1) 45 (stc yb)) ∧ Stps u w3.heap.size a1 n1 y1) ∧ Stps u w3.heap.size a2 n2 y2) (mdM S D T Q) (mdM S D T Q) 0 w5 := by
    have h1 := HX.out
    have hL := HLx.out
    have s4 := HO4.out.size
    have a1' := hL.lt hL.x1
    have a2' := hL.lt hL.x2
    have a3' := hL2.lt hL2.x1
    have a4' := hL2.lt hL2.x2
    have hb : Below w3.heap.size w3 w5 := (HO4.out.trans ho5).none
    have hw : w.heap.size ≤ w3.heap.size := HB3.out.size
    refine ⟨⟨_, false, false, [], [], ⟨duo_made hL.own ho5 hL2.own hlz hbz a3' a4', .inl hL.x1, .inl hL.x2, .inr (.inl rfl), .inr (.inr rfl), ⟨⟨by omega, by omega⟩, by omega, by omega⟩, hL.box.only ho5 (not_nobody _), hL2.box, ?_, hL2.map, hL.lvm, hL2.lvm, Nat.zero_le _, Nat.zero_le _, hL.wk, hL2.wk⟩, fun i hi => ?_⟩, ?_, fun u u' hb f => ?_, hb⟩
    · obtain ⟨nm, g1, g2⟩ := hL.map
      exact ⟨nm, g1, map_only g2 ho5 (not_nobody _)⟩
    · exact ⟨.inl (.inl hi), ⟨by omega, by omega⟩, by omega, by omega⟩
    · exact ⟨⟨⟨⟨HBx.out.of (hb.block _ HBx.out.lt), HA3.out.of (hb.block _ HA3.out.lt)⟩, HBb3.out.of (hb.block _ HBb3.out.lt)⟩, (stps_more (HS1.out.below HB3.out) hw).below hb⟩, (stps_more (HS2.out.below HB3.out) hw).below hb⟩
    · exact ⟨⟨⟨⟨f.1.1.1.1.of (hb.block _ HBx.out.lt), f.1.1.1.2.of (hb.block _ HA3.out.lt)⟩, f.1.1.2.of (hb.block _ HBb3.out.lt)⟩, f.1.2.below hb⟩, f.2.below hb⟩
  have HE := Lib.hid hE
  clear hE ho5 hlz hbz hL2 HMd k0 k1 k2 HBx HBx4 HA3 HBb3 HLx HX HO4 HS1 HS2
  go_wp2_with fail
  go_loopw [17] (fun v17 wr => ∃ i : Nat, v17 = .int .i64 i ∧ i ≤ n1 ∧ ∃ M, PwS N S T D Q mp np lx bx lz bz w3 (fun u => (((Box u cb 25 (cfA N S T) ∧ Box u ab 45 (stc ya)) ∧ Box u (ab + 1) 45 (stc yb)) ∧ Stps u w3.heap.size a1 n1 y1) ∧ Stps u w3.heap.size a2 n2 y2) M (mdM S D T Q) i wr) (fun v17 _ => n1 - (intOf v17).toNat)
  case atStart => exact ⟨0, rfl, by omega, _, HE.out⟩
  case round =>
    obtain ⟨i, rfl, hi, M, hE⟩ := hrel
    clear HE
    by_cases hin : i < n1
    · obtain ⟨sb, so, rfl, _, _⟩ := hE.hF.1.2.at hin
      obtain ⟨r0, r1, r2, r3, r4, r5⟩ := (HY1.out i hin).rng
      go_upto_region 12 with fail
      have hE := hE.drew
      refine held_s (S := (fun u => (((Box u cb 25 (cfA N S T) ∧ Box u ab 45 (stc ya)) ∧ Box u (ab + 1) 45 (stc yb)) ∧ Stps u w3.heap.size (some ⟨sb, so, none⟩) n1 y1) ∧ Stps u w3.heap.size a2 n2 y2)) 33 rfl (by kernel_rfl) hE.hF (fun hHeld => ?_)
      simp only [Array.replicate_succ, Array.replicate_zero, List.push_toArray, List.nil_append, List.cons_append]
      generalize World.drew _ = wd at *
      refine wpAnyH_take (i := 0) (oi := ⟨some 60, _, _, _, _, _⟩) (v := (.pointer (some ⟨lx, 0, none⟩))) rfl (by kernel_rfl) (by kernel_rfl) (by kernel_rfl) (fun _ _ _ h => h) (Or.inl ⟨by rfl, fun w' hw => by go_simp⟩) hHeld ?_
      try simp only [Act.put, List.setIfInBounds_toArray, List.set_cons_zero, List.set_cons_succ]
      refine wpAnyH_take (i := 1) (oi := ⟨some 61, _, _, _, _, _⟩) (v := (.slice (some ⟨sb, so, none⟩) n1 c1)) rfl (by kernel_rfl) (by kernel_rfl) (by kernel_rfl) (fun _ _ _ h => h) (Or.inl ⟨by rfl, fun w' hw => by go_simp⟩) hHeld ?_
      try simp only [Act.put, List.setIfInBounds_toArray, List.set_cons_zero, List.set_cons_succ]
      refine wpAnyH_take (i := 2) (oi := ⟨some 62, _, _, _, _, _⟩) (v := (.int .i64 (i : Int))) rfl (by kernel_rfl) (by kernel_rfl) (by kernel_rfl) (fun _ _ _ h => h) (Or.inl ⟨by rfl, fun w' hw => by go_simp⟩) hHeld ?_
      try simp only [Act.put, List.setIfInBounds_toArray, List.set_cons_zero, List.set_cons_succ]
      refine wpAnyH_take (i := 3) (oi := ⟨some 63, _, _, _, _, _⟩) (v := (.pointer (some ⟨sb, so + i * 6, none⟩))) rfl (by kernel_rfl) (by kernel_rfl) (by kernel_rfl) (fun _ _ _ h => h) (Or.inl ⟨by rfl, fun w' hw => by go_simp⟩) hHeld ?_
      try simp only [Act.put, List.setIfInBounds_toArray, List.set_cons_zero, List.set_cons_succ]
      refine wpAnyH_take (i := 4) (oi := ⟨some 64, _, _, _, _, _⟩) (v := (.pointer (some ⟨sb, so + i * 6, none⟩))) rfl (by kernel_rfl) (by kernel_rfl) (by kernel_rfl) (fun _ _ _ h => h) (Or.inl ⟨by rfl, fun w' hw => by go_simp⟩) hHeld ?_
      try simp only [Act.put, List.setIfInBounds_toArray, List.set_cons_zero, List.set_cons_succ]
      refine wpAnyH_take (i := 5) (oi := ⟨some 65, _, _, _, _, _⟩) (v := (.int .i64 (y1 i).1)) rfl (by kernel_rfl) (by kernel_rfl) (by kernel_rfl) (fun _ _ _ h => h) (Or.inl ⟨by rfl, fun w' hw => by (obtain ⟨q0, q1, q2, q3, q4, q5⟩ := st_cells (bst_in hw.1.2 hin); go_simp)⟩) hHeld ?_
      try simp only [Act.put, List.setIfInBounds_toArray, List.set_cons_zero, List.set_cons_succ]
      refine wpAnyH_take (i := 6) (oi := ⟨some 66, _, _, _, _, _⟩) (v := (.slice (some ⟨sb, so, none⟩) n1 c1)) rfl (by kernel_rfl) (by kernel_rfl) (by kernel_rfl) (fun _ _ _ h => h) (Or.inl ⟨by rfl, fun w' hw => by go_simp⟩) hHeld ?_
      try simp only [Act.put, List.setIfInBounds_toArray, List.set_cons_zero, List.set_cons_succ]
      refine wpAnyH_take (i := 7) (oi := ⟨some 67, _, _, _, _, _⟩) (v := (.int .i64 (i : Int))) rfl (by kernel_rfl) (by kernel_rfl) (by kernel_rfl) (fun _ _ _ h => h) (Or.inl ⟨by rfl, fun w' hw => by go_simp⟩) hHeld ?_
      try simp only [Act.put, List.setIfInBounds_toArray, List.set_cons_zero, List.set_cons_succ]
      refine wpAnyH_take (i := 8) (oi := ⟨some 68, _, _, _, _, _⟩) (v := (.pointer (some ⟨sb, so + i * 6, none⟩))) rfl (by kernel_rfl) (by kernel_rfl) (by kernel_rfl) (fun _ _ _ h => h) (Or.inl ⟨by rfl, fun w' hw => by go_simp⟩) hHeld ?_
      try simp only [Act.put, List.setIfInBounds_toArray, List.set_cons_zero, List.set_cons_succ]
      refine wpAnyH_take (i := 9) (oi := ⟨some 69, _, _, _, _, _⟩) (v := (.pointer (some ⟨sb, so + i * 6 + 1, none⟩))) rfl (by kernel_rfl) (by kernel_rfl) (by kernel_rfl) (fun _ _ _ h => h) (Or.inl ⟨by rfl, fun w' hw => by go_simp⟩) hHeld ?_
      try simp only [Act.put, List.setIfInBounds_toArray, List.set_cons_zero, List.set_cons_succ]
      refine wpAnyH_take (i := 10) (oi := ⟨some 70, _, _, _, _, _⟩) (v := (.int .u64 (y1 i).2.1)) rfl (by kernel_rfl) (by kernel_rfl) (by kernel_rfl) (fun _ _ _ h => h) (Or.inl ⟨by rfl, fun w' hw => by (obtain ⟨q0, q1, q2, q3, q4, q5⟩ := st_cells (bst_in hw.1.2 hin); go_simp)⟩) hHeld ?_
      try simp only [Act.put, List.setIfInBounds_toArray, List.set_cons_zero, List.set_cons_succ]
      refine wpAnyH_take (i := 11) (oi := ⟨some 71, _, _, _, _, _⟩) (v := (.slice (some ⟨sb, so, none⟩) n1 c1)) rfl (by kernel_rfl) (by kernel_rfl) (by kernel_rfl) (fun _ _ _ h => h) (Or.inl ⟨by rfl, fun w' hw => by go_simp⟩) hHeld ?_
      try simp only [Act.put, List.setIfInBounds_toArray, List.set_cons_zero, List.set_cons_succ]
      refine wpAnyH_take (i := 12) (oi := ⟨some 72, _, _, _, _, _⟩) (v := (.int .i64 (i : Int))) rfl (by kernel_rfl) (by kernel_rfl) (by kernel_rfl) (fun _ _ _ h => h) (Or.inl ⟨by rfl, fun w' hw => by go_simp⟩) hHeld ?_
      try simp only [Act.put, List.setIfInBounds_toArray, List.set_cons_zero, List.set_cons_succ]
      refine wpAnyH_take (i := 13) (oi := ⟨some 73, _, _, _, _, _⟩) (v := (.pointer (some ⟨sb, so + i * 6, none⟩))) rfl (by kernel_rfl) (by kernel_rfl) (by kernel_rfl) (fun _ _ _ h => h) (Or.inl ⟨by rfl, fun w' hw => by go_simp⟩) hHeld ?_
      try simp only [Act.put, List.setIfInBounds_toArray, List.set_cons_zero, List.set_cons_succ]
      refine wpAnyH_take (i := 14) (oi := ⟨some 74, _, _, _, _, _⟩) (v := (.pointer (some ⟨sb, so + i * 6 + 2, none⟩))) rfl (by kernel_rfl) (by kernel_rfl) (by kernel_rfl) (fun _ _ _ h => h) (Or.inl ⟨by rfl, fun w' hw => by go_simp⟩) hHeld ?_
      try simp only [Act.put, List.setIfInBounds_toArray, List.set_cons_zero, List.set_cons_succ]
      refine wpAnyH_take (i := 15) (oi := ⟨some 75, _, _, _, _, _⟩) (v := (.int .i64 (y1 i).2.2.1)) rfl (by kernel_rfl) (by kernel_rfl) (by kernel_rfl) (fun _ _ _ h => h) (Or.inl ⟨by rfl, fun w' hw => by (obtain ⟨q0, q1, q2, q3, q4, q5⟩ := st_cells (bst_in hw.1.2 hin); go_simp)⟩) hHeld ?_
      try simp only [Act.put, List.setIfInBounds_toArray, List.set_cons_zero, List.set_cons_succ]
      refine wpAnyH_take (i := 16) (oi := ⟨some 76, _, _, _, _, _⟩) (v := (.slice (some ⟨sb, so, none⟩) n1 c1)) rfl (by kernel_rfl) (by kernel_rfl) (by kernel_rfl) (fun _ _ _ h => h) (Or.inl ⟨by rfl, fun w' hw => by go_simp⟩) hHeld ?_
      try simp only [Act.put, List.setIfInBounds_toArray, List.set_cons_zero, List.set_cons_succ]
      refine wpAnyH_take (i := 17) (oi := ⟨some 77, _, _, _, _, _⟩) (v := (.int .i64 (i : Int))) rfl (by kernel_rfl) (by kernel_rfl) (by kernel_rfl) (fun _ _ _ h => h) (Or.inl ⟨by rfl, fun w' hw => by go_simp⟩) hHeld ?_
      try simp only [Act.put, List.setIfInBounds_toArray, List.set_cons_zero, List.set_cons_succ]
      refine wpAnyH_take (i := 18) (oi := ⟨some 78, _, _, _, _, _⟩) (v := (.pointer (some ⟨sb, so + i * 6, none⟩))) rfl (by kernel_rfl) (by kernel_rfl) (by kernel_rfl) (fun _ _ _ h => h) (Or.inl ⟨by rfl, fun w' hw => by go_simp⟩) hHeld ?_
      try simp only [Act.put, List.setIfInBounds_toArray, List.set_cons_zero, List.set_cons_succ]
      refine wpAnyH_take (i := 19) (oi := ⟨some 79, _, _, _, _, _⟩) (v := (.pointer (some ⟨sb, so + i * 6 + 3, none⟩))) rfl (by kernel_rfl) (by kernel_rfl) (by kernel_rfl) (fun _ _ _ h => h) (Or.inl ⟨by rfl, fun w' hw => by go_simp⟩) hHeld ?_
      try simp only [Act.put, List.setIfInBounds_toArray, List.set_cons_zero, List.set_cons_succ]
      refine wpAnyH_take (i := 20) (oi := ⟨some 80, _, _, _, _, _⟩) (v := (.int .u64 (y1 i).2.2.2.1)) rfl (by kernel_rfl) (by kernel_rfl) (by kernel_rfl) (fun _ _ _ h => h) (Or.inl ⟨by rfl, fun w' hw => by (obtain ⟨q0, q1, q2, q3, q4, q5⟩ := st_cells (bst_in hw.1.2 hin); go_simp)⟩) hHeld ?_
      try simp only [Act.put, List.setIfInBounds_toArray, List.set_cons_zero, List.set_cons_succ]
      refine wpAnyH_take (i := 22) (oi := ⟨some 82, _, _, _, _, _⟩) (v := (.slice (some ⟨sb, so, none⟩) n1 c1)) rfl (by kernel_rfl) (by kernel_rfl) (by kernel_rfl) (fun _ _ _ h => h) (Or.inl ⟨by rfl, fun w' hw => by go_simp⟩) hHeld ?_
      try simp only [Act.put, List.setIfInBounds_toArray, List.set_cons_zero, List.set_cons_succ]
      refine wpAnyH_take (i := 23) (oi := ⟨some 83, _, _, _, _, _⟩) (v := (.int .i64 (i : Int))) rfl (by kernel_rfl) (by kernel_rfl) (by kernel_rfl) (fun _ _ _ h => h) (Or.inl ⟨by rfl, fun w' hw => by go_simp⟩) hHeld ?_
      try simp only [Act.put, List.setIfInBounds_toArray, List.set_cons_zero, List.set_cons_succ]
      refine wpAnyH_take (i := 24) (oi := ⟨some 84, _, _, _, _, _⟩) (v := (.pointer (some ⟨sb, so + i * 6, none⟩))) rfl (by kernel_rfl) (by kernel_rfl) (by kernel_rfl) (fun _ _ _ h => h) (Or.inl ⟨by rfl, fun w' hw => by go_simp⟩) hHeld ?_
      try simp only [Act.put, List.setIfInBounds_toArray, List.set_cons_zero, List.set_cons_succ]
      refine wpAnyH_take (i := 25) (oi := ⟨some 85, _, _, _, _, _⟩) (v := (.pointer (some ⟨sb, so + i * 6 + 4, none⟩))) rfl (by kernel_rfl) (by kernel_rfl) (by kernel_rfl) (fun _ _ _ h => h) (Or.inl ⟨by rfl, fun w' hw => by go_simp⟩) hHeld ?_
      try simp only [Act.put, List.setIfInBounds_toArray, List.set_cons_zero, List.set_cons_succ]
      refine wpAnyH_take (i := 26) (oi := ⟨some 86, _, _, _, _, _⟩) (v := (.int .i64 (y1 i).2.2.2.2.1)) rfl (by kernel_rfl) (by kernel_rfl) (by kernel_rfl) (fun _ _ _ h => h) (Or.inl ⟨by rfl, fun w' hw => by (obtain ⟨q0, q1, q2, q3, q4, q5⟩ := st_cells (bst_in hw.1.2 hin); go_simp)⟩) hHeld ?_
      try simp only [Act.put, List.setIfInBounds_toArray, List.set_cons_zero, List.set_cons_succ]
      refine wpAnyH_take (i := 27) (oi := ⟨some 87, _, _, _, _, _⟩) (v := (.slice (some ⟨sb, so, none⟩) n1 c1)) rfl (by kernel_rfl) (by kernel_rfl) (by kernel_rfl) (fun _ _ _ h => h) (Or.inl ⟨by rfl, fun w' hw => by go_simp⟩) hHeld ?_
      try simp only [Act.put, List.setIfInBounds_toArray, List.set_cons_zero, List.set_cons_succ]
      refine wpAnyH_take (i := 28) (oi := ⟨some 88, _, _, _, _, _⟩) (v := (.int .i64 (i : Int))) rfl (by kernel_rfl) (by kernel_rfl) (by kernel_rfl) (fun _ _ _ h => h) (Or.inl ⟨by rfl, fun w' hw => by go_simp⟩) hHeld ?_
      try simp only [Act.put, List.setIfInBounds_toArray, List.set_cons_zero, List.set_cons_succ]
      refine wpAnyH_take (i := 29) (oi := ⟨some 89, _, _, _, _, _⟩) (v := (.pointer (some ⟨sb, so + i * 6, none⟩))) rfl (by kernel_rfl) (by kernel_rfl) (by kernel_rfl) (fun _ _ _ h => h) (Or.inl ⟨by rfl, fun w' hw => by go_simp⟩) hHeld ?_
      try simp only [Act.put, List.setIfInBounds_toArray, List.set_cons_zero, List.set_cons_succ]
      refine wpAnyH_take (i := 30) (oi := ⟨some 90, _, _, _, _, _⟩) (v := (.pointer (some ⟨sb, so + i * 6 + 5, none⟩))) rfl (by kernel_rfl) (by kernel_rfl) (by kernel_rfl) (fun _ _ _ h => h) (Or.inl ⟨by rfl, fun w' hw => by go_simp⟩) hHeld ?_
      try simp only [Act.put, List.setIfInBounds_toArray, List.set_cons_zero, List.set_cons_succ]
      refine wpAnyH_take (i := 31) (oi := ⟨some 91, _, _, _, _, _⟩) (v := (.int .i64 (y1 i).2.2.2.2.2)) rfl (by kernel_rfl) (by kernel_rfl) (by kernel_rfl) (fun _ _ _ h => h) (Or.inl ⟨by rfl, fun w' hw => by (obtain ⟨q0, q1, q2, q3, q4, q5⟩ := st_cells (bst_in hw.1.2 hin); go_simp)⟩) hHeld ?_
      try simp only [Act.put, List.setIfInBounds_toArray, List.set_cons_zero, List.set_cons_succ]
      refine one_ready 21 rfl (by kernel_rfl) (fun K hK => ?_)
      go_simp
      refine (data_of (y1 i).2.2.2.1 _).mono ?_
      rintro e w13 ⟨rfl, hb⟩
      have hE := hE.nob (Only.of_below hb)
      refine hK.out _ _ hE.hF (fun hHeld => ?_)
      clear hK K hb
      simp only [List.setIfInBounds_toArray, List.set_cons_zero, List.set_cons_succ]
      refine one_ready 32 rfl (by kernel_rfl) (fun K hK => ?_)
      go_simp
      refine (hE.stepX HC.out ⟨(y1 i).1, (y1 i).2.1, (y1 i).2.2.1, dw (y1 i).2.2.2.1, (y1 i).2.2.2.2.1, (y1 i).2.2.2.2.2⟩ (by omega) r1.1 (fun j => dw_rng _ j)).mono ?_
      rintro e w13 ⟨⟨x, rfl⟩, o', hE'⟩
      clear hE
      have hE := hE'
      clear hE'
      refine hK.out _ _ hE.hF (fun hHeld => ?_)
      clear hK K
      simp only [List.setIfInBounds_toArray, List.set_cons_zero, List.set_cons_succ]
      refine wpAnyH_done (by kernel_rfl) ?_ _
      have HE := Lib.hid hE
      clear hE hHeld
      go_wp2_with fail
      go_roundw
      case rel => exact ⟨i + 1, by go_num, by omega, _, HE.out⟩
      case measure => simp [intOf]; omega
    · have HE := Lib.hid hE
      clear hE
      go_wp2_with fail
      go_loopw [18] (fun v18 wr => ∃ j : Nat, v18 = .int .i64 j ∧ j ≤ n2 ∧ ∃ M2, PwS N S T D Q mp np lx bx lz bz w3 (fun u => (((Box u cb 25 (cfA N S T) ∧ Box u ab 45 (stc ya)) ∧ Box u (ab + 1) 45 (stc yb)) ∧ Stps u w3.heap.size a1 n1 y1) ∧ Stps u w3.heap.size a2 n2 y2) M M2 (i + j) wr) (fun v18 _ => n2 - (intOf v18).toNat)
      case atStart => exact ⟨0, rfl, by omega, _, HE.out⟩
      case round =>
        obtain ⟨j, rfl, hj, M2, hE⟩ := hrel
        clear HE
        by_cases hin : j < n2
        · obtain ⟨sb, so, rfl, _, _⟩ := hE.hF.2.at hin
          obtain ⟨r0, r1, r2, r3, r4, r5⟩ := (HY2.out j hin).rng
          go_upto_region 16 with fail
          have hE := hE.drew
          refine held_s (S := (fun u => (((Box u cb 25 (cfA N S T) ∧ Box u ab 45 (stc ya)) ∧ Box u (ab + 1) 45 (stc yb)) ∧ Stps u w3.heap.size a1 n1 y1) ∧ Stps u w3.heap.size (some ⟨sb, so, none⟩) n2 y2)) 33 rfl (by kernel_rfl) hE.hF (fun hHeld => ?_)
          simp only [Array.replicate_succ, Array.replicate_zero, List.push_toArray, List.nil_append, List.cons_append]
          generalize World.drew _ = wd at *
          refine wpAnyH_take (i := 0) (oi := ⟨some 99, _, _, _, _, _⟩) (v := (.pointer (some ⟨lz, 0, none⟩))) rfl (by kernel_rfl) (by kernel_rfl) (by kernel_rfl) (fun _ _ _ h => h) (Or.inl ⟨by rfl, fun w' hw => by go_simp⟩) hHeld ?_
          try simp only [Act.put, List.setIfInBounds_toArray, List.set_cons_zero, List.set_cons_succ]
          refine wpAnyH_take (i := 1) (oi := ⟨some 100, _, _, _, _, _⟩) (v := (.slice (some ⟨sb, so, none⟩) n2 c2)) rfl (by kernel_rfl) (by kernel_rfl) (by kernel_rfl) (fun _ _ _ h => h) (Or.inl ⟨by rfl, fun w' hw => by go_simp⟩) hHeld ?_
          try simp only [Act.put, List.setIfInBounds_toArray, List.set_cons_zero, List.set_cons_succ]
          refine wpAnyH_take (i := 2) (oi := ⟨some 101, _, _, _, _, _⟩) (v := (.int .i64 (j : Int))) rfl (by kernel_rfl) (by kernel_rfl) (by kernel_rfl) (fun _ _ _ h => h) (Or.inl ⟨by rfl, fun w' hw => by go_simp⟩) hHeld ?_
          try simp only [Act.put, List.setIfInBounds_toArray, List.set_cons_zero, List.set_cons_succ]
          refine wpAnyH_take (i := 3) (oi := ⟨some 102, _, _, _, _, _⟩) (v := (.pointer (some ⟨sb, so + j * 6, none⟩))) rfl (by kernel_rfl) (by kernel_rfl) (by kernel_rfl) (fun _ _ _ h => h) (Or.inl ⟨by rfl, fun w' hw => by go_simp⟩) hHeld ?_
          try simp only [Act.put, List.setIfInBounds_toArray, List.set_cons_zero, List.set_cons_succ]
          refine wpAnyH_take (i := 4) (oi := ⟨some 103, _, _, _, _, _⟩) (v := (.pointer (some ⟨sb, so + j * 6, none⟩))) rfl (by kernel_rfl) (by kernel_rfl) (by kernel_rfl) (fun _ _ _ h => h) (Or.inl ⟨by rfl, fun w' hw => by go_simp⟩) hHeld ?_
          try simp only [Act.put, List.setIfInBounds_toArray, List.set_cons_zero, List.set_cons_succ]
          refine wpAnyH_take (i := 5) (oi := ⟨some 104, _, _, _, _, _⟩) (v := (.int .i64 (y2 j).1)) rfl (by kernel_rfl) (by kernel_rfl) (by kernel_rfl) (fun _ _ _ h => h) (Or.inl ⟨by rfl, fun w' hw => by (obtain ⟨q0, q1, q2, q3, q4, q5⟩ := st_cells (bst_in hw.2 hin); go_simp)⟩) hHeld ?_
          try simp only [Act.put, List.setIfInBounds_toArray, List.set_cons_zero, List.set_cons_succ]
          refine wpAnyH_take (i := 6) (oi := ⟨some 105, _, _, _, _, _⟩) (v := (.slice (some ⟨sb, so, none⟩) n2 c2)) rfl (by kernel_rfl) (by kernel_rfl) (by kernel_rfl) (fun _ _ _ h => h) (Or.inl ⟨by rfl, fun w' hw => by go_simp⟩) hHeld ?_
          try simp only [Act.put, List.setIfInBounds_toArray, List.set_cons_zero, List.set_cons_succ]
          refine wpAnyH_take (i := 7) (oi := ⟨some 106, _, _, _, _, _⟩) (v := (.int .i64 (j : Int))) rfl (by kernel_rfl) (by kernel_rfl) (by kernel_rfl) (fun _ _ _ h => h) (Or.inl ⟨by rfl, fun w' hw => by go_simp⟩) hHeld ?_
          try simp only [Act.put, List.setIfInBounds_toArray, List.set_cons_zero, List.set_cons_succ]
          refine wpAnyH_take (i := 8) (oi := ⟨some 107, _, _, _, _, _⟩) (v := (.pointer (some ⟨sb, so + j * 6, none⟩))) rfl (by kernel_rfl) (by kernel_rfl) (by kernel_rfl) (fun _ _ _ h => h) (Or.inl ⟨by rfl, fun w' hw => by go_simp⟩) hHeld ?_
          try simp only [Act.put, List.setIfInBounds_toArray, List.set_cons_zero, List.set_cons_succ]
          refine wpAnyH_take (i := 9) (oi := ⟨some 108, _, _, _, _, _⟩) (v := (.pointer (some ⟨sb, so + j * 6 + 1, none⟩))) rfl (by kernel_rfl) (by kernel_rfl) (by kernel_rfl) (fun _ _ _ h => h) (Or.inl ⟨by rfl, fun w' hw => by go_simp⟩) hHeld ?_
          try simp only [Act.put, List.setIfInBounds_toArray, List.set_cons_zero, List.set_cons_succ]
          refine wpAnyH_take (i := 10) (oi := ⟨some 109, _, _, _, _, _⟩) (v := (.int .u64 (y2 j).2.1)) rfl (by kernel_rfl) (by kernel_rfl) (by kernel_rfl) (fun _ _ _ h => h) (Or.inl ⟨by rfl, fun w' hw => by (obtain ⟨q0, q1, q2, q3, q4, q5⟩ := st_cells (bst_in hw.2 hin); go_simp)⟩) hHeld ?_
          try simp only [Act.put, List.setIfInBounds_toArray, List.set_cons_zero, List.set_cons_succ]
          refine wpAnyH_take (i := 11) (oi := ⟨some 110, _, _, _, _, _⟩) (v := (.slice (some ⟨sb, so, none⟩) n2 c2)) rfl (by kernel_rfl) (by kernel_rfl) (by kernel_rfl) (fun _ _ _ h => h) (Or.inl ⟨by rfl, fun w' hw => by go_simp⟩) hHeld ?_
          try simp only [Act.put, List.setIfInBounds_toArray, List.set_cons_zero, List.set_cons_succ]
          refine wpAnyH_take (i := 12) (oi := ⟨some 111, _, _, _, _, _⟩) (v := (.int .i64 (j : Int))) rfl (by kernel_rfl) (by kernel_rfl) (by kernel_rfl) (fun _ _ _ h => h) (Or.inl ⟨by rfl, fun w' hw => by go_simp⟩) hHeld ?_
          try simp only [Act.put, List.setIfInBounds_toArray, List.set_cons_zero, List.set_cons_succ]
          refine wpAnyH_take (i := 13) (oi := ⟨some 112, _, _, _, _, _⟩) (v := (.pointer (some ⟨sb, so + j * 6, none⟩))) rfl (by kernel_rfl) (by kernel_rfl) (by kernel_rfl) (fun _ _ _ h => h) (Or.inl ⟨by rfl, fun w' hw => by go_simp⟩) hHeld ?_
          try simp only [Act.put, List.setIfInBounds_toArray, List.set_cons_zero, List.set_cons_succ]
          refine wpAnyH_take (i := 14) (oi := ⟨some 113, _, _, _, _, _⟩) (v := (.pointer (some ⟨sb, so + j * 6 + 2, none⟩))) rfl (by kernel_rfl) (by kernel_rfl) (by kernel_rfl) (fun _ _ _ h => h) (Or.inl ⟨by rfl, fun w' hw => by go_simp⟩) hHeld ?_
          try simp only [Act.put, List.setIfInBounds_toArray, List.set_cons_zero, List.set_cons_succ]
          refine wpAnyH_take (i := 15) (oi := ⟨some 114, _, _, _, _, _⟩) (v := (.int .i64 (y2 j).2.2.1)) rfl (by kernel_rfl) (by kernel_rfl) (by kernel_rfl) (fun _ _ _ h => h) (Or.inl ⟨by rfl, fun w' hw => by (obtain ⟨q0, q1, q2, q3, q4, q5⟩ := st_cells (bst_in hw.2 hin); go_simp)⟩) hHeld ?_
          try simp only [Act.put, List.setIfInBounds_toArray, List.set_cons_zero, List.set_cons_succ]
          refine wpAnyH_take (i := 16) (oi := ⟨some 115, _, _, _, _, _⟩) (v := (.slice (some ⟨sb, so, none⟩) n2 c2)) rfl (by kernel_rfl) (by kernel_rfl) (by kernel_rfl) (fun _ _ _ h => h) (Or.inl ⟨by rfl, fun w' hw => by go_simp⟩) hHeld ?_
          try simp only [Act.put, List.setIfInBounds_toArray, List.set_cons_zero, List.set_cons_succ]
          refine wpAnyH_take (i := 17) (oi := ⟨some 116, _, _, _, _, _⟩) (v := (.int .i64 (j : Int))) rfl (by kernel_rfl) (by kernel_rfl) (by kernel_rfl) (fun _ _ _ h => h) (Or.inl ⟨by rfl, fun w' hw => by go_simp⟩) hHeld ?_
          try simp only [Act.put, List.setIfInBounds_toArray, List.set_cons_zero, List.set_cons_succ]
          refine wpAnyH_take (i := 18) (oi := ⟨some 117, _, _, _, _, _⟩) (v := (.pointer (some ⟨sb, so + j * 6, none⟩))) rfl (by kernel_rfl) (by kernel_rfl) (by kernel_rfl) (fun _ _ _ h => h) (Or.inl ⟨by rfl, fun w' hw => by go_simp⟩) hHeld ?_
          try simp only [Act.put, List.setIfInBounds_toArray, List.set_cons_zero, List.set_cons_succ]
          refine wpAnyH_take (i := 19) (oi := ⟨some 118, _, _, _, _, _⟩) (v := (.pointer (some ⟨sb, so + j * 6 + 3, none⟩))) rfl (by kernel_rfl) (by kernel_rfl) (by kernel_rfl) (fun _ _ _ h => h) (Or.inl ⟨by rfl, fun w' hw => by go_simp⟩) hHeld ?_
          try simp only [Act.put, List.setIfInBounds_toArray, List.set_cons_zero, List.set_cons_succ]
          refine wpAnyH_take (i := 20) (oi := ⟨some 119, _, _, _, _, _⟩) (v := (.int .u64 (y2 j).2.2.2.1)) rfl (by kernel_rfl) (by kernel_rfl) (by kernel_rfl) (fun _ _ _ h => h) (Or.inl ⟨by rfl, fun w' hw => by (obtain ⟨q0, q1, q2, q3, q4, q5⟩ := st_cells (bst_in hw.2 hin); go_simp)⟩) hHeld ?_
          try simp only [Act.put, List.setIfInBounds_toArray, List.set_cons_zero, List.set_cons_succ]
          refine wpAnyH_take (i := 22) (oi := ⟨some 121, _, _, _, _, _⟩) (v := (.slice (some ⟨sb, so, none⟩) n2 c2)) rfl (by kernel_rfl) (by kernel_rfl) (by kernel_rfl) (fun _ _ _ h => h) (Or.inl ⟨by rfl, fun w' hw => by go_simp⟩) hHeld ?_
          try simp only [Act.put, List.setIfInBounds_toArray, List.set_cons_zero, List.set_cons_succ]
          refine wpAnyH_take (i := 23) (oi := ⟨some 122, _, _, _, _, _⟩) (v := (.int .i64 (j : Int))) rfl (by kernel_rfl) (by kernel_rfl) (by kernel_rfl) (fun _ _ _ h => h) (Or.inl ⟨by rfl, fun w' hw => by go_simp⟩) hHeld ?_
          try simp only [Act.put, List.setIfInBounds_toArray, List.set_cons_zero, List.set_cons_succ]
          refine wpAnyH_take (i := 24) (oi := ⟨some 123, _, _, _, _, _⟩) (v := (.pointer (some ⟨sb, so + j * 6, none⟩))) rfl (by kernel_rfl) (by kernel_rfl) (by kernel_rfl) (fun _ _ _ h => h) (Or.inl ⟨by rfl, fun w' hw => by go_simp⟩) hHeld ?_
          try simp only [Act.put, List.setIfInBounds_toArray, List.set_cons_zero, List.set_cons_succ]
          refine wpAnyH_take (i := 25) (oi := ⟨some 124, _, _, _, _, _⟩) (v := (.pointer (some ⟨sb, so + j * 6 + 4, none⟩))) rfl (by kernel_rfl) (by kernel_rfl) (by kernel_rfl) (fun _ _ _ h => h) (Or.inl ⟨by rfl, fun w' hw => by go_simp⟩) hHeld ?_
          try simp only [Act.put, List.setIfInBounds_toArray, List.set_cons_zero, List.set_cons_succ]
          refine wpAnyH_take (i := 26) (oi := ⟨some 125, _, _, _, _, _⟩) (v := (.int .i64 (y2 j).2.2.2.2.1)) rfl (by kernel_rfl) (by kernel_rfl) (by kernel_rfl) (fun _ _ _ h => h) (Or.inl ⟨by rfl, fun w' hw => by (obtain ⟨q0, q1, q2, q3, q4, q5⟩ := st_cells (bst_in hw.2 hin); go_simp)⟩) hHeld ?_
          try simp only [Act.put, List.setIfInBounds_toArray, List.set_cons_zero, List.set_cons_succ]
          refine wpAnyH_take (i := 27) (oi := ⟨some 126, _, _, _, _, _⟩) (v := (.slice (some ⟨sb, so, none⟩) n2 c2)) rfl (by kernel_rfl) (by kernel_rfl) (by kernel_rfl) (fun _ _ _ h => h) (Or.inl ⟨by rfl, fun w' hw => by go_simp⟩) hHeld ?_
          try simp only [Act.put, List.setIfInBounds_toArray, List.set_cons_zero, List.set_cons_succ]
          refine wpAnyH_take (i := 28) (oi := ⟨some 127, _, _, _, _, _⟩) (v := (.int .i64 (j : Int))) rfl (by kernel_rfl) (by kernel_rfl) (by kernel_rfl) (fun _ _ _ h => h) (Or.inl ⟨by rfl, fun w' hw => by go_simp⟩) hHeld ?_
          try simp only [Act.put, List.setIfInBounds_toArray, List.set_cons_zero, List.set_cons_succ]
          refine wpAnyH_take (i := 29) (oi := ⟨some 128, _, _, _, _, _⟩) (v := (.pointer (some ⟨sb, so + j * 6, none⟩))) rfl (by kernel_rfl) (by kernel_rfl) (by kernel_rfl) (fun _ _ _ h => h) (Or.inl ⟨by rfl, fun w' hw => by go_simp⟩) hHeld ?_
          try simp only [Act.put, List.setIfInBounds_toArray, List.set_cons_zero, List.set_cons_succ]
          refine wpAnyH_take (i := 30) (oi := ⟨some 129, _, _, _, _, _⟩) (v := (.pointer (some ⟨sb, so + j * 6 + 5, none⟩))) rfl (by kernel_rfl) (by kernel_rfl) (by kernel_rfl) (fun _ _ _ h => h) (Or.inl ⟨by rfl, fun w' hw => by go_simp⟩) hHeld ?_
          try simp only [Act.put, List.setIfInBounds_toArray, List.set_cons_zero, List.set_cons_succ]
          refine wpAnyH_take (i := 31) (oi := ⟨some 130, _, _, _, _, _⟩) (v := (.int .i64 (y2 j).2.2.2.2.2)) rfl (by kernel_rfl) (by kernel_rfl) (by kernel_rfl) (fun _ _ _ h => h) (Or.inl ⟨by rfl, fun w' hw => by (obtain ⟨q0, q1, q2, q3, q4, q5⟩ := st_cells (bst_in hw.2 hin); go_simp)⟩) hHeld ?_
          try simp only [Act.put, List.setIfInBounds_toArray, List.set_cons_zero, List.set_cons_succ]
          refine one_ready 21 rfl (by kernel_rfl) (fun K hK => ?_)
          go_simp
          refine (data_of (y2 j).2.2.2.1 _).mono ?_
          rintro e w13 ⟨rfl, hb⟩
          have hE := hE.nob (Only.of_below hb)
          refine hK.out _ _ hE.hF (fun hHeld => ?_)
          clear hK K hb
          simp only [List.setIfInBounds_toArray, List.set_cons_zero, List.set_cons_succ]
          refine one_ready 32 rfl (by kernel_rfl) (fun K hK => ?_)
          go_simp
          refine (hE.stepZ HC.out ⟨(y2 j).1, (y2 j).2.1, (y2 j).2.2.1, dw (y2 j).2.2.2.1, (y2 j).2.2.2.2.1, (y2 j).2.2.2.2.2⟩ (by omega) r1.1 (fun j => dw_rng _ j)).mono ?_
          rintro e w13 ⟨⟨x, rfl⟩, o', hE'⟩
          clear hE
          have hE := hE'
          clear hE'
          refine hK.out _ _ hE.hF (fun hHeld => ?_)
          clear hK K
          simp only [List.setIfInBounds_toArray, List.set_cons_zero, List.set_cons_succ]
          refine wpAnyH_done (by kernel_rfl) ?_ _
          have HE := Lib.hid hE
          clear hE hHeld
          go_wp2_with fail
          go_roundw
          case rel => exact ⟨j + 1, by go_num, by omega, _, HE.out⟩
          case measure => simp [intOf]; omega
        · obtain rfl : j = n2 := by omega
          obtain ⟨s0, s1, s2, s3, s4, s5⟩ := HYa.out.rng
          obtain ⟨q0, q1, q2, q3, q4, q5⟩ := stb_cells hE.hF.1.1.1.2
          have k0 := cf_0 hE.hF.1.1.1.1
          have HE := Lib.hid hE
          clear hE
          go_wp2_with fail
          refine (pik_any ya.2.2.2.2.1 N _ (by omega) (by omega) s4.1 s4.2).mono ?_
          rintro e w6 ⟨rfl, rfl⟩
          have hfr := pik_lt ya.2.2.2.2.1 (show 0 < N by omega)
          generalize pik ya.2.2.2.2.1 N = fr at *
          clear q0 q1 q2 q3 q4 q5 k0
          go_wp2_with fail
          refine (HE.out.manyX).mono ?_
          rintro e w6 ⟨rfl, rfl⟩
          go_wp2_with fail
          refine (HE.out.manyZ).mono ?_
          rintro e w6 ⟨rfl, rfl⟩
          have hE := HE.out
          clear HE
          have htm : Int.tmod ya.2.1 1000 = ya.2.1 % 1000 := Int.tmod_eq_emod_of_nonneg s1.1
          go_upto_region 20 with fail
          have hE := hE.drew
          refine held_s (S := (fun u => (((Box u cb 25 (cfA N S T) ∧ Box u ab 45 (stc ya)) ∧ Box u (ab + 1) 45 (stc yb)) ∧ Stps u w3.heap.size a1 n1 y1) ∧ Stps u w3.heap.size a2 j y2)) 20 rfl (by kernel_rfl) hE.hF (fun hHeld => ?_)
          simp only [Array.replicate_succ, Array.replicate_zero, List.push_toArray, List.nil_append, List.cons_append]
          generalize World.drew _ = wd at *
          refine wpAnyH_take (i := 0) (oi := ⟨some 141, _, _, _, _, _⟩) (v := (.pointer (some ⟨lx, 0, none⟩))) rfl (by kernel_rfl) (by kernel_rfl) (by kernel_rfl) (fun _ _ _ h => h) (Or.inl ⟨by rfl, fun w' hw => by go_simp⟩) hHeld ?_
          try simp only [Act.put, List.setIfInBounds_toArray, List.set_cons_zero, List.set_cons_succ]
          refine wpAnyH_take (i := 1) (oi := ⟨some 142, _, _, _, _, _⟩) (v := (.pointer (some ⟨ab, 0, none⟩))) rfl (by kernel_rfl) (by kernel_rfl) (by kernel_rfl) (fun _ _ _ h => h) (Or.inl ⟨by rfl, fun w' hw => by go_simp⟩) hHeld ?_
          try simp only [Act.put, List.setIfInBounds_toArray, List.set_cons_zero, List.set_cons_succ]
          refine wpAnyH_take (i := 2) (oi := ⟨some 143, _, _, _, _, _⟩) (v := (.int .i64 ya.1)) rfl (by kernel_rfl) (by kernel_rfl) (by kernel_rfl) (fun _ _ _ h => h) (Or.inl ⟨by rfl, fun w' hw => by (obtain ⟨q0, q1, q2, q3, q4, q5⟩ := stb_cells hw.1.1.1.2; have k0 := cf_0 hw.1.1.1.1; go_simp)⟩) hHeld ?_
          try simp only [Act.put, List.setIfInBounds_toArray, List.set_cons_zero, List.set_cons_succ]
          refine wpAnyH_take (i := 4) (oi := ⟨some 145, _, _, _, _, _⟩) (v := (.pointer (some ⟨ab, 1, none⟩))) rfl (by kernel_rfl) (by kernel_rfl) (by kernel_rfl) (fun _ _ _ h => h) (Or.inl ⟨by rfl, fun w' hw => by go_simp⟩) hHeld ?_
          try simp only [Act.put, List.setIfInBounds_toArray, List.set_cons_zero, List.set_cons_succ]
          refine wpAnyH_take (i := 5) (oi := ⟨some 146, _, _, _, _, _⟩) (v := (.int .u64 ya.2.1)) rfl (by kernel_rfl) (by kernel_rfl) (by kernel_rfl) (fun _ _ _ h => h) (Or.inl ⟨by rfl, fun w' hw => by (obtain ⟨q0, q1, q2, q3, q4, q5⟩ := stb_cells hw.1.1.1.2; have k0 := cf_0 hw.1.1.1.1; go_simp)⟩) hHeld ?_
          try simp only [Act.put, List.setIfInBounds_toArray, List.set_cons_zero, List.set_cons_succ]
          refine wpAnyH_take (i := 6) (oi := ⟨some 147, _, _, _, _, _⟩) (v := (.int .u64 (ya.2.1 % 1000))) rfl (by kernel_rfl) (by kernel_rfl) (by kernel_rfl) (fun _ _ _ h => h) (Or.inl ⟨by rfl, fun w' hw => by (go_simp; try rw [htm])⟩) hHeld ?_
          try simp only [Act.put, List.setIfInBounds_toArray, List.set_cons_zero, List.set_cons_succ]
          refine wpAnyH_take (i := 7) (oi := ⟨some 148, _, _, _, _, _⟩) (v := (.pointer (some ⟨ab, 2, none⟩))) rfl (by kernel_rfl) (by kernel_rfl) (by kernel_rfl) (fun _ _ _ h => h) (Or.inl ⟨by rfl, fun w' hw => by go_simp⟩) hHeld ?_
          try simp only [Act.put, List.setIfInBounds_toArray, List.set_cons_zero, List.set_cons_succ]
          refine wpAnyH_take (i := 8) (oi := ⟨some 149, _, _, _, _, _⟩) (v := (.int .i64 ya.2.2.1)) rfl (by kernel_rfl) (by kernel_rfl) (by kernel_rfl) (fun _ _ _ h => h) (Or.inl ⟨by rfl, fun w' hw => by (obtain ⟨q0, q1, q2, q3, q4, q5⟩ := stb_cells hw.1.1.1.2; have k0 := cf_0 hw.1.1.1.1; go_simp)⟩) hHeld ?_
          try simp only [Act.put, List.setIfInBounds_toArray, List.set_cons_zero, List.set_cons_succ]
          refine wpAnyH_take (i := 10) (oi := ⟨some 151, _, _, _, _, _⟩) (v := (.pointer (some ⟨ab, 3, none⟩))) rfl (by kernel_rfl) (by kernel_rfl) (by kernel_rfl) (fun _ _ _ h => h) (Or.inl ⟨by rfl, fun w' hw => by go_simp⟩) hHeld ?_
          try simp only [Act.put, List.setIfInBounds_toArray, List.set_cons_zero, List.set_cons_succ]
          refine wpAnyH_take (i := 11) (oi := ⟨some 152, _, _, _, _, _⟩) (v := (.int .u64 ya.2.2.2.1)) rfl (by kernel_rfl) (by kernel_rfl) (by kernel_rfl) (fun _ _ _ h => h) (Or.inl ⟨by rfl, fun w' hw => by (obtain ⟨q0, q1, q2, q3, q4, q5⟩ := stb_cells hw.1.1.1.2; have k0 := cf_0 hw.1.1.1.1; go_simp)⟩) hHeld ?_
          try simp only [Act.put, List.setIfInBounds_toArray, List.set_cons_zero, List.set_cons_succ]
          refine wpAnyH_take (i := 13) (oi := ⟨some 154, _, _, _, _, _⟩) (v := (.int .i64 (fr : Int))) rfl (by kernel_rfl) (by kernel_rfl) (by kernel_rfl) (fun _ _ _ h => h) (Or.inl ⟨by rfl, fun w' hw => by go_simp⟩) hHeld ?_
          try simp only [Act.put, List.setIfInBounds_toArray, List.set_cons_zero, List.set_cons_succ]
          refine wpAnyH_take (i := 14) (oi := ⟨some 155, _, _, _, _, _⟩) (v := (.pointer (some ⟨ab, 5, none⟩))) rfl (by kernel_rfl) (by kernel_rfl) (by kernel_rfl) (fun _ _ _ h => h) (Or.inl ⟨by rfl, fun w' hw => by go_simp⟩) hHeld ?_
          try simp only [Act.put, List.setIfInBounds_toArray, List.set_cons_zero, List.set_cons_succ]
          refine wpAnyH_take (i := 15) (oi := ⟨some 156, _, _, _, _, _⟩) (v := (.int .i64 ya.2.2.2.2.2)) rfl (by kernel_rfl) (by kernel_rfl) (by kernel_rfl) (fun _ _ _ h => h) (Or.inl ⟨by rfl, fun w' hw => by (obtain ⟨q0, q1, q2, q3, q4, q5⟩ := stb_cells hw.1.1.1.2; have k0 := cf_0 hw.1.1.1.1; go_simp)⟩) hHeld ?_
          try simp only [Act.put, List.setIfInBounds_toArray, List.set_cons_zero, List.set_cons_succ]
          refine wpAnyH_take (i := 16) (oi := ⟨some 157, _, _, _, _, _⟩) (v := (.pointer (some ⟨cb, 0, none⟩))) rfl (by kernel_rfl) (by kernel_rfl) (by kernel_rfl) (fun _ _ _ h => h) (Or.inl ⟨by rfl, fun w' hw => by go_simp⟩) hHeld ?_
          try simp only [Act.put, List.setIfInBounds_toArray, List.set_cons_zero, List.set_cons_succ]
          refine wpAnyH_take (i := 17) (oi := ⟨some 158, _, _, _, _, _⟩) (v := (.int .i64 (N : Int))) rfl (by kernel_rfl) (by kernel_rfl) (by kernel_rfl) (fun _ _ _ h => h) (Or.inl ⟨by rfl, fun w' hw => by (obtain ⟨q0, q1, q2, q3, q4, q5⟩ := stb_cells hw.1.1.1.2; have k0 := cf_0 hw.1.1.1.1; go_simp)⟩) hHeld ?_
          try simp only [Act.put, List.setIfInBounds_toArray, List.set_cons_zero, List.set_cons_succ]
          refine one_ready 3 rfl (by kernel_rfl) (fun K hK => ?_)
          go_simp
          refine (pik_any ya.1 4 _ (by omega) (by omega) s0.1 s0.2).mono ?_
          rintro e w13 ⟨rfl, he⟩
          rw [he]
          refine hK.out _ _ hHeld (fun hHeld => ?_)
          clear hK K he w13
          simp only [List.setIfInBounds_toArray, List.set_cons_zero, List.set_cons_succ]
          refine one_ready 9 rfl (by kernel_rfl) (fun K hK => ?_)
          go_simp
          refine (pik_any ya.2.2.1 7 _ (by omega) (by omega) s2.1 s2.2).mono ?_
          rintro e w13 ⟨rfl, he⟩
          rw [he]
          refine hK.out _ _ hHeld (fun hHeld => ?_)
          clear hK K he w13
          simp only [List.setIfInBounds_toArray, List.set_cons_zero, List.set_cons_succ]
          refine one_ready 12 rfl (by kernel_rfl) (fun K hK => ?_)
          go_simp
          refine (data_of ya.2.2.2.1 _).mono ?_
          rintro e w13 ⟨rfl, hb⟩
          have hE := hE.nob (Only.of_below hb)
          refine hK.out _ _ hE.hF (fun hHeld => ?_)
          clear hK K hb
          simp only [List.setIfInBounds_toArray, List.set_cons_zero, List.set_cons_succ]
          refine one_ready 18 rfl (by kernel_rfl) (fun K hK => ?_)
          go_simp
          refine (pik_any ya.2.2.2.2.2 N _ (by omega) (by omega) s5.1 s5.2).mono ?_
          rintro e w13 ⟨rfl, he⟩
          rw [he]
          refine hK.out _ _ hHeld (fun hHeld => ?_)
          clear hK K he w13
          simp only [List.setIfInBounds_toArray, List.set_cons_zero, List.set_cons_succ]
          refine one_ready 19 rfl (by kernel_rfl) (fun K hK => ?_)
          go_simp
          refine (hE.stepX HC.out ⟨((pik ya.1 4 : Nat) : Int), ya.2.1 % 1000, ((pik ya.2.2.1 7 : Nat) : Int), dw ya.2.2.2.1, (fr : Int), ((pik ya.2.2.2.2.2 N : Nat) : Int)⟩ (by omega) (by show (0 : Int) ≤ ya.2.1 % 1000; omega) (fun j => dw_rng _ j)).mono ?_
          rintro e w13 ⟨⟨x, rfl⟩, oa, hE'⟩
          clear hE
          have hE := hE'
          clear hE'
          refine hK.out _ _ hE.hF (fun hHeld => ?_)
          clear hK K
          simp only [List.setIfInBounds_toArray, List.set_cons_zero, List.set_cons_succ]
          refine wpAnyH_done (by kernel_rfl) ?_ _
          have hsA := since_evs (N := N) (S := S) (D := D) (T := T) (f := 1) (P := P) (a := ⟨((pik ya.1 4 : Nat) : Int), ya.2.1 % 1000, ((pik ya.2.2.1 7 : Nat) : Int), dw ya.2.2.2.1, (fr : Int), ((pik ya.2.2.2.2.2 N : Nat) : Int)⟩) (M := M) (o := oa) (ok_one (pik_lt _ (by decide)) (pik_lt _ (by decide)) (by omega) (by omega) hfr (pik_lt _ (by omega)))
          generalize acM N S D T 1 P ⟨((pik ya.1 4 : Nat) : Int), ya.2.1 % 1000, ((pik ya.2.2.1 7 : Nat) : Int), dw ya.2.2.2.1, (fr : Int), ((pik ya.2.2.2.2.2 N : Nat) : Int)⟩ M oa = MA at *
          clear hHeld htm s0 s1 s2 s3 s4 s5
          obtain ⟨s0, s1, s2, s3, s4, s5⟩ := HYb.out.rng
          have htm : Int.tmod yb.2.1 1000 = yb.2.1 % 1000 := Int.tmod_eq_emod_of_nonneg s1.1
          go_upto_region 21 with fail
          have hE := hE.drew
          refine held_s (S := (fun u => (((Box u cb 25 (cfA N S T) ∧ Box u ab 45 (stc ya)) ∧ Box u (ab + 1) 45 (stc yb)) ∧ Stps u w3.heap.size a1 n1 y1) ∧ Stps u w3.heap.size a2 j y2)) 20 rfl (by kernel_rfl) hE.hF (fun hHeld => ?_)
          simp only [Array.replicate_succ, Array.replicate_zero, List.push_toArray, List.nil_append, List.cons_append]
          generalize World.drew _ = wd at *
          refine wpAnyH_take (i := 0) (oi := ⟨some 161, _, _, _, _, _⟩) (v := (.pointer (some ⟨lz, 0, none⟩))) rfl (by kernel_rfl) (by kernel_rfl) (by kernel_rfl) (fun _ _ _ h => h) (Or.inl ⟨by rfl, fun w' hw => by go_simp⟩) hHeld ?_
          try simp only [Act.put, List.setIfInBounds_toArray, List.set_cons_zero, List.set_cons_succ]
          refine wpAnyH_take (i := 1) (oi := ⟨some 162, _, _, _, _, _⟩) (v := (.pointer (some ⟨ab + 1, 0, none⟩))) rfl (by kernel_rfl) (by kernel_rfl) (by kernel_rfl) (fun _ _ _ h => h) (Or.inl ⟨by rfl, fun w' hw => by go_simp⟩) hHeld ?_
          try simp only [Act.put, List.setIfInBounds_toArray, List.set_cons_zero, List.set_cons_succ]
          refine wpAnyH_take (i := 2) (oi := ⟨some 163, _, _, _, _, _⟩) (v := (.int .i64 yb.1)) rfl (by kernel_rfl) (by kernel_rfl) (by kernel_rfl) (fun _ _ _ h => h) (Or.inl ⟨by rfl, fun w' hw => by (obtain ⟨q0, q1, q2, q3, q4, q5⟩ := stb_cells hw.1.1.2; have k0 := cf_0 hw.1.1.1.1; go_simp)⟩) hHeld ?_
          try simp only [Act.put, List.setIfInBounds_toArray, List.set_cons_zero, List.set_cons_succ]
          refine wpAnyH_take (i := 4) (oi := ⟨some 165, _, _, _, _, _⟩) (v := (.pointer (some ⟨ab + 1, 1, none⟩))) rfl (by kernel_rfl) (by kernel_rfl) (by kernel_rfl) (fun _ _ _ h => h) (Or.inl ⟨by rfl, fun w' hw => by go_simp⟩) hHeld ?_
          try simp only [Act.put, List.setIfInBounds_toArray, List.set_cons_zero, List.set_cons_succ]
          refine wpAnyH_take (i := 5) (oi := ⟨some 166, _, _, _, _, _⟩) (v := (.int .u64 yb.2.1)) rfl (by kernel_rfl) (by kernel_rfl) (by kernel_rfl) (fun _ _ _ h => h) (Or.inl ⟨by rfl, fun w' hw => by (obtain ⟨q0, q1, q2, q3, q4, q5⟩ := stb_cells hw.1.1.2; have k0 := cf_0 hw.1.1.1.1; go_simp)⟩) hHeld ?_
          try simp only [Act.put, List.setIfInBounds_toArray, List.set_cons_zero, List.set_cons_succ]
          refine wpAnyH_take (i := 6) (oi := ⟨some 167, _, _, _, _, _⟩) (v := (.int .u64 (yb.2.1 % 1000))) rfl (by kernel_rfl) (by kernel_rfl) (by kernel_rfl) (fun _ _ _ h => h) (Or.inl ⟨by rfl, fun w' hw => by (go_simp; try rw [htm])⟩) hHeld ?_
          try simp only [Act.put, List.setIfInBounds_toArray, List.set_cons_zero, List.set_cons_succ]
          refine wpAnyH_take (i := 7) (oi := ⟨some 168, _, _, _, _, _⟩) (v := (.pointer (some ⟨ab + 1, 2, none⟩))) rfl (by kernel_rfl) (by kernel_rfl) (by kernel_rfl) (fun _ _ _ h => h) (Or.inl ⟨by rfl, fun w' hw => by go_simp⟩) hHeld ?_
          try simp only [Act.put, List.setIfInBounds_toArray, List.set_cons_zero, List.set_cons_succ]
          refine wpAnyH_take (i := 8) (oi := ⟨some 169, _, _, _, _, _⟩) (v := (.int .i64 yb.2.2.1)) rfl (by kernel_rfl) (by kernel_rfl) (by kernel_rfl) (fun _ _ _ h => h) (Or.inl ⟨by rfl, fun w' hw => by (obtain ⟨q0, q1, q2, q3, q4, q5⟩ := stb_cells hw.1.1.2; have k0 := cf_0 hw.1.1.1.1; go_simp)⟩) hHeld ?_
          try simp only [Act.put, List.setIfInBounds_toArray, List.set_cons_zero, List.set_cons_succ]
          refine wpAnyH_take (i := 10) (oi := ⟨some 171, _, _, _, _, _⟩) (v := (.pointer (some ⟨ab + 1, 3, none⟩))) rfl (by kernel_rfl) (by kernel_rfl) (by kernel_rfl) (fun _ _ _ h => h) (Or.inl ⟨by rfl, fun w' hw => by go_simp⟩) hHeld ?_
          try simp only [Act.put, List.setIfInBounds_toArray, List.set_cons_zero, List.set_cons_succ]
          refine wpAnyH_take (i := 11) (oi := ⟨some 172, _, _, _, _, _⟩) (v := (.int .u64 yb.2.2.2.1)) rfl (by kernel_rfl) (by kernel_rfl) (by kernel_rfl) (fun _ _ _ h => h) (Or.inl ⟨by rfl, fun w' hw => by (obtain ⟨q0, q1, q2, q3, q4, q5⟩ := stb_cells hw.1.1.2; have k0 := cf_0 hw.1.1.1.1; go_simp)⟩) hHeld ?_
          try simp only [Act.put, List.setIfInBounds_toArray, List.set_cons_zero, List.set_cons_succ]
          refine wpAnyH_take (i := 13) (oi := ⟨some 174, _, _, _, _, _⟩) (v := (.int .i64 (fr : Int))) rfl (by kernel_rfl) (by kernel_rfl) (by kernel_rfl) (fun _ _ _ h => h) (Or.inl ⟨by rfl, fun w' hw => by go_simp⟩) hHeld ?_
          try simp only [Act.put, List.setIfInBounds_toArray, List.set_cons_zero, List.set_cons_succ]
          refine wpAnyH_take (i := 14) (oi := ⟨some 175, _, _, _, _, _⟩) (v := (.pointer (some ⟨ab + 1, 5, none⟩))) rfl (by kernel_rfl) (by kernel_rfl) (by kernel_rfl) (fun _ _ _ h => h) (Or.inl ⟨by rfl, fun w' hw => by go_simp⟩) hHeld ?_
          try simp only [Act.put, List.setIfInBounds_toArray, List.set_cons_zero, List.set_cons_succ]
          refine wpAnyH_take (i := 15) (oi := ⟨some 176, _, _, _, _, _⟩) (v := (.int .i64 yb.2.2.2.2.2)) rfl (by kernel_rfl) (by kernel_rfl) (by kernel_rfl) (fun _ _ _ h => h) (Or.inl ⟨by rfl, fun w' hw => by (obtain ⟨q0, q1, q2, q3, q4, q5⟩ := stb_cells hw.1.1.2; have k0 := cf_0 hw.1.1.1.1; go_simp)⟩) hHeld ?_
          try simp only [Act.put, List.setIfInBounds_toArray, List.set_cons_zero, List.set_cons_succ]
          refine wpAnyH_take (i := 16) (oi := ⟨some 177, _, _, _, _, _⟩) (v := (.pointer (some ⟨cb, 0, none⟩))) rfl (by kernel_rfl) (by kernel_rfl) (by kernel_rfl) (fun _ _ _ h => h) (Or.inl ⟨by rfl, fun w' hw => by go_simp⟩) hHeld ?_
          try simp only [Act.put, List.setIfInBounds_toArray, List.set_cons_zero, List.set_cons_succ]
          refine wpAnyH_take (i := 17) (oi := ⟨some 178, _, _, _, _, _⟩) (v := (.int .i64 (N : Int))) rfl (by kernel_rfl) (by kernel_rfl) (by kernel_rfl) (fun _ _ _ h => h) (Or.inl ⟨by rfl, fun w' hw => by (obtain ⟨q0, q1, q2, q3, q4, q5⟩ := stb_cells hw.1.1.2; have k0 := cf_0 hw.1.1.1.1; go_simp)⟩) hHeld ?_
          try simp only [Act.put, List.setIfInBounds_toArray, List.set_cons_zero, List.set_cons_succ]
          refine one_ready 3 rfl (by kernel_rfl) (fun K hK => ?_)
          go_simp
          refine (pik_any yb.1 4 _ (by omega) (by omega) s0.1 s0.2).mono ?_
          rintro e w13 ⟨rfl, he⟩
          rw [he]
          refine hK.out _ _ hHeld (fun hHeld => ?_)
          clear hK K he w13
          simp only [List.setIfInBounds_toArray, List.set_cons_zero, List.set_cons_succ]
          refine one_ready 9 rfl (by kernel_rfl) (fun K hK => ?_)
          go_simp
          refine (pik_any yb.2.2.1 7 _ (by omega) (by omega) s2.1 s2.2).mono ?_
          rintro e w13 ⟨rfl, he⟩
          rw [he]
          refine hK.out _ _ hHeld (fun hHeld => ?_)
          clear hK K he w13
          simp only [List.setIfInBounds_toArray, List.set_cons_zero, List.set_cons_succ]
          refine one_ready 12 rfl (by kernel_rfl) (fun K hK => ?_)
          go_simp
          refine (data_of yb.2.2.2.1 _).mono ?_
          rintro e w13 ⟨rfl, hb⟩
          have hE := hE.nob (Only.of_below hb)
          refine hK.out _ _ hE.hF (fun hHeld => ?_)
          clear hK K hb
          simp only [List.setIfInBounds_toArray, List.set_cons_zero, List.set_cons_succ]
          refine one_ready 18 rfl (by kernel_rfl) (fun K hK => ?_)
          go_simp
          refine (pik_any yb.2.2.2.2.2 N _ (by omega) (by omega) s5.1 s5.2).mono ?_
          rintro e w13 ⟨rfl, he⟩
          rw [he]
          refine hK.out _ _ hHeld (fun hHeld => ?_)
          clear hK K he w13
          simp only [List.setIfInBounds_toArray, List.set_cons_zero, List.set_cons_succ]
          refine one_ready 19 rfl (by kernel_rfl) (fun K hK => ?_)
          go_simp
          refine (hE.stepZ HC.out ⟨((pik yb.1 4 : Nat) : Int), yb.2.1 % 1000, ((pik yb.2.2.1 7 : Nat) : Int), dw yb.2.2.2.1, (fr : Int), ((pik yb.2.2.2.2.2 N : Nat) : Int)⟩ (by omega) (by show (0 : Int) ≤ yb.2.1 % 1000; omega) (fun j => dw_rng _ j)).mono ?_
          rintro e w13 ⟨⟨x, rfl⟩, ob, hE'⟩
          clear hE
          have hE := hE'
          clear hE'
          refine hK.out _ _ hE.hF (fun hHeld => ?_)
          clear hK K
          simp only [List.setIfInBounds_toArray, List.set_cons_zero, List.set_cons_succ]
          refine wpAnyH_done (by kernel_rfl) ?_ _
          have hsB := since_evs (N := N) (S := S) (D := D) (T := T) (f := 1) (P := P) (a := ⟨((pik yb.1 4 : Nat) : Int), yb.2.1 % 1000, ((pik yb.2.2.1 7 : Nat) : Int), dw yb.2.2.2.1, (fr : Int), ((pik yb.2.2.2.2.2 N : Nat) : Int)⟩) (M := M2) (o := ob) (ok_one (pik_lt _ (by decide)) (pik_lt _ (by decide)) (by omega) (by omega) hfr (pik_lt _ (by omega)))
          generalize acM N S D T 1 P ⟨((pik yb.1 4 : Nat) : Int), yb.2.1 % 1000, ((pik yb.2.2.1 7 : Nat) : Int), dw yb.2.2.2.1, (fr : Int), ((pik yb.2.2.2.2.2 N : Nat) : Int)⟩ M2 ob = MB at *
          clear hHeld htm s0 s1 s2 s3 s4 s5
          obtain ⟨le, hle'⟩ : ∃ le, evA S D T 1 P fr = le := ⟨_, rfl⟩
          have hsA : MA.es.drop (cut MA.es.length (M.es.length : Int)) = le := hsA.trans hle'
          have hsB : MB.es.drop (cut MB.es.length (M2.es.length : Int)) = le := hsB.trans hle'
          have hev := fun W => levents_right HC.out 1 fr (by decide) hfr W
          simp only [hle'] at hev
          have HEv := Lib.hid hev
          clear hev
          have hle9 : le.length ≤ 1000000000 := by rw [← hle']; have := evA_len HC.out 1 fr; omega
          have hpos : 0 < le.length := by
            rw [← hle']
            unfold evA
            simp only [List.length_append, evE_len]
            have := Nat.two_pow_pos P
            omega
          go_upto_region 22 with fail
          have hE := hE.drew
          refine held_s (S := (fun u => Box u cb 25 (cfA N S T))) 24 rfl (by kernel_rfl) hE.hF.1.1.1.1 (fun hHeld => ?_)
          simp only [Array.replicate_succ, Array.replicate_zero, List.push_toArray, List.nil_append, List.cons_append]
          generalize World.drew _ = wd at *
          refine wpAnyH_take (i := 0) (oi := ⟨some 181, _, _, _, _, _⟩) (v := (.pointer (some ⟨mp, 0, none⟩))) rfl (by kernel_rfl) (by kernel_rfl) (by kernel_rfl) (fun _ _ _ h => h) (Or.inl ⟨by rfl, fun w' hw => by go_simp⟩) hHeld ?_
          try simp only [Act.put, List.setIfInBounds_toArray, List.set_cons_zero, List.set_cons_succ]
          refine wpAnyH_take (i := 1) (oi := ⟨some 182, _, _, _, _, _⟩) (v := (.int .i64 (M.es.length : Int))) rfl (by kernel_rfl) (by kernel_rfl) (by kernel_rfl) (fun _ _ _ h => h) (Or.inl ⟨by rfl, fun w' hw => by go_simp⟩) hHeld ?_
          try simp only [Act.put, List.setIfInBounds_toArray, List.set_cons_zero, List.set_cons_succ]
          refine wpAnyH_take (i := 3) (oi := ⟨some 184, _, _, _, _, _⟩) (v := (.pointer (some ⟨np, 0, none⟩))) rfl (by kernel_rfl) (by kernel_rfl) (by kernel_rfl) (fun _ _ _ h => h) (Or.inl ⟨by rfl, fun w' hw => by go_simp⟩) hHeld ?_
          try simp only [Act.put, List.setIfInBounds_toArray, List.set_cons_zero, List.set_cons_succ]
          refine wpAnyH_take (i := 4) (oi := ⟨some 185, _, _, _, _, _⟩) (v := (.int .i64 (M2.es.length : Int))) rfl (by kernel_rfl) (by kernel_rfl) (by kernel_rfl) (fun _ _ _ h => h) (Or.inl ⟨by rfl, fun w' hw => by go_simp⟩) hHeld ?_
          try simp only [Act.put, List.setIfInBounds_toArray, List.set_cons_zero, List.set_cons_succ]
          refine one_ready 2 rfl (by kernel_rfl) (fun K hK => ?_)
          go_simp
          have hq := hE.sinceX (by omega) (M.es.length : Int)
          rw [hsA] at hq
          refine hq.mono ?_
          rintro e w13 ⟨A1, cap1, rfl, ht, ho, -⟩
          have hV1 := ht.view.i
          have hE := hE.nob ho
          refine hK.out _ _ hE.hF.1.1.1.1 (fun hHeld => ?_)
          clear hK K ht ho hq
          simp only [List.setIfInBounds_toArray, List.set_cons_zero, List.set_cons_succ]
          refine one_ready 5 rfl (by kernel_rfl) (fun K hK => ?_)
          go_simp
          have hq := hE.sinceZ (by omega) (M2.es.length : Int)
          rw [hsB] at hq
          refine hq.mono ?_
          rintro e w13 ⟨A2, cap2, rfl, ht, ho, -⟩
          have hV2 := ht.view.i
          have hV1 := hV1.only ho
          have hE := hE.nob ho
          refine hK.out _ _ hE.hF.1.1.1.1 (fun hHeld => ?_)
          clear hK K ht ho hq
          simp only [List.setIfInBounds_toArray, List.set_cons_zero, List.set_cons_succ]
          refine one_ready 6 rfl (by kernel_rfl) (fun K hK => ?_)
          go_simp
          refine (same_told A1 A2 le.length cap1 cap2 (le.map evI) (le.map evI) _ (List.length_map _) rfl hV1 hV2 hle9).mono ?_
          rintro e w13 ⟨rfl, ho⟩
          have hE := hE.nob ho
          refine hK.out _ _ hE.hF.1.1.1.1 (fun hHeld => ?_)
          clear hK K ho
          simp only [List.setIfInBounds_toArray, List.set_cons_zero, List.set_cons_succ]
          refine wpAnyH_take (i := 7) (oi := ⟨some 188, _, _, _, _, _⟩) (v := (.bool true)) rfl (by kernel_rfl) (by kernel_rfl) (by kernel_rfl) (fun _ _ _ h => h) (Or.inl ⟨by rfl, fun w' hw => by go_simp⟩) hHeld ?_
          try simp only [Act.put, List.setIfInBounds_toArray, List.set_cons_zero, List.set_cons_succ]
          refine wpAnyH_take (i := 8) (oi := ⟨some 189, _, _, _, _, _⟩) (v := (.pointer (some ⟨mp, 0, none⟩))) rfl (by kernel_rfl) (by kernel_rfl) (by kernel_rfl) (fun _ _ _ h => h) (Or.inl ⟨by rfl, fun w' hw => by go_simp⟩) hHeld ?_
          try simp only [Act.put, List.setIfInBounds_toArray, List.set_cons_zero, List.set_cons_succ]
          refine wpAnyH_take (i := 9) (oi := ⟨some 190, _, _, _, _, _⟩) (v := (.int .i64 (M.es.length : Int))) rfl (by kernel_rfl) (by kernel_rfl) (by kernel_rfl) (fun _ _ _ h => h) (Or.inl ⟨by rfl, fun w' hw => by go_simp⟩) hHeld ?_
          try simp only [Act.put, List.setIfInBounds_toArray, List.set_cons_zero, List.set_cons_succ]
          refine wpAnyH_take (i := 11) (oi := ⟨some 192, _, _, _, _, _⟩) (v := (.agg #[.int .i64 (N : Int), .int .i64 (S : Int), .int .i64 (T : Int)])) rfl (by kernel_rfl) (by kernel_rfl) (by kernel_rfl) (fun _ _ _ h => h) (Or.inl ⟨by rfl, fun w' hw => by (have k0 := cf_0 hw; have k1 := cf_1 hw; have k2 := cf_2 hw; go_simp)⟩) hHeld ?_
          try simp only [Act.put, List.setIfInBounds_toArray, List.set_cons_zero, List.set_cons_succ]
          refine wpAnyH_take (i := 12) (oi := ⟨some 193, _, _, _, _, _⟩) (v := (.int .i64 (fr : Int))) rfl (by kernel_rfl) (by kernel_rfl) (by kernel_rfl) (fun _ _ _ h => h) (Or.inl ⟨by rfl, fun w' hw => by go_simp⟩) hHeld ?_
          try simp only [Act.put, List.setIfInBounds_toArray, List.set_cons_zero, List.set_cons_succ]
          refine one_ready 10 rfl (by kernel_rfl) (fun K hK => ?_)
          go_simp
          have hq := hE.sinceX (by omega) (M.es.length : Int)
          rw [hsA] at hq
          refine hq.mono ?_
          rintro e w13 ⟨A3, cap3, rfl, ht, ho, -⟩
          have hV3 := ht.view.i
          have hE := hE.nob ho
          refine hK.out _ _ hE.hF.1.1.1.1 (fun hHeld => ?_)
          clear hK K ht ho hq
          simp only [List.setIfInBounds_toArray, List.set_cons_zero, List.set_cons_succ]
          refine one_ready 13 rfl (by kernel_rfl) (fun K hK => ?_)
          go_simp
          refine (HEv.out _).mono ?_
          rintro e w13 ⟨A4, cap4, rfl, hV4, ho⟩
          rw [List.length_map]
          have hV3 := hV3.only ho
          have hE := hE.nob ho
          refine hK.out _ _ hE.hF.1.1.1.1 (fun hHeld => ?_)
          clear hK K ho
          simp only [List.setIfInBounds_toArray, List.set_cons_zero, List.set_cons_succ]
          refine one_ready 14 rfl (by kernel_rfl) (fun K hK => ?_)
          go_simp
          refine (same_told A3 A4 le.length cap3 cap4 (le.map evI) (le.map evI) _ (List.length_map _) rfl hV3 hV4 hle9).mono ?_
          rintro e w13 ⟨rfl, ho⟩
          have hE := hE.nob ho
          refine hK.out _ _ hE.hF.1.1.1.1 (fun hHeld => ?_)
          clear hK K ho
          simp only [List.setIfInBounds_toArray, List.set_cons_zero, List.set_cons_succ]
          refine wpAnyH_take (i := 15) (oi := ⟨some 196, _, _, _, _, _⟩) (v := (.bool true)) rfl (by kernel_rfl) (by kernel_rfl) (by kernel_rfl) (fun _ _ _ h => h) (Or.inl ⟨by rfl, fun w' hw => by go_simp⟩) hHeld ?_
          try simp only [Act.put, List.setIfInBounds_toArray, List.set_cons_zero, List.set_cons_succ]
          refine wpAnyH_take (i := 16) (oi := ⟨some 197, _, _, _, _, _⟩) (v := (.bool true)) rfl (by kernel_rfl) (by kernel_rfl) (by kernel_rfl) (fun _ _ _ h => h) (Or.inl ⟨by rfl, fun w' hw => by go_simp⟩) hHeld ?_
          try simp only [Act.put, List.setIfInBounds_toArray, List.set_cons_zero, List.set_cons_succ]
          refine wpAnyH_take (i := 17) (oi := ⟨some 198, _, _, _, _, _⟩) (v := (.pointer (some ⟨mp, 0, none⟩))) rfl (by kernel_rfl) (by kernel_rfl) (by kernel_rfl) (fun _ _ _ h => h) (Or.inl ⟨by rfl, fun w' hw => by go_simp⟩) hHeld ?_
          try simp only [Act.put, List.setIfInBounds_toArray, List.set_cons_zero, List.set_cons_succ]
          refine wpAnyH_take (i := 18) (oi := ⟨some 199, _, _, _, _, _⟩) (v := (.int .i64 (M.es.length : Int))) rfl (by kernel_rfl) (by kernel_rfl) (by kernel_rfl) (fun _ _ _ h => h) (Or.inl ⟨by rfl, fun w' hw => by go_simp⟩) hHeld ?_
          try simp only [Act.put, List.setIfInBounds_toArray, List.set_cons_zero, List.set_cons_succ]
          refine one_ready 19 rfl (by kernel_rfl) (fun K hK => ?_)
          go_simp
          have hq := hE.sinceX (by omega) (M.es.length : Int)
          rw [hsA] at hq
          refine hq.mono ?_
          rintro e w13 ⟨A5, cap5, rfl, ht, ho, -⟩
          have hV5 := ht.view.i
          have hE := hE.nob ho
          refine hK.out _ _ hE.hF.1.1.1.1 (fun hHeld => ?_)
          clear hK K ht ho hq
          simp only [List.setIfInBounds_toArray, List.set_cons_zero, List.set_cons_succ]
          refine wpAnyH_take (i := 20) (oi := ⟨some 201, _, _, _, _, _⟩) (v := (.int .i64 (le.length : Int))) rfl (by kernel_rfl) (by kernel_rfl) (by kernel_rfl) (fun _ _ _ h => h) (Or.inl ⟨by rfl, fun w' hw => by go_simp⟩) hHeld ?_
          try simp only [Act.put, List.setIfInBounds_toArray, List.set_cons_zero, List.set_cons_succ]
          refine wpAnyH_take (i := 21) (oi := ⟨some 202, _, _, _, _, _⟩) (v := (.bool true)) rfl (by kernel_rfl) (by kernel_rfl) (by kernel_rfl) (fun _ _ _ h => h) (Or.inl ⟨by rfl, fun w' hw => by go_simp⟩) hHeld ?_
          try simp only [Act.put, List.setIfInBounds_toArray, List.set_cons_zero, List.set_cons_succ]
          refine wpAnyH_take (i := 22) (oi := ⟨some 203, _, _, _, _, _⟩) (v := (.bool true)) rfl (by kernel_rfl) (by kernel_rfl) (by kernel_rfl) (fun _ _ _ h => h) (Or.inl ⟨by rfl, fun w' hw => by go_simp⟩) hHeld ?_
          try simp only [Act.put, List.setIfInBounds_toArray, List.set_cons_zero, List.set_cons_succ]
          refine wpAnyH_take (i := 23) (oi := ⟨some 10, _, _, _, _, _⟩) (v := (.bool true)) rfl (by kernel_rfl) (by kernel_rfl) (by kernel_rfl) (fun _ _ _ h => h) (Or.inl ⟨by rfl, fun w' hw => by go_simp⟩) hHeld ?_
          try simp only [Act.put, List.setIfInBounds_toArray, List.set_cons_zero, List.set_cons_succ]
          refine wpAnyH_done (by kernel_rfl) ?_ _
          have HB := Lib.hid (HB3.out.trans (hE.kp.mono HB3.out.size))
          clear hE hHeld
          go_wp2_with fail
          go_ret
          exact ⟨rfl, HB.out⟩
set_option maxRecDepth 100000 in
set_option maxHeartbeats 4000000 in
theorem blind_law10 (n : Int) (a1 : Option Addr) (n1 c1 : Nat) (y1 : Nat → Stp) (a2 : Option Addr) (n2 c2 : Nat) (y2 : Nat → Stp) (ya yb : Stp) (w : World) (hn : (Lit.int .i64 n).wf = true) (hS1 : Stps w w.heap.size a1 n1 y1) (hy1 : ∀ j, j < n1 → StOk (y1 j)) (hS2 : Stps w w.heap.size a2 n2 y2) (hy2 : ∀ j, j < n2 → StOk (y2 j)) (hya : StOk ya) (hyb : StOk yb) :
    Calls Tryz.prog 6 #[.int .i64 n, .slice a1 n1 c1, .slice a2 n2 c2, .agg (stc ya), .agg (stc yb)] w fun e w' => e = .returned (.bool true) ∧ Below w.heap.size w w' := by
  have h : n1 ≤ 12 ∧ n2 ≤ 12 ∨ 12 < n1 ∨ n1 ≤ 12 ∧ 12 < n2 := by omega
  rcases h with h | h | h
  · exact blind_in10 n a1 n1 c1 y1 a2 n2 c2 y2 ya yb w hn hS1 hy1 hS2 hy2 hya hyb h.1 h.2
  · have g1 : (12 : Int) < (n1 : Int) := by omega
    have HW0b : Hid (Below w.heap.size w ((w.alloc (.cells (stc ya) 45)).alloc (.cells (stc yb) 45))) := Lib.hid (((Below.refl _ w).alloc (Nat.le_refl _) _).alloc (by simp) _)
    clear hS1 hy1 hS2 hy2 hya hyb hn h
    go_enter Tryz.func6, Tryz.ntmps6
    go_upto_region 1 with fail
    generalize (w.alloc (.cells (stc ya) 45)).alloc (.cells (stc yb) 45) = w0 at *
    go_wp2_with fail
    refine (shown_of _).mono ?_
    rintro e w1 ⟨rfl, hb1⟩
    have HB1 := Lib.hid (HW0b.out.trans (hb1.mono HW0b.out.size))
    clear hb1
    go_wp2_with fail
    go_ret
    exact ⟨rfl, HB1.out⟩
  · have g1 : ¬ (12 : Int) < (n1 : Int) := by omega
    have g2 : (12 : Int) < (n2 : Int) := by omega
    have HW0b : Hid (Below w.heap.size w ((w.alloc (.cells (stc ya) 45)).alloc (.cells (stc yb) 45))) := Lib.hid (((Below.refl _ w).alloc (Nat.le_refl _) _).alloc (by simp) _)
    clear hS1 hy1 hS2 hy2 hya hyb hn h
    go_enter Tryz.func6, Tryz.ntmps6
    go_upto_region 1 with fail
    generalize (w.alloc (.cells (stc ya) 45)).alloc (.cells (stc yb) 45) = w0 at *
    go_wp2_with fail
    refine (shown_of _).mono ?_
    rintro e w1 ⟨rfl, hb1⟩
    have HB1 := Lib.hid (HW0b.out.trans (hb1.mono HW0b.out.size))
    clear hb1
    go_wp2_with fail
    go_ret
    exact ⟨rfl, HB1.out⟩
end Go.Proofs.YtdbjaaalngbpgaaGreat
