/- StoreRoom: while no more than Stash blocks were ever put on any level, none is lost. -/
import Derived.Test.YtloibfdcahmhjaaGreatG49
namespace Go.Proofs.YtloibfdcahmhjaaGreat
set_option maxRecDepth 100000
open Go.RowKit Go.ChangeShapes Go.WideShapes Go.ChangeAt Go.Maps Go.Deep

theorem StS.rngS {c : SC} {a : SA} {W : World} {Z : Nat → Prop} {cb : Nat} {cs : Array Value} {t : TypeId} {g : SG} {k : Nat} {wr : World} {b o nl : Nat} {y : Nat → Sp3} (h : StS c a W Z (fun u => Box u cb t cs ∧ Sps3 u W.heap.size (some ⟨b, o, none⟩) nl y) g k wr) {i : Nat} (hi : i < nl) : wr.rangeAt b (o + i * 3) (s3c (y i)).toList := by
  obtain ⟨b', o', e, _, hr⟩ := h.hF.2.at hi
  injection e with e
  injection e with e1 e2
  rw [e1, e2]
  exact hr
set_option linter.unusedSimpArgs false in
set_option maxRecDepth 100000 in
set_option linter.unusedSimpArgs false in
set_option maxHeartbeats 8000000 in
theorem sroom_law (n : Int) (A : Option Addr) (nz cz : Nat) (z : Nat → Int) (ya : Option Addr) (nl c' : Nat) (y : Nat → Sp3) (w : World) (hn : (Lit.int .i64 n).wf = true) (hz : Nums .u64 w w.heap.size A nz z) (hzr : ∀ j, j < nz → (Lit.int .u64 (z j)).wf = true) (hS : Sps3 w w.heap.size ya nl y) (hy : ∀ j, j < nl → Sp3Ok (y j)) :
    Calls Tryz.prog 10 #[.int .i64 n, .slice A nz cz, .slice ya nl c'] w fun e w' => e = .returned (.bool true) ∧ Below w.heap.size w w' := by
  by_cases hl : 24 < nl
  · have h24 : (24 : Int) < (nl : Int) := by omega
    go_enter Tryz.func10, Tryz.ntmps10
    go_wp2_with fail
    refine (sshown_of _).mono ?_
    rintro e w1 ⟨rfl, hb1⟩
    have HB1 := Lib.hid hb1
    clear hb1
    go_wp2_with fail
    go_ret
    exact ⟨rfl, HB1.out⟩
  · have h24 : ¬ (24 : Int) < (nl : Int) := by omega
    by_cases hl2 : 400 < nz
    · have h400 : (400 : Int) < (nz : Int) := by omega
      go_enter Tryz.func10, Tryz.ntmps10
      go_wp2_with fail
      refine (sshown_of _).mono ?_
      rintro e w1 ⟨rfl, hb1⟩
      have HB1 := Lib.hid hb1
      clear hb1
      go_wp2_with fail
      go_ret
      exact ⟨rfl, HB1.out⟩
    · have h400 : ¬ (400 : Int) < (nz : Int) := by omega
      obtain ⟨c, hc, hsm, hcf, hmd⟩ := slaw_config n (i64_rng hn).1 (i64_rng hn).2
      have hn4 := hc.n4
      have HBn : Hid (c.B = ((2 ^ c.b : Nat) : Int) ∧ 2 ^ c.b ≤ 32) := Lib.hid ⟨hc.bB.symm, by have : 2 ^ c.b ≤ 2 ^ 5 := Nat.pow_le_pow_right (by decide) hsm.1; omega⟩
      have HCf := Lib.hid hcf
      have HMd := Lib.hid hmd
      have HC := Lib.hid hc
      have HSt := Lib.hid hS
      have HYk := Lib.hid hy
      have HZ := Lib.hid hz
      have HZr : Hid (∀ j, j < nz → 0 ≤ z j ∧ z j ≤ 18446744073709551615) := Lib.hid fun j hj => u64_rng (hzr j hj)
      clear hcf hmd hc hS hy hn hz hzr hsm
      go_enter Tryz.func10, Tryz.ntmps10
      go_wp2_with fail
      refine (sshown_of _).mono ?_
      rintro e w1 ⟨rfl, hb1⟩
      have HB1 := Lib.hid hb1
      clear hb1
      go_wp2_with fail
      refine (HCf.out _).mono ?_
      rintro e w2 ⟨rfl, hb2⟩
      have HB2 := Lib.hid (HB1.out.trans (hb2.mono HB1.out.size))
      clear hb2 HB1 HCf
      go_upto_region 5 with (refine wpList_store_newS rfl (.tmp 8) (.tmp 31) rfl rfl c rfl rfl ?_)
      obtain ⟨cb, hcb⟩ : ∃ b, w2.heap.size = b := ⟨_, rfl⟩
      have hbx := Box.new w2 79 (sfA c)
      have HB3 := Lib.hid (HB2.out.alloc HB2.out.size (.cells (sfA c) 79))
      have hcs : cb < (w2.alloc (.cells (sfA c) 79)).heap.size := by rw [← hcb]; exact hbx.lt
      have hws : w.heap.size ≤ cb := by rw [← hcb]; exact HB2.out.size
      rw [hcb] at hbx ⊢
      have HBx := Lib.hid hbx
      have HCs := Lib.hid hcs
      have HWs := Lib.hid hws
      clear hcb hbx hcs hws HB2
      generalize w2.alloc (.cells (sfA c) 79) = w3 at *
      have k0 := sc_0 HBx.out
      have k1 := sc_1 HBx.out
      have k2 := sc_2 HBx.out
      have k3 := sc_3 HBx.out
      go_wp2_with fail
      refine (HMd.out w3 A nz cz z ((HZ.out.below HB3.out).more HB3.out.size) (by omega) HZr.out).mono ?_
      rintro e w4 ⟨a, rfl, hSt, ho4⟩
      obtain ⟨Z, hZc, hE⟩ : ∃ Z : Nat → Prop, Z cb ∧ StS c a w Z (fun u => Box u cb 79 (sfA c) ∧ Sps3 u w.heap.size ya nl y) (sg0 c nz z) 0 w4 := ⟨fun i => i < w3.heap.size, HCs.out, StS.made hSt ho4 HB3.out ⟨HBx.out, HSt.out.below HB3.out⟩ (fun u u' hs hk h => ⟨hk.box h.1 HCs.out, h.2.below ((hk.mono fun i hi => by have := HB3.out.size; show i < w3.heap.size; omega).below hs (fun _ h => h))⟩)⟩
      have HZc := Lib.hid hZc
      have HE := Lib.hid hE
      clear ho4 hSt HMd HB3 HBx k0 k1 k2 k3 HCs hZc hE w3
      have HR := Lib.hid (rmS_new c nz z)
      generalize sg0 c nz z = g0 at *
      go_wp2_with fail
      go_loopw [12] (fun v wr => ∃ i : Nat, v = .int .i64 i ∧ i ≤ nl ∧ ∃ g, RmS c g ∧ StS c a w Z (fun u => Box u cb 79 (sfA c) ∧ Sps3 u w.heap.size ya nl y) g (20 * i) wr) (fun v _ => nl - (intOf v).toNat)
      case atStart => exact ⟨0, rfl, by omega, _, HR.out, HE.out⟩
      case round =>
        obtain ⟨i, rfl, hi, g, hR, hE⟩ := hrel
        have HR2 := Lib.hid hR
        clear hR HR HE
        by_cases hin : i < nl
        · obtain ⟨yb, yo, rfl, _, _⟩ := HSt.out.at hin
          obtain ⟨r0, r1, r2⟩ := (HYk.out i hin).rng
          have hnn : (i : Int) < (nl : Int) := by omega
          obtain ⟨eB, hB32⟩ := HBn.out
          obtain ⟨B, hBB⟩ : ∃ B, 2 ^ c.b = B := ⟨_, rfl⟩
          have hBp := Nat.two_pow_pos c.b
          rw [hBB] at eB hB32 hBp
          have hB0 : ¬ c.B = 0 := by rw [eB]; omega
          have hwB : IntKind.u64.wrap c.B = c.B := by rw [IntKind.wrap_u64, eB]; omega
          have hwT : (y i).2.1.tmod c.B = ((idM c (y i).2.1 : Nat) : Int) := by
            unfold idM
            rw [eB, hBB]
            obtain ⟨u, hu⟩ := Int.eq_ofNat_of_zero_le r1.1
            rw [hu, Int.toNat_natCast]
            rfl
          clear eB hB32 hBp hBB
          have hi24 : i < 24 := by omega
          go_upto_region 11 with fail
          have hE := hE.drew
          refine held_s (S := fun u => Box u cb 79 (sfA c) ∧ u.rangeAt yb (yo + i * 3) (s3c (y i)).toList) 23 rfl (by kernel_rfl) ⟨hE.hF.1, hE.rngS hin⟩ (fun hHeld => ?_)
          simp only [Array.replicate_succ, Array.replicate_zero, List.push_toArray, List.nil_append, List.cons_append]
          generalize World.drew _ = wd at *
          refine wpAnyH_take (i := 0) (oi := ⟨some 47, _, _, _, _, _⟩) (v := (.pointer (some ⟨a.sp, 0, none⟩))) rfl (by kernel_rfl) (by kernel_rfl) (by kernel_rfl) (fun _ _ _ h => h) (Or.inl ⟨by rfl, fun w' hw => by go_simp⟩) hHeld ?_
          try simp only [Act.put, List.setIfInBounds_toArray, List.set_cons_zero, List.set_cons_succ]
          refine wpAnyH_take (i := 1) (oi := ⟨some 48, _, _, _, _, _⟩) (v := (.slice (some ⟨yb, yo, none⟩) nl c')) rfl (by kernel_rfl) (by kernel_rfl) (by kernel_rfl) (fun _ _ _ h => h) (Or.inl ⟨by rfl, fun w' hw => by go_simp⟩) hHeld ?_
          try simp only [Act.put, List.setIfInBounds_toArray, List.set_cons_zero, List.set_cons_succ]
          refine wpAnyH_take (i := 2) (oi := ⟨some 49, _, _, _, _, _⟩) (v := (.int .i64 (i : Int))) rfl (by kernel_rfl) (by kernel_rfl) (by kernel_rfl) (fun _ _ _ h => h) (Or.inl ⟨by rfl, fun w' hw => by go_simp⟩) hHeld ?_
          try simp only [Act.put, List.setIfInBounds_toArray, List.set_cons_zero, List.set_cons_succ]
          refine wpAnyH_take (i := 3) (oi := ⟨some 50, _, _, _, _, _⟩) (v := (.pointer (some ⟨yb, yo + i * 3, none⟩))) rfl (by kernel_rfl) (by kernel_rfl) (by kernel_rfl) (fun _ _ _ h => h) (Or.inl ⟨by rfl, fun w' hw => by go_simp⟩) hHeld ?_
          try simp only [Act.put, List.setIfInBounds_toArray, List.set_cons_zero, List.set_cons_succ]
          refine wpAnyH_take (i := 4) (oi := ⟨some 51, _, _, _, _, _⟩) (v := (.pointer (some ⟨yb, yo + i * 3, none⟩))) rfl (by kernel_rfl) (by kernel_rfl) (by kernel_rfl) (fun _ _ _ h => h) (Or.inl ⟨by rfl, fun w' hw => by go_simp⟩) hHeld ?_
          try simp only [Act.put, List.setIfInBounds_toArray, List.set_cons_zero, List.set_cons_succ]
          refine wpAnyH_take (i := 5) (oi := ⟨some 52, _, _, _, _, _⟩) (v := (.int .i64 (y i).1)) rfl (by kernel_rfl) (by kernel_rfl) (by kernel_rfl) (fun _ _ _ h => h) (Or.inl ⟨by rfl, fun w' hw => by (obtain ⟨q0, q1, q2⟩ := sp_cells hw.2; go_simp)⟩) hHeld ?_
          try simp only [Act.put, List.setIfInBounds_toArray, List.set_cons_zero, List.set_cons_succ]
          refine wpAnyH_take (i := 7) (oi := ⟨some 54, _, _, _, _, _⟩) (v := (.slice (some ⟨yb, yo, none⟩) nl c')) rfl (by kernel_rfl) (by kernel_rfl) (by kernel_rfl) (fun _ _ _ h => h) (Or.inl ⟨by rfl, fun w' hw => by go_simp⟩) hHeld ?_
          try simp only [Act.put, List.setIfInBounds_toArray, List.set_cons_zero, List.set_cons_succ]
          refine wpAnyH_take (i := 8) (oi := ⟨some 55, _, _, _, _, _⟩) (v := (.int .i64 (i : Int))) rfl (by kernel_rfl) (by kernel_rfl) (by kernel_rfl) (fun _ _ _ h => h) (Or.inl ⟨by rfl, fun w' hw => by go_simp⟩) hHeld ?_
          try simp only [Act.put, List.setIfInBounds_toArray, List.set_cons_zero, List.set_cons_succ]
          refine wpAnyH_take (i := 9) (oi := ⟨some 56, _, _, _, _, _⟩) (v := (.pointer (some ⟨yb, yo + i * 3, none⟩))) rfl (by kernel_rfl) (by kernel_rfl) (by kernel_rfl) (fun _ _ _ h => h) (Or.inl ⟨by rfl, fun w' hw => by go_simp⟩) hHeld ?_
          try simp only [Act.put, List.setIfInBounds_toArray, List.set_cons_zero, List.set_cons_succ]
          refine wpAnyH_take (i := 10) (oi := ⟨some 57, _, _, _, _, _⟩) (v := (.pointer (some ⟨yb, yo + i * 3 + 1, none⟩))) rfl (by kernel_rfl) (by kernel_rfl) (by kernel_rfl) (fun _ _ _ h => h) (Or.inl ⟨by rfl, fun w' hw => by go_simp⟩) hHeld ?_
          try simp only [Act.put, List.setIfInBounds_toArray, List.set_cons_zero, List.set_cons_succ]
          refine wpAnyH_take (i := 11) (oi := ⟨some 58, _, _, _, _, _⟩) (v := (.int .u64 (y i).2.1)) rfl (by kernel_rfl) (by kernel_rfl) (by kernel_rfl) (fun _ _ _ h => h) (Or.inl ⟨by rfl, fun w' hw => by (obtain ⟨q0, q1, q2⟩ := sp_cells hw.2; go_simp)⟩) hHeld ?_
          try simp only [Act.put, List.setIfInBounds_toArray, List.set_cons_zero, List.set_cons_succ]
          refine wpAnyH_take (i := 12) (oi := ⟨some 59, _, _, _, _, _⟩) (v := (.pointer (some ⟨cb, 0, none⟩))) rfl (by kernel_rfl) (by kernel_rfl) (by kernel_rfl) (fun _ _ _ h => h) (Or.inl ⟨by rfl, fun w' hw => by go_simp⟩) hHeld ?_
          try simp only [Act.put, List.setIfInBounds_toArray, List.set_cons_zero, List.set_cons_succ]
          refine wpAnyH_take (i := 13) (oi := ⟨some 60, _, _, _, _, _⟩) (v := (.int .i64 c.B)) rfl (by kernel_rfl) (by kernel_rfl) (by kernel_rfl) (fun _ _ _ h => h) (Or.inl ⟨by rfl, fun w' hw => by (have q := sc_0 hw.1; go_simp)⟩) hHeld ?_
          try simp only [Act.put, List.setIfInBounds_toArray, List.set_cons_zero, List.set_cons_succ]
          refine wpAnyH_take (i := 14) (oi := ⟨some 61, _, _, _, _, _⟩) (v := (.int .u64 c.B)) rfl (by kernel_rfl) (by kernel_rfl) (by kernel_rfl) (fun _ _ _ h => h) (Or.inl ⟨by rfl, fun w' hw => by (have hx := hB0; go_simp; first | done | exact hwB)⟩) hHeld ?_
          try simp only [Act.put, List.setIfInBounds_toArray, List.set_cons_zero, List.set_cons_succ]
          refine wpAnyH_take (i := 15) (oi := ⟨some 62, _, _, _, _, _⟩) (v := (.int .u64 ((idM c (y i).2.1 : Nat) : Int))) rfl (by kernel_rfl) (by kernel_rfl) (by kernel_rfl) (fun _ _ _ h => h) (Or.inl ⟨by rfl, fun w' hw => by (have hx := hB0; go_simp; first | done | exact hwT | exact hwI)⟩) hHeld ?_
          try simp only [Act.put, List.setIfInBounds_toArray, List.set_cons_zero, List.set_cons_succ]
          refine wpAnyH_take (i := 16) (oi := ⟨some 63, _, _, _, _, _⟩) (v := (.slice (some ⟨yb, yo, none⟩) nl c')) rfl (by kernel_rfl) (by kernel_rfl) (by kernel_rfl) (fun _ _ _ h => h) (Or.inl ⟨by rfl, fun w' hw => by go_simp⟩) hHeld ?_
          try simp only [Act.put, List.setIfInBounds_toArray, List.set_cons_zero, List.set_cons_succ]
          refine wpAnyH_take (i := 17) (oi := ⟨some 64, _, _, _, _, _⟩) (v := (.int .i64 (i : Int))) rfl (by kernel_rfl) (by kernel_rfl) (by kernel_rfl) (fun _ _ _ h => h) (Or.inl ⟨by rfl, fun w' hw => by go_simp⟩) hHeld ?_
          try simp only [Act.put, List.setIfInBounds_toArray, List.set_cons_zero, List.set_cons_succ]
          refine wpAnyH_take (i := 18) (oi := ⟨some 65, _, _, _, _, _⟩) (v := (.pointer (some ⟨yb, yo + i * 3, none⟩))) rfl (by kernel_rfl) (by kernel_rfl) (by kernel_rfl) (fun _ _ _ h => h) (Or.inl ⟨by rfl, fun w' hw => by go_simp⟩) hHeld ?_
          try simp only [Act.put, List.setIfInBounds_toArray, List.set_cons_zero, List.set_cons_succ]
          refine wpAnyH_take (i := 19) (oi := ⟨some 66, _, _, _, _, _⟩) (v := (.pointer (some ⟨yb, yo + i * 3 + 2, none⟩))) rfl (by kernel_rfl) (by kernel_rfl) (by kernel_rfl) (fun _ _ _ h => h) (Or.inl ⟨by rfl, fun w' hw => by go_simp⟩) hHeld ?_
          try simp only [Act.put, List.setIfInBounds_toArray, List.set_cons_zero, List.set_cons_succ]
          refine wpAnyH_take (i := 20) (oi := ⟨some 67, _, _, _, _, _⟩) (v := (.int .u64 (y i).2.2)) rfl (by kernel_rfl) (by kernel_rfl) (by kernel_rfl) (fun _ _ _ h => h) (Or.inl ⟨by rfl, fun w' hw => by (obtain ⟨q0, q1, q2⟩ := sp_cells hw.2; go_simp)⟩) hHeld ?_
          try simp only [Act.put, List.setIfInBounds_toArray, List.set_cons_zero, List.set_cons_succ]
          refine one_ready 6 rfl (by kernel_rfl) (fun K9 hK => ?_)
          go_simp
          refine (sop_of (y i).1 _ r0.1 r0.2).mono ?_
          rintro e w13 ⟨rfl, hb⟩
          have hE := hE.nob (Only.of_below hb)
          refine hK.out _ _ ⟨hE.hF.1, hE.rngS hin⟩ (fun hHeld => ?_)
          clear hK K9 hb
          try simp only [Act.put, List.setIfInBounds_toArray, List.set_cons_zero, List.set_cons_succ]
          refine one_ready 21 rfl (by kernel_rfl) (fun K9 hK => ?_)
          go_simp
          refine (sdata_of (y i).2.2 _).mono ?_
          rintro e w13 ⟨rfl, hb⟩
          have hE := hE.nob (Only.of_below hb)
          refine hK.out _ _ ⟨hE.hF.1, hE.rngS hin⟩ (fun hHeld => ?_)
          clear hK K9 hb
          try simp only [Act.put, List.setIfInBounds_toArray, List.set_cons_zero, List.set_cons_succ]
          refine one_ready 22 rfl (by kernel_rfl) (fun K9 hK => ?_)
          go_simp
          refine (hE.step HC.out (opI (y i).1) (idM c (y i).2.1) (dw (y i).2.2) (idM_op c _ _) (fun j => dw_rng _ j) (by omega)).mono ?_
          rintro e w13 ⟨g', rr, t, rfl, hG, hI, hN, hE'⟩
          clear hE
          have hE := hE'
          clear hE'
          refine hK.out _ _ ⟨hE.hF.1, hE.rngS hin⟩ (fun hHeld => ?_)
          clear hK K9
          try simp only [Act.put, List.setIfInBounds_toArray, List.set_cons_zero, List.set_cons_succ]
          refine wpAnyH_done (by kernel_rfl) ?_ _
          have HR3 := Lib.hid (HR2.out.next hG hN)
          have HE2 := Lib.hid hE
          clear hE hHeld hG hI hN HR2 hB0 hwB hwT r0 r1 r2
          go_wp2_with fail
          refine (HE2.out.counts HC.out).mono ?_
          rintro e w5 ⟨v, rfl, hIr⟩
          have hlen := ctL_len g' c.n
          have hn1 := HC.out.n1
          obtain ⟨gb, cap, rfl, _, hIr2⟩ := hIr.out (by omega) (ctN g') (fun j hj => by
            have := ctL_at g' c.n j (by omega)
            rw [List.getElem?_eq_getElem hj] at this
            injection this)
          rw [hlen] at hIr2 ⊢
          have HE3 := Lib.hid (HE2.out.nob (Only.of_below hIr.below))
          have HIr := Lib.hid hIr2
          clear hIr hIr2 hlen HE2
          have HM0 : Hid (mxL g' 0 = 0) := Lib.hid rfl
          have HMs : Hid (∀ j, mxL g' (j + 1) = max (mxL g' j) (ctN g' j)) := Lib.hid fun _ => rfl
          have HCt : Hid (∀ j, 0 ≤ ctN g' j) := Lib.hid fun j => Int.natCast_nonneg _
          go_wp2_with fail
          go_loopw [14, 15] (fun m v wr => ∃ h : Nat, v = .int .i64 h ∧ h ≤ c.n ∧ m = .int .i64 (mxL g' h) ∧ wr = w5) (fun _ v _ => c.n - (intOf v).toNat)
          case atStart => exact ⟨0, rfl, by omega, by rw [HM0.out], rfl⟩
          case round =>
            obtain ⟨h, rfl, hh, rfl, rfl⟩ := hrel
            by_cases hlt : h < c.n
            · have e1 := HIr.out.cell h hlt
              have hnn : (h : Int) < (c.n : Int) := by omega
              go_wp2_with fail
              go_roundw
              case rel => exact ⟨h + 1, by go_num, by omega, by rw [HMs.out], by first | rfl | trivial⟩
              case measure => simp [intOf]; omega
            · have eh : h = c.n := by omega
              subst eh
              have k2 := sc_2 HE3.out.hF.1
              have k3 := sc_3 HE3.out.hF.1
              have HOr := Lib.hid (HE3.out.over HC.out)
              by_cases hm : mxL g' c.n ≤ (c.T : Int)
              · have hov := HR3.out.ov hm
                rw [hov] at HOr
                clear hov
                go_wp2_with fail
                refine HOr.out.mono ?_
                rintro e w7 ⟨rfl, rfl⟩
                go_wp2_with fail
                go_roundw
                case rel => exact ⟨i + 1, by go_num, by omega, _, HR3.out, HE3.out⟩
                case measure => simp [intOf]; omega
              · go_wp2_with fail
                go_roundw
                case rel => exact ⟨i + 1, by go_num, by omega, _, HR3.out, HE3.out⟩
                case measure => simp [intOf]; omega
        · have hnn : ¬ (i : Int) < (nl : Int) := by omega
          have HE := Lib.hid hE.kp
          clear hE
          go_wp2_with fail
          go_ret
          exact ⟨rfl, HE.out⟩
end Go.Proofs.YtloibfdcahmhjaaGreat

