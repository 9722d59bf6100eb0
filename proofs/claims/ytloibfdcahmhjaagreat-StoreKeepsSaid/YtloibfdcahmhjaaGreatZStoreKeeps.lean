/- StoreKeeps: until a block is lost, what is told of a block is what was put last; one that was dropped, or never put, is not there. -/
import Derived.Test.YtloibfdcahmhjaaGreatZStoreKp
namespace Go.Proofs.YtloibfdcahmhjaaGreat
set_option maxRecDepth 100000
open Go.RowKit Go.ChangeShapes Go.WideShapes Go.ChangeAt Go.Maps Go.Deep

theorem DA_injS {f g : Nat → Int} (h : DA f = DA g) : ∀ i, i < 8 → f i = g i := by
  intro i hi
  have h1 := DA_at f i hi
  rw [h, DA_at g i hi] at h1
  injection h1 with h1
  injection h1 with _ h1
  exact h1.symm
set_option linter.unusedSimpArgs false in
set_option maxRecDepth 100000 in
set_option linter.unusedSimpArgs false in
set_option maxHeartbeats 8000000 in
theorem skeeps_law (n : Int) (A : Option Addr) (nz cz : Nat) (z : Nat → Int) (ya : Option Addr) (nl c' : Nat) (y : Nat → Sp3) (w : World) (hn : (Lit.int .i64 n).wf = true) (hz : Nums .u64 w w.heap.size A nz z) (hzr : ∀ j, j < nz → (Lit.int .u64 (z j)).wf = true) (hS : Sps3 w w.heap.size ya nl y) (hy : ∀ j, j < nl → Sp3Ok (y j)) :
    Calls Tryz.prog 7 #[.int .i64 n, .slice A nz cz, .slice ya nl c'] w fun e w' => e = .returned (.bool true) ∧ Below w.heap.size w w' := by
  by_cases hl : 24 < nl
  · have h24 : (24 : Int) < (nl : Int) := by omega
    go_enter Tryz.func7, Tryz.ntmps7
    go_wp2_with fail
    refine (sshown_of _).mono ?_
    rintro e w1 ⟨rfl, hb1⟩
    have HB1 := Lib.hid hb1
    clear hb1
    go_wp2_with fail
    go_ret
    exact ⟨rfl, HB1.out⟩
  · have h24 : ¬ (24 : Int) < (nl : Int) := by omega
    by_cases hl2 : 400 < nz
    · have h400 : (400 : Int) < (nz : Int) := by omega
      go_enter Tryz.func7, Tryz.ntmps7
      go_wp2_with fail
      refine (sshown_of _).mono ?_
      rintro e w1 ⟨rfl, hb1⟩
      have HB1 := Lib.hid hb1
      clear hb1
      go_wp2_with fail
      go_ret
      exact ⟨rfl, HB1.out⟩
    · have h400 : ¬ (400 : Int) < (nz : Int) := by omega
      obtain ⟨c, hc, hsm, hcf, hmd⟩ := slaw_config n (i64_rng hn).1 (i64_rng hn).2
      obtain ⟨B, hBB⟩ : ∃ B, 2 ^ c.b = B := ⟨_, rfl⟩
      have hB32 : B ≤ 32 := by rw [← hBB]; have : 2 ^ c.b ≤ 2 ^ 5 := Nat.pow_le_pow_right (by decide) hsm.1; omega
      have hBp : 0 < B := by rw [← hBB]; exact Nat.two_pow_pos c.b
      have eB : c.B = (B : Int) := by rw [← hc.bB, hBB]
      have HId : Hid (∀ x, idM c x < B) := Lib.hid fun x => by rw [← hBB]; exact idM_lt c x
      have HBn := Lib.hid eB
      have HBl := Lib.hid hBB
      have hmk2 := run_make_row' (P := Tryz.prog) 114 4 (.bool false) 1 Tryz.underlying114 infoBoolS rfl .i64 .i64 B (by omega) (by omega)
      have hmk3 := make_dataS B (by omega)
      rw [← eB] at hmk2 hmk3
      have HCf := Lib.hid hcf
      have HMd := Lib.hid hmd
      have HC := Lib.hid hc
      have HSt := Lib.hid hS
      have HYk := Lib.hid hy
      have HZ := Lib.hid hz
      have HZr : Hid (∀ j, j < nz → 0 ≤ z j ∧ z j ≤ 18446744073709551615) := Lib.hid fun j hj => u64_rng (hzr j hj)
      clear hcf hmd hc hS hy hn hz hzr hsm eB hBB
      go_enter Tryz.func7, Tryz.ntmps7
      go_wp2_with fail
      refine (sshown_of _).mono ?_
      rintro e w1 ⟨rfl, hb1⟩
      have HB1 := Lib.hid hb1
      clear hb1
      go_wp2_with fail
      refine (HCf.out _).mono ?_
      rintro e w2 ⟨rfl, hb2⟩
      have HB2 := Lib.hid (HB1.out.trans (hb2.mono HB1.out.size))
      clear hb2 HB1 HCf
      go_upto_region 5 with (refine wpList_store_newS rfl (.tmp 8) (.tmp 34) rfl rfl c rfl rfl ?_)
      obtain ⟨cb, hcb⟩ : ∃ b, w2.heap.size = b := ⟨_, rfl⟩
      have hbx := Box.new w2 79 (sfA c)
      have HB3 := Lib.hid (HB2.out.alloc HB2.out.size (.cells (sfA c) 79))
      have hcs : cb < (w2.alloc (.cells (sfA c) 79)).heap.size := by rw [← hcb]; exact hbx.lt
      have hws : w.heap.size ≤ cb := by rw [← hcb]; exact HB2.out.size
      rw [hcb] at hbx ⊢
      have HBx := Lib.hid hbx
      have HCs := Lib.hid hcs
      have HWs := Lib.hid hws
      clear hcb hbx hcs hws HB2
      generalize w2.alloc (.cells (sfA c) 79) = w3 at *
      have k0 := sc_0 HBx.out
      have k1 := sc_1 HBx.out
      have k2 := sc_2 HBx.out
      have k3 := sc_3 HBx.out
      go_wp2_with fail
      refine (HMd.out w3 A nz cz z ((HZ.out.below HB3.out).more HB3.out.size) (by omega) HZr.out).mono ?_
      rintro e w4 ⟨a, rfl, hSt, ho4⟩
      obtain ⟨Z, hZc, hE⟩ : ∃ Z : Nat → Prop, Z cb ∧ StS c a w Z (fun u => Box u cb 79 (sfA c) ∧ Sps3 u w.heap.size ya nl y) (sg0 c nz z) 0 w4 := ⟨fun i => i < w3.heap.size, HCs.out, StS.made hSt ho4 HB3.out ⟨HBx.out, HSt.out.below HB3.out⟩ (fun u u' hs hk h => ⟨hk.box h.1 HCs.out, h.2.below ((hk.mono fun i hi => by have := HB3.out.size; show i < w3.heap.size; omega).below hs (fun _ h => h))⟩)⟩
      have HZc := Lib.hid hZc
      have HE := Lib.hid hE
      clear ho4 hSt HMd HB3 HBx k0 k1 k2 k3 HCs hZc hE w3
      have HB0 := Lib.hid (stB_new c nz z)
      generalize sg0 c nz z = g0 at *
      have k0 := sc_0 HE.out.hF.1
      go_upto_region 9 with fail
      obtain ⟨ib, hib⟩ : ∃ b, w4.heap.size = b := ⟨_, rfl⟩
      have hE := HE.out.row 4 (fun _ => .bool false) (.cells (madeCells #[.bool false] B) 4) hib (by rw [← hib]; exact World.rowIs_made w4 (.bool false) B 4)
      have hoi : w.heap.size ≤ ib := by rw [← hib]; exact HE.out.kp.size
      have hci : cb < ib := by rw [← hib]; exact HE.out.sk.lt HZc.out
      rw [hib]
      clear HE hib hmk2 k0
      generalize w4.alloc (.cells (madeCells #[.bool false] B) 4) = w5 at *
      have k0 := sc_0 hE.hF.1.1
      have HEi := Lib.hid hE
      clear hE
      go_upto_region 10 with fail
      obtain ⟨vb, hvb⟩ : ∃ b, w5.heap.size = b := ⟨_, rfl⟩
      have hE := HEi.out.row 48 (vfS fun _ _ => 0) (.cells (madeCells (DA fun _ => 0) (B * 8)) 48) hvb (by rw [← hvb]; exact made_dataS w5 B)
      have hiv : ib < vb := by rw [← hvb]; exact HEi.out.sk.lt (.inr rfl)
      obtain ⟨ZK, hkz, hE9⟩ : ∃ ZK, KsZ w ZK cb ib vb ∧ StS c a w ZK (FS c cb ib vb B w ya nl y (fun _ => false) (fun _ _ => 0)) g0 0 (w5.alloc (.cells (madeCells (DA fun _ => 0) (B * 8)) 48)) :=
        ⟨_, ⟨.inl (.inl HZc.out), .inl (.inr rfl), .inr rfl, hE.hz, hoi, by omega, by omega, by omega, by omega⟩, hE⟩
      have HE0 := Lib.hid hE9
      have HKZ := Lib.hid hkz
      rw [hvb]
      clear HEi hvb hE hE9 hmk3 hkz hoi hci hiv HZc Z k0
      generalize w5.alloc (.cells (madeCells (DA fun _ => 0) (B * 8)) 48) = w7 at *
      go_wp2_with fail
      go_loopw [14] (fun v14 wr => ∃ i : Nat, v14 = .int .i64 i ∧ i ≤ nl ∧ ∃ g s v b, KpS s v b ∧ StB c g b ∧ StS c a w ZK (FS c cb ib vb B w ya nl y s v) g (20 * i) wr) (fun v14 _ => nl - (intOf v14).toNat)
      case atStart => exact ⟨0, rfl, by omega, _, _, _, _, KpS.new, HB0.out, HE0.out⟩
      case round =>
        obtain ⟨i, rfl, hi, g, s, v, b, hkb, hsb0, hE⟩ := hrel
        clear HE0 HB0
        have HKb := Lib.hid hkb
        have HSb := Lib.hid hsb0
        clear hkb hsb0
        by_cases hin : i < nl
        · obtain ⟨yb, yo, rfl, _, _⟩ := HSt.out.at hin
          obtain ⟨r0, r1, r2⟩ := (HYk.out i hin).rng
          have hnn : (i : Int) < (nl : Int) := by omega
          have hB0 : ¬ c.B = 0 := by rw [HBn.out]; omega
          have hwB : IntKind.u64.wrap c.B = c.B := by rw [IntKind.wrap_u64, HBn.out]; omega
          have hwT : (y i).2.1.tmod c.B = ((idM c (y i).2.1 : Nat) : Int) := by
            unfold idM
            rw [HBn.out, HBl.out]
            obtain ⟨u, hu⟩ := Int.eq_ofNat_of_zero_le r1.1
            rw [hu, Int.toNat_natCast]
            rfl
          have hi24 : i < 24 := by omega
          go_upto_region 13 with fail
          have hE := hE.drew
          refine held_s (S := fun u => Box u cb 79 (sfA c) ∧ u.rangeAt yb (yo + i * 3) (s3c (y i)).toList) 10 rfl (by kernel_rfl) ⟨hE.hF.1.1.1, FS.rng hE.hF hin⟩ (fun hHeld => ?_)
          simp only [Array.replicate_succ, Array.replicate_zero, List.push_toArray, List.nil_append, List.cons_append]
          generalize World.drew _ = wd at *
          refine wpAnyH_take (i := 0) (oi := ⟨some 56, _, _, _, _, _⟩) (v := (.slice (some ⟨yb, yo, none⟩) nl c')) rfl (by kernel_rfl) (by kernel_rfl) (by kernel_rfl) (fun _ _ _ h => h) (Or.inl ⟨by rfl, fun w' hw => by go_simp⟩) hHeld ?_
          try simp only [Act.put, List.setIfInBounds_toArray, List.set_cons_zero, List.set_cons_succ]
          refine wpAnyH_take (i := 1) (oi := ⟨some 57, _, _, _, _, _⟩) (v := (.int .i64 (i : Int))) rfl (by kernel_rfl) (by kernel_rfl) (by kernel_rfl) (fun _ _ _ h => h) (Or.inl ⟨by rfl, fun w' hw => by go_simp⟩) hHeld ?_
          try simp only [Act.put, List.setIfInBounds_toArray, List.set_cons_zero, List.set_cons_succ]
          refine wpAnyH_take (i := 2) (oi := ⟨some 58, _, _, _, _, _⟩) (v := (.pointer (some ⟨yb, yo + i * 3, none⟩))) rfl (by kernel_rfl) (by kernel_rfl) (by kernel_rfl) (fun _ _ _ h => h) (Or.inl ⟨by rfl, fun w' hw => by go_simp⟩) hHeld ?_
          try simp only [Act.put, List.setIfInBounds_toArray, List.set_cons_zero, List.set_cons_succ]
          refine wpAnyH_take (i := 3) (oi := ⟨some 59, _, _, _, _, _⟩) (v := (.pointer (some ⟨yb, yo + i * 3 + 1, none⟩))) rfl (by kernel_rfl) (by kernel_rfl) (by kernel_rfl) (fun _ _ _ h => h) (Or.inl ⟨by rfl, fun w' hw => by go_simp⟩) hHeld ?_
          try simp only [Act.put, List.setIfInBounds_toArray, List.set_cons_zero, List.set_cons_succ]
          refine wpAnyH_take (i := 4) (oi := ⟨some 60, _, _, _, _, _⟩) (v := (.int .u64 (y i).2.1)) rfl (by kernel_rfl) (by kernel_rfl) (by kernel_rfl) (fun _ _ _ h => h) (Or.inl ⟨by rfl, fun w' hw => by (obtain ⟨q0, q1, q2⟩ := sp_cells hw.2; go_simp)⟩) hHeld ?_
          try simp only [Act.put, List.setIfInBounds_toArray, List.set_cons_zero, List.set_cons_succ]
          refine wpAnyH_take (i := 5) (oi := ⟨some 61, _, _, _, _, _⟩) (v := (.pointer (some ⟨cb, 0, none⟩))) rfl (by kernel_rfl) (by kernel_rfl) (by kernel_rfl) (fun _ _ _ h => h) (Or.inl ⟨by rfl, fun w' hw => by go_simp⟩) hHeld ?_
          try simp only [Act.put, List.setIfInBounds_toArray, List.set_cons_zero, List.set_cons_succ]
          refine wpAnyH_take (i := 6) (oi := ⟨some 62, _, _, _, _, _⟩) (v := (.int .i64 c.B)) rfl (by kernel_rfl) (by kernel_rfl) (by kernel_rfl) (fun _ _ _ h => h) (Or.inl ⟨by rfl, fun w' hw => by (have q := sc_0 hw.1; go_simp)⟩) hHeld ?_
          try simp only [Act.put, List.setIfInBounds_toArray, List.set_cons_zero, List.set_cons_succ]
          refine wpAnyH_take (i := 7) (oi := ⟨some 63, _, _, _, _, _⟩) (v := (.int .u64 c.B)) rfl (by kernel_rfl) (by kernel_rfl) (by kernel_rfl) (fun _ _ _ h => h) (Or.inl ⟨by rfl, fun w' hw => by (have hx := hB0; go_simp; first | done | exact hwB)⟩) hHeld ?_
          try simp only [Act.put, List.setIfInBounds_toArray, List.set_cons_zero, List.set_cons_succ]
          refine wpAnyH_take (i := 8) (oi := ⟨some 64, _, _, _, _, _⟩) (v := (.int .u64 ((idM c (y i).2.1 : Nat) : Int))) rfl (by kernel_rfl) (by kernel_rfl) (by kernel_rfl) (fun _ _ _ h => h) (Or.inl ⟨by rfl, fun w' hw => by (have hx := hB0; go_simp; first | done | exact hwT | exact hwI)⟩) hHeld ?_
          try simp only [Act.put, List.setIfInBounds_toArray, List.set_cons_zero, List.set_cons_succ]
          refine wpAnyH_take (i := 9) (oi := ⟨some 15, _, _, _, _, _⟩) (v := (.int .u64 ((idM c (y i).2.1 : Nat) : Int))) rfl (by kernel_rfl) (by kernel_rfl) (by kernel_rfl) (fun _ _ _ h => h) (Or.inl ⟨by rfl, fun w' hw => by go_simp⟩) hHeld ?_
          try simp only [Act.put, List.setIfInBounds_toArray, List.set_cons_zero, List.set_cons_succ]
          refine wpAnyH_done (by kernel_rfl) ?_ _
          have hid := HId.out (y i).2.1
          have hok := idM_op c (y i).1 (y i).2.1
          have hop := opI_ok (y i).1
          generalize idM c (y i).2.1 = id at *
          obtain ⟨q0, q1, q2⟩ := sp_cells (FS.rng hE.hF hin)
          have HE := Lib.hid hE
          have HOk := Lib.hid hok
          have HOp := Lib.hid hop
          clear hE hHeld hok hop hB0 hwB hwT
          go_wp2_with fail
          refine (sop_of (y i).1 _ r0.1 r0.2).mono ?_
          rintro e w8 ⟨rfl, hb8⟩
          have hE := HE.out.nob (Only.of_below hb8)
          clear hb8 HE q0 q1 q2
          generalize opI (y i).1 = op at *
          obtain ⟨q0, q1, q2⟩ := sp_cells (FS.rng hE.hF hin)
          have HE := Lib.hid hE
          clear hE
          go_wp2_with fail
          refine (sdata_of (y i).2.2 _).mono ?_
          rintro e w9 ⟨rfl, hb9⟩
          have HE9 := Lib.hid (HE.out.nob (Only.of_below hb9))
          clear hb9 HE q0 q1 q2
          go_wp2_with fail
          refine (HE9.out.step HC.out op id (dw (y i).2.2) HOk.out (fun j => dw_rng _ j) (by omega)).mono ?_
          rintro e w10 ⟨g', rr, t, rfl, hG, hI, hN, hE10⟩
          have HN := Lib.hid hN
          have HE10 := Lib.hid hE10
          clear hG hI hN hE10 HE9
          go_upto_region 16 with (refine wpList_store_newD rfl (.tmp 17) (.tmp 82) rfl rfl rr rfl rfl ?_)
          obtain ⟨db, hdb⟩ : ∃ b, w10.heap.size = b := ⟨_, rfl⟩
          have HE11 := Lib.hid (HE10.out.box 48 (DA rr) hdb)
          rw [hdb]
          clear HE10 hdb
          generalize w10.alloc (.cells (DA rr) 48) = w11 at *
          have hOv := HE11.out.over HC.out
          obtain ⟨o, ho⟩ : ∃ o, ovN g' c.n = o := ⟨_, rfl⟩
          rw [ho] at hOv
          have HOv := Lib.hid hOv
          have HOo := Lib.hid ho
          clear ho hOv
          go_wp2_with fail
          refine HOv.out.mono ?_
          rintro e w12 ⟨rfl, rfl⟩
          cases o
          · go_upto_region 18 with fail
            obtain ⟨hd, ht, hNb⟩ := HN.out (noO_over HOo.out) b HSb.out
            have hkb := HKb.out
            have hop := HOp.out
            have hE := HE11.out
            clear HN HOo HSb HKb HOp HE11 HOv
            cases hsb : s id
            · have hm : b (id : Int) = none := by
                have := (hkb id).1
                rw [hsb] at this
                cases h : b (id : Int) with
                | none => rfl
                | some b => rw [h] at this; cases this
              have ht2 : t = false := by rw [ht, hm]; rfl
              subst ht2
              have hdq : deq rr (fun _ => 0) = true := by
                rw [hm] at hd
                exact deq_of _ _ (DA_injS hd)
              clear ht hd hm
              have hE := hE.drew
              refine held_s (S := (fun u => FS c cb ib vb B w (some ⟨yb, yo, none⟩) nl y s v u ∧ Box u db 48 (DA rr))) 26 rfl (by kernel_rfl) hE.hF (fun hHeld => ?_)
              simp only [Array.replicate_succ, Array.replicate_zero, List.push_toArray, List.nil_append, List.cons_append]
              generalize World.drew _ = wd at *
              refine wpAnyH_take (i := 0) (oi := ⟨some 86, _, _, _, _, _⟩) (v := (.bool false)) rfl (by kernel_rfl) (by kernel_rfl) (by kernel_rfl) (fun _ _ _ h => h) (Or.inl ⟨by rfl, fun w' hw => by go_simp⟩) hHeld ?_
              try simp only [Act.put, List.setIfInBounds_toArray, List.set_cons_zero, List.set_cons_succ]
              refine wpAnyH_take (i := 1) (oi := ⟨some 87, _, _, _, _, _⟩) (v := (.slice (some ⟨ib, 0, none⟩) B B)) rfl (by kernel_rfl) (by kernel_rfl) (by kernel_rfl) (fun _ _ _ h => h) (Or.inl ⟨by rfl, fun w' hw => by go_simp⟩) hHeld ?_
              try simp only [Act.put, List.setIfInBounds_toArray, List.set_cons_zero, List.set_cons_succ]
              refine wpAnyH_take (i := 2) (oi := ⟨some 88, _, _, _, _, _⟩) (v := (.int .u64 (id : Int))) rfl (by kernel_rfl) (by kernel_rfl) (by kernel_rfl) (fun _ _ _ h => h) (Or.inl ⟨by rfl, fun w' hw => by go_simp⟩) hHeld ?_
              try simp only [Act.put, List.setIfInBounds_toArray, List.set_cons_zero, List.set_cons_succ]
              refine wpAnyH_take (i := 3) (oi := ⟨some 89, _, _, _, _, _⟩) (v := (.pointer (some ⟨ib, id, none⟩))) rfl (by kernel_rfl) (by kernel_rfl) (by kernel_rfl) (fun _ _ _ h => h) (Or.inl ⟨by rfl, fun w' hw => by go_simp⟩) hHeld ?_
              try simp only [Act.put, List.setIfInBounds_toArray, List.set_cons_zero, List.set_cons_succ]
              refine wpAnyH_take (i := 4) (oi := ⟨some 90, _, _, _, _, _⟩) (v := (.bool false)) rfl (by kernel_rfl) (by kernel_rfl) (by kernel_rfl) (fun _ _ _ h => h) (Or.inl ⟨by rfl, fun w' hw => by (have c := hw.1.1.2.cell hid; rw [hsb] at c; go_simp)⟩) hHeld ?_
              try simp only [Act.put, List.setIfInBounds_toArray, List.set_cons_zero, List.set_cons_succ]
              refine wpAnyH_take (i := 5) (oi := ⟨some 91, _, _, _, _, _⟩) (v := (.bool false)) rfl (by kernel_rfl) (by kernel_rfl) (by kernel_rfl) (fun _ _ _ h => h) (Or.inl ⟨by rfl, fun w' hw => by go_simp⟩) hHeld ?_
              try simp only [Act.put, List.setIfInBounds_toArray, List.set_cons_zero, List.set_cons_succ]
              refine wpAnyH_take (i := 6) (oi := ⟨some 92, _, _, _, _, _⟩) (v := (.bool false)) rfl (by kernel_rfl) (by kernel_rfl) (by kernel_rfl) (fun _ _ _ h => h) (Or.inl ⟨by rfl, fun w' hw => by go_simp⟩) hHeld ?_
              try simp only [Act.put, List.setIfInBounds_toArray, List.set_cons_zero, List.set_cons_succ]
              refine wpAnyH_take (i := 7) (oi := ⟨some 93, _, _, _, _, _⟩) (v := (.bool false)) rfl (by kernel_rfl) (by kernel_rfl) (by kernel_rfl) (fun _ _ _ h => h) (Or.inl ⟨by rfl, fun w' hw => by go_simp⟩) hHeld ?_
              try simp only [Act.put, List.setIfInBounds_toArray, List.set_cons_zero, List.set_cons_succ]
              refine wpAnyH_take (i := 8) (oi := ⟨some 94, _, _, _, _, _⟩) (v := (.bool false)) rfl (by kernel_rfl) (by kernel_rfl) (by kernel_rfl) (fun _ _ _ h => h) (Or.inl ⟨by rfl, fun w' hw => by go_simp⟩) hHeld ?_
              try simp only [Act.put, List.setIfInBounds_toArray, List.set_cons_zero, List.set_cons_succ]
              refine wpAnyH_take (i := 9) (oi := ⟨some 95, _, _, _, _, _⟩) (v := undef) rfl (by kernel_rfl) (by kernel_rfl) (by kernel_rfl) (fun _ _ _ h => h) (Or.inr ⟨by rfl, rfl⟩) hHeld ?_
              try simp only [Act.put, List.setIfInBounds_toArray, List.set_cons_zero, List.set_cons_succ]
              refine wpAnyH_take (i := 10) (oi := ⟨some 96, _, _, _, _, _⟩) (v := undef) rfl (by kernel_rfl) (by kernel_rfl) (by kernel_rfl) (fun _ _ _ h => h) (Or.inr ⟨by rfl, rfl⟩) hHeld ?_
              try simp only [Act.put, List.setIfInBounds_toArray, List.set_cons_zero, List.set_cons_succ]
              refine wpAnyH_take (i := 11) (oi := ⟨some 97, _, _, _, _, _⟩) (v := undef) rfl (by kernel_rfl) (by kernel_rfl) (by kernel_rfl) (fun _ _ _ h => h) (Or.inr ⟨by rfl, rfl⟩) hHeld ?_
              try simp only [Act.put, List.setIfInBounds_toArray, List.set_cons_zero, List.set_cons_succ]
              refine wpAnyH_take (i := 12) (oi := ⟨some 98, _, _, _, _, _⟩) (v := undef) rfl (by kernel_rfl) (by kernel_rfl) (by kernel_rfl) (fun _ _ _ h => h) (Or.inr ⟨by rfl, rfl⟩) hHeld ?_
              try simp only [Act.put, List.setIfInBounds_toArray, List.set_cons_zero, List.set_cons_succ]
              refine wpAnyH_take (i := 13) (oi := ⟨some 99, _, _, _, _, _⟩) (v := undef) rfl (by kernel_rfl) (by kernel_rfl) (by kernel_rfl) (fun _ _ _ h => h) (Or.inr ⟨by rfl, rfl⟩) hHeld ?_
              try simp only [Act.put, List.setIfInBounds_toArray, List.set_cons_zero, List.set_cons_succ]
              refine wpAnyH_take (i := 14) (oi := ⟨some 100, _, _, _, _, _⟩) (v := undef) rfl (by kernel_rfl) (by kernel_rfl) (by kernel_rfl) (fun _ _ _ h => h) (Or.inr ⟨by rfl, rfl⟩) hHeld ?_
              try simp only [Act.put, List.setIfInBounds_toArray, List.set_cons_zero, List.set_cons_succ]
              refine wpAnyH_take (i := 15) (oi := ⟨some 101, _, _, _, _, _⟩) (v := (.bool false)) rfl (by kernel_rfl) (by kernel_rfl) (by kernel_rfl) (fun _ _ _ h => h) (Or.inl ⟨by rfl, fun w' hw => by go_simp⟩) hHeld ?_
              try simp only [Act.put, List.setIfInBounds_toArray, List.set_cons_zero, List.set_cons_succ]
              refine wpAnyH_take (i := 16) (oi := ⟨some 102, _, _, _, _, _⟩) (v := (.bool false)) rfl (by kernel_rfl) (by kernel_rfl) (by kernel_rfl) (fun _ _ _ h => h) (Or.inl ⟨by rfl, fun w' hw => by go_simp⟩) hHeld ?_
              try simp only [Act.put, List.setIfInBounds_toArray, List.set_cons_zero, List.set_cons_succ]
              refine wpAnyH_take (i := 17) (oi := ⟨some 103, _, _, _, _, _⟩) (v := (.bool false)) rfl (by kernel_rfl) (by kernel_rfl) (by kernel_rfl) (fun _ _ _ h => h) (Or.inl ⟨by rfl, fun w' hw => by go_simp⟩) hHeld ?_
              try simp only [Act.put, List.setIfInBounds_toArray, List.set_cons_zero, List.set_cons_succ]
              refine wpAnyH_take (i := 18) (oi := ⟨some 104, _, _, _, _, _⟩) (v := (.bool false)) rfl (by kernel_rfl) (by kernel_rfl) (by kernel_rfl) (fun _ _ _ h => h) (Or.inl ⟨by rfl, fun w' hw => by go_simp⟩) hHeld ?_
              try simp only [Act.put, List.setIfInBounds_toArray, List.set_cons_zero, List.set_cons_succ]
              refine wpAnyH_take (i := 19) (oi := ⟨some 105, _, _, _, _, _⟩) (v := (.bool true)) rfl (by kernel_rfl) (by kernel_rfl) (by kernel_rfl) (fun _ _ _ h => h) (Or.inl ⟨by rfl, fun w' hw => by go_simp⟩) hHeld ?_
              try simp only [Act.put, List.setIfInBounds_toArray, List.set_cons_zero, List.set_cons_succ]
              refine wpAnyH_take (i := 20) (oi := ⟨some 106, _, _, _, _, _⟩) (v := (.bool true)) rfl (by kernel_rfl) (by kernel_rfl) (by kernel_rfl) (fun _ _ _ h => h) (Or.inl ⟨by rfl, fun w' hw => by go_simp⟩) hHeld ?_
              try simp only [Act.put, List.setIfInBounds_toArray, List.set_cons_zero, List.set_cons_succ]
              refine take_row 21 (oi := ⟨some 107, _, _, _, _, _⟩) (DA rr).toList rfl (by kernel_rfl) (by kernel_rfl) (by kernel_rfl) (fun _ _ _ h => h) (by rfl) _ _ rfl _ _ rfl _ (fun w' hw => hw.2.range) Tryz.underlying48 rfl (infoData rr) hHeld ?_
              try simp only [Act.put, List.setIfInBounds_toArray, List.set_cons_zero, List.set_cons_succ]
              refine wpAnyH_take (i := 22) (oi := ⟨some 108, _, _, _, _, _⟩) (v := (.agg (DA fun _ => 0))) rfl (by kernel_rfl) (by kernel_rfl) (by kernel_rfl) (fun _ _ _ h => h) (Or.inl ⟨by rfl, fun w' hw => by (go_simp; rfl)⟩) hHeld ?_
              try simp only [Act.put, List.setIfInBounds_toArray, List.set_cons_zero, List.set_cons_succ]
              refine wpAnyH_take (i := 23) (oi := ⟨some 109, _, _, _, _, _⟩) (v := (.bool false)) rfl (by kernel_rfl) (by kernel_rfl) (by kernel_rfl) (fun _ _ _ h => h) (Or.inl ⟨by rfl, fun w' hw => by (have q1 := neq_data rr (fun _ => 0); rw [hdq] at q1; go_simp)⟩) hHeld ?_
              try simp only [Act.put, List.setIfInBounds_toArray, List.set_cons_zero, List.set_cons_succ]
              refine wpAnyH_take (i := 24) (oi := ⟨some 110, _, _, _, _, _⟩) (v := (.bool false)) rfl (by kernel_rfl) (by kernel_rfl) (by kernel_rfl) (fun _ _ _ h => h) (Or.inl ⟨by rfl, fun w' hw => by go_simp⟩) hHeld ?_
              try simp only [Act.put, List.setIfInBounds_toArray, List.set_cons_zero, List.set_cons_succ]
              refine wpAnyH_take (i := 25) (oi := ⟨some 111, _, _, _, _, _⟩) (v := (.bool false)) rfl (by kernel_rfl) (by kernel_rfl) (by kernel_rfl) (fun _ _ _ h => h) (Or.inl ⟨by rfl, fun w' hw => by go_simp⟩) hHeld ?_
              try simp only [Act.put, List.setIfInBounds_toArray, List.set_cons_zero, List.set_cons_succ]
              refine wpAnyH_done (by kernel_rfl) ?_ _
              clear hHeld hdq hsb
              have HKk := Lib.hid hkb
              have HNk := Lib.hid hNb
              have HOk2 := Lib.hid hop
              have HEk := Lib.hid hE
              clear hkb hNb hop hE
              go_upto_region 20 with fail
              have hkb := HKk.out
              have hNb := HNk.out
              have hop := HOk2.out
              have hE := HEk.out
              clear HKk HNk HOk2 HEk
              have hE := hE.back (Z0 := ZK) (fun i hi => .inl hi) HKZ.out.old (fun u u' hs hk f => FS.keep HKZ.out hs hk f)
              rcases hop with hop | hop | hop
              · rw [hop] at hNb
                have HKn := Lib.hid ((hkb.look id (dw (y i).2.2)))
                have HSn := Lib.hid hNb
                have HE := Lib.hid hE
                rw [hop]
                clear hE hNb hkb hop
                go_wp2_with fail
                go_roundw
                case rel => exact ⟨i + 1, by go_num, by omega, _, _, _, _, HKn.out, HSn.out, HE.out⟩
                case measure => simp [intOf]; omega
              · rw [hop] at hNb
                have HKn := Lib.hid ((hkb.put id (dw (y i).2.2)))
                have HSn := Lib.hid hNb
                have ci := hE.hF.1.2.cell hid
                have fi := hE.hF.1.2.frozen id
                have hE' := hE.put (Y := just ib) ((Only.refl _ _).setCell (p := ⟨ib, id, none⟩) (.inl (just_self _)) (.bool true)) (fun j e => by have e : j = ib := e; subst e; exact ⟨HKZ.out.zi, HKZ.out.oi⟩) (FS.setS HKZ.out hE.hF id true) (fun u u' hs hk f => FS.keep HKZ.out hs hk f)
                have HE := Lib.hid hE'
                rw [hop]
                clear hE hE' hNb hkb hop
                go_upto_region 22 with fail
                have hE := HE.out
                clear HE ci fi
                generalize World.setCell _ _ _ = w20 at *
                obtain ⟨q0, q1, q2⟩ := sp_cells (FS.rng hE.hF hin)
                have HE := Lib.hid hE
                clear hE
                go_wp2_with fail
                refine (sdata_of (y i).2.2 _).mono ?_
                rintro e w21 ⟨rfl, hb21⟩
                have hE := HE.out.nob (Only.of_below hb21)
                clear hb21 HE q0 q1 q2
                have HT := Lib.hid (vfS_there hE.hF.2 hid)
                have hE' := hE.put (Y := just vb) (only_setCells (S := just vb) (DA (dw (y i).2.2)).toList (id * 8) _ (Only.refl _ _) (.inl (just_self _))) (fun j e => by have e : j = vb := e; subst e; exact ⟨HKZ.out.zv, HKZ.out.ov⟩) (FS.setVs HKZ.out hE.hF id (dw (y i).2.2)) (fun u u' hs hk f => FS.keep HKZ.out hs hk f)
                have HE := Lib.hid hE'
                clear hE hE'
                go_wp2_with (with_reducible refine wpList_store_data rfl (.tmp 125) (.tmp 124) rfl vb (id * 8) rfl (dw (y i).2.2) rfl HT.out ?_)
                go_roundw
                case rel => exact ⟨i + 1, by go_num, by omega, _, _, _, _, HKn.out, HSn.out, HE.out⟩
                case measure => simp [intOf]; omega
              · rw [hop] at hNb
                have HKn := Lib.hid ((hkb.drop id (dw (y i).2.2)))
                have HSn := Lib.hid hNb
                have ci := hE.hF.1.2.cell hid
                have fi := hE.hF.1.2.frozen id
                have hE' := hE.put (Y := just ib) ((Only.refl _ _).setCell (p := ⟨ib, id, none⟩) (.inl (just_self _)) (.bool false)) (fun j e => by have e : j = ib := e; subst e; exact ⟨HKZ.out.zi, HKZ.out.oi⟩) (FS.setS HKZ.out hE.hF id false) (fun u u' hs hk f => FS.keep HKZ.out hs hk f)
                have HE := Lib.hid hE'
                rw [hop]
                clear hE hE' hNb hkb hop
                go_wp2_with fail
                go_roundw
                case rel => exact ⟨i + 1, by go_num, by omega, _, _, _, _, HKn.out, HSn.out, HE.out⟩
                case measure => simp [intOf]; omega
            · obtain ⟨d0, hm⟩ : ∃ d0, b (id : Int) = some d0 := by
                have := (hkb id).1
                rw [hsb] at this
                cases h : b (id : Int) with
                | none => rw [h] at this; cases this
                | some d => exact ⟨d, rfl⟩
              have ht2 : t = true := by rw [ht, hm]; rfl
              subst ht2
              have hdq : deq rr (v id) = true := by
                rw [hm] at hd
                rw [(hkb id).2 d0 hm]
                exact deq_of _ _ (DA_injS hd)
              clear ht hd hm
              have hE := hE.drew
              refine held_s (S := (fun u => FS c cb ib vb B w (some ⟨yb, yo, none⟩) nl y s v u ∧ Box u db 48 (DA rr))) 26 rfl (by kernel_rfl) hE.hF (fun hHeld => ?_)
              simp only [Array.replicate_succ, Array.replicate_zero, List.push_toArray, List.nil_append, List.cons_append]
              generalize World.drew _ = wd at *
              refine wpAnyH_take (i := 0) (oi := ⟨some 86, _, _, _, _, _⟩) (v := (.bool true)) rfl (by kernel_rfl) (by kernel_rfl) (by kernel_rfl) (fun _ _ _ h => h) (Or.inl ⟨by rfl, fun w' hw => by go_simp⟩) hHeld ?_
              try simp only [Act.put, List.setIfInBounds_toArray, List.set_cons_zero, List.set_cons_succ]
              refine wpAnyH_take (i := 1) (oi := ⟨some 87, _, _, _, _, _⟩) (v := (.slice (some ⟨ib, 0, none⟩) B B)) rfl (by kernel_rfl) (by kernel_rfl) (by kernel_rfl) (fun _ _ _ h => h) (Or.inl ⟨by rfl, fun w' hw => by go_simp⟩) hHeld ?_
              try simp only [Act.put, List.setIfInBounds_toArray, List.set_cons_zero, List.set_cons_succ]
              refine wpAnyH_take (i := 2) (oi := ⟨some 88, _, _, _, _, _⟩) (v := (.int .u64 (id : Int))) rfl (by kernel_rfl) (by kernel_rfl) (by kernel_rfl) (fun _ _ _ h => h) (Or.inl ⟨by rfl, fun w' hw => by go_simp⟩) hHeld ?_
              try simp only [Act.put, List.setIfInBounds_toArray, List.set_cons_zero, List.set_cons_succ]
              refine wpAnyH_take (i := 3) (oi := ⟨some 89, _, _, _, _, _⟩) (v := (.pointer (some ⟨ib, id, none⟩))) rfl (by kernel_rfl) (by kernel_rfl) (by kernel_rfl) (fun _ _ _ h => h) (Or.inl ⟨by rfl, fun w' hw => by go_simp⟩) hHeld ?_
              try simp only [Act.put, List.setIfInBounds_toArray, List.set_cons_zero, List.set_cons_succ]
              refine wpAnyH_take (i := 4) (oi := ⟨some 90, _, _, _, _, _⟩) (v := (.bool true)) rfl (by kernel_rfl) (by kernel_rfl) (by kernel_rfl) (fun _ _ _ h => h) (Or.inl ⟨by rfl, fun w' hw => by (have c := hw.1.1.2.cell hid; rw [hsb] at c; go_simp)⟩) hHeld ?_
              try simp only [Act.put, List.setIfInBounds_toArray, List.set_cons_zero, List.set_cons_succ]
              refine wpAnyH_take (i := 5) (oi := ⟨some 91, _, _, _, _, _⟩) (v := (.bool false)) rfl (by kernel_rfl) (by kernel_rfl) (by kernel_rfl) (fun _ _ _ h => h) (Or.inl ⟨by rfl, fun w' hw => by go_simp⟩) hHeld ?_
              try simp only [Act.put, List.setIfInBounds_toArray, List.set_cons_zero, List.set_cons_succ]
              refine wpAnyH_take (i := 6) (oi := ⟨some 92, _, _, _, _, _⟩) (v := (.bool false)) rfl (by kernel_rfl) (by kernel_rfl) (by kernel_rfl) (fun _ _ _ h => h) (Or.inl ⟨by rfl, fun w' hw => by go_simp⟩) hHeld ?_
              try simp only [Act.put, List.setIfInBounds_toArray, List.set_cons_zero, List.set_cons_succ]
              refine wpAnyH_take (i := 7) (oi := ⟨some 93, _, _, _, _, _⟩) (v := (.bool true)) rfl (by kernel_rfl) (by kernel_rfl) (by kernel_rfl) (fun _ _ _ h => h) (Or.inl ⟨by rfl, fun w' hw => by go_simp⟩) hHeld ?_
              try simp only [Act.put, List.setIfInBounds_toArray, List.set_cons_zero, List.set_cons_succ]
              refine wpAnyH_take (i := 8) (oi := ⟨some 94, _, _, _, _, _⟩) (v := (.bool true)) rfl (by kernel_rfl) (by kernel_rfl) (by kernel_rfl) (fun _ _ _ h => h) (Or.inl ⟨by rfl, fun w' hw => by go_simp⟩) hHeld ?_
              try simp only [Act.put, List.setIfInBounds_toArray, List.set_cons_zero, List.set_cons_succ]
              refine take_row 9 (oi := ⟨some 95, _, _, _, _, _⟩) (DA rr).toList rfl (by kernel_rfl) (by kernel_rfl) (by kernel_rfl) (fun _ _ _ h => h) (by rfl) _ _ rfl _ _ rfl _ (fun w' hw => hw.2.range) Tryz.underlying48 rfl (infoData rr) hHeld ?_
              try simp only [Act.put, List.setIfInBounds_toArray, List.set_cons_zero, List.set_cons_succ]
              refine wpAnyH_take (i := 10) (oi := ⟨some 96, _, _, _, _, _⟩) (v := (.slice (some ⟨vb, 0, none⟩) B B)) rfl (by kernel_rfl) (by kernel_rfl) (by kernel_rfl) (fun _ _ _ h => h) (Or.inl ⟨by rfl, fun w' hw => by go_simp⟩) hHeld ?_
              try simp only [Act.put, List.setIfInBounds_toArray, List.set_cons_zero, List.set_cons_succ]
              refine wpAnyH_take (i := 11) (oi := ⟨some 97, _, _, _, _, _⟩) (v := (.int .u64 (id : Int))) rfl (by kernel_rfl) (by kernel_rfl) (by kernel_rfl) (fun _ _ _ h => h) (Or.inl ⟨by rfl, fun w' hw => by go_simp⟩) hHeld ?_
              try simp only [Act.put, List.setIfInBounds_toArray, List.set_cons_zero, List.set_cons_succ]
              refine wpAnyH_take (i := 12) (oi := ⟨some 98, _, _, _, _, _⟩) (v := (.pointer (some ⟨vb, id * 8, none⟩))) rfl (by kernel_rfl) (by kernel_rfl) (by kernel_rfl) (fun _ _ _ h => h) (Or.inl ⟨by rfl, fun w' hw => by go_simp⟩) hHeld ?_
              try simp only [Act.put, List.setIfInBounds_toArray, List.set_cons_zero, List.set_cons_succ]
              refine take_row 13 (oi := ⟨some 99, _, _, _, _, _⟩) (DA (v id)).toList rfl (by kernel_rfl) (by kernel_rfl) (by kernel_rfl) (fun _ _ _ h => h) (by rfl) _ _ rfl _ _ rfl _ (fun w' hw => vfS_range hw.1.2 hid) Tryz.underlying48 rfl (infoData (v id)) hHeld ?_
              try simp only [Act.put, List.setIfInBounds_toArray, List.set_cons_zero, List.set_cons_succ]
              refine wpAnyH_take (i := 14) (oi := ⟨some 100, _, _, _, _, _⟩) (v := (.bool false)) rfl (by kernel_rfl) (by kernel_rfl) (by kernel_rfl) (fun _ _ _ h => h) (Or.inl ⟨by rfl, fun w' hw => by (have q1 := neq_data rr (v id); rw [hdq] at q1; go_simp)⟩) hHeld ?_
              try simp only [Act.put, List.setIfInBounds_toArray, List.set_cons_zero, List.set_cons_succ]
              refine wpAnyH_take (i := 15) (oi := ⟨some 101, _, _, _, _, _⟩) (v := (.bool false)) rfl (by kernel_rfl) (by kernel_rfl) (by kernel_rfl) (fun _ _ _ h => h) (Or.inl ⟨by rfl, fun w' hw => by go_simp⟩) hHeld ?_
              try simp only [Act.put, List.setIfInBounds_toArray, List.set_cons_zero, List.set_cons_succ]
              refine wpAnyH_take (i := 16) (oi := ⟨some 102, _, _, _, _, _⟩) (v := (.bool false)) rfl (by kernel_rfl) (by kernel_rfl) (by kernel_rfl) (fun _ _ _ h => h) (Or.inl ⟨by rfl, fun w' hw => by go_simp⟩) hHeld ?_
              try simp only [Act.put, List.setIfInBounds_toArray, List.set_cons_zero, List.set_cons_succ]
              refine wpAnyH_take (i := 17) (oi := ⟨some 103, _, _, _, _, _⟩) (v := (.bool false)) rfl (by kernel_rfl) (by kernel_rfl) (by kernel_rfl) (fun _ _ _ h => h) (Or.inl ⟨by rfl, fun w' hw => by go_simp⟩) hHeld ?_
              try simp only [Act.put, List.setIfInBounds_toArray, List.set_cons_zero, List.set_cons_succ]
              refine wpAnyH_take (i := 18) (oi := ⟨some 104, _, _, _, _, _⟩) (v := (.bool true)) rfl (by kernel_rfl) (by kernel_rfl) (by kernel_rfl) (fun _ _ _ h => h) (Or.inl ⟨by rfl, fun w' hw => by go_simp⟩) hHeld ?_
              try simp only [Act.put, List.setIfInBounds_toArray, List.set_cons_zero, List.set_cons_succ]
              refine wpAnyH_take (i := 19) (oi := ⟨some 105, _, _, _, _, _⟩) (v := (.bool false)) rfl (by kernel_rfl) (by kernel_rfl) (by kernel_rfl) (fun _ _ _ h => h) (Or.inl ⟨by rfl, fun w' hw => by go_simp⟩) hHeld ?_
              try simp only [Act.put, List.setIfInBounds_toArray, List.set_cons_zero, List.set_cons_succ]
              refine wpAnyH_take (i := 20) (oi := ⟨some 106, _, _, _, _, _⟩) (v := (.bool false)) rfl (by kernel_rfl) (by kernel_rfl) (by kernel_rfl) (fun _ _ _ h => h) (Or.inl ⟨by rfl, fun w' hw => by go_simp⟩) hHeld ?_
              try simp only [Act.put, List.setIfInBounds_toArray, List.set_cons_zero, List.set_cons_succ]
              refine wpAnyH_take (i := 21) (oi := ⟨some 107, _, _, _, _, _⟩) (v := undef) rfl (by kernel_rfl) (by kernel_rfl) (by kernel_rfl) (fun _ _ _ h => h) (Or.inr ⟨by rfl, rfl⟩) hHeld ?_
              try simp only [Act.put, List.setIfInBounds_toArray, List.set_cons_zero, List.set_cons_succ]
              refine wpAnyH_take (i := 22) (oi := ⟨some 108, _, _, _, _, _⟩) (v := undef) rfl (by kernel_rfl) (by kernel_rfl) (by kernel_rfl) (fun _ _ _ h => h) (Or.inr ⟨by rfl, rfl⟩) hHeld ?_
              try simp only [Act.put, List.setIfInBounds_toArray, List.set_cons_zero, List.set_cons_succ]
              refine wpAnyH_take (i := 23) (oi := ⟨some 109, _, _, _, _, _⟩) (v := undef) rfl (by kernel_rfl) (by kernel_rfl) (by kernel_rfl) (fun _ _ _ h => h) (Or.inr ⟨by rfl, rfl⟩) hHeld ?_
              try simp only [Act.put, List.setIfInBounds_toArray, List.set_cons_zero, List.set_cons_succ]
              refine wpAnyH_take (i := 24) (oi := ⟨some 110, _, _, _, _, _⟩) (v := (.bool false)) rfl (by kernel_rfl) (by kernel_rfl) (by kernel_rfl) (fun _ _ _ h => h) (Or.inl ⟨by rfl, fun w' hw => by go_simp⟩) hHeld ?_
              try simp only [Act.put, List.setIfInBounds_toArray, List.set_cons_zero, List.set_cons_succ]
              refine wpAnyH_take (i := 25) (oi := ⟨some 111, _, _, _, _, _⟩) (v := (.bool false)) rfl (by kernel_rfl) (by kernel_rfl) (by kernel_rfl) (fun _ _ _ h => h) (Or.inl ⟨by rfl, fun w' hw => by go_simp⟩) hHeld ?_
              try simp only [Act.put, List.setIfInBounds_toArray, List.set_cons_zero, List.set_cons_succ]
              refine wpAnyH_done (by kernel_rfl) ?_ _
              clear hHeld hdq hsb
              have HKk := Lib.hid hkb
              have HNk := Lib.hid hNb
              have HOk2 := Lib.hid hop
              have HEk := Lib.hid hE
              clear hkb hNb hop hE
              go_upto_region 20 with fail
              have hkb := HKk.out
              have hNb := HNk.out
              have hop := HOk2.out
              have hE := HEk.out
              clear HKk HNk HOk2 HEk
              have hE := hE.back (Z0 := ZK) (fun i hi => .inl hi) HKZ.out.old (fun u u' hs hk f => FS.keep HKZ.out hs hk f)
              rcases hop with hop | hop | hop
              · rw [hop] at hNb
                have HKn := Lib.hid ((hkb.look id (dw (y i).2.2)))
                have HSn := Lib.hid hNb
                have HE := Lib.hid hE
                rw [hop]
                clear hE hNb hkb hop
                go_wp2_with fail
                go_roundw
                case rel => exact ⟨i + 1, by go_num, by omega, _, _, _, _, HKn.out, HSn.out, HE.out⟩
                case measure => simp [intOf]; omega
              · rw [hop] at hNb
                have HKn := Lib.hid ((hkb.put id (dw (y i).2.2)))
                have HSn := Lib.hid hNb
                have ci := hE.hF.1.2.cell hid
                have fi := hE.hF.1.2.frozen id
                have hE' := hE.put (Y := just ib) ((Only.refl _ _).setCell (p := ⟨ib, id, none⟩) (.inl (just_self _)) (.bool true)) (fun j e => by have e : j = ib := e; subst e; exact ⟨HKZ.out.zi, HKZ.out.oi⟩) (FS.setS HKZ.out hE.hF id true) (fun u u' hs hk f => FS.keep HKZ.out hs hk f)
                have HE := Lib.hid hE'
                rw [hop]
                clear hE hE' hNb hkb hop
                go_upto_region 22 with fail
                have hE := HE.out
                clear HE ci fi
                generalize World.setCell _ _ _ = w20 at *
                obtain ⟨q0, q1, q2⟩ := sp_cells (FS.rng hE.hF hin)
                have HE := Lib.hid hE
                clear hE
                go_wp2_with fail
                refine (sdata_of (y i).2.2 _).mono ?_
                rintro e w21 ⟨rfl, hb21⟩
                have hE := HE.out.nob (Only.of_below hb21)
                clear hb21 HE q0 q1 q2
                have HT := Lib.hid (vfS_there hE.hF.2 hid)
                have hE' := hE.put (Y := just vb) (only_setCells (S := just vb) (DA (dw (y i).2.2)).toList (id * 8) _ (Only.refl _ _) (.inl (just_self _))) (fun j e => by have e : j = vb := e; subst e; exact ⟨HKZ.out.zv, HKZ.out.ov⟩) (FS.setVs HKZ.out hE.hF id (dw (y i).2.2)) (fun u u' hs hk f => FS.keep HKZ.out hs hk f)
                have HE := Lib.hid hE'
                clear hE hE'
                go_wp2_with (with_reducible refine wpList_store_data rfl (.tmp 125) (.tmp 124) rfl vb (id * 8) rfl (dw (y i).2.2) rfl HT.out ?_)
                go_roundw
                case rel => exact ⟨i + 1, by go_num, by omega, _, _, _, _, HKn.out, HSn.out, HE.out⟩
                case measure => simp [intOf]; omega
              · rw [hop] at hNb
                have HKn := Lib.hid ((hkb.drop id (dw (y i).2.2)))
                have HSn := Lib.hid hNb
                have ci := hE.hF.1.2.cell hid
                have fi := hE.hF.1.2.frozen id
                have hE' := hE.put (Y := just ib) ((Only.refl _ _).setCell (p := ⟨ib, id, none⟩) (.inl (just_self _)) (.bool false)) (fun j e => by have e : j = ib := e; subst e; exact ⟨HKZ.out.zi, HKZ.out.oi⟩) (FS.setS HKZ.out hE.hF id false) (fun u u' hs hk f => FS.keep HKZ.out hs hk f)
                have HE := Lib.hid hE'
                rw [hop]
                clear hE hE' hNb hkb hop
                go_wp2_with fail
                go_roundw
                case rel => exact ⟨i + 1, by go_num, by omega, _, _, _, _, HKn.out, HSn.out, HE.out⟩
                case measure => simp [intOf]; omega
          · have HE := Lib.hid HE11.out.kp
            clear HE11
            go_wp2_with fail
            go_ret
            exact ⟨rfl, HE.out⟩
        · have hnn : ¬ (i : Int) < (nl : Int) := by omega
          have HE := Lib.hid hE.kp
          clear hE
          go_wp2_with fail
          go_ret
          exact ⟨rfl, HE.out⟩
end Go.Proofs.YtloibfdcahmhjaaGreat
