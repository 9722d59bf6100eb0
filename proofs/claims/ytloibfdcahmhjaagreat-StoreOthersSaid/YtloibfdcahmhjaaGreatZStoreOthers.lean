/- StoreOthers: what is done to one block does not change another one, until one is lost. -/
import Derived.Test.YtloibfdcahmhjaaGreatG49
namespace Go.Proofs.YtloibfdcahmhjaaGreat
set_option maxRecDepth 100000
open Go.RowKit Go.ChangeShapes Go.WideShapes Go.ChangeAt Go.Maps Go.Deep

/-- Until one is lost a block is what was put. -/
def OtS (c : SC) (g : SG) (id : Nat) (d : Nat → Int) : Prop := ovN g c.n = false → ∃ b, StB c g b ∧ b (id : Int) = some d
theorem Grw.ovN {g g' : SG} (h : Grw g g') {n : Nat} (hn : ovN g' n = false) : Go.Proofs.YtloibfdcahmhjaaGreat.ovN g n = false := (ovN_iff g n).2 fun j hj => by
  have := (ovN_iff g' n).1 hn j hj
  cases e : g.ov j
  · rfl
  · rw [h.1 j e] at this; cases this
theorem OtS.next {c : SC} {g g' : SG} {id : Nat} {d : Nat → Int} (h : OtS c g id d) (hG : Grw g g') {op : Int} {ib : Nat} (hne : ib ≠ id) {e : Nat → Int} {rr : Nat → Int} {t : Bool}
    (hN : NoO c g' → ∀ b, StB c g b → DA rr = DA (datD (b (ib : Int))) ∧ t = (b (ib : Int)).isSome ∧ StB c g' (setD b (ib : Int) (nxD op e (b (ib : Int))))) : OtS c g' id d := fun hh => by
  obtain ⟨b, hb, hd⟩ := h (hG.ovN hh)
  refine ⟨_, (hN (noO_over hh) b hb).2.2, ?_⟩
  unfold setD
  rw [if_neg (by omega)]
  exact hd
theorem and_ten (a : Int) : ∃ k : Nat, k ≤ 1023 ∧ bits .and .u64 a 1023 = (k : Int) := by
  refine ⟨(BitVec.ofInt 64 a).toNat % 1024, by have := Nat.mod_lt (BitVec.ofInt 64 a).toNat (show 0 < 1024 by decide); omega, ?_⟩
  show IntKind.u64.wrap ((BitVec.ofInt 64 a &&& BitVec.ofInt 64 (1023 : Int)).toNat : Int) = _
  rw [BitVec.toNat_and, show (BitVec.ofInt 64 (1023 : Int)).toNat = 2 ^ 10 - 1 by decide, IntKind.wrap_u64, Nat.and_two_pow_sub_one_eq_mod]
  have := Nat.mod_lt (BitVec.ofInt 64 a).toNat (show 0 < 2 ^ 10 by decide)
  omega
theorem nums_at {w : World} {B b o n : Nat} {x : Nat → Int} (h : Nums .u64 w B (some ⟨b, o, none⟩) n x) {i : Nat} (hi : i < n) : w.cell? ⟨b, o + i, none⟩ = some (.int .u64 (x i)) := by
  obtain ⟨b', o', e, _, hr⟩ := h.at hi
  injection e with e
  injection e with e1 e2
  rw [e1, e2]
  exact hr
/-- A raw word's block. -/
theorem idM_rem (c : SC) (hB : c.B = ((2 ^ c.b : Nat) : Int)) {m : Int} (h : 0 ≤ m) : m.tmod c.B = ((idM c m : Nat) : Int) := by
  unfold idM
  rw [hB]
  obtain ⟨u, rfl⟩ := Int.eq_ofNat_of_zero_le h
  rw [Int.toNat_natCast]
  rfl
set_option linter.unusedSimpArgs false in
set_option maxRecDepth 100000 in
set_option linter.unusedSimpArgs false in
set_option maxHeartbeats 8000000 in
theorem sothers_law (n : Int) (A : Option Addr) (nz cz : Nat) (z : Nat → Int) (m2 m3 : Int) (X : Option Addr) (nx cx : Nat) (x : Nat → Int) (w : World) (hn : (Lit.int .i64 n).wf = true) (hz : Nums .u64 w w.heap.size A nz z) (hzr : ∀ j, j < nz → (Lit.int .u64 (z j)).wf = true)
    (h2 : (Lit.int .u64 m2).wf = true) (h3 : (Lit.int .u64 m3).wf = true) (hS : Nums .u64 w w.heap.size X nx x) :
    Calls Tryz.prog 11 #[.int .i64 n, .slice A nz cz, .int .u64 m2, .int .u64 m3, .slice X nx cx] w fun e w' => e = .returned (.bool true) ∧ Below w.heap.size w w' := by
  by_cases hl : 12 < nx
  · have h24 : (12 : Int) < (nx : Int) := by omega
    go_enter Tryz.func11, Tryz.ntmps11
    go_wp2_with fail
    refine (sshown_of _).mono ?_
    rintro e w1 ⟨rfl, hb1⟩
    have HB1 := Lib.hid hb1
    clear hb1
    go_wp2_with fail
    go_ret
    exact ⟨rfl, HB1.out⟩
  · have h24 : ¬ (12 : Int) < (nx : Int) := by omega
    by_cases hl2 : 400 < nz
    · have h400 : (400 : Int) < (nz : Int) := by omega
      go_enter Tryz.func11, Tryz.ntmps11
      go_wp2_with fail
      refine (sshown_of _).mono ?_
      rintro e w1 ⟨rfl, hb1⟩
      have HB1 := Lib.hid hb1
      clear hb1
      go_wp2_with fail
      go_ret
      exact ⟨rfl, HB1.out⟩
    · have h400 : ¬ (400 : Int) < (nz : Int) := by omega
      obtain ⟨c, hc, hsm, hcf, hmd⟩ := slaw_config n (i64_rng hn).1 (i64_rng hn).2
      have eB := hc.bB.symm
      have r2 := idM_rem c eB (u64_rng h2).1
      have r3 := idM_rem c eB (u64_rng h3).1
      have i2 := idM_lt c m2
      have i3 := idM_lt c m3
      obtain ⟨ia, hia⟩ : ∃ i, idM c m2 = i := ⟨_, rfl⟩
      obtain ⟨ib, hib⟩ : ∃ i, idM c m3 = i := ⟨_, rfl⟩
      rw [hia] at r2 i2
      rw [hib] at r3 i3
      have HOp : Hid (∀ (n : Int) (i : Nat), i < 2 ^ c.b → isOp (opI n) i (2 ^ c.b) = true) := Lib.hid (by
        intro n i hi
        unfold isOp
        rcases opI_ok n with e | e | e <;> rw [e] <;> simp [hi])
      have HP1 : Hid (isOp 1 ia (2 ^ c.b) = true ∧ isOp 0 ia (2 ^ c.b) = true) := Lib.hid (by unfold isOp; simp [i2])
      have hB32 : 2 ^ c.b ≤ 32 := by have : 2 ^ c.b ≤ 2 ^ 5 := Nat.pow_le_pow_right (by decide) hsm.1; omega
      have hbp := Nat.two_pow_pos c.b
      obtain ⟨B, hBB⟩ : ∃ B, 2 ^ c.b = B := ⟨_, rfl⟩
      have HIb := Lib.hid i3
      rw [hBB] at eB hB32 i2 i3 hbp
      have hB0 : ¬ c.B = 0 := by rw [eB]; omega
      have hwB : IntKind.u64.wrap c.B = c.B := by rw [IntKind.wrap_u64, eB]; omega
      have hwa : IntKind.u64.wrap (ia : Int) = (ia : Int) := by rw [IntKind.wrap_u64]; omega
      have hwb : IntKind.u64.wrap (ib : Int) = (ib : Int) := by rw [IntKind.wrap_u64]; omega
      have HCf := Lib.hid hcf
      have HMd := Lib.hid hmd
      have HC := Lib.hid hc
      have HNu := Lib.hid hS
      have HZ := Lib.hid hz
      have HZr : Hid (∀ j, j < nz → 0 ≤ z j ∧ z j ≤ 18446744073709551615) := Lib.hid fun j hj => u64_rng (hzr j hj)
      clear hcf hmd hc hS hn hz hzr hsm h2 h3 i2 i3 hia hib eB hB32 hbp hBB
      go_enter Tryz.func11, Tryz.ntmps11
      go_wp2_with fail
      refine (sshown_of _).mono ?_
      rintro e w1 ⟨rfl, hb1⟩
      have HB1 := Lib.hid hb1
      clear hb1
      go_wp2_with fail
      refine (HCf.out _).mono ?_
      rintro e w2 ⟨rfl, hb2⟩
      have HB2 := Lib.hid (HB1.out.trans (hb2.mono HB1.out.size))
      clear hb2 HB1 HCf
      go_upto_region 5 with (refine wpList_store_newS rfl (.tmp 12) (.tmp 34) rfl rfl c rfl rfl ?_)
      obtain ⟨cb, hcb⟩ : ∃ b, w2.heap.size = b := ⟨_, rfl⟩
      have hbx := Box.new w2 79 (sfA c)
      have HB3 := Lib.hid (HB2.out.alloc HB2.out.size (.cells (sfA c) 79))
      have hcs : cb < (w2.alloc (.cells (sfA c) 79)).heap.size := by rw [← hcb]; exact hbx.lt
      have hws : w.heap.size ≤ cb := by rw [← hcb]; exact HB2.out.size
      rw [hcb] at hbx ⊢
      have HBx := Lib.hid hbx
      have HCs := Lib.hid hcs
      have HWs := Lib.hid hws
      clear hcb hbx hcs hws HB2
      generalize w2.alloc (.cells (sfA c) 79) = w3 at *
      have k0 := sc_0 HBx.out
      have k1 := sc_1 HBx.out
      have k2 := sc_2 HBx.out
      have k3 := sc_3 HBx.out
      go_wp2_with fail
      refine (HMd.out w3 A nz cz z ((HZ.out.below HB3.out).more HB3.out.size) (by omega) HZr.out).mono ?_
      rintro e w4 ⟨a, rfl, hSt, ho4⟩
      obtain ⟨Z, hZc, hE⟩ : ∃ Z : Nat → Prop, Z cb ∧ StS c a w Z (fun u => Box u cb 79 (sfA c) ∧ Nums .u64 u w.heap.size X nx x) (sg0 c nz z) 0 w4 := ⟨fun i => i < w3.heap.size, HCs.out, StS.made hSt ho4 HB3.out ⟨HBx.out, HNu.out.below HB3.out⟩ (fun u u' hs hk h => ⟨hk.box h.1 HCs.out, h.2.below ((hk.mono fun i hi => by have := HB3.out.size; show i < w3.heap.size; omega).below hs (fun _ h => h))⟩)⟩
      have HZc := Lib.hid hZc
      have HE := Lib.hid hE
      clear ho4 hSt HMd HB3 HBx k0 k1 k2 k3 HCs hZc hE w3
      have HB0 := Lib.hid (stB_new c nz z)
      generalize sg0 c nz z = g0 at *
      have k0 := sc_0 HE.out.hF.1
      by_cases hab : ia = ib
      · have hab' : (ia : Int) = (ib : Int) := by omega
        go_wp2_with fail
        go_ret
        exact ⟨rfl, HE.out.kp⟩
      · have hab' : ¬ (ia : Int) = (ib : Int) := by omega
        go_wp2_with fail
        refine (sdata_of 7 _).mono ?_
        rintro e w5 ⟨rfl, hb5⟩
        have HE5 := Lib.hid (HE.out.nob (Only.of_below hb5))
        clear hb5 HE k0
        go_wp2_with fail
        refine (HE5.out.step HC.out 1 ia (dw 7) HP1.out.1 (fun j => dw_rng 7 j) (by decide)).mono ?_
        rintro e w6 ⟨g1, rr, t, rfl, _, _, hN1, hE6⟩
        have HO1 : Hid (OtS c g1 ia (dw 7)) := Lib.hid fun hh => ⟨_, (hN1 (noO_over hh) _ HB0.out).2.2, by unfold setD; rw [if_pos rfl]; rfl⟩
        have HE6 := Lib.hid hE6
        clear hE6 hN1 HE5 HB0
        go_wp2_with fail
        go_loopw [16] (fun v wr => ∃ i : Nat, v = .int .i64 i ∧ i ≤ nx ∧ ∃ g, OtS c g ia (dw 7) ∧ StS c a w Z (fun u => Box u cb 79 (sfA c) ∧ Nums .u64 u w.heap.size X nx x) g (20 * i + 20) wr) (fun v _ => nx - (intOf v).toNat)
        case atStart => exact ⟨0, rfl, by omega, _, HO1.out, HE6.out⟩
        case round =>
          obtain ⟨i, rfl, hi, g, hR, hE⟩ := hrel
          have HR2 := Lib.hid hR
          clear hR HO1 HE6
          by_cases hin : i < nx
          · obtain ⟨xb, xo, rfl, _, _⟩ := HNu.out.at hin
            have hnn : (i : Int) < (nx : Int) := by omega
            have hi24 : i < 12 := by omega
            obtain ⟨q, hq, hq2⟩ := and_ten (x i)
            have hq3 : IntKind.i64.wrap (q : Int) = (q : Int) := by rw [IntKind.wrap_i64]; omega
            have hib := HIb.out
            go_upto_region 16 with fail
            have hE := hE.drew
            refine held_s (S := fun u => u.cell? ⟨xb, xo + i, none⟩ = some (.int .u64 (x i))) 15 rfl (by kernel_rfl) (nums_at hE.hF.2 hin) (fun hHeld => ?_)
            simp only [Array.replicate_succ, Array.replicate_zero, List.push_toArray, List.nil_append, List.cons_append]
            generalize World.drew _ = wd at *
            refine wpAnyH_take (i := 0) (oi := ⟨some 67, _, _, _, _, _⟩) (v := (.pointer (some ⟨a.sp, 0, none⟩))) rfl (by kernel_rfl) (by kernel_rfl) (by kernel_rfl) (fun _ _ _ h => h) (Or.inl ⟨by rfl, fun w' hw => by go_simp⟩) hHeld ?_
            try simp only [Act.put, List.setIfInBounds_toArray, List.set_cons_zero, List.set_cons_succ]
            refine wpAnyH_take (i := 1) (oi := ⟨some 68, _, _, _, _, _⟩) (v := (.slice (some ⟨xb, xo, none⟩) nx cx)) rfl (by kernel_rfl) (by kernel_rfl) (by kernel_rfl) (fun _ _ _ h => h) (Or.inl ⟨by rfl, fun w' hw => by go_simp⟩) hHeld ?_
            try simp only [Act.put, List.setIfInBounds_toArray, List.set_cons_zero, List.set_cons_succ]
            refine wpAnyH_take (i := 2) (oi := ⟨some 69, _, _, _, _, _⟩) (v := (.int .i64 (i : Int))) rfl (by kernel_rfl) (by kernel_rfl) (by kernel_rfl) (fun _ _ _ h => h) (Or.inl ⟨by rfl, fun w' hw => by go_simp⟩) hHeld ?_
            try simp only [Act.put, List.setIfInBounds_toArray, List.set_cons_zero, List.set_cons_succ]
            refine wpAnyH_take (i := 3) (oi := ⟨some 70, _, _, _, _, _⟩) (v := (.pointer (some ⟨xb, xo + i, none⟩))) rfl (by kernel_rfl) (by kernel_rfl) (by kernel_rfl) (fun _ _ _ h => h) (Or.inl ⟨by rfl, fun w' hw => by go_simp⟩) hHeld ?_
            try simp only [Act.put, List.setIfInBounds_toArray, List.set_cons_zero, List.set_cons_succ]
            refine wpAnyH_take (i := 4) (oi := ⟨some 71, _, _, _, _, _⟩) (v := (.int .u64 (x i))) rfl (by kernel_rfl) (by kernel_rfl) (by kernel_rfl) (fun _ _ _ h => h) (Or.inl ⟨by rfl, fun w' hw => by (have q := hw; go_simp)⟩) hHeld ?_
            try simp only [Act.put, List.setIfInBounds_toArray, List.set_cons_zero, List.set_cons_succ]
            refine wpAnyH_take (i := 5) (oi := ⟨some 72, _, _, _, _, _⟩) (v := (.int .u64 (q : Int))) rfl (by kernel_rfl) (by kernel_rfl) (by kernel_rfl) (fun _ _ _ h => h) (Or.inl ⟨by rfl, fun w' hw => by go_simp⟩) hHeld ?_
            try simp only [Act.put, List.setIfInBounds_toArray, List.set_cons_zero, List.set_cons_succ]
            refine wpAnyH_take (i := 6) (oi := ⟨some 73, _, _, _, _, _⟩) (v := (.int .i64 (q : Int))) rfl (by kernel_rfl) (by kernel_rfl) (by kernel_rfl) (fun _ _ _ h => h) (Or.inl ⟨by rfl, fun w' hw => by go_simp⟩) hHeld ?_
            try simp only [Act.put, List.setIfInBounds_toArray, List.set_cons_zero, List.set_cons_succ]
            refine wpAnyH_take (i := 8) (oi := ⟨some 75, _, _, _, _, _⟩) (v := (.int .u64 (ib : Int))) rfl (by kernel_rfl) (by kernel_rfl) (by kernel_rfl) (fun _ _ _ h => h) (Or.inl ⟨by rfl, fun w' hw => by go_simp⟩) hHeld ?_
            try simp only [Act.put, List.setIfInBounds_toArray, List.set_cons_zero, List.set_cons_succ]
            refine wpAnyH_take (i := 9) (oi := ⟨some 76, _, _, _, _, _⟩) (v := (.slice (some ⟨xb, xo, none⟩) nx cx)) rfl (by kernel_rfl) (by kernel_rfl) (by kernel_rfl) (fun _ _ _ h => h) (Or.inl ⟨by rfl, fun w' hw => by go_simp⟩) hHeld ?_
            try simp only [Act.put, List.setIfInBounds_toArray, List.set_cons_zero, List.set_cons_succ]
            refine wpAnyH_take (i := 10) (oi := ⟨some 77, _, _, _, _, _⟩) (v := (.int .i64 (i : Int))) rfl (by kernel_rfl) (by kernel_rfl) (by kernel_rfl) (fun _ _ _ h => h) (Or.inl ⟨by rfl, fun w' hw => by go_simp⟩) hHeld ?_
            try simp only [Act.put, List.setIfInBounds_toArray, List.set_cons_zero, List.set_cons_succ]
            refine wpAnyH_take (i := 11) (oi := ⟨some 78, _, _, _, _, _⟩) (v := (.pointer (some ⟨xb, xo + i, none⟩))) rfl (by kernel_rfl) (by kernel_rfl) (by kernel_rfl) (fun _ _ _ h => h) (Or.inl ⟨by rfl, fun w' hw => by go_simp⟩) hHeld ?_
            try simp only [Act.put, List.setIfInBounds_toArray, List.set_cons_zero, List.set_cons_succ]
            refine wpAnyH_take (i := 12) (oi := ⟨some 79, _, _, _, _, _⟩) (v := (.int .u64 (x i))) rfl (by kernel_rfl) (by kernel_rfl) (by kernel_rfl) (fun _ _ _ h => h) (Or.inl ⟨by rfl, fun w' hw => by (have q := hw; go_simp)⟩) hHeld ?_
            try simp only [Act.put, List.setIfInBounds_toArray, List.set_cons_zero, List.set_cons_succ]
            refine one_ready 7 rfl (by kernel_rfl) (fun K9 hK => ?_)
            go_simp
            refine (sop_of (q : Int) _ (by omega) (by omega)).mono ?_
            rintro e w13 ⟨rfl, hb⟩
            have hE := hE.nob (Only.of_below hb)
            refine hK.out _ _ (nums_at hE.hF.2 hin) (fun hHeld => ?_)
            clear hK K9 hb
            try simp only [Act.put, List.setIfInBounds_toArray, List.set_cons_zero, List.set_cons_succ]
            refine one_ready 13 rfl (by kernel_rfl) (fun K9 hK => ?_)
            go_simp
            refine (sdata_of (x i) _).mono ?_
            rintro e w13 ⟨rfl, hb⟩
            have hE := hE.nob (Only.of_below hb)
            refine hK.out _ _ (nums_at hE.hF.2 hin) (fun hHeld => ?_)
            clear hK K9 hb
            try simp only [Act.put, List.setIfInBounds_toArray, List.set_cons_zero, List.set_cons_succ]
            refine one_ready 14 rfl (by kernel_rfl) (fun K9 hK => ?_)
            go_simp
            refine (hE.step HC.out (opI (q : Int)) ib (dw (x i)) (HOp.out (q : Int) ib hib) (fun j => dw_rng _ j) (by omega)).mono ?_
            rintro e w13 ⟨g', rr, t, rfl, hG, hI, hN, hE'⟩
            clear hE
            have hE := hE'
            clear hE'
            refine hK.out _ _ (nums_at hE.hF.2 hin) (fun hHeld => ?_)
            clear hK K9
            try simp only [Act.put, List.setIfInBounds_toArray, List.set_cons_zero, List.set_cons_succ]
            refine wpAnyH_done (by kernel_rfl) ?_ _
            have HR3 := Lib.hid (HR2.out.next hG (fun h => hab h.symm) hN)
            have HE2 := Lib.hid hE
            clear hE hHeld hG hI hN HR2 hq hq2 hq3 hib
            go_wp2_with fail
            go_roundw
            case rel => exact ⟨i + 1, by go_num, by omega, _, HR3.out, HE2.out⟩
            case measure => simp [intOf]; omega
          · have hnn : ¬ (i : Int) < (nx : Int) := by omega
            have hk : 20 * i + 20 < 19900 := by omega
            have HE := Lib.hid hE
            clear hE
            go_wp2_with fail
            refine (HE.out.step HC.out 0 ia (fun _ => 0) HP1.out.2 (fun _ => ⟨Int.le_refl 0, by show (0 : Int) ≤ 18446744073709551615; decide⟩) hk).mono ?_
            rintro e w6 ⟨g2, rr, t, rfl, hG, hI, hN, hE6⟩
            have HO2 : Hid (ovN g2 c.n = false → DA rr = DA (dw 7) ∧ t = true) := Lib.hid fun hh => by
              obtain ⟨b, hb, hd⟩ := HR2.out (hG.ovN hh)
              obtain ⟨e1, e2, _⟩ := hN (noO_over hh) b hb
              rw [hd] at e1 e2
              exact ⟨e1, e2⟩
            have HE6 := Lib.hid hE6
            clear hE6 hG hI hN HR2 hk HE
            go_upto_region 18 with (refine wpList_store_newD rfl (.tmp 17) (.tmp 87) rfl rfl rr rfl rfl ?_)
            obtain ⟨nb, hnb⟩ : ∃ b, w6.heap.size = b := ⟨_, rfl⟩
            have HE7 := Lib.hid (HE6.out.box 48 (DA rr) hnb)
            rw [hnb]
            clear HE6 hnb
            generalize w6.alloc (.cells (DA rr) 48) = w7 at *
            have hE := HE7.out.drew
            have hOv := hE.over HC.out
            obtain ⟨o, ho⟩ : ∃ o, ovN g2 c.n = o := ⟨_, rfl⟩
            rw [ho] at HO2 hOv
            have HOv := Lib.hid hOv
            clear HE7 ho hOv
            cases o
            · obtain ⟨e1, e2⟩ := HO2.out rfl
              subst e2
              rw [e1] at hE
              clear e1 HO2
              refine held_s (S := fun u => Box u nb 48 (DA (dw 7))) 11 rfl (by kernel_rfl) hE.hF.2 (fun hHeld => ?_)
              simp only [Array.replicate_succ, Array.replicate_zero, List.push_toArray, List.nil_append, List.cons_append]
              generalize World.drew _ = wd at *
              refine wpAnyH_take (i := 0) (oi := ⟨some 89, _, _, _, _, _⟩) (v := (.pointer (some ⟨a.sp, 0, none⟩))) rfl (by kernel_rfl) (by kernel_rfl) (by kernel_rfl) (fun _ _ _ h => h) (Or.inl ⟨by rfl, fun w' hw => by go_simp⟩) hHeld ?_
              try simp only [Act.put, List.setIfInBounds_toArray, List.set_cons_zero, List.set_cons_succ]
              refine one_ready 1 rfl (by kernel_rfl) (fun K hK => ?_)
              go_simp
              refine HOv.out.mono ?_
              rintro e w13 ⟨rfl, he⟩
              rw [he]
              refine hK.out _ _ hHeld (fun hHeld => ?_)
              clear hK K he w13
              try simp only [Act.put, List.setIfInBounds_toArray, List.set_cons_zero, List.set_cons_succ]
              refine wpAnyH_take (i := 2) (oi := ⟨some 91, _, _, _, _, _⟩) (v := (.bool false)) rfl (by kernel_rfl) (by kernel_rfl) (by kernel_rfl) (fun _ _ _ h => h) (Or.inl ⟨by rfl, fun w' hw => by go_simp⟩) hHeld ?_
              try simp only [Act.put, List.setIfInBounds_toArray, List.set_cons_zero, List.set_cons_succ]
              refine wpAnyH_take (i := 3) (oi := ⟨some 92, _, _, _, _, _⟩) (v := (.bool true)) rfl (by kernel_rfl) (by kernel_rfl) (by kernel_rfl) (fun _ _ _ h => h) (Or.inl ⟨by rfl, fun w' hw => by go_simp⟩) hHeld ?_
              try simp only [Act.put, List.setIfInBounds_toArray, List.set_cons_zero, List.set_cons_succ]
              refine wpAnyH_take (i := 4) (oi := ⟨some 93, _, _, _, _, _⟩) (v := (.bool true)) rfl (by kernel_rfl) (by kernel_rfl) (by kernel_rfl) (fun _ _ _ h => h) (Or.inl ⟨by rfl, fun w' hw => by go_simp⟩) hHeld ?_
              try simp only [Act.put, List.setIfInBounds_toArray, List.set_cons_zero, List.set_cons_succ]
              refine take_row 5 (oi := ⟨some 94, _, _, _, _, _⟩) (DA (dw 7)).toList rfl (by kernel_rfl) (by kernel_rfl) (by kernel_rfl) (fun _ _ _ h => h) (by rfl) _ _ rfl _ _ rfl _ (fun w' hw => hw.range) Tryz.underlying48 rfl (infoData (dw 7)) hHeld ?_
              try simp only [Act.put, List.setIfInBounds_toArray, List.set_cons_zero, List.set_cons_succ]
              refine one_ready 6 rfl (by kernel_rfl) (fun K hK => ?_)
              go_simp
              refine (sdata_of 7 _).mono ?_
              rintro e w13 ⟨rfl, hb⟩
              have ho : Only nobody _ w13 := Only.of_below hb
              have hE := hE.nob ho
              refine hK.out _ _ hE.hF.2 (fun hHeld => ?_)
              clear hK K hb ho
              try simp only [Act.put, List.setIfInBounds_toArray, List.set_cons_zero, List.set_cons_succ]
              refine wpAnyH_take (i := 7) (oi := ⟨some 96, _, _, _, _, _⟩) (v := (.bool true)) rfl (by kernel_rfl) (by kernel_rfl) (by kernel_rfl) (fun _ _ _ h => h) (Or.inl ⟨by rfl, fun w' hw => by (have q1 := eql_data (dw 7) (dw 7); rw [deq_self] at q1; go_simp)⟩) hHeld ?_
              try simp only [Act.put, List.setIfInBounds_toArray, List.set_cons_zero, List.set_cons_succ]
              refine wpAnyH_take (i := 8) (oi := ⟨some 97, _, _, _, _, _⟩) (v := (.bool true)) rfl (by kernel_rfl) (by kernel_rfl) (by kernel_rfl) (fun _ _ _ h => h) (Or.inl ⟨by rfl, fun w' hw => by go_simp⟩) hHeld ?_
              try simp only [Act.put, List.setIfInBounds_toArray, List.set_cons_zero, List.set_cons_succ]
              refine wpAnyH_take (i := 9) (oi := ⟨some 98, _, _, _, _, _⟩) (v := (.bool true)) rfl (by kernel_rfl) (by kernel_rfl) (by kernel_rfl) (fun _ _ _ h => h) (Or.inl ⟨by rfl, fun w' hw => by go_simp⟩) hHeld ?_
              try simp only [Act.put, List.setIfInBounds_toArray, List.set_cons_zero, List.set_cons_succ]
              refine wpAnyH_take (i := 10) (oi := ⟨some 10, _, _, _, _, _⟩) (v := (.bool true)) rfl (by kernel_rfl) (by kernel_rfl) (by kernel_rfl) (fun _ _ _ h => h) (Or.inl ⟨by rfl, fun w' hw => by go_simp⟩) hHeld ?_
              try simp only [Act.put, List.setIfInBounds_toArray, List.set_cons_zero, List.set_cons_succ]
              refine wpAnyH_done (by kernel_rfl) ?_ _
              have HE := Lib.hid hE.kp
              clear hE hHeld
              go_wp2_with fail
              go_ret
              exact ⟨rfl, HE.out⟩
            · refine held_s (S := fun _ => True) 11 rfl (by kernel_rfl) trivial (fun hHeld => ?_)
              simp only [Array.replicate_succ, Array.replicate_zero, List.push_toArray, List.nil_append, List.cons_append]
              generalize World.drew _ = wd at *
              refine wpAnyH_take (i := 0) (oi := ⟨some 89, _, _, _, _, _⟩) (v := (.pointer (some ⟨a.sp, 0, none⟩))) rfl (by kernel_rfl) (by kernel_rfl) (by kernel_rfl) (fun _ _ _ h => h) (Or.inl ⟨by rfl, fun w' hw => by go_simp⟩) hHeld ?_
              try simp only [Act.put, List.setIfInBounds_toArray, List.set_cons_zero, List.set_cons_succ]
              refine one_ready 1 rfl (by kernel_rfl) (fun K hK => ?_)
              go_simp
              refine HOv.out.mono ?_
              rintro e w13 ⟨rfl, he⟩
              rw [he]
              refine hK.out _ _ hHeld (fun hHeld => ?_)
              clear hK K he w13
              try simp only [Act.put, List.setIfInBounds_toArray, List.set_cons_zero, List.set_cons_succ]
              refine wpAnyH_take (i := 2) (oi := ⟨some 91, _, _, _, _, _⟩) (v := (.bool true)) rfl (by kernel_rfl) (by kernel_rfl) (by kernel_rfl) (fun _ _ _ h => h) (Or.inl ⟨by rfl, fun w' hw => by go_simp⟩) hHeld ?_
              try simp only [Act.put, List.setIfInBounds_toArray, List.set_cons_zero, List.set_cons_succ]
              refine wpAnyH_take (i := 3) (oi := ⟨some 92, _, _, _, _, _⟩) (v := undef) rfl (by kernel_rfl) (by kernel_rfl) (by kernel_rfl) (fun _ _ _ h => h) (Or.inr ⟨by rfl, rfl⟩) hHeld ?_
              try simp only [Act.put, List.setIfInBounds_toArray, List.set_cons_zero, List.set_cons_succ]
              refine wpAnyH_take (i := 4) (oi := ⟨some 93, _, _, _, _, _⟩) (v := undef) rfl (by kernel_rfl) (by kernel_rfl) (by kernel_rfl) (fun _ _ _ h => h) (Or.inr ⟨by rfl, rfl⟩) hHeld ?_
              try simp only [Act.put, List.setIfInBounds_toArray, List.set_cons_zero, List.set_cons_succ]
              refine wpAnyH_take (i := 5) (oi := ⟨some 94, _, _, _, _, _⟩) (v := undef) rfl (by kernel_rfl) (by kernel_rfl) (by kernel_rfl) (fun _ _ _ h => h) (Or.inr ⟨by rfl, rfl⟩) hHeld ?_
              try simp only [Act.put, List.setIfInBounds_toArray, List.set_cons_zero, List.set_cons_succ]
              refine wpAnyH_take (i := 6) (oi := ⟨some 95, _, _, _, _, _⟩) (v := undef) rfl (by kernel_rfl) (by kernel_rfl) (by kernel_rfl) (fun _ _ _ h => h) (Or.inr ⟨by rfl, rfl⟩) hHeld ?_
              try simp only [Act.put, List.setIfInBounds_toArray, List.set_cons_zero, List.set_cons_succ]
              refine wpAnyH_take (i := 7) (oi := ⟨some 96, _, _, _, _, _⟩) (v := undef) rfl (by kernel_rfl) (by kernel_rfl) (by kernel_rfl) (fun _ _ _ h => h) (Or.inr ⟨by rfl, rfl⟩) hHeld ?_
              try simp only [Act.put, List.setIfInBounds_toArray, List.set_cons_zero, List.set_cons_succ]
              refine wpAnyH_take (i := 8) (oi := ⟨some 97, _, _, _, _, _⟩) (v := undef) rfl (by kernel_rfl) (by kernel_rfl) (by kernel_rfl) (fun _ _ _ h => h) (Or.inr ⟨by rfl, rfl⟩) hHeld ?_
              try simp only [Act.put, List.setIfInBounds_toArray, List.set_cons_zero, List.set_cons_succ]
              refine wpAnyH_take (i := 9) (oi := ⟨some 98, _, _, _, _, _⟩) (v := (.bool true)) rfl (by kernel_rfl) (by kernel_rfl) (by kernel_rfl) (fun _ _ _ h => h) (Or.inl ⟨by rfl, fun w' hw => by go_simp⟩) hHeld ?_
              try simp only [Act.put, List.setIfInBounds_toArray, List.set_cons_zero, List.set_cons_succ]
              refine wpAnyH_take (i := 10) (oi := ⟨some 10, _, _, _, _, _⟩) (v := (.bool true)) rfl (by kernel_rfl) (by kernel_rfl) (by kernel_rfl) (fun _ _ _ h => h) (Or.inl ⟨by rfl, fun w' hw => by go_simp⟩) hHeld ?_
              try simp only [Act.put, List.setIfInBounds_toArray, List.set_cons_zero, List.set_cons_succ]
              refine wpAnyH_done (by kernel_rfl) ?_ _
              have HE := Lib.hid hE.kp
              clear hE hHeld
              go_wp2_with fail
              go_ret
              exact ⟨rfl, HE.out⟩
end Go.Proofs.YtloibfdcahmhjaaGreat

