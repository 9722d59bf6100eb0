/- StoreWords: each way is that of a word of the tape, on its level, at the place that is told; no word gives two ways; a way is gone by a word that was taken. -/
import Derived.Test.YtfonieemodbikaaGreatG47
namespace Go.Proofs.YtfonieemodbikaaGreat
set_option maxRecDepth 100000
open Go.RowKit Go.ChangeShapes Go.WideShapes Go.ChangeAt Go.Maps Go.Deep

def FW (c : SC) (cb : Nat) (W : World) (a : Option Addr) (nl : Nat) (y : Nat → Sp3) (u : World) : Prop := Box u cb 79 (sfA c) ∧ Sps3 u W.heap.size a nl y
theorem Sps3.rng {W u : World} {b o : Nat} {nl : Nat} {y : Nat → Sp3} (f : Sps3 u W.heap.size (some ⟨b, o, none⟩) nl y) {i : Nat} (hi : i < nl) : u.rangeAt b (o + i * 3) (s3c (y i)).toList := by
  obtain ⟨b', o', e, _, hr⟩ := f.at hi
  injection e with e
  injection e with e1 e2
  rw [e1, e2]
  exact hr
structure WF (c : SC) (cb : Nat) (Z : Nat → Prop) (pa qa A : Option Addr) (L nz : Nat) (P Q : Nat → Nat) (z : Nat → Int) (u : World) : Prop where
  box : Box u cb 79 (sfA c)
  p : NuZ .i64 Z u pa L (fun j => (P j : Int))
  q : NuZ .i64 Z u qa L (fun j => (Q j : Int))
  wds : NuZ .u64 Z u A nz z
  zc : Z cb
theorem WF.keep {c : SC} {cb : Nat} {Z : Nat → Prop} {pa qa A : Option Addr} {L nz : Nat} {P Q : Nat → Nat} {z : Nat → Int} {u u' : World} (h : WF c cb Z pa qa A L nz P Q z u) (hk : Kept Z u u') : WF c cb Z pa qa A L nz P Q z u' :=
  ⟨hk.box h.box h.zc, h.p.keep hk, h.q.keep hk, h.wds.keep hk, h.zc⟩
structure MtZ (ZP ZM : Nat → Prop) (w : World) (mb : Nat) : Prop where
  sub : ∀ i, ZP i → ZM i
  no : ¬ ZP mb
  yes : ZM mb
  old : w.heap.size ≤ mb
theorem nat_tmod {a b : Nat} : (a : Int).tmod (b : Int) = ((a % b : Nat) : Int) := by rw [Int.tmod_eq_emod_of_nonneg (by omega)]; rfl
theorem nat_tdiv {a b : Nat} : (a : Int).tdiv (b : Int) = ((a / b : Nat) : Int) := by rw [Int.tdiv_eq_ediv_of_nonneg (by omega)]; rfl
set_option linter.unusedSimpArgs false in
set_option maxRecDepth 100000 in
set_option linter.unusedSimpArgs false in
set_option maxHeartbeats 8000000 in
theorem swords_law (n : Int) (A : Option Addr) (nz cz : Nat) (z : Nat → Int) (ya : Option Addr) (nl c' : Nat) (y : Nat → Sp3) (w : World) (hn : (Lit.int .i64 n).wf = true) (hz : Nums .u64 w w.heap.size A nz z) (hzr : ∀ j, j < nz → (Lit.int .u64 (z j)).wf = true) (hS : Sps3 w w.heap.size ya nl y) (hy : ∀ j, j < nl → Sp3Ok (y j)) :
    Calls Tryz.prog 8 #[.int .i64 n, .slice A nz cz, .slice ya nl c'] w fun e w' => e = .returned (.bool true) ∧ Below w.heap.size w w' := by
  by_cases hl : 16 < nl
  · have h24 : (16 : Int) < (nl : Int) := by omega
    go_enter Tryz.func8, Tryz.ntmps8
    go_wp2_with fail
    refine (sshown_of _).mono ?_
    rintro e w1 ⟨rfl, hb1⟩
    have HB1 := Lib.hid hb1
    clear hb1
    go_wp2_with fail
    go_ret
    exact ⟨rfl, HB1.out⟩
  · have h24 : ¬ (16 : Int) < (nl : Int) := by omega
    by_cases hl2 : 400 < nz
    · have h400 : (400 : Int) < (nz : Int) := by omega
      go_enter Tryz.func8, Tryz.ntmps8
      go_wp2_with fail
      refine (sshown_of _).mono ?_
      rintro e w1 ⟨rfl, hb1⟩
      have HB1 := Lib.hid hb1
      clear hb1
      go_wp2_with fail
      go_ret
      exact ⟨rfl, HB1.out⟩
    · have h400 : ¬ (400 : Int) < (nz : Int) := by omega
      obtain ⟨c, hc, hsm, hcf, hmd⟩ := slaw_config n (i64_rng hn).1 (i64_rng hn).2
      have eB := hc.bB.symm
      have hB32 : 2 ^ c.b ≤ 32 := by have : 2 ^ c.b ≤ 2 ^ 5 := Nat.pow_le_pow_right (by decide) hsm.1; omega
      have hbp := Nat.two_pow_pos c.b
      have HBn : Hid (c.B = ((2 ^ c.b : Nat) : Int) ∧ 2 ^ c.b ≤ 32) := Lib.hid ⟨eB, hB32⟩
      obtain ⟨B, hBB⟩ : ∃ B, 2 ^ c.b = B := ⟨_, rfl⟩
      rw [hBB] at eB hB32 hbp
      have hB0 : ¬ c.B = 0 := by rw [eB]; omega
      have hwB : IntKind.u64.wrap c.B = c.B := by rw [IntKind.wrap_u64, eB]; omega
      have HWd := Lib.hid (fun W => swords_any c.B (c.S : Int) (c.T : Int) (c.n : Int) W (by unfold Rg; rw [eB]; omega))
      have hcn := hc.conf 0 (by have := hc.n1; omega)
      have hst : stR c.B (c.S : Int) (c.T : Int) (c.n : Int) = true := (stR_iff _ _ _ _).2 ⟨c.b, c.S, c.T, c.n, hc.b10, hc.bB.symm, rfl, rfl, rfl, hcn.s1, by have := hsm.2.1; omega, hcn.t1, by have := hsm.2.2.1; omega, hc.n1, hc.n4⟩
      rw [hst] at HWd
      simp only [if_true] at HWd
      have hn4 := hc.n4
      have hn1 := hc.n1
      have HCf := Lib.hid hcf
      have HMd := Lib.hid hmd
      have HC := Lib.hid hc
      have HSt := Lib.hid hS
      have HYk := Lib.hid hy
      have HZ := Lib.hid hz
      have HZr : Hid (∀ j, j < nz → 0 ≤ z j ∧ z j ≤ 18446744073709551615) := Lib.hid fun j hj => u64_rng (hzr j hj)
      clear hcf hmd hc hS hy hn hz hzr hsm eB hB32 hbp hBB hcn hst
      go_enter Tryz.func8, Tryz.ntmps8
      go_wp2_with fail
      refine (sshown_of _).mono ?_
      rintro e w1 ⟨rfl, hb1⟩
      have HB1 := Lib.hid hb1
      clear hb1
      go_wp2_with fail
      refine (HCf.out _).mono ?_
      rintro e w2 ⟨rfl, hb2⟩
      have HB2 := Lib.hid (HB1.out.trans (hb2.mono HB1.out.size))
      clear hb2 HB1 HCf
      go_upto_region 5 with (refine wpList_store_newS rfl (.tmp 8) (.tmp 34) rfl rfl c rfl rfl ?_)
      obtain ⟨cb, hcb⟩ : ∃ b, w2.heap.size = b := ⟨_, rfl⟩
      have hbx := Box.new w2 79 (sfA c)
      have HB3 := Lib.hid (HB2.out.alloc HB2.out.size (.cells (sfA c) 79))
      have hcs : cb < (w2.alloc (.cells (sfA c) 79)).heap.size := by rw [← hcb]; exact hbx.lt
      have hws : w.heap.size ≤ cb := by rw [← hcb]; exact HB2.out.size
      rw [hcb] at hbx ⊢
      have HBx := Lib.hid hbx
      have HCs := Lib.hid hcs
      have HWs := Lib.hid hws
      clear hcb hbx hcs hws HB2
      generalize w2.alloc (.cells (sfA c) 79) = w3 at *
      have k0 := sc_0 HBx.out
      have k1 := sc_1 HBx.out
      have k2 := sc_2 HBx.out
      have k3 := sc_3 HBx.out
      go_wp2_with fail
      refine (HMd.out w3 A nz cz z ((HZ.out.below HB3.out).more HB3.out.size) (by omega) HZr.out).mono ?_
      rintro e w4 ⟨a, rfl, hSt, ho4⟩
      obtain ⟨Z, hZc, hE⟩ : ∃ Z : Nat → Prop, Z cb ∧ StS c a w Z (FW c cb w ya nl y) (sg0 c nz z) 0 w4 := ⟨fun i => i < w3.heap.size, HCs.out, StS.made hSt ho4 HB3.out ⟨HBx.out, HSt.out.below HB3.out⟩ (fun u u' hs hk f => ⟨hk.box f.1 HCs.out, f.2.below ((hk.mono fun i hi => by have := HB3.out.size; show i < w3.heap.size; omega).below hs (fun _ h => h))⟩)⟩
      have HZc := Lib.hid hZc
      have HE := Lib.hid hE
      clear ho4 hSt HMd HB3 HBx k0 k1 k2 k3 HCs hZc hE w3
      have HU0 := Lib.hid (uk_new c nz z)
      have HG0 : Hid ((sg0 c nz z).nw = nz ∧ (sg0 c nz z).z = z) := Lib.hid ⟨rfl, rfl⟩
      generalize sg0 c nz z = g0 at *
      have k0 := sc_0 HE.out.hF.1
      go_wp2_with fail
      go_loopw [12] (fun v12 wr => ∃ i : Nat, v12 = .int .i64 i ∧ i ≤ nl ∧ ∃ g, Uk c g i ∧ g.nw = nz ∧ g.z = z ∧ StS c a w Z (FW c cb w ya nl y) g (20 * i) wr) (fun v12 _ => nl - (intOf v12).toNat)
      case atStart => exact ⟨0, rfl, by omega, _, HU0.out, HG0.out.1, HG0.out.2, HE.out⟩
      case round =>
        obtain ⟨i, rfl, hi, g, hu, hnw, hgz, hE⟩ := hrel
        have HUk := Lib.hid hu
        have HNw := Lib.hid hnw
        have HGz := Lib.hid hgz
        have HUu : Hid (g.u ≤ 1000000000) := Lib.hid (by rw [hu.u]; have : 2 * c.n * i ≤ 2 * 4 * 16 := Nat.mul_le_mul (by omega) (by omega); omega)
        clear hu hnw hgz HE HU0 HG0 k0
        by_cases hin : i < nl
        · obtain ⟨yb, yo, rfl, _, _⟩ := HSt.out.at hin
          obtain ⟨r0, r1, r2⟩ := (HYk.out i hin).rng
          have hnn : (i : Int) < (nl : Int) := by omega
          obtain ⟨eB, hB32⟩ := HBn.out
          have hwT : (y i).2.1.tmod c.B = ((idM c (y i).2.1 : Nat) : Int) := by
            unfold idM
            rw [eB]
            obtain ⟨u, hu⟩ := Int.eq_ofNat_of_zero_le r1.1
            rw [hu, Int.toNat_natCast]
            rfl
          clear eB hB32
          have hi24 : i < 16 := by omega
          go_upto_region 11 with fail
          have hE := hE.drew
          refine held_s (S := fun u => Box u cb 79 (sfA c) ∧ u.rangeAt yb (yo + i * 3) (s3c (y i)).toList) 23 rfl (by kernel_rfl) ⟨hE.hF.1, hE.hF.2.rng hin⟩ (fun hHeld => ?_)
          simp only [Array.replicate_succ, Array.replicate_zero, List.push_toArray, List.nil_append, List.cons_append]
          generalize World.drew _ = wd at *
          refine wpAnyH_take (i := 0) (oi := ⟨some 54, _, _, _, _, _⟩) (v := (.pointer (some ⟨a.sp, 0, none⟩))) rfl (by kernel_rfl) (by kernel_rfl) (by kernel_rfl) (fun _ _ _ h => h) (Or.inl ⟨by rfl, fun w' hw => by go_simp⟩) hHeld ?_
          try simp only [Act.put, sA0, sB0, sC0]
          refine wpAnyH_take (i := 1) (oi := ⟨some 55, _, _, _, _, _⟩) (v := (.slice (some ⟨yb, yo, none⟩) nl c')) rfl (by kernel_rfl) (by kernel_rfl) (by kernel_rfl) (fun _ _ _ h => h) (Or.inl ⟨by rfl, fun w' hw => by go_simp⟩) hHeld ?_
          try simp only [Act.put, sA0, sB0, sC0]
          refine wpAnyH_take (i := 2) (oi := ⟨some 56, _, _, _, _, _⟩) (v := (.int .i64 (i : Int))) rfl (by kernel_rfl) (by kernel_rfl) (by kernel_rfl) (fun _ _ _ h => h) (Or.inl ⟨by rfl, fun w' hw => by go_simp⟩) hHeld ?_
          try simp only [Act.put, sA0, sB0, sC0]
          refine wpAnyH_take (i := 3) (oi := ⟨some 57, _, _, _, _, _⟩) (v := (.pointer (some ⟨yb, yo + i * 3, none⟩))) rfl (by kernel_rfl) (by kernel_rfl) (by kernel_rfl) (fun _ _ _ h => h) (Or.inl ⟨by rfl, fun w' hw => by go_simp⟩) hHeld ?_
          try simp only [Act.put, sA0, sB0, sC0]
          refine wpAnyH_take (i := 4) (oi := ⟨some 58, _, _, _, _, _⟩) (v := (.pointer (some ⟨yb, yo + i * 3, none⟩))) rfl (by kernel_rfl) (by kernel_rfl) (by kernel_rfl) (fun _ _ _ h => h) (Or.inl ⟨by rfl, fun w' hw => by go_simp⟩) hHeld ?_
          try simp only [Act.put, sA0, sB0, sC0]
          refine wpAnyH_take (i := 5) (oi := ⟨some 59, _, _, _, _, _⟩) (v := (.int .i64 (y i).1)) rfl (by kernel_rfl) (by kernel_rfl) (by kernel_rfl) (fun _ _ _ h => h) (Or.inl ⟨by rfl, fun w' hw => by (obtain ⟨q0, q1, q2⟩ := sp_cells hw.2; go_simp)⟩) hHeld ?_
          try simp only [Act.put, sA0, sB0, sC0]
          refine wpAnyH_take (i := 7) (oi := ⟨some 61, _, _, _, _, _⟩) (v := (.slice (some ⟨yb, yo, none⟩) nl c')) rfl (by kernel_rfl) (by kernel_rfl) (by kernel_rfl) (fun _ _ _ h => h) (Or.inl ⟨by rfl, fun w' hw => by go_simp⟩) hHeld ?_
          try simp only [Act.put, sA0, sB0, sC0]
          refine wpAnyH_take (i := 8) (oi := ⟨some 62, _, _, _, _, _⟩) (v := (.int .i64 (i : Int))) rfl (by kernel_rfl) (by kernel_rfl) (by kernel_rfl) (fun _ _ _ h => h) (Or.inl ⟨by rfl, fun w' hw => by go_simp⟩) hHeld ?_
          try simp only [Act.put, sA0, sB0, sC0]
          refine wpAnyH_take (i := 9) (oi := ⟨some 63, _, _, _, _, _⟩) (v := (.pointer (some ⟨yb, yo + i * 3, none⟩))) rfl (by kernel_rfl) (by kernel_rfl) (by kernel_rfl) (fun _ _ _ h => h) (Or.inl ⟨by rfl, fun w' hw => by go_simp⟩) hHeld ?_
          try simp only [Act.put, sA0, sB0, sC0]
          refine wpAnyH_take (i := 10) (oi := ⟨some 64, _, _, _, _, _⟩) (v := (.pointer (some ⟨yb, yo + i * 3 + 1, none⟩))) rfl (by kernel_rfl) (by kernel_rfl) (by kernel_rfl) (fun _ _ _ h => h) (Or.inl ⟨by rfl, fun w' hw => by go_simp⟩) hHeld ?_
          try simp only [Act.put, sA0, sB0, sC0]
          refine wpAnyH_take (i := 11) (oi := ⟨some 65, _, _, _, _, _⟩) (v := (.int .u64 (y i).2.1)) rfl (by kernel_rfl) (by kernel_rfl) (by kernel_rfl) (fun _ _ _ h => h) (Or.inl ⟨by rfl, fun w' hw => by (obtain ⟨q0, q1, q2⟩ := sp_cells hw.2; go_simp)⟩) hHeld ?_
          try simp only [Act.put, sA0, sB0, sC0]
          refine wpAnyH_take (i := 12) (oi := ⟨some 66, _, _, _, _, _⟩) (v := (.pointer (some ⟨cb, 0, none⟩))) rfl (by kernel_rfl) (by kernel_rfl) (by kernel_rfl) (fun _ _ _ h => h) (Or.inl ⟨by rfl, fun w' hw => by go_simp⟩) hHeld ?_
          try simp only [Act.put, sA0, sB0, sC0]
          refine wpAnyH_take (i := 13) (oi := ⟨some 67, _, _, _, _, _⟩) (v := (.int .i64 c.B)) rfl (by kernel_rfl) (by kernel_rfl) (by kernel_rfl) (fun _ _ _ h => h) (Or.inl ⟨by rfl, fun w' hw => by (have q := sc_0 hw.1; go_simp)⟩) hHeld ?_
          try simp only [Act.put, sA0, sB0, sC0]
          refine wpAnyH_take (i := 14) (oi := ⟨some 68, _, _, _, _, _⟩) (v := (.int .u64 c.B)) rfl (by kernel_rfl) (by kernel_rfl) (by kernel_rfl) (fun _ _ _ h => h) (Or.inl ⟨by rfl, fun w' hw => by (have hx := hB0; go_simp; first | done | exact hwB)⟩) hHeld ?_
          try simp only [Act.put, sA0, sB0, sC0]
          refine wpAnyH_take (i := 15) (oi := ⟨some 69, _, _, _, _, _⟩) (v := (.int .u64 ((idM c (y i).2.1 : Nat) : Int))) rfl (by kernel_rfl) (by kernel_rfl) (by kernel_rfl) (fun _ _ _ h => h) (Or.inl ⟨by rfl, fun w' hw => by (have hx := hB0; go_simp; first | done | exact hwT | exact hwI)⟩) hHeld ?_
          try simp only [Act.put, sA0, sB0, sC0]
          refine wpAnyH_take (i := 16) (oi := ⟨some 70, _, _, _, _, _⟩) (v := (.slice (some ⟨yb, yo, none⟩) nl c')) rfl (by kernel_rfl) (by kernel_rfl) (by kernel_rfl) (fun _ _ _ h => h) (Or.inl ⟨by rfl, fun w' hw => by go_simp⟩) hHeld ?_
          try simp only [Act.put, sA0, sB0, sC0]
          refine wpAnyH_take (i := 17) (oi := ⟨some 71, _, _, _, _, _⟩) (v := (.int .i64 (i : Int))) rfl (by kernel_rfl) (by kernel_rfl) (by kernel_rfl) (fun _ _ _ h => h) (Or.inl ⟨by rfl, fun w' hw => by go_simp⟩) hHeld ?_
          try simp only [Act.put, sA0, sB0, sC0]
          refine wpAnyH_take (i := 18) (oi := ⟨some 72, _, _, _, _, _⟩) (v := (.pointer (some ⟨yb, yo + i * 3, none⟩))) rfl (by kernel_rfl) (by kernel_rfl) (by kernel_rfl) (fun _ _ _ h => h) (Or.inl ⟨by rfl, fun w' hw => by go_simp⟩) hHeld ?_
          try simp only [Act.put, sA0, sB0, sC0]
          refine wpAnyH_take (i := 19) (oi := ⟨some 73, _, _, _, _, _⟩) (v := (.pointer (some ⟨yb, yo + i * 3 + 2, none⟩))) rfl (by kernel_rfl) (by kernel_rfl) (by kernel_rfl) (fun _ _ _ h => h) (Or.inl ⟨by rfl, fun w' hw => by go_simp⟩) hHeld ?_
          try simp only [Act.put, sA0, sB0, sC0]
          refine wpAnyH_take (i := 20) (oi := ⟨some 74, _, _, _, _, _⟩) (v := (.int .u64 (y i).2.2)) rfl (by kernel_rfl) (by kernel_rfl) (by kernel_rfl) (fun _ _ _ h => h) (Or.inl ⟨by rfl, fun w' hw => by (obtain ⟨q0, q1, q2⟩ := sp_cells hw.2; go_simp)⟩) hHeld ?_
          try simp only [Act.put, sA0, sB0, sC0]
          refine one_ready 6 rfl (by kernel_rfl) (fun K9 hK => ?_)
          go_simp
          refine (sop_of (y i).1 _ r0.1 r0.2).mono ?_
          rintro e w13 ⟨rfl, hb⟩
          have hE := hE.nob (Only.of_below hb)
          refine hK.out _ _ ⟨hE.hF.1, hE.hF.2.rng hin⟩ (fun hHeld => ?_)
          clear hK K9 hb
          try simp only [Act.put, sA0, sB0, sC0]
          refine one_ready 21 rfl (by kernel_rfl) (fun K9 hK => ?_)
          go_simp
          refine (sdata_of (y i).2.2 _).mono ?_
          rintro e w13 ⟨rfl, hb⟩
          have hE := hE.nob (Only.of_below hb)
          refine hK.out _ _ ⟨hE.hF.1, hE.hF.2.rng hin⟩ (fun hHeld => ?_)
          clear hK K9 hb
          try simp only [Act.put, sA0, sB0, sC0]
          refine one_ready 22 rfl (by kernel_rfl) (fun K9 hK => ?_)
          go_simp
          refine (hE.words HC.out (opI (y i).1) (idM c (y i).2.1) (dw (y i).2.2) (idM_op c _ _) (fun j => dw_rng _ j) (by omega) HUk.out HUu.out).mono ?_
          rintro e w13 ⟨g', rr, t, rfl, hU', hnw', hz', hE'⟩
          clear hE
          have hE := hE'
          clear hE'
          refine hK.out _ _ ⟨hE.hF.1, hE.hF.2.rng hin⟩ (fun hHeld => ?_)
          clear hK K9
          try simp only [Act.put, sA0, sB0, sC0]
          refine wpAnyH_done (by kernel_rfl) ?_ _
          have HU3 := Lib.hid hU'
          have HN3 : Hid (g'.nw = nz) := Lib.hid (hnw'.trans HNw.out)
          have HG3 : Hid (g'.z = z) := Lib.hid (hz'.trans HGz.out)
          have HE2 := Lib.hid hE
          clear hE hHeld hU' hnw' hz' HUk HNw HGz HUu hwT r0 r1 r2
          go_wp2_with fail
          go_roundw
          case rel => exact ⟨i + 1, by go_num, by omega, _, HU3.out, HN3.out, HG3.out, HE2.out⟩
          case measure => simp [intOf]; omega
        · obtain rfl : i = nl := by omega
          have hnn : ¬ (i : Int) < (i : Int) := by omega
          have hk3 : 20 * i < 20000 := by omega
          have hi16 : i ≤ 16 := by omega
          have HE := Lib.hid hE
          clear hE
          obtain ⟨w8, h9⟩ : ∃ x, x = wr := ⟨_, rfl⟩
          subst h9
          obtain ⟨P, Q, hW, hPl, hQl⟩ := HUk.out.ways HC.out (by rw [HUk.out.u]; have : 2 * c.n * i ≤ 2 * 4 * 16 := Nat.mul_le_mul (by omega) hi16; omega)
          rw [HNw.out, HGz.out] at hW
          obtain ⟨us, hus⟩ : ∃ us, g.u = us := ⟨_, rfl⟩
          have husb : us ≤ 200 := by rw [← hus, HUk.out.u]; have : 2 * c.n * i ≤ 2 * 4 * 16 := Nat.mul_le_mul (by omega) hi16; omega
          rw [hus] at hW
          obtain ⟨L, hL⟩ : ∃ L, c.n * i = L := ⟨_, rfl⟩
          have hlen : g.gone.length = L := by rw [← hL]; exact HUk.out.len
          rw [hL] at hW hPl hQl
          have hL64 : L ≤ 64 := by rw [← hL]; have : c.n * i ≤ 4 * 16 := Nat.mul_le_mul (by omega) hi16; omega
          have HWy := Lib.hid hW
          have HPl := Lib.hid hPl
          have HQl := Lib.hid hQl
          have HUs := Lib.hid hus
          have HLn := Lib.hid hlen
          clear hW hPl hQl hus hlen hL HUk HNw HGz HUu
          go_wp2_with fail
          refine (HE.out.sources hk3).mono ?_
          rintro e w9 hPz
          obtain ⟨pa, pc, rfl, hpn, hpb⟩ := hPz.nz
          rw [List.length_map, HLn.out] at hpn ⊢
          obtain ⟨Z9, hz9, hE9⟩ : ∃ Z9 : Nat → Prop, (∀ i, Z i → Z9 i) ∧ StS c a w Z9 (fun u => FW c cb w ya i y u ∧ NuZ .i64 Z9 u pa L (fun j => (P j : Int))) g (20 * i) w9 :=
            ⟨_, fun i hi => .inl hi, (HE.out.more (Only.of_below hpb)).also (fun hn => by
              obtain ⟨b, off, e, h1, h2⟩ := hpn hn
              exact ⟨b, off, e, .inr h1, fun j hj => by have h3 := h2 j hj; dsimp only at h3; rw [HPl.out j hj] at h3; exact h3⟩) (fun u u' _ hk f => f.keep hk)⟩
          have HE9 := Lib.hid hE9
          have HZ9 := Lib.hid hz9
          clear hPz hpn hpb hE9 hz9 HE HPl
          go_wp2_with fail
          refine (HE9.out.leaves hk3).mono ?_
          rintro e w10 hQz
          obtain ⟨qa, qc, rfl, hqn, hqb⟩ := hQz.nz
          rw [List.length_map, HLn.out] at hqn ⊢
          obtain ⟨ZP, hzp, hE10⟩ : ∃ ZP : Nat → Prop, (∀ i, i < w.heap.size → ZP i) ∧ StS c a w ZP (WF c cb ZP pa qa A L nz P Q z) g (20 * i) w10 := by
            have h10 := (HE9.out.more (Only.of_below hqb)).also (G := fun u => NuZ .i64 (fun i => Z9 i ∨ (w9.heap.size ≤ i ∧ i < w10.heap.size)) u qa L (fun j => (Q j : Int))) (fun hn => by
              obtain ⟨b, off, e, h1, h2⟩ := hqn hn
              exact ⟨b, off, e, .inr h1, fun j hj => by have h3 := h2 j hj; dsimp only at h3; rw [HQl.out j hj] at h3; exact h3⟩) (fun u u' _ hk f => f.keep hk)
            refine ⟨_, h10.hz, h10.sk, h10.hz, ⟨h10.hF.1.1.1, h10.hF.1.2.more (fun i hi => .inl hi), h10.hF.2, ?_, .inl (HZ9.out _ HZc.out)⟩, fun u u' _ hk f => f.keep hk, h10.kp⟩
            intro hn
            obtain ⟨b, off, e, h1, h2⟩ := HZ.out hn
            exact ⟨b, off, e, h10.hz b h1, fun j hj => (h10.kp.cell (p := ⟨b, off + j, none⟩) h1).trans (h2 j hj)⟩
          have HE10 := Lib.hid hE10
          clear hQz hqn hqb hE10 HE9 HZ9 HQl HLn HZc hzp
          have hmk := run_make_row' (P := Tryz.prog) 39 3 (.int .i64 0) 8 Tryz.underlying39 infoI64 rfl .i64 .i64 (us + 1) (by omega) (by omega)
          have ec : ((us + 1 : Nat) : Int) = (us : Int) + 1 := by omega
          rw [ec] at hmk
          have eu : IntKind.i64.wrap ((us : Int) + 1) = (us : Int) + 1 := by rw [IntKind.wrap_i64]; omega
          go_wp2_with fail
          refine (HE10.out.used).mono ?_
          rintro e w11 ⟨rfl, hw11⟩
          rw [hw11, HUs.out]
          clear hw11 w11
          go_upto_region 17 with fail
          obtain ⟨mb, hmb⟩ : ∃ b, w10.heap.size = b := ⟨_, rfl⟩
          have hE := HE10.out.row 3 (fun _ => .int .i64 0) (.cells (madeCells #[.int .i64 0] (us + 1)) 3) hmb (by rw [← hmb]; exact World.rowIs_made w10 (.int .i64 0) (us + 1) 3)
          obtain ⟨ZM, hmz, hE12⟩ : ∃ ZM : Nat → Prop, MtZ ZP ZM w mb ∧ StS c a w ZM (fun u => WF c cb ZP pa qa A L nz P Q z u ∧ u.rowIs mb 3 (us + 1) (metV P 0)) g (20 * i) (w10.alloc (.cells (madeCells #[.int .i64 0] (us + 1)) 3)) :=
            ⟨_, ⟨fun i hi => .inl hi, fun hk => by have := HE10.out.sk.lt hk; omega, .inr rfl, by rw [← hmb]; exact HE10.out.kp.size⟩, hE.eqF (by
              have e9 : metV P 0 = fun _ => .int .i64 0 := funext (metV_new P)
              rw [e9])⟩
          have HMz := Lib.hid hmz
          have HE12 := Lib.hid hE12
          rw [hmb]
          clear hmk ec eu hE hE12 hmz hmb HE10
          generalize w10.alloc (.cells (madeCells #[.int .i64 0] (us + 1)) 3) = w12 at *
          go_wp2_with fail
          go_loopw [16] (fun v16 wr => ∃ q : Nat, v16 = .int .i64 q ∧ q ≤ L ∧ StS c a w ZM (fun u => WF c cb ZP pa qa A L nz P Q z u ∧ u.rowIs mb 3 (us + 1) (metV P q)) g (20 * i) wr) (fun v16 _ => L - (intOf v16).toNat)
          case atStart => exact ⟨0, rfl, by omega, HE12.out⟩
          case round =>
            obtain ⟨q, rfl, hqL, hE⟩ := hrel
            obtain ⟨w20, h9⟩ : ∃ x, x = wr := ⟨_, rfl⟩
            subst h9
            clear HE12
            by_cases hqn : q < L
            · obtain ⟨pb, po, rfl, hpz, hP0⟩ := hE.hF.1.p.at hqn
              obtain ⟨qb, qo, rfl, hqz, hQ0⟩ := hE.hF.1.q.at hqn
              clear hpz hqz hP0 hQ0
              have hqq : (q : Int) < (L : Int) := by omega
              -- numbers
              have f1 := HWy.out.lt q hqn
              have f2 := HWy.out.lf q hqn
              have f3 := HWy.out.lv q hqn
              have f4 := HWy.out.rd q hqn
              have f5 := metV_no HWy.out.ne hqn
              have hq64 : q < 64 := by omega
              have him : q % c.n < c.n := Nat.mod_lt _ hn1
              obtain ⟨im, hime⟩ : ∃ im, q % c.n = im := ⟨_, rfl⟩
              obtain ⟨id, hide⟩ : ∃ id, q / c.n = id := ⟨_, rfl⟩
              obtain ⟨hh, hhe⟩ : ∃ hh, c.n - 1 - im = hh := ⟨_, rfl⟩
              obtain ⟨pi, hpe⟩ : ∃ pi, P q = pi := ⟨_, rfl⟩
              obtain ⟨qi, hqe⟩ : ∃ qi, Q q = qi := ⟨_, rfl⟩
              rw [hime] at him
              rw [hime, hhe, hpe, hqe] at f2
              rw [hpe] at f1 f3 f4 f5
              rw [hime] at f3
              rw [hide] at f4
              obtain ⟨pr, hpr⟩ : ∃ pr, pi % (2 * c.n) = pr := ⟨_, rfl⟩
              obtain ⟨pd, hpd⟩ : ∃ pd, pi / (2 * c.n) = pd := ⟨_, rfl⟩
              obtain ⟨bn, hbn⟩ : ∃ bn, c.N hh = bn := ⟨_, rfl⟩
              have hNb := SC.N_le HC.out hh
              rw [hpr] at f3
              rw [hpd] at f4
              rw [hbn] at f2 hNb
              have HBk : Hid (∀ W, Calls Tryz.prog 67 #[.agg #[.int .i64 c.B, .int .i64 (c.S : Int), .int .i64 (c.T : Int), .int .i64 (c.n : Int)], .int .i64 ((hh : Nat) : Int)] W fun e w' => e = .returned (.int .i64 ((bn : Nat) : Int)) ∧ Below W.heap.size W w') := Lib.hid fun W => by
                have := sblocks_of HC.out hh (by omega) W
                rw [hbn] at this
                exact this
              have hn0 : ¬ (c.n : Int) = 0 := by omega
              have h2n0 : ¬ 2 * (c.n : Int) = 0 := by omega
              have hbn0 : ¬ ((bn : Nat) : Int) = 0 := by omega
              have a1 : IntKind.i64.wrap ((c.n : Int) - 1) = (c.n : Int) - 1 := by rw [IntKind.wrap_i64]; omega
              have a2 : (q : Int).tmod (c.n : Int) = ((im : Nat) : Int) := by rw [nat_tmod, hime]
              have a3 : IntKind.i64.wrap ((c.n : Int) - 1 - ((im : Nat) : Int)) = ((hh : Nat) : Int) := by rw [IntKind.wrap_i64]; omega
              have a4 : IntKind.i64.wrap ((c.n : Int) - 1 - ((hh : Nat) : Int)) = ((im : Nat) : Int) := by rw [IntKind.wrap_i64]; omega
              have a3' : (c.n : Int) - 1 - ((im : Nat) : Int) = ((hh : Nat) : Int) := by omega
              have a4' : (c.n : Int) - 1 - ((hh : Nat) : Int) = ((im : Nat) : Int) := by omega
              have b1 : IntKind.u64.wrap ((bn : Nat) : Int) = ((bn : Nat) : Int) := by rw [IntKind.wrap_u64]; omega
              have hqi : qi < 1024 := by rw [f2]; have := Nat.mod_lt (told nz z pi).toNat hNb.1; omega
              have b3 : IntKind.i64.wrap ((qi : Nat) : Int) = ((qi : Nat) : Int) := by rw [IntKind.wrap_i64]; omega
              have b4 : ((pi : Nat) : Int).tmod (2 * (c.n : Int)) = ((pr : Nat) : Int) := by rw [← hpr, ← nat_tmod]; rfl
              have b5 : ((pr : Nat) : Int).tdiv 2 = ((im : Nat) : Int) := by rw [show (2 : Int) = ((2 : Nat) : Int) from rfl, nat_tdiv, f3]
              have b6 : ((pi : Nat) : Int).tdiv (2 * (c.n : Int)) = ((pd : Nat) : Int) := by rw [← hpd, ← nat_tdiv]; rfl
              have b7 : (q : Int).tdiv (c.n : Int) = ((id : Nat) : Int) := by rw [nat_tdiv, hide]
              have hcn0 : ¬ c.n = 0 := by omega
              have hbnn : ¬ bn = 0 := by omega
              have k1 : hh ≤ 3 := by omega
              have k2 : im ≤ 3 := by omega
              have k3 : id ≤ 64 := by rw [← hide]; exact Nat.le_trans (Nat.div_le_self _ _) (by omega)
              have k4 : pd ≤ 64 := by omega
              have k5 : pr ≤ 200 := by rw [← hpr]; exact Nat.le_trans (Nat.mod_le _ _) (by omega)
              have HF2 := Lib.hid f2
              have hqe2 := hqe
              clear f2 f3 hime hide hhe hqe hpr hpd hbn hNb him
              go_upto_region 20 with fail
              have hE := hE.drew
              refine held_s (S := fun u => Box u cb 79 (sfA c)) 9 rfl (by kernel_rfl) hE.hF.1.box (fun hHeld => ?_)
              simp only [Array.replicate_succ, Array.replicate_zero, List.push_toArray, List.nil_append, List.cons_append]
              generalize World.drew _ = wd at *
              refine wpAnyH_take (i := 0) (oi := ⟨some 96, _, _, _, _, _⟩) (v := (.pointer (some ⟨cb, 3, none⟩))) rfl (by kernel_rfl) (by kernel_rfl) (by kernel_rfl) (fun _ _ _ h => h) (Or.inl ⟨by rfl, fun w' hw => by go_simp⟩) hHeld ?_
              try simp only [Act.put, sA0, sB0, sC0]
              refine wpAnyH_take (i := 1) (oi := ⟨some 97, _, _, _, _, _⟩) (v := (.int .i64 (c.n : Int))) rfl (by kernel_rfl) (by kernel_rfl) (by kernel_rfl) (fun _ _ _ h => h) (Or.inl ⟨by rfl, fun w' hw => by (have q := sc_3 hw; go_simp)⟩) hHeld ?_
              try simp only [Act.put, sA0, sB0, sC0]
              refine wpAnyH_take (i := 2) (oi := ⟨some 98, _, _, _, _, _⟩) (v := (.int .i64 ((c.n : Int) - 1))) rfl (by kernel_rfl) (by kernel_rfl) (by kernel_rfl) (fun _ _ _ h => h) (Or.inl ⟨by rfl, fun w' hw => by (have q := sc_3 hw; go_simp; first | done | omega | (rw [IntKind.wrap_i64]; omega) | (rw [IntKind.wrap_u64]; omega) | (intro h; omega))⟩) hHeld ?_
              try simp only [Act.put, sA0, sB0, sC0]
              refine wpAnyH_take (i := 3) (oi := ⟨some 99, _, _, _, _, _⟩) (v := (.int .i64 (q : Int))) rfl (by kernel_rfl) (by kernel_rfl) (by kernel_rfl) (fun _ _ _ h => h) (Or.inl ⟨by rfl, fun w' hw => by go_simp⟩) hHeld ?_
              try simp only [Act.put, sA0, sB0, sC0]
              refine wpAnyH_take (i := 4) (oi := ⟨some 100, _, _, _, _, _⟩) (v := (.pointer (some ⟨cb, 3, none⟩))) rfl (by kernel_rfl) (by kernel_rfl) (by kernel_rfl) (fun _ _ _ h => h) (Or.inl ⟨by rfl, fun w' hw => by go_simp⟩) hHeld ?_
              try simp only [Act.put, sA0, sB0, sC0]
              refine wpAnyH_take (i := 5) (oi := ⟨some 101, _, _, _, _, _⟩) (v := (.int .i64 (c.n : Int))) rfl (by kernel_rfl) (by kernel_rfl) (by kernel_rfl) (fun _ _ _ h => h) (Or.inl ⟨by rfl, fun w' hw => by (have q := sc_3 hw; go_simp)⟩) hHeld ?_
              try simp only [Act.put, sA0, sB0, sC0]
              refine wpAnyH_take (i := 6) (oi := ⟨some 102, _, _, _, _, _⟩) (v := (.int .i64 ((im : Nat) : Int))) rfl (by kernel_rfl) (by kernel_rfl) (by kernel_rfl) (fun _ _ _ h => h) (Or.inl ⟨by rfl, fun w' hw => by (go_simp; first | done | omega | (rw [IntKind.wrap_i64]; omega) | (rw [IntKind.wrap_u64]; omega) | (intro h; omega))⟩) hHeld ?_
              try simp only [Act.put, sA0, sB0, sC0]
              refine wpAnyH_take (i := 7) (oi := ⟨some 103, _, _, _, _, _⟩) (v := (.int .i64 ((hh : Nat) : Int))) rfl (by kernel_rfl) (by kernel_rfl) (by kernel_rfl) (fun _ _ _ h => h) (Or.inl ⟨by rfl, fun w' hw => by (go_simp; first | done | omega | (rw [IntKind.wrap_i64]; omega) | (rw [IntKind.wrap_u64]; omega) | (intro h; omega))⟩) hHeld ?_
              try simp only [Act.put, sA0, sB0, sC0]
              refine wpAnyH_take (i := 8) (oi := ⟨some 17, _, _, _, _, _⟩) (v := (.int .i64 ((hh : Nat) : Int))) rfl (by kernel_rfl) (by kernel_rfl) (by kernel_rfl) (fun _ _ _ h => h) (Or.inl ⟨by rfl, fun w' hw => by go_simp⟩) hHeld ?_
              try simp only [Act.put, sA0, sB0, sC0]
              refine wpAnyH_done (by kernel_rfl) ?_ _
              clear hHeld
              have HE := Lib.hid hE
              clear hE
              go_upto_region 21 with fail
              have hE := HE.out.drew
              clear HE
              have hP := hE.hF.1.p.rng hqn
              have hM := hE.hF.2.cell (i := pi) (by omega)
              rw [hpe] at hP
              rw [f5] at hM
              refine held_s (S := fun u => u.cell? ⟨pb, po + q, none⟩ = some (.int .i64 ((pi : Nat) : Int)) ∧ u.cell? ⟨mb, pi, none⟩ = some (.int .i64 0)) 24 rfl (by kernel_rfl) ⟨hP, hM⟩ (fun hHeld => ?_)
              simp only [Array.replicate_succ, Array.replicate_zero, List.push_toArray, List.nil_append, List.cons_append]
              generalize World.drew _ = we at *
              refine wpAnyH_take (i := 0) (oi := ⟨some 104, _, _, _, _, _⟩) (v := (.slice (some ⟨pb, po, none⟩) L pc)) rfl (by kernel_rfl) (by kernel_rfl) (by kernel_rfl) (fun _ _ _ h => h) (Or.inl ⟨by rfl, fun w' hw => by go_simp⟩) hHeld ?_
              try simp only [Act.put, sA0, sB0, sC0]
              refine wpAnyH_take (i := 1) (oi := ⟨some 105, _, _, _, _, _⟩) (v := (.int .i64 (q : Int))) rfl (by kernel_rfl) (by kernel_rfl) (by kernel_rfl) (fun _ _ _ h => h) (Or.inl ⟨by rfl, fun w' hw => by go_simp⟩) hHeld ?_
              try simp only [Act.put, sA0, sB0, sC0]
              refine wpAnyH_take (i := 2) (oi := ⟨some 106, _, _, _, _, _⟩) (v := (.pointer (some ⟨pb, po + q, none⟩))) rfl (by kernel_rfl) (by kernel_rfl) (by kernel_rfl) (fun _ _ _ h => h) (Or.inl ⟨by rfl, fun w' hw => by go_simp⟩) hHeld ?_
              try simp only [Act.put, sA0, sB0, sC0]
              refine wpAnyH_take (i := 3) (oi := ⟨some 107, _, _, _, _, _⟩) (v := (.int .i64 ((pi : Nat) : Int))) rfl (by kernel_rfl) (by kernel_rfl) (by kernel_rfl) (fun _ _ _ h => h) (Or.inl ⟨by rfl, fun w' hw => by (have h1 := hw.1; go_simp)⟩) hHeld ?_
              try simp only [Act.put, sA0, sB0, sC0]
              refine wpAnyH_take (i := 4) (oi := ⟨some 108, _, _, _, _, _⟩) (v := (.bool false)) rfl (by kernel_rfl) (by kernel_rfl) (by kernel_rfl) (fun _ _ _ h => h) (Or.inl ⟨by rfl, fun w' hw => by (go_simp; first | done | omega | (rw [IntKind.wrap_i64]; omega) | (rw [IntKind.wrap_u64]; omega) | (intro h; omega))⟩) hHeld ?_
              try simp only [Act.put, sA0, sB0, sC0]
              refine wpAnyH_take (i := 5) (oi := ⟨some 109, _, _, _, _, _⟩) (v := (.bool false)) rfl (by kernel_rfl) (by kernel_rfl) (by kernel_rfl) (fun _ _ _ h => h) (Or.inl ⟨by rfl, fun w' hw => by go_simp⟩) hHeld ?_
              try simp only [Act.put, sA0, sB0, sC0]
              refine wpAnyH_take (i := 6) (oi := ⟨some 110, _, _, _, _, _⟩) (v := (.slice (some ⟨pb, po, none⟩) L pc)) rfl (by kernel_rfl) (by kernel_rfl) (by kernel_rfl) (fun _ _ _ h => h) (Or.inl ⟨by rfl, fun w' hw => by go_simp⟩) hHeld ?_
              try simp only [Act.put, sA0, sB0, sC0]
              refine wpAnyH_take (i := 7) (oi := ⟨some 111, _, _, _, _, _⟩) (v := (.int .i64 (q : Int))) rfl (by kernel_rfl) (by kernel_rfl) (by kernel_rfl) (fun _ _ _ h => h) (Or.inl ⟨by rfl, fun w' hw => by go_simp⟩) hHeld ?_
              try simp only [Act.put, sA0, sB0, sC0]
              refine wpAnyH_take (i := 8) (oi := ⟨some 112, _, _, _, _, _⟩) (v := (.pointer (some ⟨pb, po + q, none⟩))) rfl (by kernel_rfl) (by kernel_rfl) (by kernel_rfl) (fun _ _ _ h => h) (Or.inl ⟨by rfl, fun w' hw => by go_simp⟩) hHeld ?_
              try simp only [Act.put, sA0, sB0, sC0]
              refine wpAnyH_take (i := 9) (oi := ⟨some 113, _, _, _, _, _⟩) (v := (.int .i64 ((pi : Nat) : Int))) rfl (by kernel_rfl) (by kernel_rfl) (by kernel_rfl) (fun _ _ _ h => h) (Or.inl ⟨by rfl, fun w' hw => by (have h1 := hw.1; go_simp)⟩) hHeld ?_
              try simp only [Act.put, sA0, sB0, sC0]
              refine wpAnyH_take (i := 10) (oi := ⟨some 114, _, _, _, _, _⟩) (v := (.pointer (some ⟨a.tp, 0, none⟩))) rfl (by kernel_rfl) (by kernel_rfl) (by kernel_rfl) (fun _ _ _ h => h) (Or.inl ⟨by rfl, fun w' hw => by go_simp⟩) hHeld ?_
              try simp only [Act.put, sA0, sB0, sC0]
              refine one_ready 11 rfl (by kernel_rfl) (fun K9 hK => ?_)
              go_simp
              refine (hE.used).mono ?_
              rintro e w13 ⟨rfl, hw13⟩
              rw [hw13, HUs.out]
              refine hK.out _ _ hHeld (fun hHeld => ?_)
              clear hK K9 hw13 w13
              try simp only [Act.put, sA0, sB0, sC0]
              refine wpAnyH_take (i := 12) (oi := ⟨some 116, _, _, _, _, _⟩) (v := (.bool false)) rfl (by kernel_rfl) (by kernel_rfl) (by kernel_rfl) (fun _ _ _ h => h) (Or.inl ⟨by rfl, fun w' hw => by (go_simp; first | done | omega | (rw [IntKind.wrap_i64]; omega) | (rw [IntKind.wrap_u64]; omega) | (intro h; omega))⟩) hHeld ?_
              try simp only [Act.put, sA0, sB0, sC0]
              refine wpAnyH_take (i := 13) (oi := ⟨some 117, _, _, _, _, _⟩) (v := (.bool false)) rfl (by kernel_rfl) (by kernel_rfl) (by kernel_rfl) (fun _ _ _ h => h) (Or.inl ⟨by rfl, fun w' hw => by go_simp⟩) hHeld ?_
              try simp only [Act.put, sA0, sB0, sC0]
              refine wpAnyH_take (i := 14) (oi := ⟨some 118, _, _, _, _, _⟩) (v := (.bool false)) rfl (by kernel_rfl) (by kernel_rfl) (by kernel_rfl) (fun _ _ _ h => h) (Or.inl ⟨by rfl, fun w' hw => by go_simp⟩) hHeld ?_
              try simp only [Act.put, sA0, sB0, sC0]
              refine wpAnyH_take (i := 15) (oi := ⟨some 119, _, _, _, _, _⟩) (v := (.slice (some ⟨mb, 0, none⟩) (us + 1) (us + 1))) rfl (by kernel_rfl) (by kernel_rfl) (by kernel_rfl) (fun _ _ _ h => h) (Or.inl ⟨by rfl, fun w' hw => by go_simp⟩) hHeld ?_
              try simp only [Act.put, sA0, sB0, sC0]
              refine wpAnyH_take (i := 16) (oi := ⟨some 120, _, _, _, _, _⟩) (v := (.slice (some ⟨pb, po, none⟩) L pc)) rfl (by kernel_rfl) (by kernel_rfl) (by kernel_rfl) (fun _ _ _ h => h) (Or.inl ⟨by rfl, fun w' hw => by go_simp⟩) hHeld ?_
              try simp only [Act.put, sA0, sB0, sC0]
              refine wpAnyH_take (i := 17) (oi := ⟨some 121, _, _, _, _, _⟩) (v := (.int .i64 (q : Int))) rfl (by kernel_rfl) (by kernel_rfl) (by kernel_rfl) (fun _ _ _ h => h) (Or.inl ⟨by rfl, fun w' hw => by go_simp⟩) hHeld ?_
              try simp only [Act.put, sA0, sB0, sC0]
              refine wpAnyH_take (i := 18) (oi := ⟨some 122, _, _, _, _, _⟩) (v := (.pointer (some ⟨pb, po + q, none⟩))) rfl (by kernel_rfl) (by kernel_rfl) (by kernel_rfl) (fun _ _ _ h => h) (Or.inl ⟨by rfl, fun w' hw => by go_simp⟩) hHeld ?_
              try simp only [Act.put, sA0, sB0, sC0]
              refine wpAnyH_take (i := 19) (oi := ⟨some 123, _, _, _, _, _⟩) (v := (.int .i64 ((pi : Nat) : Int))) rfl (by kernel_rfl) (by kernel_rfl) (by kernel_rfl) (fun _ _ _ h => h) (Or.inl ⟨by rfl, fun w' hw => by (have h1 := hw.1; go_simp)⟩) hHeld ?_
              try simp only [Act.put, sA0, sB0, sC0]
              refine wpAnyH_take (i := 20) (oi := ⟨some 124, _, _, _, _, _⟩) (v := (.pointer (some ⟨mb, pi, none⟩))) rfl (by kernel_rfl) (by kernel_rfl) (by kernel_rfl) (fun _ _ _ h => h) (Or.inl ⟨by rfl, fun w' hw => by (go_simp; first | done | omega | (rw [IntKind.wrap_i64]; omega) | (rw [IntKind.wrap_u64]; omega) | (intro h; omega))⟩) hHeld ?_
              try simp only [Act.put, sA0, sB0, sC0]
              refine wpAnyH_take (i := 21) (oi := ⟨some 125, _, _, _, _, _⟩) (v := (.int .i64 0)) rfl (by kernel_rfl) (by kernel_rfl) (by kernel_rfl) (fun _ _ _ h => h) (Or.inl ⟨by rfl, fun w' hw => by (have h1 := hw.2; go_simp)⟩) hHeld ?_
              try simp only [Act.put, sA0, sB0, sC0]
              refine wpAnyH_take (i := 22) (oi := ⟨some 126, _, _, _, _, _⟩) (v := (.bool false)) rfl (by kernel_rfl) (by kernel_rfl) (by kernel_rfl) (fun _ _ _ h => h) (Or.inl ⟨by rfl, fun w' hw => by (go_simp; first | done | omega | (rw [IntKind.wrap_i64]; omega) | (rw [IntKind.wrap_u64]; omega) | (intro h; omega))⟩) hHeld ?_
              try simp only [Act.put, sA0, sB0, sC0]
              refine wpAnyH_take (i := 23) (oi := ⟨some 127, _, _, _, _, _⟩) (v := (.bool false)) rfl (by kernel_rfl) (by kernel_rfl) (by kernel_rfl) (fun _ _ _ h => h) (Or.inl ⟨by rfl, fun w' hw => by go_simp⟩) hHeld ?_
              try simp only [Act.put, sA0, sB0, sC0]
              refine wpAnyH_done (by kernel_rfl) ?_ _
              clear hHeld
              have hfz := hE.hF.2.frozen pi
              have HS1 := Lib.hid (hE.setRow (Z0 := ZP) (i := pi) (v := .int .i64 1) (f' := metV P (q + 1)) (fun u u' _ hk f => f.keep hk) HMz.out.sub HMz.out.no HMz.out.yes HMz.out.old (fun j _ => by rw [← hpe]; exact metV_next P q j))
              have HE := Lib.hid hE
              clear hE
              go_upto_region 24 with fail
              obtain ⟨w30, hw30⟩ : ∃ w9, we.setCell ⟨mb, pi, none⟩ (.int .i64 1) = w9 := ⟨_, rfl⟩
              rw [hw30] at HS1 ⊢
              clear hP hM hfz HE hw30 f5
              have hE := HS1.out
              clear HS1
              have hP := hE.hF.1.p.rng hqn
              have hQ := hE.hF.1.q.rng hqn
              rw [hpe] at hP
              rw [hqe2] at hQ
              have HEx := Lib.hid hE
              by_cases hpz : pi < nz
              · obtain ⟨ab, ao, rfl, _, hAc⟩ := hE.hF.1.wds.at hpz
                have hp1 : (pi : Int) < (nz : Int) := by omega
                obtain ⟨wv, hwv⟩ : ∃ wv : Nat, z pi = (wv : Int) := ⟨(z pi).toNat, by have := (HZr.out pi hpz).1; omega⟩
                have b2 : ((wv : Nat) : Int).tmod ((bn : Nat) : Int) = ((qi : Nat) : Int) := by
                  rw [nat_tmod, HF2.out]
                  unfold told
                  rw [if_pos hpz, hwv, Int.toNat_natCast]
                rw [hwv] at hAc
                clear hE hwv HF2
                have HAc := Lib.hid hAc
                go_upto_region 27 with fail
                have hE := HEx.out.drew
                clear HEx
                have hP := hE.hF.1.p.rng hqn
                have hQ := hE.hF.1.q.rng hqn
                rw [hpe] at hP
                rw [hqe2] at hQ
                refine held_s (S := fun u => Box u cb 79 (sfA c) ∧ u.cell? ⟨pb, po + q, none⟩ = some (.int .i64 ((pi : Nat) : Int)) ∧ u.cell? ⟨qb, qo + q, none⟩ = some (.int .i64 ((qi : Nat) : Int))) 43 rfl (by kernel_rfl) ⟨hE.hF.1.box, hP, hQ⟩ (fun hHeld => ?_)
                simp only [Array.replicate_succ, Array.replicate_zero, List.push_toArray, List.nil_append, List.cons_append]
                generalize World.drew _ = wf at *
                refine wpAnyH_take (i := 0) (oi := ⟨some 148, _, _, _, _, _⟩) (v := (.slice (some ⟨qb, qo, none⟩) L qc)) rfl (by kernel_rfl) (by kernel_rfl) (by kernel_rfl) (fun _ _ _ h => h) (Or.inl ⟨by rfl, fun w' hw => by go_simp⟩) hHeld ?_
                try simp only [Act.put, sA0, sB0, sC0]
                refine wpAnyH_take (i := 1) (oi := ⟨some 149, _, _, _, _, _⟩) (v := (.int .i64 (q : Int))) rfl (by kernel_rfl) (by kernel_rfl) (by kernel_rfl) (fun _ _ _ h => h) (Or.inl ⟨by rfl, fun w' hw => by go_simp⟩) hHeld ?_
                try simp only [Act.put, sA0, sB0, sC0]
                refine wpAnyH_take (i := 2) (oi := ⟨some 150, _, _, _, _, _⟩) (v := (.pointer (some ⟨qb, qo + q, none⟩))) rfl (by kernel_rfl) (by kernel_rfl) (by kernel_rfl) (fun _ _ _ h => h) (Or.inl ⟨by rfl, fun w' hw => by go_simp⟩) hHeld ?_
                try simp only [Act.put, sA0, sB0, sC0]
                refine wpAnyH_take (i := 3) (oi := ⟨some 151, _, _, _, _, _⟩) (v := (.int .i64 ((qi : Nat) : Int))) rfl (by kernel_rfl) (by kernel_rfl) (by kernel_rfl) (fun _ _ _ h => h) (Or.inl ⟨by rfl, fun w' hw => by (have h1 := hw.2.2; go_simp)⟩) hHeld ?_
                try simp only [Act.put, sA0, sB0, sC0]
                refine wpAnyH_take (i := 4) (oi := ⟨some 152, _, _, _, _, _⟩) (v := (.int .u64 ((wv : Nat) : Int))) rfl (by kernel_rfl) (by kernel_rfl) (by kernel_rfl) (fun _ _ _ h => h) (Or.inl ⟨by rfl, fun w' hw => by go_simp⟩) hHeld ?_
                try simp only [Act.put, sA0, sB0, sC0]
                refine wpAnyH_take (i := 5) (oi := ⟨some 153, _, _, _, _, _⟩) (v := (.agg #[.int .i64 c.B, .int .i64 (c.S : Int), .int .i64 (c.T : Int), .int .i64 (c.n : Int)])) rfl (by kernel_rfl) (by kernel_rfl) (by kernel_rfl) (fun _ _ _ h => h) (Or.inl ⟨by rfl, fun w' hw => by (have k0 := sc_0 hw.1; have k1 := sc_1 hw.1; have k2 := sc_2 hw.1; have k3 := sc_3 hw.1; go_simp)⟩) hHeld ?_
                try simp only [Act.put, sA0, sB0, sC0]
                refine wpAnyH_take (i := 7) (oi := ⟨some 155, _, _, _, _, _⟩) (v := (.int .i64 ((hh : Nat) : Int))) rfl (by kernel_rfl) (by kernel_rfl) (by kernel_rfl) (fun _ _ _ h => h) (Or.inl ⟨by rfl, fun w' hw => by go_simp⟩) hHeld ?_
                try simp only [Act.put, sA0, sB0, sC0]
                refine one_ready 6 rfl (by kernel_rfl) (fun K9 hK => ?_)
                go_simp
                refine (sas_of c _).mono ?_
                rintro e w13 ⟨rfl, hb⟩
                have ho : Only nobody _ w13 := Only.of_below hb
                have hE := hE.nob ho
                have hP := cell_nob ho hP
                have hQ := cell_nob ho hQ
                refine hK.out _ _ ⟨hE.hF.1.box, hP, hQ⟩ (fun hHeld => ?_)
                clear hK K9 hb ho
                try simp only [Act.put, sA0, sB0, sC0]
                refine one_ready 8 rfl (by kernel_rfl) (fun K9 hK => ?_)
                go_simp
                refine (HBk.out _).mono ?_
                rintro e w13 ⟨rfl, hb⟩
                have ho : Only nobody _ w13 := Only.of_below hb
                have hE := hE.nob ho
                have hP := cell_nob ho hP
                have hQ := cell_nob ho hQ
                refine hK.out _ _ ⟨hE.hF.1.box, hP, hQ⟩ (fun hHeld => ?_)
                clear hK K9 hb ho
                try simp only [Act.put, sA0, sB0, sC0]
                refine wpAnyH_take (i := 9) (oi := ⟨some 157, _, _, _, _, _⟩) (v := (.int .u64 ((bn : Nat) : Int))) rfl (by kernel_rfl) (by kernel_rfl) (by kernel_rfl) (fun _ _ _ h => h) (Or.inl ⟨by rfl, fun w' hw => by (go_simp; first | done | omega | (rw [IntKind.wrap_i64]; omega) | (rw [IntKind.wrap_u64]; omega) | (intro h; omega))⟩) hHeld ?_
                try simp only [Act.put, sA0, sB0, sC0]
                refine wpAnyH_take (i := 10) (oi := ⟨some 158, _, _, _, _, _⟩) (v := (.int .u64 ((qi : Nat) : Int))) rfl (by kernel_rfl) (by kernel_rfl) (by kernel_rfl) (fun _ _ _ h => h) (Or.inl ⟨by rfl, fun w' hw => by (go_simp; first | (have := HQ0.out; omega) | done | omega | (rw [IntKind.wrap_i64]; omega) | (rw [IntKind.wrap_u64]; omega) | (intro h; omega))⟩) hHeld ?_
                try simp only [Act.put, sA0, sB0, sC0]
                refine wpAnyH_take (i := 11) (oi := ⟨some 159, _, _, _, _, _⟩) (v := (.int .i64 ((qi : Nat) : Int))) rfl (by kernel_rfl) (by kernel_rfl) (by kernel_rfl) (fun _ _ _ h => h) (Or.inl ⟨by rfl, fun w' hw => by (go_simp; first | done | omega | (rw [IntKind.wrap_i64]; omega) | (rw [IntKind.wrap_u64]; omega) | (intro h; omega))⟩) hHeld ?_
                try simp only [Act.put, sA0, sB0, sC0]
                refine wpAnyH_take (i := 12) (oi := ⟨some 160, _, _, _, _, _⟩) (v := (.bool false)) rfl (by kernel_rfl) (by kernel_rfl) (by kernel_rfl) (fun _ _ _ h => h) (Or.inl ⟨by rfl, fun w' hw => by go_simp⟩) hHeld ?_
                try simp only [Act.put, sA0, sB0, sC0]
                refine wpAnyH_take (i := 13) (oi := ⟨some 161, _, _, _, _, _⟩) (v := (.bool false)) rfl (by kernel_rfl) (by kernel_rfl) (by kernel_rfl) (fun _ _ _ h => h) (Or.inl ⟨by rfl, fun w' hw => by go_simp⟩) hHeld ?_
                try simp only [Act.put, sA0, sB0, sC0]
                refine wpAnyH_take (i := 14) (oi := ⟨some 162, _, _, _, _, _⟩) (v := (.slice (some ⟨pb, po, none⟩) L pc)) rfl (by kernel_rfl) (by kernel_rfl) (by kernel_rfl) (fun _ _ _ h => h) (Or.inl ⟨by rfl, fun w' hw => by go_simp⟩) hHeld ?_
                try simp only [Act.put, sA0, sB0, sC0]
                refine wpAnyH_take (i := 15) (oi := ⟨some 163, _, _, _, _, _⟩) (v := (.int .i64 (q : Int))) rfl (by kernel_rfl) (by kernel_rfl) (by kernel_rfl) (fun _ _ _ h => h) (Or.inl ⟨by rfl, fun w' hw => by go_simp⟩) hHeld ?_
                try simp only [Act.put, sA0, sB0, sC0]
                refine wpAnyH_take (i := 16) (oi := ⟨some 164, _, _, _, _, _⟩) (v := (.pointer (some ⟨pb, po + q, none⟩))) rfl (by kernel_rfl) (by kernel_rfl) (by kernel_rfl) (fun _ _ _ h => h) (Or.inl ⟨by rfl, fun w' hw => by go_simp⟩) hHeld ?_
                try simp only [Act.put, sA0, sB0, sC0]
                refine wpAnyH_take (i := 17) (oi := ⟨some 165, _, _, _, _, _⟩) (v := (.int .i64 ((pi : Nat) : Int))) rfl (by kernel_rfl) (by kernel_rfl) (by kernel_rfl) (fun _ _ _ h => h) (Or.inl ⟨by rfl, fun w' hw => by (have h1 := hw.2.1; go_simp)⟩) hHeld ?_
                try simp only [Act.put, sA0, sB0, sC0]
                refine wpAnyH_take (i := 18) (oi := ⟨some 166, _, _, _, _, _⟩) (v := (.agg #[.int .i64 c.B, .int .i64 (c.S : Int), .int .i64 (c.T : Int), .int .i64 (c.n : Int)])) rfl (by kernel_rfl) (by kernel_rfl) (by kernel_rfl) (fun _ _ _ h => h) (Or.inl ⟨by rfl, fun w' hw => by (have k0 := sc_0 hw.1; have k1 := sc_1 hw.1; have k2 := sc_2 hw.1; have k3 := sc_3 hw.1; go_simp)⟩) hHeld ?_
                try simp only [Act.put, sA0, sB0, sC0]
                refine wpAnyH_take (i := 22) (oi := ⟨some 170, _, _, _, _, _⟩) (v := (.pointer (some ⟨cb, 3, none⟩))) rfl (by kernel_rfl) (by kernel_rfl) (by kernel_rfl) (fun _ _ _ h => h) (Or.inl ⟨by rfl, fun w' hw => by go_simp⟩) hHeld ?_
                try simp only [Act.put, sA0, sB0, sC0]
                refine wpAnyH_take (i := 23) (oi := ⟨some 171, _, _, _, _, _⟩) (v := (.int .i64 (c.n : Int))) rfl (by kernel_rfl) (by kernel_rfl) (by kernel_rfl) (fun _ _ _ h => h) (Or.inl ⟨by rfl, fun w' hw => by (have q := sc_3 hw.1; go_simp)⟩) hHeld ?_
                try simp only [Act.put, sA0, sB0, sC0]
                refine wpAnyH_take (i := 24) (oi := ⟨some 172, _, _, _, _, _⟩) (v := (.int .i64 ((c.n : Int) - 1))) rfl (by kernel_rfl) (by kernel_rfl) (by kernel_rfl) (fun _ _ _ h => h) (Or.inl ⟨by rfl, fun w' hw => by (go_simp; first | done | omega | (rw [IntKind.wrap_i64]; omega) | (rw [IntKind.wrap_u64]; omega) | (intro h; omega))⟩) hHeld ?_
                try simp only [Act.put, sA0, sB0, sC0]
                refine wpAnyH_take (i := 25) (oi := ⟨some 173, _, _, _, _, _⟩) (v := (.int .i64 ((hh : Nat) : Int))) rfl (by kernel_rfl) (by kernel_rfl) (by kernel_rfl) (fun _ _ _ h => h) (Or.inl ⟨by rfl, fun w' hw => by go_simp⟩) hHeld ?_
                try simp only [Act.put, sA0, sB0, sC0]
                refine wpAnyH_take (i := 26) (oi := ⟨some 174, _, _, _, _, _⟩) (v := (.int .i64 ((im : Nat) : Int))) rfl (by kernel_rfl) (by kernel_rfl) (by kernel_rfl) (fun _ _ _ h => h) (Or.inl ⟨by rfl, fun w' hw => by (go_simp; first | done | omega | (rw [IntKind.wrap_i64]; omega) | (rw [IntKind.wrap_u64]; omega) | (intro h; omega))⟩) hHeld ?_
                try simp only [Act.put, sA0, sB0, sC0]
                refine one_ready 19 rfl (by kernel_rfl) (fun K9 hK => ?_)
                go_simp
                refine (HWd.out _).mono ?_
                rintro e w13 ⟨rfl, hb⟩
                have ho : Only nobody _ w13 := Only.of_below hb
                have hE := hE.nob ho
                have hP := cell_nob ho hP
                have hQ := cell_nob ho hQ
                refine hK.out _ _ ⟨hE.hF.1.box, hP, hQ⟩ (fun hHeld => ?_)
                clear hK K9 hb ho
                try simp only [Act.put, sA0, sB0, sC0]
                refine wpAnyH_take (i := 20) (oi := ⟨some 168, _, _, _, _, _⟩) (v := (.int .i64 ((pr : Nat) : Int))) rfl (by kernel_rfl) (by kernel_rfl) (by kernel_rfl) (fun _ _ _ h => h) (Or.inl ⟨by rfl, fun w' hw => by (go_simp; first | done | omega | (rw [IntKind.wrap_i64]; omega) | (rw [IntKind.wrap_u64]; omega) | (intro h; omega))⟩) hHeld ?_
                try simp only [Act.put, sA0, sB0, sC0]
                refine wpAnyH_take (i := 21) (oi := ⟨some 169, _, _, _, _, _⟩) (v := (.int .i64 ((im : Nat) : Int))) rfl (by kernel_rfl) (by kernel_rfl) (by kernel_rfl) (fun _ _ _ h => h) (Or.inl ⟨by rfl, fun w' hw => by (go_simp; first | done | omega | (rw [IntKind.wrap_i64]; omega) | (rw [IntKind.wrap_u64]; omega) | (intro h; omega))⟩) hHeld ?_
                try simp only [Act.put, sA0, sB0, sC0]
                refine wpAnyH_take (i := 27) (oi := ⟨some 175, _, _, _, _, _⟩) (v := (.bool false)) rfl (by kernel_rfl) (by kernel_rfl) (by kernel_rfl) (fun _ _ _ h => h) (Or.inl ⟨by rfl, fun w' hw => by go_simp⟩) hHeld ?_
                try simp only [Act.put, sA0, sB0, sC0]
                refine wpAnyH_take (i := 28) (oi := ⟨some 176, _, _, _, _, _⟩) (v := (.bool false)) rfl (by kernel_rfl) (by kernel_rfl) (by kernel_rfl) (fun _ _ _ h => h) (Or.inl ⟨by rfl, fun w' hw => by go_simp⟩) hHeld ?_
                try simp only [Act.put, sA0, sB0, sC0]
                refine wpAnyH_take (i := 29) (oi := ⟨some 177, _, _, _, _, _⟩) (v := (.bool false)) rfl (by kernel_rfl) (by kernel_rfl) (by kernel_rfl) (fun _ _ _ h => h) (Or.inl ⟨by rfl, fun w' hw => by go_simp⟩) hHeld ?_
                try simp only [Act.put, sA0, sB0, sC0]
                refine wpAnyH_take (i := 30) (oi := ⟨some 178, _, _, _, _, _⟩) (v := (.slice (some ⟨pb, po, none⟩) L pc)) rfl (by kernel_rfl) (by kernel_rfl) (by kernel_rfl) (fun _ _ _ h => h) (Or.inl ⟨by rfl, fun w' hw => by go_simp⟩) hHeld ?_
                try simp only [Act.put, sA0, sB0, sC0]
                refine wpAnyH_take (i := 31) (oi := ⟨some 179, _, _, _, _, _⟩) (v := (.int .i64 (q : Int))) rfl (by kernel_rfl) (by kernel_rfl) (by kernel_rfl) (fun _ _ _ h => h) (Or.inl ⟨by rfl, fun w' hw => by go_simp⟩) hHeld ?_
                try simp only [Act.put, sA0, sB0, sC0]
                refine wpAnyH_take (i := 32) (oi := ⟨some 180, _, _, _, _, _⟩) (v := (.pointer (some ⟨pb, po + q, none⟩))) rfl (by kernel_rfl) (by kernel_rfl) (by kernel_rfl) (fun _ _ _ h => h) (Or.inl ⟨by rfl, fun w' hw => by go_simp⟩) hHeld ?_
                try simp only [Act.put, sA0, sB0, sC0]
                refine wpAnyH_take (i := 33) (oi := ⟨some 181, _, _, _, _, _⟩) (v := (.int .i64 ((pi : Nat) : Int))) rfl (by kernel_rfl) (by kernel_rfl) (by kernel_rfl) (fun _ _ _ h => h) (Or.inl ⟨by rfl, fun w' hw => by (have h1 := hw.2.1; go_simp)⟩) hHeld ?_
                try simp only [Act.put, sA0, sB0, sC0]
                refine wpAnyH_take (i := 34) (oi := ⟨some 182, _, _, _, _, _⟩) (v := (.agg #[.int .i64 c.B, .int .i64 (c.S : Int), .int .i64 (c.T : Int), .int .i64 (c.n : Int)])) rfl (by kernel_rfl) (by kernel_rfl) (by kernel_rfl) (fun _ _ _ h => h) (Or.inl ⟨by rfl, fun w' hw => by (have k0 := sc_0 hw.1; have k1 := sc_1 hw.1; have k2 := sc_2 hw.1; have k3 := sc_3 hw.1; go_simp)⟩) hHeld ?_
                try simp only [Act.put, sA0, sB0, sC0]
                refine wpAnyH_take (i := 37) (oi := ⟨some 185, _, _, _, _, _⟩) (v := (.int .i64 (q : Int))) rfl (by kernel_rfl) (by kernel_rfl) (by kernel_rfl) (fun _ _ _ h => h) (Or.inl ⟨by rfl, fun w' hw => by go_simp⟩) hHeld ?_
                try simp only [Act.put, sA0, sB0, sC0]
                refine wpAnyH_take (i := 38) (oi := ⟨some 186, _, _, _, _, _⟩) (v := (.pointer (some ⟨cb, 3, none⟩))) rfl (by kernel_rfl) (by kernel_rfl) (by kernel_rfl) (fun _ _ _ h => h) (Or.inl ⟨by rfl, fun w' hw => by go_simp⟩) hHeld ?_
                try simp only [Act.put, sA0, sB0, sC0]
                refine wpAnyH_take (i := 39) (oi := ⟨some 187, _, _, _, _, _⟩) (v := (.int .i64 (c.n : Int))) rfl (by kernel_rfl) (by kernel_rfl) (by kernel_rfl) (fun _ _ _ h => h) (Or.inl ⟨by rfl, fun w' hw => by (have q := sc_3 hw.1; go_simp)⟩) hHeld ?_
                try simp only [Act.put, sA0, sB0, sC0]
                refine wpAnyH_take (i := 40) (oi := ⟨some 188, _, _, _, _, _⟩) (v := (.int .i64 ((id : Nat) : Int))) rfl (by kernel_rfl) (by kernel_rfl) (by kernel_rfl) (fun _ _ _ h => h) (Or.inl ⟨by rfl, fun w' hw => by (go_simp; first | done | omega | (rw [IntKind.wrap_i64]; omega) | (rw [IntKind.wrap_u64]; omega) | (intro h; omega))⟩) hHeld ?_
                try simp only [Act.put, sA0, sB0, sC0]
                refine one_ready 35 rfl (by kernel_rfl) (fun K9 hK => ?_)
                go_simp
                refine (HWd.out _).mono ?_
                rintro e w13 ⟨rfl, hb⟩
                have ho : Only nobody _ w13 := Only.of_below hb
                have hE := hE.nob ho
                have hP := cell_nob ho hP
                have hQ := cell_nob ho hQ
                refine hK.out _ _ ⟨hE.hF.1.box, hP, hQ⟩ (fun hHeld => ?_)
                clear hK K9 hb ho
                try simp only [Act.put, sA0, sB0, sC0]
                refine wpAnyH_take (i := 36) (oi := ⟨some 184, _, _, _, _, _⟩) (v := (.int .i64 ((pd : Nat) : Int))) rfl (by kernel_rfl) (by kernel_rfl) (by kernel_rfl) (fun _ _ _ h => h) (Or.inl ⟨by rfl, fun w' hw => by (go_simp; first | done | omega | (rw [IntKind.wrap_i64]; omega) | (rw [IntKind.wrap_u64]; omega) | (intro h; omega))⟩) hHeld ?_
                try simp only [Act.put, sA0, sB0, sC0]
                refine wpAnyH_take (i := 41) (oi := ⟨some 189, _, _, _, _, _⟩) (v := (.bool false)) rfl (by kernel_rfl) (by kernel_rfl) (by kernel_rfl) (fun _ _ _ h => h) (Or.inl ⟨by rfl, fun w' hw => by (go_simp; first | done | omega | (rw [IntKind.wrap_i64]; omega) | (rw [IntKind.wrap_u64]; omega) | (intro h; omega))⟩) hHeld ?_
                try simp only [Act.put, sA0, sB0, sC0]
                refine wpAnyH_take (i := 42) (oi := ⟨some 190, _, _, _, _, _⟩) (v := (.bool false)) rfl (by kernel_rfl) (by kernel_rfl) (by kernel_rfl) (fun _ _ _ h => h) (Or.inl ⟨by rfl, fun w' hw => by go_simp⟩) hHeld ?_
                try simp only [Act.put, sA0, sB0, sC0]
                refine wpAnyH_done (by kernel_rfl) ?_ _
                have HE := Lib.hid hE
                clear hHeld hE hP hQ
                go_wp2_with fail
                go_roundw
                case rel => exact ⟨q + 1, by go_num, by omega, HE.out⟩
                case measure => simp [intOf]; omega
              · have hp1 : ¬ (pi : Int) < (nz : Int) := by omega
                obtain ⟨wv, hwv⟩ : ∃ wv : Nat, wv = 0 := ⟨_, rfl⟩
                have b2 : ((wv : Nat) : Int).tmod ((bn : Nat) : Int) = ((qi : Nat) : Int) := by
                  rw [nat_tmod, HF2.out, hwv]
                  unfold told
                  rw [if_neg hpz]
                  rfl
                have HQ0 : Hid (qi = 0) := Lib.hid (by rw [hwv] at b2; simp at b2; omega)
                clear hE HF2
                go_upto_region 27 with fail
                have hE := HEx.out.drew
                clear HEx
                have hP := hE.hF.1.p.rng hqn
                have hQ := hE.hF.1.q.rng hqn
                rw [hpe] at hP
                rw [hqe2] at hQ
                refine held_s (S := fun u => Box u cb 79 (sfA c) ∧ u.cell? ⟨pb, po + q, none⟩ = some (.int .i64 ((pi : Nat) : Int)) ∧ u.cell? ⟨qb, qo + q, none⟩ = some (.int .i64 ((qi : Nat) : Int))) 43 rfl (by kernel_rfl) ⟨hE.hF.1.box, hP, hQ⟩ (fun hHeld => ?_)
                simp only [Array.replicate_succ, Array.replicate_zero, List.push_toArray, List.nil_append, List.cons_append]
                generalize World.drew _ = wf at *
                refine wpAnyH_take (i := 0) (oi := ⟨some 148, _, _, _, _, _⟩) (v := (.slice (some ⟨qb, qo, none⟩) L qc)) rfl (by kernel_rfl) (by kernel_rfl) (by kernel_rfl) (fun _ _ _ h => h) (Or.inl ⟨by rfl, fun w' hw => by go_simp⟩) hHeld ?_
                try simp only [Act.put, sA0, sB0, sC0]
                refine wpAnyH_take (i := 1) (oi := ⟨some 149, _, _, _, _, _⟩) (v := (.int .i64 (q : Int))) rfl (by kernel_rfl) (by kernel_rfl) (by kernel_rfl) (fun _ _ _ h => h) (Or.inl ⟨by rfl, fun w' hw => by go_simp⟩) hHeld ?_
                try simp only [Act.put, sA0, sB0, sC0]
                refine wpAnyH_take (i := 2) (oi := ⟨some 150, _, _, _, _, _⟩) (v := (.pointer (some ⟨qb, qo + q, none⟩))) rfl (by kernel_rfl) (by kernel_rfl) (by kernel_rfl) (fun _ _ _ h => h) (Or.inl ⟨by rfl, fun w' hw => by go_simp⟩) hHeld ?_
                try simp only [Act.put, sA0, sB0, sC0]
                refine wpAnyH_take (i := 3) (oi := ⟨some 151, _, _, _, _, _⟩) (v := (.int .i64 ((qi : Nat) : Int))) rfl (by kernel_rfl) (by kernel_rfl) (by kernel_rfl) (fun _ _ _ h => h) (Or.inl ⟨by rfl, fun w' hw => by (have h1 := hw.2.2; go_simp)⟩) hHeld ?_
                try simp only [Act.put, sA0, sB0, sC0]
                refine wpAnyH_take (i := 4) (oi := ⟨some 152, _, _, _, _, _⟩) (v := (.int .u64 ((wv : Nat) : Int))) rfl (by kernel_rfl) (by kernel_rfl) (by kernel_rfl) (fun _ _ _ h => h) (Or.inl ⟨by rfl, fun w' hw => by go_simp⟩) hHeld ?_
                try simp only [Act.put, sA0, sB0, sC0]
                refine wpAnyH_take (i := 5) (oi := ⟨some 153, _, _, _, _, _⟩) (v := (.agg #[.int .i64 c.B, .int .i64 (c.S : Int), .int .i64 (c.T : Int), .int .i64 (c.n : Int)])) rfl (by kernel_rfl) (by kernel_rfl) (by kernel_rfl) (fun _ _ _ h => h) (Or.inl ⟨by rfl, fun w' hw => by (have k0 := sc_0 hw.1; have k1 := sc_1 hw.1; have k2 := sc_2 hw.1; have k3 := sc_3 hw.1; go_simp)⟩) hHeld ?_
                try simp only [Act.put, sA0, sB0, sC0]
                refine wpAnyH_take (i := 7) (oi := ⟨some 155, _, _, _, _, _⟩) (v := (.int .i64 ((hh : Nat) : Int))) rfl (by kernel_rfl) (by kernel_rfl) (by kernel_rfl) (fun _ _ _ h => h) (Or.inl ⟨by rfl, fun w' hw => by go_simp⟩) hHeld ?_
                try simp only [Act.put, sA0, sB0, sC0]
                refine one_ready 6 rfl (by kernel_rfl) (fun K9 hK => ?_)
                go_simp
                refine (sas_of c _).mono ?_
                rintro e w13 ⟨rfl, hb⟩
                have ho : Only nobody _ w13 := Only.of_below hb
                have hE := hE.nob ho
                have hP := cell_nob ho hP
                have hQ := cell_nob ho hQ
                refine hK.out _ _ ⟨hE.hF.1.box, hP, hQ⟩ (fun hHeld => ?_)
                clear hK K9 hb ho
                try simp only [Act.put, sA0, sB0, sC0]
                refine one_ready 8 rfl (by kernel_rfl) (fun K9 hK => ?_)
                go_simp
                refine (HBk.out _).mono ?_
                rintro e w13 ⟨rfl, hb⟩
                have ho : Only nobody _ w13 := Only.of_below hb
                have hE := hE.nob ho
                have hP := cell_nob ho hP
                have hQ := cell_nob ho hQ
                refine hK.out _ _ ⟨hE.hF.1.box, hP, hQ⟩ (fun hHeld => ?_)
                clear hK K9 hb ho
                try simp only [Act.put, sA0, sB0, sC0]
                refine wpAnyH_take (i := 9) (oi := ⟨some 157, _, _, _, _, _⟩) (v := (.int .u64 ((bn : Nat) : Int))) rfl (by kernel_rfl) (by kernel_rfl) (by kernel_rfl) (fun _ _ _ h => h) (Or.inl ⟨by rfl, fun w' hw => by (go_simp; first | done | omega | (rw [IntKind.wrap_i64]; omega) | (rw [IntKind.wrap_u64]; omega) | (intro h; omega))⟩) hHeld ?_
                try simp only [Act.put, sA0, sB0, sC0]
                refine wpAnyH_take (i := 10) (oi := ⟨some 158, _, _, _, _, _⟩) (v := (.int .u64 ((qi : Nat) : Int))) rfl (by kernel_rfl) (by kernel_rfl) (by kernel_rfl) (fun _ _ _ h => h) (Or.inl ⟨by rfl, fun w' hw => by (go_simp; first | (have := HQ0.out; omega) | done | omega | (rw [IntKind.wrap_i64]; omega) | (rw [IntKind.wrap_u64]; omega) | (intro h; omega))⟩) hHeld ?_
                try simp only [Act.put, sA0, sB0, sC0]
                refine wpAnyH_take (i := 11) (oi := ⟨some 159, _, _, _, _, _⟩) (v := (.int .i64 ((qi : Nat) : Int))) rfl (by kernel_rfl) (by kernel_rfl) (by kernel_rfl) (fun _ _ _ h => h) (Or.inl ⟨by rfl, fun w' hw => by (go_simp; first | done | omega | (rw [IntKind.wrap_i64]; omega) | (rw [IntKind.wrap_u64]; omega) | (intro h; omega))⟩) hHeld ?_
                try simp only [Act.put, sA0, sB0, sC0]
                refine wpAnyH_take (i := 12) (oi := ⟨some 160, _, _, _, _, _⟩) (v := (.bool false)) rfl (by kernel_rfl) (by kernel_rfl) (by kernel_rfl) (fun _ _ _ h => h) (Or.inl ⟨by rfl, fun w' hw => by go_simp⟩) hHeld ?_
                try simp only [Act.put, sA0, sB0, sC0]
                refine wpAnyH_take (i := 13) (oi := ⟨some 161, _, _, _, _, _⟩) (v := (.bool false)) rfl (by kernel_rfl) (by kernel_rfl) (by kernel_rfl) (fun _ _ _ h => h) (Or.inl ⟨by rfl, fun w' hw => by go_simp⟩) hHeld ?_
                try simp only [Act.put, sA0, sB0, sC0]
                refine wpAnyH_take (i := 14) (oi := ⟨some 162, _, _, _, _, _⟩) (v := (.slice (some ⟨pb, po, none⟩) L pc)) rfl (by kernel_rfl) (by kernel_rfl) (by kernel_rfl) (fun _ _ _ h => h) (Or.inl ⟨by rfl, fun w' hw => by go_simp⟩) hHeld ?_
                try simp only [Act.put, sA0, sB0, sC0]
                refine wpAnyH_take (i := 15) (oi := ⟨some 163, _, _, _, _, _⟩) (v := (.int .i64 (q : Int))) rfl (by kernel_rfl) (by kernel_rfl) (by kernel_rfl) (fun _ _ _ h => h) (Or.inl ⟨by rfl, fun w' hw => by go_simp⟩) hHeld ?_
                try simp only [Act.put, sA0, sB0, sC0]
                refine wpAnyH_take (i := 16) (oi := ⟨some 164, _, _, _, _, _⟩) (v := (.pointer (some ⟨pb, po + q, none⟩))) rfl (by kernel_rfl) (by kernel_rfl) (by kernel_rfl) (fun _ _ _ h => h) (Or.inl ⟨by rfl, fun w' hw => by go_simp⟩) hHeld ?_
                try simp only [Act.put, sA0, sB0, sC0]
                refine wpAnyH_take (i := 17) (oi := ⟨some 165, _, _, _, _, _⟩) (v := (.int .i64 ((pi : Nat) : Int))) rfl (by kernel_rfl) (by kernel_rfl) (by kernel_rfl) (fun _ _ _ h => h) (Or.inl ⟨by rfl, fun w' hw => by (have h1 := hw.2.1; go_simp)⟩) hHeld ?_
                try simp only [Act.put, sA0, sB0, sC0]
                refine wpAnyH_take (i := 18) (oi := ⟨some 166, _, _, _, _, _⟩) (v := (.agg #[.int .i64 c.B, .int .i64 (c.S : Int), .int .i64 (c.T : Int), .int .i64 (c.n : Int)])) rfl (by kernel_rfl) (by kernel_rfl) (by kernel_rfl) (fun _ _ _ h => h) (Or.inl ⟨by rfl, fun w' hw => by (have k0 := sc_0 hw.1; have k1 := sc_1 hw.1; have k2 := sc_2 hw.1; have k3 := sc_3 hw.1; go_simp)⟩) hHeld ?_
                try simp only [Act.put, sA0, sB0, sC0]
                refine wpAnyH_take (i := 22) (oi := ⟨some 170, _, _, _, _, _⟩) (v := (.pointer (some ⟨cb, 3, none⟩))) rfl (by kernel_rfl) (by kernel_rfl) (by kernel_rfl) (fun _ _ _ h => h) (Or.inl ⟨by rfl, fun w' hw => by go_simp⟩) hHeld ?_
                try simp only [Act.put, sA0, sB0, sC0]
                refine wpAnyH_take (i := 23) (oi := ⟨some 171, _, _, _, _, _⟩) (v := (.int .i64 (c.n : Int))) rfl (by kernel_rfl) (by kernel_rfl) (by kernel_rfl) (fun _ _ _ h => h) (Or.inl ⟨by rfl, fun w' hw => by (have q := sc_3 hw.1; go_simp)⟩) hHeld ?_
                try simp only [Act.put, sA0, sB0, sC0]
                refine wpAnyH_take (i := 24) (oi := ⟨some 172, _, _, _, _, _⟩) (v := (.int .i64 ((c.n : Int) - 1))) rfl (by kernel_rfl) (by kernel_rfl) (by kernel_rfl) (fun _ _ _ h => h) (Or.inl ⟨by rfl, fun w' hw => by (go_simp; first | done | omega | (rw [IntKind.wrap_i64]; omega) | (rw [IntKind.wrap_u64]; omega) | (intro h; omega))⟩) hHeld ?_
                try simp only [Act.put, sA0, sB0, sC0]
                refine wpAnyH_take (i := 25) (oi := ⟨some 173, _, _, _, _, _⟩) (v := (.int .i64 ((hh : Nat) : Int))) rfl (by kernel_rfl) (by kernel_rfl) (by kernel_rfl) (fun _ _ _ h => h) (Or.inl ⟨by rfl, fun w' hw => by go_simp⟩) hHeld ?_
                try simp only [Act.put, sA0, sB0, sC0]
                refine wpAnyH_take (i := 26) (oi := ⟨some 174, _, _, _, _, _⟩) (v := (.int .i64 ((im : Nat) : Int))) rfl (by kernel_rfl) (by kernel_rfl) (by kernel_rfl) (fun _ _ _ h => h) (Or.inl ⟨by rfl, fun w' hw => by (go_simp; first | done | omega | (rw [IntKind.wrap_i64]; omega) | (rw [IntKind.wrap_u64]; omega) | (intro h; omega))⟩) hHeld ?_
                try simp only [Act.put, sA0, sB0, sC0]
                refine one_ready 19 rfl (by kernel_rfl) (fun K9 hK => ?_)
                go_simp
                refine (HWd.out _).mono ?_
                rintro e w13 ⟨rfl, hb⟩
                have ho : Only nobody _ w13 := Only.of_below hb
                have hE := hE.nob ho
                have hP := cell_nob ho hP
                have hQ := cell_nob ho hQ
                refine hK.out _ _ ⟨hE.hF.1.box, hP, hQ⟩ (fun hHeld => ?_)
                clear hK K9 hb ho
                try simp only [Act.put, sA0, sB0, sC0]
                refine wpAnyH_take (i := 20) (oi := ⟨some 168, _, _, _, _, _⟩) (v := (.int .i64 ((pr : Nat) : Int))) rfl (by kernel_rfl) (by kernel_rfl) (by kernel_rfl) (fun _ _ _ h => h) (Or.inl ⟨by rfl, fun w' hw => by (go_simp; first | done | omega | (rw [IntKind.wrap_i64]; omega) | (rw [IntKind.wrap_u64]; omega) | (intro h; omega))⟩) hHeld ?_
                try simp only [Act.put, sA0, sB0, sC0]
                refine wpAnyH_take (i := 21) (oi := ⟨some 169, _, _, _, _, _⟩) (v := (.int .i64 ((im : Nat) : Int))) rfl (by kernel_rfl) (by kernel_rfl) (by kernel_rfl) (fun _ _ _ h => h) (Or.inl ⟨by rfl, fun w' hw => by (go_simp; first | done | omega | (rw [IntKind.wrap_i64]; omega) | (rw [IntKind.wrap_u64]; omega) | (intro h; omega))⟩) hHeld ?_
                try simp only [Act.put, sA0, sB0, sC0]
                refine wpAnyH_take (i := 27) (oi := ⟨some 175, _, _, _, _, _⟩) (v := (.bool false)) rfl (by kernel_rfl) (by kernel_rfl) (by kernel_rfl) (fun _ _ _ h => h) (Or.inl ⟨by rfl, fun w' hw => by go_simp⟩) hHeld ?_
                try simp only [Act.put, sA0, sB0, sC0]
                refine wpAnyH_take (i := 28) (oi := ⟨some 176, _, _, _, _, _⟩) (v := (.bool false)) rfl (by kernel_rfl) (by kernel_rfl) (by kernel_rfl) (fun _ _ _ h => h) (Or.inl ⟨by rfl, fun w' hw => by go_simp⟩) hHeld ?_
                try simp only [Act.put, sA0, sB0, sC0]
                refine wpAnyH_take (i := 29) (oi := ⟨some 177, _, _, _, _, _⟩) (v := (.bool false)) rfl (by kernel_rfl) (by kernel_rfl) (by kernel_rfl) (fun _ _ _ h => h) (Or.inl ⟨by rfl, fun w' hw => by go_simp⟩) hHeld ?_
                try simp only [Act.put, sA0, sB0, sC0]
                refine wpAnyH_take (i := 30) (oi := ⟨some 178, _, _, _, _, _⟩) (v := (.slice (some ⟨pb, po, none⟩) L pc)) rfl (by kernel_rfl) (by kernel_rfl) (by kernel_rfl) (fun _ _ _ h => h) (Or.inl ⟨by rfl, fun w' hw => by go_simp⟩) hHeld ?_
                try simp only [Act.put, sA0, sB0, sC0]
                refine wpAnyH_take (i := 31) (oi := ⟨some 179, _, _, _, _, _⟩) (v := (.int .i64 (q : Int))) rfl (by kernel_rfl) (by kernel_rfl) (by kernel_rfl) (fun _ _ _ h => h) (Or.inl ⟨by rfl, fun w' hw => by go_simp⟩) hHeld ?_
                try simp only [Act.put, sA0, sB0, sC0]
                refine wpAnyH_take (i := 32) (oi := ⟨some 180, _, _, _, _, _⟩) (v := (.pointer (some ⟨pb, po + q, none⟩))) rfl (by kernel_rfl) (by kernel_rfl) (by kernel_rfl) (fun _ _ _ h => h) (Or.inl ⟨by rfl, fun w' hw => by go_simp⟩) hHeld ?_
                try simp only [Act.put, sA0, sB0, sC0]
                refine wpAnyH_take (i := 33) (oi := ⟨some 181, _, _, _, _, _⟩) (v := (.int .i64 ((pi : Nat) : Int))) rfl (by kernel_rfl) (by kernel_rfl) (by kernel_rfl) (fun _ _ _ h => h) (Or.inl ⟨by rfl, fun w' hw => by (have h1 := hw.2.1; go_simp)⟩) hHeld ?_
                try simp only [Act.put, sA0, sB0, sC0]
                refine wpAnyH_take (i := 34) (oi := ⟨some 182, _, _, _, _, _⟩) (v := (.agg #[.int .i64 c.B, .int .i64 (c.S : Int), .int .i64 (c.T : Int), .int .i64 (c.n : Int)])) rfl (by kernel_rfl) (by kernel_rfl) (by kernel_rfl) (fun _ _ _ h => h) (Or.inl ⟨by rfl, fun w' hw => by (have k0 := sc_0 hw.1; have k1 := sc_1 hw.1; have k2 := sc_2 hw.1; have k3 := sc_3 hw.1; go_simp)⟩) hHeld ?_
                try simp only [Act.put, sA0, sB0, sC0]
                refine wpAnyH_take (i := 37) (oi := ⟨some 185, _, _, _, _, _⟩) (v := (.int .i64 (q : Int))) rfl (by kernel_rfl) (by kernel_rfl) (by kernel_rfl) (fun _ _ _ h => h) (Or.inl ⟨by rfl, fun w' hw => by go_simp⟩) hHeld ?_
                try simp only [Act.put, sA0, sB0, sC0]
                refine wpAnyH_take (i := 38) (oi := ⟨some 186, _, _, _, _, _⟩) (v := (.pointer (some ⟨cb, 3, none⟩))) rfl (by kernel_rfl) (by kernel_rfl) (by kernel_rfl) (fun _ _ _ h => h) (Or.inl ⟨by rfl, fun w' hw => by go_simp⟩) hHeld ?_
                try simp only [Act.put, sA0, sB0, sC0]
                refine wpAnyH_take (i := 39) (oi := ⟨some 187, _, _, _, _, _⟩) (v := (.int .i64 (c.n : Int))) rfl (by kernel_rfl) (by kernel_rfl) (by kernel_rfl) (fun _ _ _ h => h) (Or.inl ⟨by rfl, fun w' hw => by (have q := sc_3 hw.1; go_simp)⟩) hHeld ?_
                try simp only [Act.put, sA0, sB0, sC0]
                refine wpAnyH_take (i := 40) (oi := ⟨some 188, _, _, _, _, _⟩) (v := (.int .i64 ((id : Nat) : Int))) rfl (by kernel_rfl) (by kernel_rfl) (by kernel_rfl) (fun _ _ _ h => h) (Or.inl ⟨by rfl, fun w' hw => by (go_simp; first | done | omega | (rw [IntKind.wrap_i64]; omega) | (rw [IntKind.wrap_u64]; omega) | (intro h; omega))⟩) hHeld ?_
                try simp only [Act.put, sA0, sB0, sC0]
                refine one_ready 35 rfl (by kernel_rfl) (fun K9 hK => ?_)
                go_simp
                refine (HWd.out _).mono ?_
                rintro e w13 ⟨rfl, hb⟩
                have ho : Only nobody _ w13 := Only.of_below hb
                have hE := hE.nob ho
                have hP := cell_nob ho hP
                have hQ := cell_nob ho hQ
                refine hK.out _ _ ⟨hE.hF.1.box, hP, hQ⟩ (fun hHeld => ?_)
                clear hK K9 hb ho
                try simp only [Act.put, sA0, sB0, sC0]
                refine wpAnyH_take (i := 36) (oi := ⟨some 184, _, _, _, _, _⟩) (v := (.int .i64 ((pd : Nat) : Int))) rfl (by kernel_rfl) (by kernel_rfl) (by kernel_rfl) (fun _ _ _ h => h) (Or.inl ⟨by rfl, fun w' hw => by (go_simp; first | done | omega | (rw [IntKind.wrap_i64]; omega) | (rw [IntKind.wrap_u64]; omega) | (intro h; omega))⟩) hHeld ?_
                try simp only [Act.put, sA0, sB0, sC0]
                refine wpAnyH_take (i := 41) (oi := ⟨some 189, _, _, _, _, _⟩) (v := (.bool false)) rfl (by kernel_rfl) (by kernel_rfl) (by kernel_rfl) (fun _ _ _ h => h) (Or.inl ⟨by rfl, fun w' hw => by (go_simp; first | done | omega | (rw [IntKind.wrap_i64]; omega) | (rw [IntKind.wrap_u64]; omega) | (intro h; omega))⟩) hHeld ?_
                try simp only [Act.put, sA0, sB0, sC0]
                refine wpAnyH_take (i := 42) (oi := ⟨some 190, _, _, _, _, _⟩) (v := (.bool false)) rfl (by kernel_rfl) (by kernel_rfl) (by kernel_rfl) (fun _ _ _ h => h) (Or.inl ⟨by rfl, fun w' hw => by go_simp⟩) hHeld ?_
                try simp only [Act.put, sA0, sB0, sC0]
                refine wpAnyH_done (by kernel_rfl) ?_ _
                have HE := Lib.hid hE
                clear hHeld hE hP hQ
                go_wp2_with fail
                go_roundw
                case rel => exact ⟨q + 1, by go_num, by omega, HE.out⟩
                case measure => simp [intOf]; omega
            · obtain rfl : q = L := by omega
              have hqq : ¬ (q : Int) < (q : Int) := by omega
              have HE := Lib.hid hE
              clear hE
              go_wp2_with fail
              go_ret
              exact ⟨rfl, HE.out.kp⟩
end Go.Proofs.YtfonieemodbikaaGreat

