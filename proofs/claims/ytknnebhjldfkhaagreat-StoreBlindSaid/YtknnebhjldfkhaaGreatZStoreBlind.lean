/- StoreBlind: the events of all accesses are those of the ways that were gone. -/
import Derived.Test.YtknnebhjldfkhaaGreatG48
namespace Go.Proofs.YtknnebhjldfkhaaGreat
set_option maxRecDepth 100000
open Go.RowKit Go.ChangeShapes Go.WideShapes Go.ChangeAt Go.Maps Go.Deep

set_option linter.unusedSimpArgs false in
set_option maxRecDepth 100000 in
set_option linter.unusedSimpArgs false in
set_option maxHeartbeats 8000000 in
theorem sblind_law (n : Int) (A : Option Addr) (nz cz : Nat) (z : Nat → Int) (ya : Option Addr) (nl c' : Nat) (y : Nat → Sp3) (w : World) (hn : (Lit.int .i64 n).wf = true) (hz : Nums .u64 w w.heap.size A nz z) (hzr : ∀ j, j < nz → (Lit.int .u64 (z j)).wf = true) (hS : Sps3 w w.heap.size ya nl y) (hy : ∀ j, j < nl → Sp3Ok (y j)) :
  Calls Tryz.prog 7 #[.int .i64 n, .slice A nz cz, .slice ya nl c'] w fun e w' => e = .returned (.bool true) ∧ Below w.heap.size w w' := by
 by_cases hl : 16 < nl
 ·have h24 : (16 : Int) < (nl : Int) := by omega
  go_enter Tryz.func7, Tryz.ntmps7
  go_wp2_with fail
  refine (sshown_of _).mono ?_
  rintro e w1 ⟨rfl, hb1⟩
  have HB1 := Lib.hid hb1
  clear hb1
  go_wp2_with fail
  go_ret
  exact ⟨rfl, HB1.out⟩
 ·have h24 : ¬ (16 : Int) < (nl : Int) := by omega
  by_cases hl2 : 400 < nz
  ·have h400 : (400 : Int) < (nz : Int) := by omega
   go_enter Tryz.func7, Tryz.ntmps7
   go_wp2_with fail
   refine (sshown_of _).mono ?_
   rintro e w1 ⟨rfl, hb1⟩
   have HB1 := Lib.hid hb1
   clear hb1
   go_wp2_with fail
   go_ret
   exact ⟨rfl, HB1.out⟩
  ·have h400 : ¬ (400 : Int) < (nz : Int) := by omega
   obtain ⟨c, hc, hf1, hsm, hcf, hmd⟩ := slaw_config1 n (i64_rng hn).1 (i64_rng hn).2
   have eB := hc.bB.symm
   have hB32 : 2 ^ c.b ≤ 32 := by have : 2 ^ c.b ≤ 2 ^ 5 := Nat.pow_le_pow_right (by decide) hsm.1; omega
   have hbp := Nat.two_pow_pos c.b
   have HBn : Hid (c.B = ((2 ^ c.b : Nat) : Int) ∧ 2 ^ c.b ≤ 32) := Lib.hid ⟨eB, hB32⟩
   obtain ⟨B, hBB⟩ : ∃ B, 2 ^ c.b = B := ⟨_, rfl⟩
   rw [hBB] at eB hB32 hbp
   have hB0 : ¬ c.B = 0 := by rw [eB]; omega
   have hwB : IntKind.u64.wrap c.B = c.B := by rw [IntKind.wrap_u64, eB]; omega
   have HWd := Lib.hid (fun W => swords_any c.B (c.S : Int) (c.T : Int) (c.n : Int) W (by unfold Rg; rw [eB]; omega))
   have hcn := hc.conf 0 (by have := hc.n1; omega)
   have hst : stR c.B (c.S : Int) (c.T : Int) (c.n : Int) = true := (stR_iff _ _ _ _).2 ⟨c.b, c.S, c.T, c.n, hc.b10, hc.bB.symm, rfl, rfl, rfl, hcn.s1, by have := hsm.2.1; omega, hcn.t1, by have := hsm.2.2.1; omega, hc.n1, hc.n4⟩
   rw [hst] at HWd
   simp only [if_true] at HWd
   have hn4 := hc.n4
   have hn1 := hc.n1
   have HCf := Lib.hid hcf
   have HMd := Lib.hid hmd
   have HC := Lib.hid hc
   have HF1 := Lib.hid hf1
   have HSt := Lib.hid hS
   have HYk := Lib.hid hy
   have HZ := Lib.hid hz
   have HZr : Hid (∀ j, j < nz → 0 ≤ z j ∧ z j ≤ 18446744073709551615) := Lib.hid fun j hj => u64_rng (hzr j hj)
   clear hf1 hcf hmd hc hS hy hn hz hzr hsm eB hB32 hbp hBB hcn hst
   go_enter Tryz.func7, Tryz.ntmps7
   go_wp2_with fail
   refine (sshown_of _).mono ?_
   rintro e w1 ⟨rfl, hb1⟩
   have HB1 := Lib.hid hb1
   clear hb1
   go_wp2_with fail
   refine (HCf.out _).mono ?_
   rintro e w2 ⟨rfl, hb2⟩
   have HB2 := Lib.hid (HB1.out.trans (hb2.mono HB1.out.size))
   clear hb2 HB1 HCf
   go_upto_region 5 with (refine wpList_store_newS rfl (.tmp 8) (.tmp 29) rfl rfl c rfl rfl ?_)
   obtain ⟨cb, hcb⟩ : ∃ b, w2.heap.size = b := ⟨_, rfl⟩
   have hbx := Box.new w2 79 (sfA c)
   have HB3 := Lib.hid (HB2.out.alloc HB2.out.size (.cells (sfA c) 79))
   have hcs : cb < (w2.alloc (.cells (sfA c) 79)).heap.size := by rw [← hcb]; exact hbx.lt
   have hws : w.heap.size ≤ cb := by rw [← hcb]; exact HB2.out.size
   rw [hcb] at hbx ⊢
   have HBx := Lib.hid hbx
   have HCs := Lib.hid hcs
   have HWs := Lib.hid hws
   clear hcb hbx hcs hws HB2
   generalize w2.alloc (.cells (sfA c) 79) = w3 at *
   have k0 := sc_0 HBx.out
   have k1 := sc_1 HBx.out
   have k2 := sc_2 HBx.out
   have k3 := sc_3 HBx.out
   go_wp2_with fail
   refine (HMd.out w3 A nz cz z ((HZ.out.below HB3.out).more HB3.out.size) (by omega) HZr.out).mono ?_
   rintro e w4 ⟨a, rfl, hSt, ho4⟩
   obtain ⟨Z, hZc, hE⟩ : ∃ Z : Nat → Prop, Z cb ∧ StS c a w Z (FW c cb w ya nl y) (sg0 c nz z) 0 w4 := ⟨fun i => i < w3.heap.size, HCs.out, StS.made hSt ho4 HB3.out ⟨HBx.out, HSt.out.below HB3.out⟩ (fun u u' hs hk f => ⟨hk.box f.1 HCs.out, f.2.below ((hk.mono fun i hi => by have := HB3.out.size; show i < w3.heap.size; omega).below hs (fun _ h => h))⟩)⟩
   have HZc := Lib.hid hZc
   have HE := Lib.hid hE
   clear ho4 hSt HMd HB3 HBx k0 k1 k2 k3 HCs hZc hE w3
   have HU0 := Lib.hid (ue_new c nz z)
   generalize sg0 c nz z = g0 at *
   have k0 := sc_0 HE.out.hF.1
   go_wp2_with fail
   go_loopw [12] (fun v12 wr => ∃ i : Nat, v12 = .int .i64 i ∧ i ≤ nl ∧ ∃ g, Ue c g i ∧ StS c a w Z (FW c cb w ya nl y) g (20 * i) wr) (fun v12 _ => nl - (intOf v12).toNat)
   case atStart => exact ⟨0, rfl, by omega, _, HU0.out, HE.out⟩
   case round =>
    obtain ⟨i, rfl, hi, g, hu, hE⟩ := hrel
    have HUe := Lib.hid hu
    have HUq : Hid (i ≤ 16 → g.u = 2 * c.n * i ∧ g.u ≤ 128) := Lib.hid fun h16 => ⟨hu.1.u, by rw [hu.1.u]; have : 2 * c.n * i ≤ 2 * 4 * 16 := Nat.mul_le_mul (by omega) h16; omega⟩
    clear hu HE HU0 k0
    by_cases hin : i < nl
    ·obtain ⟨yb, yo, rfl, _, _⟩ := HSt.out.at hin
     obtain ⟨r0, r1, r2⟩ := (HYk.out i hin).rng
     have hnn : (i : Int) < (nl : Int) := by omega
     have HUu : Hid (g.u ≤ 1000000000) := Lib.hid (by have := (HUq.out (by omega)).2; omega)
     obtain ⟨eB, hB32⟩ := HBn.out
     have hwT : (y i).2.1.tmod c.B = ((idM c (y i).2.1 : Nat) : Int) := by
      unfold idM
      rw [eB]
      obtain ⟨u, hu⟩ := Int.eq_ofNat_of_zero_le r1.1
      rw [hu, Int.toNat_natCast]
      rfl
     clear eB hB32
     have hi24 : i < 16 := by omega
     go_upto_region 11 with fail
     have hE := hE.drew
     refine held_s (S := fun u => Box u cb 79 (sfA c) ∧ u.rangeAt yb (yo + i * 3) (s3c (y i)).toList) 23 rfl (by kernel_rfl) ⟨hE.hF.1, hE.hF.2.rng hin⟩ (fun hHeld => ?_)
     simp only [qA0, qB0, qC0, List.nil_append, List.cons_append]
     generalize World.drew _ = wd at *
     refine tk1 0 49 (.pointer (some ⟨a.sp, 0, none⟩)) rfl (Or.inl ⟨by rfl, fun w' hw => by go_simp⟩) hHeld ?_
     try simp only [Act.put, sA0, sB0, sC0]
     refine tk1 1 50 (.slice (some ⟨yb, yo, none⟩) nl c') rfl (Or.inl ⟨by rfl, fun w' hw => by go_simp⟩) hHeld ?_
     try simp only [Act.put, sA0, sB0, sC0]
     refine tk1 2 51 (.int .i64 (i : Int)) rfl (Or.inl ⟨by rfl, fun w' hw => by go_simp⟩) hHeld ?_
     try simp only [Act.put, sA0, sB0, sC0]
     refine tk1 3 52 (.pointer (some ⟨yb, yo + i * 3, none⟩)) rfl (Or.inl ⟨by rfl, fun w' hw => by go_simp⟩) hHeld ?_
     try simp only [Act.put, sA0, sB0, sC0]
     refine tk1 4 53 (.pointer (some ⟨yb, yo + i * 3, none⟩)) rfl (Or.inl ⟨by rfl, fun w' hw => by go_simp⟩) hHeld ?_
     try simp only [Act.put, sA0, sB0, sC0]
     refine tk1 5 54 (.int .i64 (y i).1) rfl (Or.inl ⟨by rfl, fun w' hw => by (obtain ⟨q0, q1, q2⟩ := sp_cells hw.2; go_simp)⟩) hHeld ?_
     try simp only [Act.put, sA0, sB0, sC0]
     refine tk1 7 56 (.slice (some ⟨yb, yo, none⟩) nl c') rfl (Or.inl ⟨by rfl, fun w' hw => by go_simp⟩) hHeld ?_
     try simp only [Act.put, sA0, sB0, sC0]
     refine tk1 8 57 (.int .i64 (i : Int)) rfl (Or.inl ⟨by rfl, fun w' hw => by go_simp⟩) hHeld ?_
     try simp only [Act.put, sA0, sB0, sC0]
     refine tk1 9 58 (.pointer (some ⟨yb, yo + i * 3, none⟩)) rfl (Or.inl ⟨by rfl, fun w' hw => by go_simp⟩) hHeld ?_
     try simp only [Act.put, sA0, sB0, sC0]
     refine tk1 10 59 (.pointer (some ⟨yb, yo + i * 3 + 1, none⟩)) rfl (Or.inl ⟨by rfl, fun w' hw => by go_simp⟩) hHeld ?_
     try simp only [Act.put, sA0, sB0, sC0]
     refine tk1 11 60 (.int .u64 (y i).2.1) rfl (Or.inl ⟨by rfl, fun w' hw => by (obtain ⟨q0, q1, q2⟩ := sp_cells hw.2; go_simp)⟩) hHeld ?_
     try simp only [Act.put, sA0, sB0, sC0]
     refine tk1 12 61 (.pointer (some ⟨cb, 0, none⟩)) rfl (Or.inl ⟨by rfl, fun w' hw => by go_simp⟩) hHeld ?_
     try simp only [Act.put, sA0, sB0, sC0]
     refine tk1 13 62 (.int .i64 c.B) rfl (Or.inl ⟨by rfl, fun w' hw => by (have q := sc_0 hw.1; go_simp)⟩) hHeld ?_
     try simp only [Act.put, sA0, sB0, sC0]
     refine tk1 14 63 (.int .u64 c.B) rfl (Or.inl ⟨by rfl, fun w' hw => by (have hx := hB0; go_simp; first | done | exact hwB)⟩) hHeld ?_
     try simp only [Act.put, sA0, sB0, sC0]
     refine tk1 15 64 (.int .u64 ((idM c (y i).2.1 : Nat) : Int)) rfl (Or.inl ⟨by rfl, fun w' hw => by (have hx := hB0; go_simp; first | done | exact hwT | exact hwI)⟩) hHeld ?_
     try simp only [Act.put, sA0, sB0, sC0]
     refine tk1 16 65 (.slice (some ⟨yb, yo, none⟩) nl c') rfl (Or.inl ⟨by rfl, fun w' hw => by go_simp⟩) hHeld ?_
     try simp only [Act.put, sA0, sB0, sC0]
     refine tk1 17 66 (.int .i64 (i : Int)) rfl (Or.inl ⟨by rfl, fun w' hw => by go_simp⟩) hHeld ?_
     try simp only [Act.put, sA0, sB0, sC0]
     refine tk1 18 67 (.pointer (some ⟨yb, yo + i * 3, none⟩)) rfl (Or.inl ⟨by rfl, fun w' hw => by go_simp⟩) hHeld ?_
     try simp only [Act.put, sA0, sB0, sC0]
     refine tk1 19 68 (.pointer (some ⟨yb, yo + i * 3 + 2, none⟩)) rfl (Or.inl ⟨by rfl, fun w' hw => by go_simp⟩) hHeld ?_
     try simp only [Act.put, sA0, sB0, sC0]
     refine tk1 20 69 (.int .u64 (y i).2.2) rfl (Or.inl ⟨by rfl, fun w' hw => by (obtain ⟨q0, q1, q2⟩ := sp_cells hw.2; go_simp)⟩) hHeld ?_
     try simp only [Act.put, sA0, sB0, sC0]
     refine one_ready 6 rfl (by kernel_rfl) (fun K9 hK => ?_)
     go_simp
     refine (sop_of (y i).1 _ r0.1 r0.2).mono ?_
     rintro e w13 ⟨rfl, hb⟩
     have hE := hE.nob (Only.of_below hb)
     refine hK.out _ _ ⟨hE.hF.1, hE.hF.2.rng hin⟩ (fun hHeld => ?_)
     clear hK K9 hb
     try simp only [Act.put, sA0, sB0, sC0]
     refine one_ready 21 rfl (by kernel_rfl) (fun K9 hK => ?_)
     go_simp
     refine (sdata_of (y i).2.2 _).mono ?_
     rintro e w13 ⟨rfl, hb⟩
     have hE := hE.nob (Only.of_below hb)
     refine hK.out _ _ ⟨hE.hF.1, hE.hF.2.rng hin⟩ (fun hHeld => ?_)
     clear hK K9 hb
     try simp only [Act.put, sA0, sB0, sC0]
     refine one_ready 22 rfl (by kernel_rfl) (fun K9 hK => ?_)
     go_simp
     refine (hE.evs HC.out (opI (y i).1) (idM c (y i).2.1) (dw (y i).2.2) (idM_op c _ _) (fun j => dw_rng _ j) (by omega) HUe.out HUu.out).mono ?_
     rintro e w13 ⟨g', rr, t, rfl, hU', hE'⟩
     clear hE
     have hE := hE'
     clear hE'
     refine hK.out _ _ ⟨hE.hF.1, hE.hF.2.rng hin⟩ (fun hHeld => ?_)
     clear hK K9
     try simp only [Act.put, sA0, sB0, sC0]
     refine wpAnyH_done (by kernel_rfl) ?_ _
     have HU3 := Lib.hid hU'
     have HE2 := Lib.hid hE
     clear hE hHeld hU' HUe HUu HUq hwT r0 r1 r2
     go_wp2_with fail
     go_roundw
     case rel => exact ⟨i + 1, by go_num, by omega, _, HU3.out, HE2.out⟩
     case measure => simp [intOf]; omega
    ·obtain rfl : i = nl := by omega
     have hnn : ¬ (i : Int) < (i : Int) := by omega
     have hk3 : 20 * i < 20000 := by omega
     have hi16 : i ≤ 16 := by omega
     have HE := Lib.hid hE
     clear hE
     obtain ⟨w8, h9⟩ : ∃ x, x = wr := ⟨_, rfl⟩
     subst h9
     obtain ⟨hu1, hu2⟩ := HUq.out hi16
     obtain ⟨Q, hQ1, hQ2, hQ3, hQ4⟩ := HUe.out.ways HC.out (by omega)
     obtain ⟨us, hus⟩ : ∃ us, g.u = us := ⟨_, rfl⟩
     obtain ⟨L, hL⟩ : ∃ L, c.n * i = L := ⟨_, rfl⟩
     obtain ⟨le, hle⟩ : ∃ le, evAll c (fun j => ((Q j : Nat) : Int)) i = le := ⟨_, rfl⟩
     have hle9 : le.length ≤ 1000000000 := by rw [← hle]; have := evAll_len HC.out (fun j => ((Q j : Nat) : Int)) i; omega
     have hL64 : L ≤ 64 := by rw [← hL]; have : c.n * i ≤ 4 * 16 := Nat.mul_le_mul (by omega) hi16; omega
     have m1 : (i : Int) * (c.n : Int) = (L : Int) := by rw [← hL, Int.natCast_mul, Int.mul_comm]
     have m2 : (i : Int) * (2 * (c.n : Int)) = (us : Int) := by rw [← hus, hu1, Int.natCast_mul, Int.natCast_mul, Int.mul_comm]; rfl
     rw [hus] at hu2
     go_wp2_with fail
     refine (HE.out.leaves hk3).mono ?_
     rintro e w9 hPz
     obtain ⟨qa, qc, rfl, hqb, hev⟩ := hPz.ev HC.out hi16 hQ4 hQ2 hQ1
     rw [hle, hL] at hev
     rw [hL]
     have hE := HE.out.nob (Only.of_below hqb)
     have HEv : Hid (∀ W, Only nobody w9 W → Calls Tryz.prog 60 #[.int .i64 1, .agg #[.int .i64 c.B, .int .i64 (c.S : Int), .int .i64 (c.T : Int), .int .i64 (c.n : Int)], .slice qa L qc] W (EvPost W (le.map evI))) := Lib.hid fun W hO => by
      have h := hev W hO
      rw [HF1.out] at h
      exact h
     have HEs : Hid (g.M.es = le) := Lib.hid (hQ3.trans hle)
     have HUs := Lib.hid hus
     have hO : Only nobody w9 w9 := Only.refl _ _
     clear hQ1 hQ2 hQ3 hQ4 hus hL hle hPz hqb hev HE HUe HUq hu1
     go_upto_region 13 with fail
     have hE := hE.drew
     have hO := hO.drew
     refine held_s (S := fun u => Box u cb 79 (sfA c)) 27 rfl (by kernel_rfl) hE.hF.1 (fun hHeld => ?_)
     simp only [qA0, qB0, qC0, List.nil_append, List.cons_append]
     generalize World.drew _ = wd at *
     refine tk1 0 74 (.slice qa L qc) rfl (Or.inl ⟨by rfl, fun w' hw => by go_simp⟩) hHeld ?_
     try simp only [Act.put, sA0, sB0, sC0]
     refine tk1 1 75 (.int .i64 (L : Int)) rfl (Or.inl ⟨by rfl, fun w' hw => by go_simp⟩) hHeld ?_
     try simp only [Act.put, sA0, sB0, sC0]
     refine tk1 2 76 (.slice ya i c') rfl (Or.inl ⟨by rfl, fun w' hw => by go_simp⟩) hHeld ?_
     try simp only [Act.put, sA0, sB0, sC0]
     refine tk1 3 77 (.int .i64 (i : Int)) rfl (Or.inl ⟨by rfl, fun w' hw => by go_simp⟩) hHeld ?_
     try simp only [Act.put, sA0, sB0, sC0]
     refine tk1 4 78 (.pointer (some ⟨cb, 3, none⟩)) rfl (Or.inl ⟨by rfl, fun w' hw => by go_simp⟩) hHeld ?_
     try simp only [Act.put, sA0, sB0, sC0]
     refine tk1 5 79 (.int .i64 (c.n : Int)) rfl (Or.inl ⟨by rfl, fun w' hw => by (have y := sc_3 hw; go_simp)⟩) hHeld ?_
     try simp only [Act.put, sA0, sB0, sC0]
     refine tk1 6 80 (.int .i64 (L : Int)) rfl (Or.inl ⟨by rfl, fun w' hw => by (go_simp; first | done | omega | (rw [IntKind.wrap_i64]; omega) | (intro h; omega))⟩) hHeld ?_
     try simp only [Act.put, sA0, sB0, sC0]
     refine tk1 7 81 (.bool true) rfl (Or.inl ⟨by rfl, fun w' hw => by go_simp⟩) hHeld ?_
     try simp only [Act.put, sA0, sB0, sC0]
     refine tk1 8 82 (.bool true) rfl (Or.inl ⟨by rfl, fun w' hw => by go_simp⟩) hHeld ?_
     try simp only [Act.put, sA0, sB0, sC0]
     refine tk1 9 83 (.pointer (some ⟨a.tp, 0, none⟩)) rfl (Or.inl ⟨by rfl, fun w' hw => by go_simp⟩) hHeld ?_
     try simp only [Act.put, sA0, sB0, sC0]
     refine tk1 11 85 (.slice ya i c') rfl (Or.inl ⟨by rfl, fun w' hw => by go_simp⟩) hHeld ?_
     try simp only [Act.put, sA0, sB0, sC0]
     refine tk1 12 86 (.int .i64 (i : Int)) rfl (Or.inl ⟨by rfl, fun w' hw => by go_simp⟩) hHeld ?_
     try simp only [Act.put, sA0, sB0, sC0]
     refine tk1 13 87 (.agg #[.int .i64 c.B, .int .i64 (c.S : Int), .int .i64 (c.T : Int), .int .i64 (c.n : Int)]) rfl (Or.inl ⟨by rfl, fun w' hw => by (have y0 := sc_0 hw; have y1 := sc_1 hw; have y2 := sc_2 hw; have y3 := sc_3 hw; go_simp)⟩) hHeld ?_
     try simp only [Act.put, sA0, sB0, sC0]
     refine one_ready 10 rfl (by kernel_rfl) (fun K9 hK => ?_)
     go_simp
     refine (hE.used).mono ?_
     rintro e w13 ⟨rfl, hw13⟩
     rw [HUs.out]
     have hE : StS c a w Z (FW c cb w ya i y) g (20 * i) w13 := by rw [hw13]; exact hE
     have hO := hO.trans (show Only nobody _ w13 by rw [hw13]; exact Only.refl _ _)
     clear hw13
     refine hK.out _ _ hE.hF.1 (fun hHeld => ?_)
     clear hK K9
     try simp only [Act.put, sA0, sB0, sC0]
     refine one_ready 14 rfl (by kernel_rfl) (fun K9 hK => ?_)
     go_simp
     refine (HWd.out _).mono ?_
     rintro e w13 ⟨rfl, hb⟩
     have ho := Only.of_below (S := nobody) hb
     have hE := hE.nob ho
     have hO := hO.trans ho
     refine hK.out _ _ hE.hF.1 (fun hHeld => ?_)
     clear hK K9
     try simp only [Act.put, sA0, sB0, sC0]
     refine tk1 15 89 (.int .i64 (us : Int)) rfl (Or.inl ⟨by rfl, fun w' hw => by (go_simp; first | done | omega | (rw [IntKind.wrap_i64]; omega) | (intro h; omega))⟩) hHeld ?_
     try simp only [Act.put, sA0, sB0, sC0]
     refine tk1 16 90 (.bool true) rfl (Or.inl ⟨by rfl, fun w' hw => by go_simp⟩) hHeld ?_
     try simp only [Act.put, sA0, sB0, sC0]
     refine tk1 17 91 (.bool true) rfl (Or.inl ⟨by rfl, fun w' hw => by go_simp⟩) hHeld ?_
     try simp only [Act.put, sA0, sB0, sC0]
     refine tk1 18 92 (.bool true) rfl (Or.inl ⟨by rfl, fun w' hw => by go_simp⟩) hHeld ?_
     try simp only [Act.put, sA0, sB0, sC0]
     refine tk1 19 93 (.pointer (some ⟨a.mp, 0, none⟩)) rfl (Or.inl ⟨by rfl, fun w' hw => by go_simp⟩) hHeld ?_
     try simp only [Act.put, sA0, sB0, sC0]
     refine tk1 21 95 (.agg #[.int .i64 c.B, .int .i64 (c.S : Int), .int .i64 (c.T : Int), .int .i64 (c.n : Int)]) rfl (Or.inl ⟨by rfl, fun w' hw => by (have y0 := sc_0 hw; have y1 := sc_1 hw; have y2 := sc_2 hw; have y3 := sc_3 hw; go_simp)⟩) hHeld ?_
     try simp only [Act.put, sA0, sB0, sC0]
     refine tk1 22 96 (.slice qa L qc) rfl (Or.inl ⟨by rfl, fun w' hw => by go_simp⟩) hHeld ?_
     try simp only [Act.put, sA0, sB0, sC0]
     refine one_ready 20 rfl (by kernel_rfl) (fun K9 hK => ?_)
     go_simp
     refine (hE.trace hk3).mono ?_
     rintro e w13 ⟨A1, cap1, rfl, hv1, ho⟩
     have hE := hE.nob ho
     rw [HEs.out] at hv1
     simp only [HEs.out]
     have hO := hO.trans ho
     refine hK.out _ _ hE.hF.1 (fun hHeld => ?_)
     clear hK K9 ho
     try simp only [Act.put, sA0, sB0, sC0]
     refine one_ready 23 rfl (by kernel_rfl) (fun K9 hK => ?_)
     go_simp
     refine (HEv.out _ hO).mono ?_
     rintro e w13 ⟨A2, cap2, rfl, hv2, ho⟩
     have hE := hE.nob ho
     rw [List.length_map]
     have hv1 := hv1.only ho
     refine hK.out _ _ hE.hF.1 (fun hHeld => ?_)
     clear hK K9 ho
     try simp only [Act.put, sA0, sB0, sC0]
     refine one_ready 24 rfl (by kernel_rfl) (fun K9 hK => ?_)
     go_simp
     refine (same_told A1 A2 le.length cap1 cap2 (le.map evI) (le.map evI) _ (List.length_map _) rfl hv1 hv2 hle9).mono ?_
     rintro e w13 ⟨rfl, ho⟩
     have hE := hE.nob ho
     refine hK.out _ _ hE.hF.1 (fun hHeld => ?_)
     clear hK K9 ho
     try simp only [Act.put, sA0, sB0, sC0]
     refine tk1 25 99 (.bool true) rfl (Or.inl ⟨by rfl, fun w' hw => by go_simp⟩) hHeld ?_
     try simp only [Act.put, sA0, sB0, sC0]
     refine tk1 26 6 (.bool true) rfl (Or.inl ⟨by rfl, fun w' hw => by go_simp⟩) hHeld ?_
     try simp only [Act.put, sA0, sB0, sC0]
     refine wpAnyH_done (by kernel_rfl) ?_ _
     have HE := Lib.hid hE
     clear hE hHeld
     go_wp2_with fail
     go_ret
     exact ⟨rfl, HE.out.kp⟩
end Go.Proofs.YtknnebhjldfkhaaGreat

