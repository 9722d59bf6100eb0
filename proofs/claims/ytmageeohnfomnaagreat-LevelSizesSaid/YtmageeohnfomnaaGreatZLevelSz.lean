/- LevelSizes: any config, any first region, any leaf. -/
import Derived.Below
import Derived.BigQuiet
import Derived.BigRegion
import Derived.Carry
import Derived.ChangeArms
import Derived.ChangeKeysEq
import Derived.ChangeSlices
import Derived.Deep.Cut
import Derived.Deep.Draws
import Derived.Deep.MidRow
import Derived.Deep.OwnRows
import Derived.Deep.Quiet
import Derived.Deep.QuietTactic
import Derived.Deep.RegionHeld
import Derived.Deep.RegionHeld3
import Derived.Deep.RegionLaw
import Derived.Deep.Slices
import Derived.Deep.WholeRow
import Derived.Laws.AppendOwn
import Derived.Laws.BitsAllLaws
import Derived.Laws.CopyOwn
import Derived.Laws.StructEq
import Derived.Lib.BitFns
import Derived.Lib.Hide
import Derived.LoopIn
import Derived.LoopNIn
import Derived.Maps.AppendAt
import Derived.Maps.OwnSet
import Derived.OpenShut
import Derived.OrdersIn
import Derived.OwnWalk
import Derived.OwnWalkIn
import Derived.ProofKit
import Derived.RangeFuncBound
import Derived.RangeFuncCalls
import Derived.RangeFuncLeaves
import Derived.RangeFuncNested
import Derived.RegionTactic
import Derived.RowKit3
import Derived.Shelf.Abstract
import Derived.Shelf.Bits.Mul64
import Derived.Shelf.RegionOpen
import Derived.Shelf.SlSortCmp.WholeK
import Derived.Shelf.Spec.BitsCarry
import Derived.Shelf.Strconv.Itoa0
import Derived.SizedLaws
import Derived.Sort.Grow
import Derived.StillTailTactics
import Derived.TacticsInMore
import Derived.WalkKit
import Derived.WideShapes
import Derived.Test.YtmageeohnfomnaaGreatProg
import Derived.Test.YtmageeohnfomnaaGreatG0
import Derived.Test.YtmageeohnfomnaaGreatG15
import Derived.Test.YtmageeohnfomnaaGreatG16
import Derived.Test.YtmageeohnfomnaaGreatG20
import Derived.Test.YtmageeohnfomnaaGreatG3
import Derived.Test.YtmageeohnfomnaaGreatG1
import Derived.Test.YtmageeohnfomnaaGreatG29
import Derived.Test.YtmageeohnfomnaaGreatG21
import Derived.Test.YtmageeohnfomnaaGreatG5
import Derived.Test.YtmageeohnfomnaaGreatG2
import Derived.Test.YtmageeohnfomnaaGreatG24
import Derived.Test.YtmageeohnfomnaaGreatG33
import Derived.Test.YtmageeohnfomnaaGreatG46
import Derived.Test.YtmageeohnfomnaaGreatG30
import Derived.Test.YtmageeohnfomnaaGreatG35
import Derived.Test.YtmageeohnfomnaaGreatG42
import Derived.Test.YtmageeohnfomnaaGreatG6
import Derived.Test.YtmageeohnfomnaaGreatG31
import Derived.Test.YtmageeohnfomnaaGreatG36
import Derived.Test.YtmageeohnfomnaaGreatG10
import Derived.Test.YtmageeohnfomnaaGreatG23
import Derived.Test.YtmageeohnfomnaaGreatG25
import Derived.Test.YtmageeohnfomnaaGreatG43
import Derived.Test.YtmageeohnfomnaaGreatG26
import Derived.Test.YtmageeohnfomnaaGreatG49
import Derived.Test.YtmageeohnfomnaaGreatG27
import Derived.Test.YtmageeohnfomnaaGreatG39
namespace Go.Proofs.YtmageeohnfomnaaGreat
set_option maxRecDepth 100000
open Go.RowKit Go.ChangeShapes Go.WideShapes Go.ChangeAt

theorem lvEv_len (f N S T lf : Int) : (lvEv f N S T lf).length ≤ 1000000000 := by
  cases h : lvR N S T
  · rw [lvEv_no (.inl h)]; simp
  · cases hl : isLf N lf
    · rw [lvEv_no (.inr hl)]; simp
    · obtain ⟨b, s, t, Q, P, hc, hb, rfl, rfl, rfl, _, _, hz, _, hQ⟩ := lv_conf h
      obtain ⟨m, rfl, hm⟩ : ∃ m : Nat, lf = (m : Int) ∧ m < 2 ^ b := by
        unfold isLf at hl
        simp only [Bool.and_eq_true, decide_eq_true_eq] at hl
        exact ⟨lf.toNat, by omega, by omega⟩
      rw [lvEv_in hc hb hz h hm]
      have hnet : (netL P).length * 4 ≤ 18432 := by
        have h256 : 2 ^ P ≤ 256 := by have := hc.hQ; omega
        have := Nat.mul_le_mul (Nat.mul_le_mul hc.hP (show P + 1 ≤ 9 by have := hc.hP; omega)) h256
        rw [Nat.mul_comm, netL_len P]
        omega
      unfold xA
      rw [List.length_append, xG_len]
      have := xR_len (plcI s b f m) (wrap64 (f + 2)) ((b + 1) * s + t) Q P hQ hnet 2
      have := hc.big.1
      have := hc.t64
      omega
theorem lnE_zero (M : MS) : lnE M 0 0 0 0 = 1 := by
  unfold lnE lnOk
  rw [show lvR 0 0 0 = false by decide]
  rfl
set_option maxRecDepth 100000 in
set_option maxHeartbeats 4000000 in
theorem lsizes_law (N S T f less lf : Int) (w : World) (hN : Rg N) (hl : Rg less) :
    Calls Tryz.prog 3 #[.agg #[.int .i64 N, .int .i64 S, .int .i64 T], .int .i64 f, .int .i64 less, .int .i64 lf] w fun e w' => e = .returned (.bool true) ∧ Below w.heap.size w w' := by
  have HSh := Lib.hid (fun W => shown_of W)
  have HZ := Lib.hid (fun W => lsizes_all N S T W hN)
  have HR := Lib.hid (fun W => lright_all N S T W hN)
  have HA := Lib.hid (fun W => las_any N S T W)
  have HRZ := Lib.hid (fun W => rlsizes_all N S T W)
  have HRR := Lib.hid (fun W => rlright_all N S T W)
  have HN := Lib.hid hN
  clear hN
  obtain ⟨za, hza⟩ : ∃ x, lvA N S T = x := ⟨_, rfl⟩
  obtain ⟨zb, hzb⟩ : ∃ x, lvB N S T = x := ⟨_, rfl⟩
  obtain ⟨zd, hzd⟩ : ∃ x, lvD N S T = x := ⟨_, rfl⟩
  obtain ⟨R, hR⟩ : ∃ x, lvR N S T = x := ⟨_, rfl⟩
  rw [hza, hzb, hzd] at HZ HRZ
  rw [hR] at HR HRR
  have HFacts : Hid (lvA N S T = za ∧ lvB N S T = zb ∧ lvD N S T = zd ∧ lvR N S T = R) := Lib.hid ⟨hza, hzb, hzd, hR⟩
  clear hza hzb hzd hR
  obtain ⟨b, hb⟩ : ∃ b, w.heap.size = b := ⟨_, rfl⟩
  obtain ⟨w2, hw2⟩ : ∃ w2, w.alloc (.cells #[.int .i64 N, .int .i64 S, .int .i64 T] 23) = w2 := ⟨_, rfl⟩
  have hx : Box w2 b 23 #[.int .i64 N, .int .i64 S, .int .i64 T] := by rw [← hw2, ← hb]; exact Box.new w _ _
  have ho2 : Below w.heap.size w w2 := by rw [← hw2]; exact (Below.refl _ w).alloc (Nat.le_refl _) _
  have HX : Hid (Box w2 b 23 #[.int .i64 N, .int .i64 S, .int .i64 T] ∧ Below w.heap.size w w2) := Lib.hid ⟨hx, ho2⟩
  have HNx : Hid (∀ wa wb : World, (Box wa b 23 #[.int .i64 N, .int .i64 S, .int .i64 T] ∧ Below w.heap.size w wa) → Below wa.heap.size wa wb → (Box wb b 23 #[.int .i64 N, .int .i64 S, .int .i64 T] ∧ Below w.heap.size w wb)) := Lib.hid fun wa wb h hb => ⟨h.1.of (hb.block _ h.1.lt), h.2.trans (hb.mono h.2.size)⟩
  have HCl : Hid (∀ wa : World, (Box wa b 23 #[.int .i64 N, .int .i64 S, .int .i64 T] ∧ Below w.heap.size w wa) → wa.cell? ⟨b, 0, none⟩ = some (.int .i64 N) ∧ wa.cell? ⟨b, 1, none⟩ = some (.int .i64 S) ∧ wa.cell? ⟨b, 2, none⟩ = some (.int .i64 T)) := Lib.hid fun wa h => ⟨h.1.cell 0, h.1.cell 1, h.1.cell 2⟩
  have HW2 := Lib.hid hw2
  have HBb := Lib.hid hb
  clear hx ho2 hw2 hb
  go_enter Tryz.func3, Tryz.ntmps3
  go_upto_region 1 with fail
  simp only [HBb.out]
  rw [HW2.out]
  go_wp2_with fail
  refine (HSh.out _).mono ?_
  rintro e w3 ⟨rfl, hb3⟩
  have HX3 := Lib.hid (HNx.out _ _ HX.out hb3)
  obtain ⟨k0, k1, k2⟩ := HCl.out _ HX3.out
  clear hb3 HX HSh
  go_wp2_with fail
  refine (HZ.out _).mono ?_
  rintro e w4 ⟨rfl, hb4⟩
  have HX4 := Lib.hid (HNx.out _ _ HX3.out hb4)
  clear hb4 k0 k1 k2 HX3
  obtain ⟨k0, k1, k2⟩ := HCl.out _ HX4.out
  go_wp2_with fail
  refine (HA.out _).mono ?_
  rintro e w5 ⟨rfl, hb5⟩
  have HX5 := Lib.hid (HNx.out _ _ HX4.out hb5)
  clear hb5 k0 k1 k2 HX4
  go_wp2_with fail
  refine (HRZ.out _).mono ?_
  rintro e w6 ⟨rfl, hb6⟩
  have HX6 := Lib.hid (HNx.out _ _ HX5.out hb6)
  clear hb6 HX5
  obtain ⟨k0, k1, k2⟩ := HCl.out _ HX6.out
  go_upto_region 4 with fail
  have c0 := Gr.cell k0
  have c1 := Gr.cell k1
  have c2 := Gr.cell k2
  clear k0 k1 k2
  have q0 : (za != za) = false := by simp
  have q1 : (zb != zb) = false := by simp
  have q2 : (zd != zd) = false := by simp
  have q3 : (R != R) = false := by simp
  refine wp_region_grow (by kernel_rfl) (by kernel_rfl) ?_
  repeat (go_big_quiet_step (first | (go_at_call 8; exact Gr.blw (HR.out _)) | (go_at_call 7; exact Gr.blw (HA.out _)) | (go_at_call 9; exact Gr.blw (HRR.out _))))
  refine wpQuiet_nil ?_
  intro w9 hw9
  obtain ⟨G, hG⟩ := hw9
  subst hG
  have HX9 := Lib.hid (HNx.out _ _ HX6.out G.ok.none)
  clear c0 c1 c2 HX6 q0 q1 q2 q3
  cases R
  · obtain ⟨h0, h1, h2⟩ := lvZ_no HFacts.out.2.2.2
    obtain rfl : za = 0 := HFacts.out.1.symm.trans h0
    obtain rfl : zd = 0 := HFacts.out.2.2.1.symm.trans h2
    clear h0 h1 h2
    go_wp2_with fail
    refine (new_list [1] (by decide) _ _ _ rfl).mono ?_
    rintro e w10 ⟨p, rfl, hO, ho⟩
    have HO := Lib.hid hO
    have HX10 := Lib.hid (HNx.out _ _ HX9.out (((Below.refl _ _).alloc (Nat.le_refl _) (.cells #[.int .i64 1] 3)).trans ((Only.none ho).mono (by simp))))
    clear hO ho
    go_wp2_with fail
    refine (lnew_all _ p 0 0 0 0 _ _ ⟨by decide, by decide⟩ HO.out).mono ?_
    rintro e w11 ⟨v, rfl, ho⟩
    rw [lnE_zero]
    have HX11 := Lib.hid (HNx.out _ _ HX10.out (Only.none ho))
    clear ho HO
    go_wp2_with fail
    go_ret
    exact ⟨rfl, HX11.out.2⟩
  · by_cases hbig : 4000 < za
    · have d0 : decide (4000 < za) = true := decide_eq_true hbig
      go_wp2_with fail
      refine (new_list [1] (by decide) _ _ _ rfl).mono ?_
      rintro e w10 ⟨p, rfl, hO, ho⟩
      have HO := Lib.hid hO
      have HX10 := Lib.hid (HNx.out _ _ HX9.out (((Below.refl _ _).alloc (Nat.le_refl _) (.cells #[.int .i64 1] 3)).trans ((Only.none ho).mono (by simp))))
      clear hO ho
      go_wp2_with fail
      refine (lnew_all _ p 0 0 0 0 _ _ ⟨by decide, by decide⟩ HO.out).mono ?_
      rintro e w11 ⟨v, rfl, ho⟩
      rw [lnE_zero]
      have HX11 := Lib.hid (HNx.out _ _ HX10.out (Only.none ho))
      clear ho HO
      go_wp2_with fail
      go_ret
      exact ⟨rfl, HX11.out.2⟩
    · obtain ⟨tr, t, Q, rfl, rfl, rfl, ht1, ht64, hq3, hq256, htr1⟩ : ∃ tr t Q : Nat, za = (tr : Int) ∧ zb = (t : Int) ∧ zd = (Q : Int) ∧ 1 ≤ t ∧ t ≤ 64 ∧ 3 ≤ Q ∧ Q ≤ 256 ∧ 1 ≤ tr := by
        obtain ⟨e1, e2, e3, e4⟩ := HFacts.out
        obtain ⟨bb, s, t, Q, P, hc, hb10, _, _, _, ha, hbz, hd, hq3, hq256⟩ := lv_conf e4
        refine ⟨s * (2 * 2 ^ bb - 1), t, Q, e1.symm.trans ha, e2.symm.trans hbz, e3.symm.trans hd, hc.t1, hc.t64, hq3, hq256, Nat.mul_pos hc.s1 (by have := Nat.two_pow_pos bb; omega)⟩
      have htr : tr ≤ 4000 := by omega
      clear hbig
      have d0 : decide ((4000 : Int) < (tr : Int)) = false := decide_eq_false (by omega)
      have d0n : decide (4000 < tr) = false := decide_eq_false (by omega)
      have d1 : ((tr : Int) == 0) = false := by rw [beq_eq_false_iff_ne]; omega
      have d2 : decide ((256 : Int) < (Q : Int)) = false := decide_eq_false (by omega)
      have d2n : decide (256 < Q) = false := decide_eq_false (by omega)
      have hp1 : pik less 2 ≤ 1 := by unfold pik; split <;> omega
      obtain ⟨p1, hp1e⟩ : ∃ x, pik less 2 = x := ⟨_, rfl⟩
      have HP1 := Lib.hid hp1e
      rw [hp1e] at hp1
      clear hp1e
      have hp2 : pik (wrap64 (less.tdiv 2)) 2 ≤ 1 := by unfold pik; split <;> omega
      obtain ⟨p2, hp2e⟩ : ∃ x, pik (wrap64 (less.tdiv 2)) 2 = x := ⟨_, rfl⟩
      have HP2 := Lib.hid hp2e
      rw [hp2e] at hp2
      clear hp2e
      obtain ⟨x1, hx1⟩ : ∃ x, x = tr - p1 := ⟨_, rfl⟩
      obtain ⟨x3, hx3⟩ : ∃ x, x = Q - p2 := ⟨_, rfl⟩
      have HW1 : Hid ((tr : Int) - (p1 : Int) = (x1 : Int)) := Lib.hid (by omega)
      have HMX : Hid (max ((Q : Int) - (p2 : Int)) 1 = (x3 : Int)) := Lib.hid (by omega)
      have hx1b : x1 ≤ 4000 := by omega
      have hx3b : 1 ≤ x3 ∧ x3 ≤ 256 := by omega
      have HX1 := Lib.hid hx1
      clear hx1 hx3
      go_wp2_with fail
      refine (pik_any less 2 _ (by decide) (by decide) hl.1 hl.2).mono ?_
      rintro e wa1 ⟨rfl, rfl⟩
      rw [HP1.out]
      go_wp2_with fail
      refine (pik_any (wrap64 (less.tdiv 2)) 2 _ (by decide) (by decide) (by unfold wrap64; omega) (by unfold wrap64; omega)).mono ?_
      rintro e wb1 ⟨rfl, rfl⟩
      rw [HP2.out]
      go_wp2_with fail
      rw [HW1.out, HMX.out]
      by_cases h0 : x1 = 0
      · refine (new_list_no [3, x1, t, x3] (by simp) ⟨1, by simp, h0⟩ _ _ _ rfl).mono ?_
        rintro e w12 ⟨rfl, hw12⟩
        have HX12 := Lib.hid (HNx.out _ w12 HX9.out (by rw [← hw12]; exact (Below.refl _ _).alloc (Nat.le_refl _) _))
        clear hw12
        go_wp2_with fail
        refine (pik_any less 2 _ (by decide) (by decide) hl.1 hl.2).mono ?_
        rintro e wa2 ⟨rfl, rfl⟩
        rw [HP1.out]
        go_wp2_with fail
        refine (pik_any (wrap64 (less.tdiv 2)) 2 _ (by decide) (by decide) (by unfold wrap64; omega) (by unfold wrap64; omega)).mono ?_
        rintro e wb2 ⟨rfl, rfl⟩
        rw [HP2.out]
        go_wp2_with fail
        rw [HW1.out, HMX.out]
        refine (rnew_list_no [3, x1, t, x3] (by simp) ⟨1, by simp, h0⟩ _ _ _ rfl).mono ?_
        rintro e w14 ⟨rfl, ho⟩
        have HX14 := Lib.hid (HNx.out _ _ HX12.out (((Below.refl _ _).alloc (Nat.le_refl _) (.cells #[.int .i64 ((3 : Nat) : Int), .int .i64 (x1 : Int), .int .i64 (t : Int), .int .i64 (x3 : Int)] 3)).trans ((Only.none ho).mono (by simp))))
        clear ho
        go_wp2_with fail
        go_ret
        exact ⟨rfl, HX14.out.2⟩
      · refine (new_list [3, x1, t, x3] (by simp; omega) _ _ _ rfl).mono ?_
        rintro e w12 ⟨p, rfl, hO, ho⟩
        have HO := Lib.hid hO
        have HX12 := Lib.hid (HNx.out _ _ HX9.out (((Below.refl _ _).alloc (Nat.le_refl _) (.cells #[.int .i64 ((3 : Nat) : Int), .int .i64 (x1 : Int), .int .i64 (t : Int), .int .i64 (x3 : Int)] 3)).trans ((Only.none ho).mono (by simp))))
        clear hO ho
        go_wp2_with fail
        refine (pik_any less 2 _ (by decide) (by decide) hl.1 hl.2).mono ?_
        rintro e wa3 ⟨rfl, rfl⟩
        rw [HP1.out]
        go_wp2_with fail
        refine (pik_any (wrap64 (less.tdiv 2)) 2 _ (by decide) (by decide) (by unfold wrap64; omega) (by unfold wrap64; omega)).mono ?_
        rintro e wb3 ⟨rfl, rfl⟩
        rw [HP2.out]
        go_wp2_with fail
        rw [HW1.out, HMX.out]
        refine (rnew_list [3, x1, t, x3] (by simp; omega) _ _ _ rfl).mono ?_
        rintro e w14 ⟨q, F, rfl, hm, ho, hF⟩
        have hO14 := HO.out.none (((Only.refl nobody _).alloc (.cells #[.int .i64 ((3 : Nat) : Int), .int .i64 (x1 : Int), .int .i64 (t : Int), .int .i64 (x3 : Int)] 3)).trans ho)
        have HX14 := Lib.hid (HNx.out _ _ HX12.out (((Below.refl _ _).alloc (Nat.le_refl _) (.cells #[.int .i64 ((3 : Nat) : Int), .int .i64 (x1 : Int), .int .i64 (t : Int), .int .i64 (x3 : Int)] 3)).trans ((Only.none ho).mono (by simp))))
        clear ho hF HO HX12
        obtain ⟨M, hM⟩ : ∃ M, MS.new [3, x1, t, x3].length (fun i => [3, x1, t, x3].getD i 0) = M := ⟨_, rfl⟩
        rw [hM] at hm hO14
        clear hM
        obtain ⟨er, her⟩ : ∃ er, lnE M f N S T = er := ⟨_, rfl⟩
        have HEr := Lib.hid her
        have HM := Lib.hid hm
        have HO14 := Lib.hid hO14
        clear hm hO14 her
        obtain ⟨k0, k1, k2⟩ := HCl.out _ HX14.out
        go_wp2_with fail
        refine (lnew_all _ p f N S T M _ HN.out HO14.out).mono ?_
        rintro e w15 ⟨v, rfl, ho⟩
        rw [HEr.out]
        have HX15 := Lib.hid (HNx.out _ _ HX14.out (Only.none ho))
        have HM15 := Lib.hid (HM.out.only ho (fun _ _ => not_nobody _))
        clear ho k0 k1 k2 HX14 HM HO14
        obtain ⟨k0, k1, k2⟩ := HCl.out _ HX15.out
        go_wp2_with fail
        refine (HA.out _).mono ?_
        rintro e w16 ⟨rfl, hb⟩
        have HX16 := Lib.hid (HNx.out _ _ HX15.out hb)
        have HM16 := Lib.hid (HM15.out.only (Only.of_below (S := nobody) hb) (fun _ _ => not_nobody _))
        clear hb k0 k1 k2 HX15 HM15
        go_wp2_with fail
        refine (rlnew_all q F f N S T M _ HM16.out).mono ?_
        rintro e w17 ⟨v2, rfl, hb⟩
        rw [HEr.out]
        have HX17 := Lib.hid (HNx.out _ _ HX16.out hb)
        clear hb HX16 HM16
        have q0 : (er == er) = true := by simp
        go_upto_region 18 with fail
        have hXd : Box w17.drew b 23 #[.int .i64 N, .int .i64 S, .int .i64 T] := HX17.out.1.drewN 1
        have HB17 : Hid (Below w.heap.size w w17.drew) := Lib.hid (HX17.out.2.trans ((Below.refl _ w17).drew.mono HX17.out.2.size))
        clear HX17
        obtain ⟨le, hle⟩ : ∃ le, lvEv f N S T lf = le := ⟨_, rfl⟩
        have HLe := Lib.hid hle
        have HLn : Hid (le.length ≤ 1000000000) := Lib.hid (by rw [← hle]; exact lvEv_len f N S T lf)
        clear hle
        refine held_s (S := fun u => Box u b 23 #[.int .i64 N, .int .i64 S, .int .i64 T]) 16 rfl (by kernel_rfl) hXd (fun hHeld => ?_)
        simp only [Array.replicate_succ, Array.replicate_zero, List.push_toArray, List.nil_append, List.cons_append]
        clear hXd
        generalize w17.drew = w18 at *
        refine wpAnyH_take (i := 0) (oi := ⟨some 150, _, _, _, _, _⟩) (v := (.int .i64 er)) rfl (by kernel_rfl) (by kernel_rfl) (by kernel_rfl) (fun _ _ _ h => h) (Or.inl ⟨by rfl, fun w' hw => by go_simp⟩) hHeld ?_
        try simp only [Act.put, List.setIfInBounds_toArray, List.set_cons_zero, List.set_cons_succ]
        refine wpAnyH_take (i := 1) (oi := ⟨some 151, _, _, _, _, _⟩) (v := (.int .i64 er)) rfl (by kernel_rfl) (by kernel_rfl) (by kernel_rfl) (fun _ _ _ h => h) (Or.inl ⟨by rfl, fun w' hw => by go_simp⟩) hHeld ?_
        try simp only [Act.put, List.setIfInBounds_toArray, List.set_cons_zero, List.set_cons_succ]
        refine wpAnyH_take (i := 2) (oi := ⟨some 152, _, _, _, _, _⟩) (v := (.bool true)) rfl (by kernel_rfl) (by kernel_rfl) (by kernel_rfl) (fun _ _ _ h => h) (Or.inl ⟨by rfl, fun w' hw => by go_simp⟩) hHeld ?_
        try simp only [Act.put, List.setIfInBounds_toArray, List.set_cons_zero, List.set_cons_succ]
        refine wpAnyH_take (i := 3) (oi := ⟨some 153, _, _, _, _, _⟩) (v := (.bool true)) rfl (by kernel_rfl) (by kernel_rfl) (by kernel_rfl) (fun _ _ _ h => h) (Or.inl ⟨by rfl, fun w' hw => by go_simp⟩) hHeld ?_
        try simp only [Act.put, List.setIfInBounds_toArray, List.set_cons_zero, List.set_cons_succ]
        refine wpAnyH_take (i := 4) (oi := ⟨some 154, _, _, _, _, _⟩) (v := (.int .i64 f)) rfl (by kernel_rfl) (by kernel_rfl) (by kernel_rfl) (fun _ _ _ h => h) (Or.inl ⟨by rfl, fun w' hw => by go_simp⟩) hHeld ?_
        try simp only [Act.put, List.setIfInBounds_toArray, List.set_cons_zero, List.set_cons_succ]
        refine wpAnyH_take (i := 5) (oi := ⟨some 155, _, _, _, _, _⟩) (v := (.agg #[.int .i64 N, .int .i64 S, .int .i64 T])) rfl (by kernel_rfl) (by kernel_rfl) (by kernel_rfl) (fun _ _ _ h => h) (Or.inl ⟨by rfl, fun w' hw => by (have k0 := hw.cell 0; have k1 := hw.cell 1; have k2 := hw.cell 2; go_simp)⟩) hHeld ?_
        try simp only [Act.put, List.setIfInBounds_toArray, List.set_cons_zero, List.set_cons_succ]
        refine wpAnyH_take (i := 6) (oi := ⟨some 156, _, _, _, _, _⟩) (v := (.int .i64 lf)) rfl (by kernel_rfl) (by kernel_rfl) (by kernel_rfl) (fun _ _ _ h => h) (Or.inl ⟨by rfl, fun w' hw => by go_simp⟩) hHeld ?_
        try simp only [Act.put, List.setIfInBounds_toArray, List.set_cons_zero, List.set_cons_succ]
        refine wpAnyH_take (i := 8) (oi := ⟨some 158, _, _, _, _, _⟩) (v := (.int .i64 f)) rfl (by kernel_rfl) (by kernel_rfl) (by kernel_rfl) (fun _ _ _ h => h) (Or.inl ⟨by rfl, fun w' hw => by go_simp⟩) hHeld ?_
        try simp only [Act.put, List.setIfInBounds_toArray, List.set_cons_zero, List.set_cons_succ]
        refine wpAnyH_take (i := 9) (oi := ⟨some 159, _, _, _, _, _⟩) (v := (.agg #[.int .i64 N, .int .i64 S, .int .i64 T])) rfl (by kernel_rfl) (by kernel_rfl) (by kernel_rfl) (fun _ _ _ h => h) (Or.inl ⟨by rfl, fun w' hw => by (have k0 := hw.cell 0; have k1 := hw.cell 1; have k2 := hw.cell 2; go_simp)⟩) hHeld ?_
        try simp only [Act.put, List.setIfInBounds_toArray, List.set_cons_zero, List.set_cons_succ]
        refine wpAnyH_take (i := 11) (oi := ⟨some 161, _, _, _, _, _⟩) (v := (.int .i64 lf)) rfl (by kernel_rfl) (by kernel_rfl) (by kernel_rfl) (fun _ _ _ h => h) (Or.inl ⟨by rfl, fun w' hw => by go_simp⟩) hHeld ?_
        try simp only [Act.put, List.setIfInBounds_toArray, List.set_cons_zero, List.set_cons_succ]
        refine one_ready 7 rfl (by kernel_rfl) (fun K hK => ?_)
        go_simp
        refine (levents_any10 f N S T lf _ HN.out).mono ?_
        rintro e w19 ⟨A, cap, rfl, hv, ho⟩
        rw [HLe.out] at hv ⊢
        have HB19 := Lib.hid (HB17.out.trans ((Only.none ho).mono HB17.out.size))
        have HV := Lib.hid hv
        refine hK.out _ _ (hHeld.of ((Only.none ho).block _ hHeld.lt)) (fun hHeld => ?_)
        clear hK K hv ho HB17
        simp only [List.setIfInBounds_toArray, List.set_cons_zero, List.set_cons_succ]
        refine one_ready 10 rfl (by kernel_rfl) (fun K hK => ?_)
        go_simp
        refine (HA.out _).mono ?_
        rintro e w20 ⟨rfl, hb⟩
        have HB20 := Lib.hid (HB19.out.trans (hb.mono HB19.out.size))
        have HV20 := Lib.hid (HV.out.only (Only.of_below hb))
        refine hK.out _ _ (hHeld.of (hb.block _ hHeld.lt)) (fun hHeld => ?_)
        clear hK K hb HB19 HV
        simp only [List.setIfInBounds_toArray, List.set_cons_zero, List.set_cons_succ]
        refine one_ready 12 rfl (by kernel_rfl) (fun K hK => ?_)
        go_simp
        refine (rlevents_any10 f N S T lf _).mono ?_
        rintro e w21 ⟨A2, cap2, rfl, hv, ho⟩
        rw [HLe.out] at hv ⊢
        have HB21 := Lib.hid (HB20.out.trans ((Only.none ho).mono HB20.out.size))
        have HV21 := Lib.hid (HV20.out.only ho)
        have HW := Lib.hid hv
        refine hK.out _ _ (hHeld.of ((Only.none ho).block _ hHeld.lt)) (fun hHeld => ?_)
        clear hK K hv ho HB20 HV20
        simp only [List.setIfInBounds_toArray, List.set_cons_zero, List.set_cons_succ]
        refine one_ready 13 rfl (by kernel_rfl) (fun K hK => ?_)
        go_simp
        refine (same_told A A2 _ cap cap2 le le _ rfl rfl HV21.out HW.out HLn.out).mono ?_
        rintro e w22 ⟨rfl, ho⟩
        have HB22 := Lib.hid (HB21.out.trans ((Only.none ho).mono HB21.out.size))
        refine hK.out _ _ (hHeld.of ((Only.none ho).block _ hHeld.lt)) (fun hHeld => ?_)
        clear hK K ho HB21 HV21 HW
        simp only [List.setIfInBounds_toArray, List.set_cons_zero, List.set_cons_succ]
        refine wpAnyH_take (i := 14) (oi := ⟨some 164, _, _, _, _, _⟩) (v := (.bool true)) rfl (by kernel_rfl) (by kernel_rfl) (by kernel_rfl) (fun _ _ _ h => h) (Or.inl ⟨by rfl, fun w' hw => by go_simp⟩) hHeld ?_
        try simp only [Act.put, List.setIfInBounds_toArray, List.set_cons_zero, List.set_cons_succ]
        refine wpAnyH_take (i := 15) (oi := ⟨some 8, _, _, _, _, _⟩) (v := (.bool true)) rfl (by kernel_rfl) (by kernel_rfl) (by kernel_rfl) (fun _ _ _ h => h) (Or.inl ⟨by rfl, fun w' hw => by go_simp⟩) hHeld ?_
        try simp only [Act.put, List.setIfInBounds_toArray, List.set_cons_zero, List.set_cons_succ]
        refine wpAnyH_done (by kernel_rfl) ?_ _
        clear hHeld
        go_wp2_with fail
        go_ret
        exact ⟨rfl, HB22.out⟩
end Go.Proofs.YtmageeohnfomnaaGreat

