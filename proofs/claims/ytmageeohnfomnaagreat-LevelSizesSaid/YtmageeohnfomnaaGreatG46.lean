/- Texts of ours put together: CfRefA, CfSizes, LevelAny, LevelAs. -/
import Derived.Below
import Derived.BigQuiet
import Derived.BigRegion
import Derived.ChangeArms
import Derived.ChangeSlices
import Derived.Deep.Cut
import Derived.Deep.Draws
import Derived.Deep.MidRow
import Derived.Deep.OwnRows
import Derived.Deep.Quiet
import Derived.Deep.QuietTactic
import Derived.Deep.RegionHeld
import Derived.Deep.RegionHeld3
import Derived.Deep.Slices
import Derived.Laws.AppendOwn
import Derived.Laws.BitsAllLaws
import Derived.Lib.BitFns
import Derived.Lib.Hide
import Derived.LoopIn
import Derived.LoopNIn
import Derived.Maps.AppendAt
import Derived.OpenShut
import Derived.OrdersIn
import Derived.OwnWalk
import Derived.OwnWalkIn
import Derived.ProofKit
import Derived.RangeFuncBound
import Derived.RangeFuncCalls
import Derived.RangeFuncLeaves
import Derived.RangeFuncNested
import Derived.RegionTactic
import Derived.RowKit3
import Derived.Shelf.Abstract
import Derived.Shelf.RegionOpen
import Derived.Shelf.Strconv.Itoa0
import Derived.SizedLaws
import Derived.StillTailTactics
import Derived.TacticsInMore
import Derived.WalkKit
import Derived.WideShapes
import Derived.Test.YtmageeohnfomnaaGreatProg
import Derived.Test.YtmageeohnfomnaaGreatG0
import Derived.Test.YtmageeohnfomnaaGreatG15
import Derived.Test.YtmageeohnfomnaaGreatG3
import Derived.Test.YtmageeohnfomnaaGreatG1
import Derived.Test.YtmageeohnfomnaaGreatG4
import Derived.Test.YtmageeohnfomnaaGreatG5
import Derived.Test.YtmageeohnfomnaaGreatG2
import Derived.Test.YtmageeohnfomnaaGreatG10
import Derived.Test.YtmageeohnfomnaaGreatG25
import Derived.Test.YtmageeohnfomnaaGreatG6
import Derived.Test.YtmageeohnfomnaaGreatG43
import Derived.Test.YtmageeohnfomnaaGreatG9
import Derived.Test.YtmageeohnfomnaaGreatG44
import Derived.Test.YtmageeohnfomnaaGreatG8
import Derived.Test.YtmageeohnfomnaaGreatG45
import Derived.Test.YtmageeohnfomnaaGreatG11
import Derived.Test.YtmageeohnfomnaaGreatG14
import Derived.Test.YtmageeohnfomnaaGreatG13
namespace Go.Proofs.YtmageeohnfomnaaGreat
set_option maxRecDepth 100000
open Go.RowKit Go.ChangeShapes Go.WideShapes Go.ChangeAt

set_option maxHeartbeats 1000000 in
theorem rshape_in (N : Nat) (S T : Int) (D : Nat) (w : World) (hD : D ≤ 10) (hN : 2 ^ D = N) :
    Calls Tryz.prog 28 #[.agg #[.int .i64 (N : Int), .int .i64 (S : Int), .int .i64 (T : Int)]] w fun e w' => e = .returned (.agg #[.int .i64 (D : Int), .int .i64 (S : Int), .int .i64 (T : Int)]) ∧ Below w.heap.size w w' := by
  have hd := dpt_two hD hN
  have hn := tree_le D hD
  rw [hN] at hn
  have HD := Lib.hid (fun W => rpath_depth (N : Int) W)
  rw [hd] at HD
  clear hd hn hN
  go_enter Tryz.func28, Tryz.ntmps28
  go_wp2_with fail
  obtain ⟨b, hb⟩ : ∃ b, w.heap.size = b := ⟨_, rfl⟩
  obtain ⟨w2, hw2⟩ : ∃ w2, ((w.alloc (.cells #[.int .i64 (N : Int), .int .i64 (S : Int), .int .i64 (T : Int)] 28)).alloc (.cells #[.int .i64 0, .int .i64 0, .int .i64 0] 64)) = w2 := ⟨_, rfl⟩
  have hbx : Box w2 b 28 #[.int .i64 (N : Int), .int .i64 (S : Int), .int .i64 (T : Int)] := by rw [← hw2, ← hb]; exact (Box.new w _ _).alloc _
  have hby : Box w2 (b + 1) 64 #[.int .i64 0, .int .i64 0, .int .i64 0] := by
    rw [← hw2, ← hb]
    have := Box.new (w.alloc (.cells #[.int .i64 (N : Int), .int .i64 (S : Int), .int .i64 (T : Int)] 28)) 64 #[.int .i64 0, .int .i64 0, .int .i64 0]
    simpa using this
  have hbl : Below w.heap.size w w2 := by rw [← hw2]; exact ((Below.refl _ w).alloc (Nat.le_refl _) _).alloc (by simp) _
  have hbb : ¬ b + 1 = b := by omega
  simp only [hw2, hb]
  clear hw2
  refine held_s (S := fun w' => Box w' b 28 #[.int .i64 (N : Int), .int .i64 (S : Int), .int .i64 (T : Int)] ∧ Below w.heap.size w w') 9 rfl (by kernel_rfl) ⟨hbx.drewN 1, hbl.trans ((Below.refl _ _).drew)⟩ (fun hHeld => ?_)
  have y0 := hby.cell 0
  have y1 := hby.cell 1
  have y2 := hby.cell 2
  have f0 := hby.frozen 0
  have f1 := hby.frozen 1
  have f2 := hby.frozen 2
  simp only [Array.replicate_succ, Array.replicate_zero, List.push_toArray, List.nil_append, List.cons_append]
  refine wpAnyH_take (i := 0) (oi := ⟨some 3, _, _, _, _, _⟩) (v := (.pointer (some ⟨b, 0, none⟩))) rfl (by kernel_rfl) (by kernel_rfl) (by kernel_rfl) (fun _ _ _ h => h) (Or.inl ⟨by rfl, fun w' hw => by go_simp⟩) hHeld ?_
  try simp only [Act.put, List.setIfInBounds_toArray, List.set_cons_zero, List.set_cons_succ]
  refine wpAnyH_take (i := 1) (oi := ⟨some 4, _, _, _, _, _⟩) (v := (.int .i64 (N : Int))) rfl (by kernel_rfl) (by kernel_rfl) (by kernel_rfl) (fun _ _ _ h => h) (Or.inl ⟨by rfl, fun w' hw => by (have k0 := hw.1.cell 0; have k1 := hw.1.cell 1; have k2 := hw.1.cell 2; go_simp)⟩) hHeld ?_
  try simp only [Act.put, List.setIfInBounds_toArray, List.set_cons_zero, List.set_cons_succ]
  refine wpAnyH_take (i := 3) (oi := ⟨some 6, _, _, _, _, _⟩) (v := (.pointer (some ⟨b, 1, none⟩))) rfl (by kernel_rfl) (by kernel_rfl) (by kernel_rfl) (fun _ _ _ h => h) (Or.inl ⟨by rfl, fun w' hw => by go_simp⟩) hHeld ?_
  try simp only [Act.put, List.setIfInBounds_toArray, List.set_cons_zero, List.set_cons_succ]
  refine wpAnyH_take (i := 4) (oi := ⟨some 7, _, _, _, _, _⟩) (v := (.int .i64 (S : Int))) rfl (by kernel_rfl) (by kernel_rfl) (by kernel_rfl) (fun _ _ _ h => h) (Or.inl ⟨by rfl, fun w' hw => by (have k0 := hw.1.cell 0; have k1 := hw.1.cell 1; have k2 := hw.1.cell 2; go_simp)⟩) hHeld ?_
  try simp only [Act.put, List.setIfInBounds_toArray, List.set_cons_zero, List.set_cons_succ]
  refine wpAnyH_take (i := 5) (oi := ⟨some 8, _, _, _, _, _⟩) (v := (.pointer (some ⟨b, 2, none⟩))) rfl (by kernel_rfl) (by kernel_rfl) (by kernel_rfl) (fun _ _ _ h => h) (Or.inl ⟨by rfl, fun w' hw => by go_simp⟩) hHeld ?_
  try simp only [Act.put, List.setIfInBounds_toArray, List.set_cons_zero, List.set_cons_succ]
  refine wpAnyH_take (i := 6) (oi := ⟨some 9, _, _, _, _, _⟩) (v := (.int .i64 (T : Int))) rfl (by kernel_rfl) (by kernel_rfl) (by kernel_rfl) (fun _ _ _ h => h) (Or.inl ⟨by rfl, fun w' hw => by (have k0 := hw.1.cell 0; have k1 := hw.1.cell 1; have k2 := hw.1.cell 2; go_simp)⟩) hHeld ?_
  try simp only [Act.put, List.setIfInBounds_toArray, List.set_cons_zero, List.set_cons_succ]
  refine one_ready 2 rfl (by kernel_rfl) (fun K hK => ?_)
  go_simp
  refine (HD.out _).mono ?_
  rintro e w3 ⟨rfl, rfl⟩
  refine hK.out _ _ hHeld (fun hHeld => ?_)
  clear hK K
  try simp only [List.setIfInBounds_toArray, List.set_cons_zero, List.set_cons_succ]
  refine wpAnyH_take (i := 7) (oi := ⟨some 10, _, _, _, _, _⟩) (v := (.agg #[.int .i64 (D : Int), .int .i64 (S : Int), .int .i64 (T : Int)])) rfl (by kernel_rfl) (by kernel_rfl) (by kernel_rfl) (fun _ _ _ h => h) (Or.inl ⟨by rfl, fun w' hw => by go_simp⟩) hHeld ?_
  try simp only [Act.put, List.setIfInBounds_toArray, List.set_cons_zero, List.set_cons_succ]
  refine one_ready 8 rfl (by kernel_rfl) (fun K hK => ?_)
  go_simp
  have ho : Only (just (b + 1)) w2 ((((w2.setCell ⟨b + 1, 0, none⟩ (.int .i64 (D : Int))).setCell ⟨b + 1, 1, none⟩ (.int .i64 (S : Int))).setCell ⟨b + 1, 2, none⟩ (.int .i64 (T : Int))).drew) := ((((Only.refl (just (b + 1)) w2).setCell (p := ⟨b + 1, 0, none⟩) (.inl (just_self _)) (.int .i64 (D : Int))).setCell (p := ⟨b + 1, 1, none⟩) (.inl (just_self _)) (.int .i64 (S : Int))).setCell (p := ⟨b + 1, 2, none⟩) (.inl (just_self _)) (.int .i64 (T : Int))).drew
  have hE : Hid (Below w.heap.size w _) := Lib.hid (below_only hbl ho hbl.size (fun i hi e => by have e : i = b + 1 := e; omega))
  have hz : Box _ (b + 1) 64 #[.int .i64 (D : Int), .int .i64 (S : Int), .int .i64 (T : Int)] := (((hby.put 0 (.int .i64 (D : Int))).put 1 (.int .i64 (S : Int))).put 2 (.int .i64 (T : Int))).drewN 1
  have hZ := Lib.hid hz
  refine hK.out _ _ ⟨hbx.only ho (just_ne (fun e => by omega)), hE.out⟩ (fun hHeld => ?_)
  clear hK K ho hz
  refine wpAnyH_done (by kernel_rfl) ?_ _
  have z0 := hZ.out.cell 0
  have z1 := hZ.out.cell 1
  have z2 := hZ.out.cell 2
  go_wp2_with fail
  exact bodyPost_ret (v := .agg #[.int .i64 (D : Int), .int .i64 (S : Int), .int .i64 (T : Int)]) (results_one Tryz.results28 rfl (load_box hZ.out Tryz.underlying64 rfl (by kernel_rfl))) rfl ⟨rfl, hE.out⟩
set_option maxHeartbeats 2000000 in
theorem rlright_any (D : Nat) (S T : Int) (w : World) (hD : D ≤ 10) : Calls Tryz.prog 9 #[.agg #[.int .i64 ((2 ^ D : Nat) : Int), .int .i64 S, .int .i64 T]] w fun e w' => e = .returned (.bool (isSt S T)) ∧ Below w.heap.size w w' := by
  have HS := Lib.hid (fun W => rshape_in (2 ^ D) S T D W hD rfl)
  have ht := isTree_two hD (N := 2 ^ D) rfl
  have HD := Lib.hid (fun W => ref_right (D : Int) S T W)
  rw [isSh_st hD] at HD
  have HP := Lib.hid (fun W => rpath_right ((2 ^ D : Nat) : Int) W)
  rw [ht] at HP
  cases h : isSt S T
  · rw [h] at HD
    clear h ht
    generalize 2 ^ D = N at *
    go_enter Tryz.func9, Tryz.ntmps9
    go_wp2_with fail
    refine (HP.out _).mono ?_
    rintro e w1 ⟨rfl, rfl⟩
    go_wp2_with fail
    refine (HS.out _).mono ?_
    rintro e w3 ⟨rfl, hb3⟩
    have HB3 := Lib.hid (((Below.refl _ w).alloc (Nat.le_refl _) (.cells #[.int .i64 (N : Int), .int .i64 S, .int .i64 T] 28)).trans (hb3.mono (by simp)))
    clear hb3
    go_wp2_with fail
    refine (HD.out _).mono ?_
    rintro e w4 ⟨rfl, hb4⟩
    have HB4 := Lib.hid (HB3.out.trans (hb4.mono HB3.out.size))
    clear hb4
    go_wp2_with fail
    go_ret
    exact ⟨rfl, HB4.out⟩
  · obtain ⟨⟨h1, h2⟩, h3, h4⟩ := (isSt_iff _ _).1 h
    obtain ⟨s, rfl⟩ : ∃ s : Nat, S = (s : Int) := ⟨S.toNat, by omega⟩
    obtain ⟨u, rfl⟩ : ∃ u : Nat, T = (u : Int) := ⟨T.toNat, by omega⟩
    obtain ⟨Q, P, hc, _, _, hQ⟩ := conf_of hD (S := s) (H := u) (by omega) (by omega) (by omega) (by omega)
    have HPl := Lib.hid (fun W => ref_places D s u _ _ hD (by omega) (by omega) (by omega) (by omega) hc.hL hc.hn W)
    have HR := Lib.hid (fun W => rround_any (((D + 1) * s + u + 1 : Nat) : Int) W)
    rw [hc.hR] at HR
    have hq : (Q : Int) ≤ 1024 := by omega
    rw [h] at HD
    clear h ht hc h1 h2 h3 h4 hQ
    generalize (D + 1) * s + u + 1 = n at *
    generalize 2 ^ D = N at *
    have hx : Box (w.alloc (.cells #[.int .i64 (N : Int), .int .i64 (s : Int), .int .i64 (u : Int)] 28)) w.heap.size 28 #[.int .i64 (N : Int), .int .i64 (s : Int), .int .i64 (u : Int)] := Box.new w _ _
    have HX := Lib.hid hx
    clear hx
    go_enter Tryz.func9, Tryz.ntmps9
    go_wp2_with fail
    refine (HP.out _).mono ?_
    rintro e w1 ⟨rfl, rfl⟩
    go_wp2_with fail
    refine (HS.out _).mono ?_
    rintro e w3 ⟨rfl, hb3⟩
    have HX3 := Lib.hid (HX.out.of (hb3.block _ HX.out.lt))
    have HB3 := Lib.hid (((Below.refl _ w).alloc (Nat.le_refl _) (.cells #[.int .i64 (N : Int), .int .i64 (s : Int), .int .i64 (u : Int)] 28)).trans (hb3.mono (by simp)))
    clear hb3 HX
    go_wp2_with fail
    refine (HD.out _).mono ?_
    rintro e w4 ⟨rfl, hb4⟩
    have HX4 := Lib.hid (HX3.out.of (hb4.block _ HX3.out.lt))
    have HB4 := Lib.hid (HB3.out.trans (hb4.mono HB3.out.size))
    have k0 := HX4.out.cell 0
    have k1 := HX4.out.cell 1
    have k2 := HX4.out.cell 2
    clear hb4 HX3 HB3
    go_wp2_with fail
    refine (HS.out _).mono ?_
    rintro e w5 ⟨rfl, hb5⟩
    have HB5 := Lib.hid (HB4.out.trans (hb5.mono HB4.out.size))
    clear hb5 k0 k1 k2 HX4 HB4
    go_wp2_with fail
    refine (HPl.out _).mono ?_
    rintro e w6 ⟨rfl, hb6⟩
    have HB6 := Lib.hid (HB5.out.trans (hb6.mono HB5.out.size))
    clear hb6
    go_wp2_with fail
    refine (HR.out _).mono ?_
    rintro e w7 ⟨rfl, rfl⟩
    have hd : decide ((Q : Int) ≤ 1024) = true := decide_eq_true hq
    go_wp2_with fail
    go_ret
    exact ⟨rfl, HB6.out⟩
set_option maxHeartbeats 2000000 in
theorem rlsizes_of {b s t : Nat} (hb : b ≤ 10) (s1 : 1 ≤ s) (s8 : s ≤ 8) (t1 : 1 ≤ t) (t64 : t ≤ 64) (h : Nat) (w : World) :
    ∃ x y z : Int, szOf b s t h = [x, y, z] ∧ Calls Tryz.prog 6 #[.agg #[.int .i64 ((blN b h : Nat) : Int), .int .i64 (s : Int), .int .i64 (t : Int)]] w fun e w' => e = .returned (.tuple #[.int .i64 x, .int .i64 y, .int .i64 z]) ∧ Below w.heap.size w w' := by
  obtain ⟨Q, P, hc, hq, _, hQ⟩ := conf_of (D := b - 2 * h) (by omega) s1 s8 t1 t64
  refine ⟨_, _, _, rfl, ?_⟩
  rw [hq]
  have hD : b - 2 * h ≤ 10 := by omega
  have HS := Lib.hid (fun W => rshape_in (2 ^ (b - 2 * h)) (s : Int) (t : Int) (b - 2 * h) W hD rfl)
  have hst : isSt (s : Int) (t : Int) = true := (isSt_iff _ _).2 ⟨⟨by omega, by omega⟩, by omega, by omega⟩
  have HRi := Lib.hid (fun W => rlright_any (b - 2 * h) (s : Int) (t : Int) W hD)
  rw [hst] at HRi
  have HPl := Lib.hid (fun W => ref_places (b - 2 * h) s t _ _ hD s1 s8 t1 t64 hc.hL hc.hn W)
  have HR := Lib.hid (fun W => rround_any (((b - 2 * h + 1) * s + t + 1 : Nat) : Int) W)
  rw [hc.hR] at HR
  have HN := Lib.hid (fun W => rpath_nodes ((2 ^ (b - 2 * h) : Nat) : Int) W)
  rw [ndsI_yes (isTree_two hD rfl)] at HN
  have hp2 := Nat.two_pow_pos (b - 2 * h)
  have hp3 := tree_le (b - 2 * h) hD
  have hm : (s : Int) * (2 * ((2 ^ (b - 2 * h) : Nat) : Int) - 1) = ((s * (2 * 2 ^ (b - 2 * h) - 1) : Nat) : Int) := by
    generalize 2 ^ (b - 2 * h) = N at *
    rw [Int.natCast_mul]
    congr 1
    omega
  have hml : s * (2 * 2 ^ (b - 2 * h) - 1) ≤ 8 * 2047 := Nat.mul_le_mul s8 (by omega)
  show Calls Tryz.prog 6 #[.agg #[.int .i64 ((2 ^ (b - 2 * h) : Nat) : Int), .int .i64 (s : Int), .int .i64 (t : Int)]] w fun e w' => e = .returned (.tuple #[.int .i64 ((s * (2 * 2 ^ (b - 2 * h) - 1) : Nat) : Int), .int .i64 (t : Int), .int .i64 (Q : Int)]) ∧ Below w.heap.size w w'
  generalize s * (2 * 2 ^ (b - 2 * h) - 1) = tr at *
  clear hst hc hq hQ hD hp2
  generalize (b - 2 * h + 1) * s + t + 1 = n at *
  generalize 2 ^ (b - 2 * h) = N at *
  have HM : Hid (wrap64 ((s : Int) * (2 * (N : Int) - 1)) = (tr : Int)) := Lib.hid (by rw [hm]; unfold wrap64; omega)
  clear hm
  generalize b - 2 * h = D at *
  have hx : Box (w.alloc (.cells #[.int .i64 (N : Int), .int .i64 (s : Int), .int .i64 (t : Int)] 28)) w.heap.size 28 #[.int .i64 (N : Int), .int .i64 (s : Int), .int .i64 (t : Int)] := Box.new w _ _
  have HX := Lib.hid hx
  clear hx
  go_enter Tryz.func6, Tryz.ntmps6
  go_wp2_with fail
  refine (HRi.out _).mono ?_
  rintro e w3 ⟨rfl, hb3⟩
  have HX3 := Lib.hid (HX.out.of (hb3.block _ HX.out.lt))
  have HB3 := Lib.hid (((Below.refl _ w).alloc (Nat.le_refl _) (.cells #[.int .i64 (N : Int), .int .i64 (s : Int), .int .i64 (t : Int)] 28)).trans (hb3.mono (by simp)))
  have c0 := Gr.cell (HX3.out.cell 0)
  have c1 := Gr.cell (HX3.out.cell 1)
  have c2 := Gr.cell (HX3.out.cell 2)
  clear hb3 HX
  go_upto_region 3 with fail
  refine wp_region_grow (by kernel_rfl) (by kernel_rfl) ?_
  repeat (go_big_quiet_step (first | (go_at_call 25; exact Gr.same ((HN.out _).mono fun _ _ ⟨he, hw⟩ => ⟨he, hw.symm⟩)) | (go_at_call 28; exact Gr.blw (HS.out _)) | (go_at_call 27; exact Gr.blw (HPl.out _)) | (go_at_call 26; exact Gr.same ((HR.out _).mono fun _ _ ⟨he, hw⟩ => ⟨he, hw.symm⟩))))
  refine wpQuiet_nil ?_
  intro w9 hw9
  obtain ⟨G, hG⟩ := hw9
  subst hG
  have HE := Lib.hid (HB3.out.trans (G.ok.none.mono HB3.out.size))
  clear c0 c1 c2 HX3 HB3
  go_wp2_with fail
  go_ret3
  refine ⟨?_, HE.out⟩
  show Ending.returned (.tuple #[.int .i64 (wrap64 ((s : Int) * (2 * (N : Int) - 1))), .int .i64 (t : Int), .int .i64 (Q : Int)]) = _
  rw [HM.out]
end Go.Proofs.YtmageeohnfomnaaGreat


namespace Go.Proofs.YtmageeohnfomnaaGreat
set_option maxRecDepth 100000
open Go.RowKit Go.ChangeShapes Go.WideShapes Go.ChangeAt

theorem lsizes_of {b s t : Nat} (hb : b ≤ 10) (s1 : 1 ≤ s) (s8 : s ≤ 8) (t1 : 1 ≤ t) (t64 : t ≤ 64) (h : Nat) (w : World) :
    ∃ x y z : Int, szOf b s t h = [x, y, z] ∧ Calls Tryz.prog 5 #[.agg #[.int .i64 ((blN b h : Nat) : Int), .int .i64 (s : Int), .int .i64 (t : Int)]] w fun e w' => e = .returned (.tuple #[.int .i64 x, .int .i64 y, .int .i64 z]) ∧ Below w.heap.size w w' := by
  obtain ⟨Q, P, hc, hq, _⟩ := conf_of (D := b - 2 * h) (by omega) s1 s8 t1 t64
  refine ⟨_, _, _, rfl, ?_⟩
  rw [hq]
  exact sizes_of hc w
end Go.Proofs.YtmageeohnfomnaaGreat


namespace Go.Proofs.YtmageeohnfomnaaGreat
set_option maxRecDepth 100000
open Go.RowKit Go.ChangeShapes Go.WideShapes Go.ChangeAt

def lvR (N S T : Int) : Bool := isTree N && isSt S T
def lvZ (N S T : Int) : List Int := if lvR N S T = true then szOf (dpt N) S.toNat T.toNat 0 else [0, 0, 0]
def lvA (N S T : Int) : Int := (lvZ N S T).getD 0 0
def lvB (N S T : Int) : Int := (lvZ N S T).getD 1 0
def lvD (N S T : Int) : Int := (lvZ N S T).getD 2 0
theorem lvR_iff (N S T : Int) : lvR N S T = true ↔ ∃ b s t : Nat, b ≤ 10 ∧ N = ((2 ^ b : Nat) : Int) ∧ S = s ∧ T = t ∧ 1 ≤ s ∧ s ≤ 8 ∧ 1 ≤ t ∧ t ≤ 64 := by
  unfold lvR
  rw [Bool.and_eq_true, isTree_iff, isSt_iff]
  constructor
  · rintro ⟨⟨p, hp, rfl⟩, ⟨h1, h2⟩, h3, h4⟩
    exact ⟨p, S.toNat, T.toNat, hp, rfl, by omega, by omega, by omega, by omega, by omega, by omega⟩
  · rintro ⟨b, s, t, hb, rfl, rfl, rfl, h1, h2, h3, h4⟩
    exact ⟨⟨b, hb, rfl⟩, ⟨by omega, by omega⟩, by omega, by omega⟩
theorem lvZ_no {N S T : Int} (h : lvR N S T = false) : lvA N S T = 0 ∧ lvB N S T = 0 ∧ lvD N S T = 0 := by
  unfold lvA lvB lvD lvZ
  rw [h]
  exact ⟨rfl, rfl, rfl⟩
theorem lvZ_in {b s t : Nat} (hb : b ≤ 10) (s1 : 1 ≤ s) (s8 : s ≤ 8) (t1 : 1 ≤ t) (t64 : t ≤ 64) {x y z : Int} (h : szOf b s t 0 = [x, y, z]) :
    lvA ((2 ^ b : Nat) : Int) s t = x ∧ lvB ((2 ^ b : Nat) : Int) s t = y ∧ lvD ((2 ^ b : Nat) : Int) s t = z := by
  have hr : lvR ((2 ^ b : Nat) : Int) s t = true := (lvR_iff _ _ _).2 ⟨b, s, t, hb, rfl, rfl, rfl, s1, s8, t1, t64⟩
  unfold lvA lvB lvD lvZ
  rw [if_pos hr, dpt_two hb rfl, Int.toNat_natCast, Int.toNat_natCast, h]
  exact ⟨rfl, rfl, rfl⟩
theorem lv_conf {N S T : Int} (h : lvR N S T = true) : ∃ b s t Q P : Nat, Conf (2 ^ b) s t b ((b + 1) * s) ((b + 1) * s + t + 1) Q P ∧ b ≤ 10 ∧ N = ((2 ^ b : Nat) : Int) ∧ S = s ∧ T = t ∧ lvA N S T = ((s * (2 * 2 ^ b - 1) : Nat) : Int) ∧ lvB N S T = (t : Int) ∧ lvD N S T = (Q : Int) ∧ 3 ≤ Q ∧ Q ≤ 256 := by
  obtain ⟨b, s, t, hb, rfl, rfl, rfl, s1, s8, t1, t64⟩ := (lvR_iff _ _ _).1 h
  obtain ⟨Q, P, hc, hq, hq3, hq256⟩ := conf_of hb s1 s8 t1 t64
  obtain ⟨h0, h1, h2⟩ := lvZ_in hb s1 s8 t1 t64 (x := ((s * (2 * 2 ^ b - 1) : Nat) : Int)) (y := (t : Int)) (z := (Q : Int)) (by rw [← hq]; rfl)
  exact ⟨b, s, t, Q, P, hc, hb, rfl, rfl, rfl, h0, h1, h2, hq3, hq256⟩
set_option maxHeartbeats 1000000 in
theorem lright_all (N S T : Int) (w : World) (hN : Rg N) : Calls Tryz.prog 8 #[.agg #[.int .i64 N, .int .i64 S, .int .i64 T]] w fun e w' => e = .returned (.bool (lvR N S T)) ∧ Below w.heap.size w w' := by
  unfold lvR
  cases h : isTree N
  · have HP := Lib.hid (fun W => path_right N W hN.1 hN.2)
    rw [h] at HP
    clear h
    go_enter Tryz.func8, Tryz.ntmps8
    go_wp2_with fail
    refine (HP.out _).mono ?_
    rintro e w1 ⟨rfl, rfl⟩
    go_wp2_with fail
    go_ret
    exact ⟨rfl, (Below.refl _ w).alloc (Nat.le_refl _) _⟩
  · obtain ⟨p, hp, rfl⟩ := (isTree_iff _).1 h
    exact lright_any p S T w hp
set_option maxHeartbeats 1000000 in
theorem lsizes_no (N S T : Int) (w : World) (hN : Rg N) (h : lvR N S T = false) : Calls Tryz.prog 5 #[.agg #[.int .i64 N, .int .i64 S, .int .i64 T]] w fun e w' => e = .returned (.tuple #[.int .i64 0, .int .i64 0, .int .i64 0]) ∧ Below w.heap.size w w' := by
  have HR := Lib.hid (fun W => lright_all N S T W hN)
  rw [h] at HR
  clear h
  go_enter Tryz.func5, Tryz.ntmps5
  go_wp2_with fail
  refine (HR.out _).mono ?_
  rintro e w1 ⟨rfl, hb1⟩
  have HB1 := Lib.hid (((Below.refl _ w).alloc (Nat.le_refl _) (.cells #[.int .i64 N, .int .i64 S, .int .i64 T] 23)).trans (hb1.mono (by simp)))
  clear hb1
  go_wp2_with fail
  go_ret3
  exact ⟨rfl, HB1.out⟩
theorem lsizes_all (N S T : Int) (w : World) (hN : Rg N) : Calls Tryz.prog 5 #[.agg #[.int .i64 N, .int .i64 S, .int .i64 T]] w fun e w' => e = .returned (.tuple #[.int .i64 (lvA N S T), .int .i64 (lvB N S T), .int .i64 (lvD N S T)]) ∧ Below w.heap.size w w' := by
  cases h : lvR N S T
  · obtain ⟨h0, h1, h2⟩ := lvZ_no h
    rw [h0, h1, h2]
    exact lsizes_no N S T w hN h
  · obtain ⟨b, s, t, hb, rfl, rfl, rfl, s1, s8, t1, t64⟩ := (lvR_iff _ _ _).1 h
    obtain ⟨x, y, z, hz, hc⟩ := lsizes_of hb s1 s8 t1 t64 0 w
    obtain ⟨h0, h1, h2⟩ := lvZ_in hb s1 s8 t1 t64 hz
    rw [h0, h1, h2]
    exact hc
set_option maxHeartbeats 1000000 in
theorem rlright_all (N S T : Int) (w : World) : Calls Tryz.prog 9 #[.agg #[.int .i64 N, .int .i64 S, .int .i64 T]] w fun e w' => e = .returned (.bool (lvR N S T)) ∧ Below w.heap.size w w' := by
  unfold lvR
  cases h : isTree N
  · have HP := Lib.hid (fun W => rpath_right N W)
    rw [h] at HP
    clear h
    go_enter Tryz.func9, Tryz.ntmps9
    go_wp2_with fail
    refine (HP.out _).mono ?_
    rintro e w1 ⟨rfl, rfl⟩
    go_wp2_with fail
    go_ret
    exact ⟨rfl, (Below.refl _ w).alloc (Nat.le_refl _) _⟩
  · obtain ⟨p, hp, rfl⟩ := (isTree_iff _).1 h
    exact rlright_any p S T w hp
set_option maxHeartbeats 1000000 in
theorem rlsizes_no (N S T : Int) (w : World) (h : lvR N S T = false) : Calls Tryz.prog 6 #[.agg #[.int .i64 N, .int .i64 S, .int .i64 T]] w fun e w' => e = .returned (.tuple #[.int .i64 0, .int .i64 0, .int .i64 0]) ∧ Below w.heap.size w w' := by
  have HR := Lib.hid (fun W => rlright_all N S T W)
  rw [h] at HR
  clear h
  go_enter Tryz.func6, Tryz.ntmps6
  go_wp2_with fail
  refine (HR.out _).mono ?_
  rintro e w1 ⟨rfl, hb1⟩
  have HB1 := Lib.hid (((Below.refl _ w).alloc (Nat.le_refl _) (.cells #[.int .i64 N, .int .i64 S, .int .i64 T] 28)).trans (hb1.mono (by simp)))
  clear hb1
  go_wp2_with fail
  go_ret3
  exact ⟨rfl, HB1.out⟩
theorem rlsizes_all (N S T : Int) (w : World) : Calls Tryz.prog 6 #[.agg #[.int .i64 N, .int .i64 S, .int .i64 T]] w fun e w' => e = .returned (.tuple #[.int .i64 (lvA N S T), .int .i64 (lvB N S T), .int .i64 (lvD N S T)]) ∧ Below w.heap.size w w' := by
  cases h : lvR N S T
  · obtain ⟨h0, h1, h2⟩ := lvZ_no h
    rw [h0, h1, h2]
    exact rlsizes_no N S T w h
  · obtain ⟨b, s, t, hb, rfl, rfl, rfl, s1, s8, t1, t64⟩ := (lvR_iff _ _ _).1 h
    obtain ⟨x, y, z, hz, hc⟩ := rlsizes_of hb s1 s8 t1 t64 0 w
    obtain ⟨h0, h1, h2⟩ := lvZ_in hb s1 s8 t1 t64 hz
    rw [h0, h1, h2]
    exact hc
end Go.Proofs.YtmageeohnfomnaaGreat


namespace Go.Proofs.YtmageeohnfomnaaGreat
set_option maxRecDepth 100000
open Go.RowKit Go.ChangeShapes Go.WideShapes Go.ChangeAt

set_option maxRecDepth 100000 in
set_option maxHeartbeats 2000000 in
theorem las_any (N S T : Int) (w : World) : Calls Tryz.prog 7 #[.agg #[.int .i64 N, .int .i64 S, .int .i64 T]] w fun e w' => e = .returned (.agg #[.int .i64 N, .int .i64 S, .int .i64 T]) ∧ Below w.heap.size w w' := by
  obtain ⟨p, hp⟩ : ∃ p, w.heap.size = p := ⟨_, rfl⟩
  obtain ⟨w2, hw2⟩ : ∃ w2, ((w.alloc (.cells #[.int .i64 N, .int .i64 S, .int .i64 T] 23)).alloc (.cells #[.int .i64 0, .int .i64 0, .int .i64 0] 28)) = w2 := ⟨_, rfl⟩
  have hx : Box w2 p 23 #[.int .i64 N, .int .i64 S, .int .i64 T] := by rw [← hw2, ← hp]; exact (Box.new w _ _).alloc _
  have hy : Box w2 (p + 1) 28 #[.int .i64 0, .int .i64 0, .int .i64 0] := by
    rw [← hw2, ← hp]
    have := Box.new (w.alloc (.cells #[.int .i64 N, .int .i64 S, .int .i64 T] 23)) 28 #[.int .i64 0, .int .i64 0, .int .i64 0]
    simpa using this
  have HB := Lib.hid (show Below w.heap.size w w2 by rw [← hw2]; exact ((Below.refl _ w).alloc (Nat.le_refl _) _).alloc (by simp) _)
  have HPP := Lib.hid hp
  have HWW := Lib.hid hw2
  have k0 := hx.cell 0
  have k1 := hx.cell 1
  have k2 := hx.cell 2
  have y0 := hy.cell 0
  have y1 := hy.cell 1
  have y2 := hy.cell 2
  have f0 := hy.frozen 0
  have f1 := hy.frozen 1
  have f2 := hy.frozen 2
  have z0 : Box (w2.setCell ⟨p + 1, 0, none⟩ (.int .i64 N)) (p + 1) 28 #[.int .i64 N, .int .i64 0, .int .i64 0] := hy.put 0 (.int .i64 N)
  have z1 : Box ((w2.setCell ⟨p + 1, 0, none⟩ (.int .i64 N)).setCell ⟨p + 1, 1, none⟩ (.int .i64 S)) (p + 1) 28 #[.int .i64 N, .int .i64 S, .int .i64 0] := z0.put 1 (.int .i64 S)
  have z2 : Box (((w2.setCell ⟨p + 1, 0, none⟩ (.int .i64 N)).setCell ⟨p + 1, 1, none⟩ (.int .i64 S)).setCell ⟨p + 1, 2, none⟩ (.int .i64 T)) (p + 1) 28 #[.int .i64 N, .int .i64 S, .int .i64 T] := z1.put 2 (.int .i64 T)
  have HZ := Lib.hid z2
  clear z0 z1 z2
  have HE := Lib.hid (below_only HB.out ((((Only.refl (just (p + 1)) w2).setCell (p := ⟨p + 1, 0, none⟩) (.inl (just_self _)) (.int .i64 N)).setCell (p := ⟨p + 1, 1, none⟩) (.inl (just_self _)) (.int .i64 S)).setCell (p := ⟨p + 1, 2, none⟩) (.inl (just_self _)) (.int .i64 T)) HB.out.size (fun i hi e => by have e : i = p + 1 := e; omega))
  clear hx hy hw2
  go_enter Tryz.func7, Tryz.ntmps7
  go_upto_region 1 with fail
  rw [HWW.out]
  go_wp2_with fail
  exact bodyPost_ret (v := .agg #[.int .i64 N, .int .i64 S, .int .i64 T]) (results_one Tryz.results7 rfl (load_box HZ.out Tryz.underlying28 rfl (by kernel_rfl))) rfl ⟨rfl, HE.out⟩
end Go.Proofs.YtmageeohnfomnaaGreat

