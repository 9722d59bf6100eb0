/- Texts of ours put together: LevelBack, LevelNum. -/
import Derived.Below
import Derived.BigQuiet
import Derived.BigRegion
import Derived.ChangeArms
import Derived.ChangeKeysEq
import Derived.ChangeSlices
import Derived.Deep.Cut
import Derived.Deep.Draws
import Derived.Deep.MidRow
import Derived.Deep.OwnRows
import Derived.Deep.Quiet
import Derived.Deep.QuietTactic
import Derived.Deep.RegionHeld
import Derived.Deep.RegionHeld3
import Derived.Deep.Slices
import Derived.Deep.WholeRow
import Derived.Laws.AppendOwn
import Derived.Laws.BitsAllLaws
import Derived.Laws.CopyOwn
import Derived.Laws.StructEq
import Derived.Lib.BitFns
import Derived.Lib.Hide
import Derived.LoopIn
import Derived.LoopNIn
import Derived.Maps.AppendAt
import Derived.OpenShut
import Derived.OwnWalk
import Derived.OwnWalkIn
import Derived.ProofKit
import Derived.RangeFuncBound
import Derived.RangeFuncCalls
import Derived.RangeFuncLeaves
import Derived.RangeFuncNested
import Derived.RegionTactic
import Derived.RowKit3
import Derived.Shelf.Abstract
import Derived.Shelf.Bits.Mul64
import Derived.Shelf.RegionOpen
import Derived.Shelf.SlSortCmp.WholeK
import Derived.Shelf.Spec.BitsCarry
import Derived.Shelf.Strconv.Itoa0
import Derived.SizedLaws
import Derived.Sort.Grow
import Derived.StillTailTactics
import Derived.TacticsInMore
import Derived.WalkKit
import Derived.WideShapes
import Derived.Test.YtmageeohnfomnaaGreatProg
import Derived.Test.YtmageeohnfomnaaGreatG0
import Derived.Test.YtmageeohnfomnaaGreatG16
import Derived.Test.YtmageeohnfomnaaGreatG37
import Derived.Test.YtmageeohnfomnaaGreatG20
import Derived.Test.YtmageeohnfomnaaGreatG8
import Derived.Test.YtmageeohnfomnaaGreatG3
import Derived.Test.YtmageeohnfomnaaGreatG1
import Derived.Test.YtmageeohnfomnaaGreatG21
import Derived.Test.YtmageeohnfomnaaGreatG5
import Derived.Test.YtmageeohnfomnaaGreatG2
import Derived.Test.YtmageeohnfomnaaGreatG27
import Derived.Test.YtmageeohnfomnaaGreatG29
import Derived.Test.YtmageeohnfomnaaGreatG15
import Derived.Test.YtmageeohnfomnaaGreatG6
import Derived.Test.YtmageeohnfomnaaGreatG10
import Derived.Test.YtmageeohnfomnaaGreatG24
import Derived.Test.YtmageeohnfomnaaGreatG23
import Derived.Test.YtmageeohnfomnaaGreatG25
import Derived.Test.YtmageeohnfomnaaGreatG26
import Derived.Test.YtmageeohnfomnaaGreatG40
import Derived.Test.YtmageeohnfomnaaGreatG39
import Derived.Test.YtmageeohnfomnaaGreatG14
import Derived.Test.YtmageeohnfomnaaGreatG17
import Derived.Test.YtmageeohnfomnaaGreatG19
import Derived.Test.YtmageeohnfomnaaGreatG22
import Derived.Test.YtmageeohnfomnaaGreatG9
import Derived.Test.YtmageeohnfomnaaGreatG11
import Derived.Test.YtmageeohnfomnaaGreatG13
namespace Go.Proofs.YtmageeohnfomnaaGreat
set_option maxRecDepth 100000
open Go.RowKit Go.ChangeShapes Go.WideShapes Go.ChangeAt

theorem Var.put {w : World} {b : Nat} {g : Nat → Int} (h : Var w b g) (k : Nat) (v : Int) : Var (w.setCell ⟨b, k, none⟩ (.int .u64 v)) b (setw g k v) := by
  refine ⟨fun j u hu => ?_, fun j hj => ?_⟩
  · have hj : j < 12 := by have := (List.getElem?_eq_some_iff.1 hu).1; simpa [CA] using this
    rw [Array.getElem?_toList, CA_at _ j hj] at hu
    injection hu with hu
    subst hu
    rw [Nat.zero_add]
    by_cases e : j = k
    · subst e
      rw [World.cell?_setCell_same _ _ _ (h.cell hj), setw_at]
    · rw [World.cell?_setCell_other _ _ _ _ (fun h => e (by injection h with _ h _; exact h.symm)), h.cell hj, setw_far _ _ _ _ e]
  · obtain ⟨h1, h2⟩ := h.there j hj
    refine ⟨?_, by rw [World.frozen?_setCell]; exact h2⟩
    rw [Nat.zero_add] at h1 ⊢
    by_cases e : j = k
    · subst e
      rw [World.cell?_setCell_same _ _ _ (h.cell hj)]; rfl
    · rw [World.cell?_setCell_other _ _ _ _ (fun h => e (by injection h with _ h _; exact h.symm))]; exact h1
theorem Var.free {w : World} {b : Nat} {g : Nat → Int} (h : Var w b g) (k : Nat) (hk : k < 12) : w.frozen? ⟨b, k, none⟩ = false := by
  have := (h.there k hk).2
  rwa [Nat.zero_add] at this
set_option maxRecDepth 100000 in
set_option maxHeartbeats 2000000 in
theorem sort_any {N S T D L n Q P : Nat} (h : Conf N S T D L n Q P) (X : Nat → Prop) (lp mp f : Nat) (ov : Bool) (mb : Option Nat) (M : MS) (w : World) (hM : LvM M f S D T Q) (hf : f ≤ 100) (hO : Own w X mp M) (hX1 : X lp)
    (hB : Box w lp 80 (LvA mp f N S T ov mb)) :
    Calls Tryz.prog 72 #[.pointer (some ⟨lp, 0, none⟩)] w (OwnPost w X mp (M.sorted (f + 2) 11 (netL P)) (.tuple #[])) := by
  have HT := Lib.hid (fun W => table_at f (N : Int) (S : Int) (T : Int) W hf)
  have HR := Lib.hid (fun W => round_of h W)
  have hQP := h.hQ
  have hP := h.hP
  have HRun := Lib.hid (fun W (ho : Own W X mp M) => run_net X mp M (f + 2) 11 P W ho (by omega) hM.hk (by rw [hQP]; exact hM.s2) (by decide) hM.wd hM.len)
  rw [hQP] at HRun
  clear h hM hQP
  go_enter Tryz.func72, Tryz.ntmps72
  refine held_s (S := fun w' => Box w' lp 80 (LvA mp f N S T ov mb)) 16 rfl (by kernel_rfl) (hB.drewN 1) (fun hHeld => ?_)
  simp only [Array.replicate_succ, Array.replicate_zero, List.push_toArray, List.nil_append, List.cons_append]
  have hO2 : Own w.drew X mp M := hO.drewN 1
  have hK2 : Kept X w w.drew := (Kept.refl X w).drewN 1
  clear hO hB
  generalize w.drew = w2 at *
  refine wpAnyH_take (i := 0) (oi := ⟨some 2, _, _, _, _, _⟩) (v := (.pointer (some ⟨lp, 0, none⟩))) rfl (by kernel_rfl) (by kernel_rfl) (by kernel_rfl) (fun _ _ _ h => h) (Or.inl ⟨by rfl, fun w' hw => by go_simp⟩) hHeld ?_
  try simp only [Act.put, List.setIfInBounds_toArray, List.set_cons_zero, List.set_cons_succ]
  refine wpAnyH_take (i := 1) (oi := ⟨some 3, _, _, _, _, _⟩) (v := (.pointer (some ⟨lp, 0, none⟩))) rfl (by kernel_rfl) (by kernel_rfl) (by kernel_rfl) (fun _ _ _ h => h) (Or.inl ⟨by rfl, fun w' hw => by go_simp⟩) hHeld ?_
  try simp only [Act.put, List.setIfInBounds_toArray, List.set_cons_zero, List.set_cons_succ]
  refine wpAnyH_take (i := 2) (oi := ⟨some 4, _, _, _, _, _⟩) (v := (.pointer (some ⟨lp, 0, none⟩))) rfl (by kernel_rfl) (by kernel_rfl) (by kernel_rfl) (fun _ _ _ h => h) (Or.inl ⟨by rfl, fun w' hw => by go_simp⟩) hHeld ?_
  try simp only [Act.put, List.setIfInBounds_toArray, List.set_cons_zero, List.set_cons_succ]
  refine wpAnyH_take (i := 3) (oi := ⟨some 5, _, _, _, _, _⟩) (v := (.pointer (some ⟨mp, 0, none⟩))) rfl (by kernel_rfl) (by kernel_rfl) (by kernel_rfl) (fun _ _ _ h => h) (Or.inl ⟨by rfl, fun w' hw => by (have k0 := lv0 hw; have k1 := lv1 hw; have k2 := lv2 hw; have k3 := lv3 hw; have k4 := lv4 hw; go_simp)⟩) hHeld ?_
  try simp only [Act.put, List.setIfInBounds_toArray, List.set_cons_zero, List.set_cons_succ]
  refine wpAnyH_take (i := 4) (oi := ⟨some 6, _, _, _, _, _⟩) (v := (.pointer (some ⟨lp, 0, none⟩))) rfl (by kernel_rfl) (by kernel_rfl) (by kernel_rfl) (fun _ _ _ h => h) (Or.inl ⟨by rfl, fun w' hw => by go_simp⟩) hHeld ?_
  try simp only [Act.put, List.setIfInBounds_toArray, List.set_cons_zero, List.set_cons_succ]
  refine wpAnyH_take (i := 5) (oi := ⟨some 7, _, _, _, _, _⟩) (v := (.pointer (some ⟨lp, 0, none⟩))) rfl (by kernel_rfl) (by kernel_rfl) (by kernel_rfl) (fun _ _ _ h => h) (Or.inl ⟨by rfl, fun w' hw => by go_simp⟩) hHeld ?_
  try simp only [Act.put, List.setIfInBounds_toArray, List.set_cons_zero, List.set_cons_succ]
  refine wpAnyH_take (i := 6) (oi := ⟨some 8, _, _, _, _, _⟩) (v := (.pointer (some ⟨lp, 1, none⟩))) rfl (by kernel_rfl) (by kernel_rfl) (by kernel_rfl) (fun _ _ _ h => h) (Or.inl ⟨by rfl, fun w' hw => by go_simp⟩) hHeld ?_
  try simp only [Act.put, List.setIfInBounds_toArray, List.set_cons_zero, List.set_cons_succ]
  refine wpAnyH_take (i := 7) (oi := ⟨some 9, _, _, _, _, _⟩) (v := (.agg #[.int .i64 (f : Int), .int .i64 (N : Int), .int .i64 (S : Int), .int .i64 (T : Int)])) rfl (by kernel_rfl) (by kernel_rfl) (by kernel_rfl) (fun _ _ _ h => h) (Or.inl ⟨by rfl, fun w' hw => by (have k0 := lv0 hw; have k1 := lv1 hw; have k2 := lv2 hw; have k3 := lv3 hw; have k4 := lv4 hw; go_simp)⟩) hHeld ?_
  try simp only [Act.put, List.setIfInBounds_toArray, List.set_cons_zero, List.set_cons_succ]
  refine wpAnyH_take (i := 9) (oi := ⟨some 11, _, _, _, _, _⟩) (v := (.pointer (some ⟨lp, 0, none⟩))) rfl (by kernel_rfl) (by kernel_rfl) (by kernel_rfl) (fun _ _ _ h => h) (Or.inl ⟨by rfl, fun w' hw => by go_simp⟩) hHeld ?_
  try simp only [Act.put, List.setIfInBounds_toArray, List.set_cons_zero, List.set_cons_succ]
  refine wpAnyH_take (i := 10) (oi := ⟨some 12, _, _, _, _, _⟩) (v := (.pointer (some ⟨lp, 0, none⟩))) rfl (by kernel_rfl) (by kernel_rfl) (by kernel_rfl) (fun _ _ _ h => h) (Or.inl ⟨by rfl, fun w' hw => by go_simp⟩) hHeld ?_
  try simp only [Act.put, List.setIfInBounds_toArray, List.set_cons_zero, List.set_cons_succ]
  refine wpAnyH_take (i := 11) (oi := ⟨some 13, _, _, _, _, _⟩) (v := (.pointer (some ⟨lp, 1, none⟩))) rfl (by kernel_rfl) (by kernel_rfl) (by kernel_rfl) (fun _ _ _ h => h) (Or.inl ⟨by rfl, fun w' hw => by go_simp⟩) hHeld ?_
  try simp only [Act.put, List.setIfInBounds_toArray, List.set_cons_zero, List.set_cons_succ]
  refine wpAnyH_take (i := 12) (oi := ⟨some 14, _, _, _, _, _⟩) (v := (.pointer (some ⟨lp, 2, none⟩))) rfl (by kernel_rfl) (by kernel_rfl) (by kernel_rfl) (fun _ _ _ h => h) (Or.inl ⟨by rfl, fun w' hw => by go_simp⟩) hHeld ?_
  try simp only [Act.put, List.setIfInBounds_toArray, List.set_cons_zero, List.set_cons_succ]
  refine wpAnyH_take (i := 13) (oi := ⟨some 15, _, _, _, _, _⟩) (v := (.agg #[.int .i64 (N : Int), .int .i64 (S : Int), .int .i64 (T : Int)])) rfl (by kernel_rfl) (by kernel_rfl) (by kernel_rfl) (fun _ _ _ h => h) (Or.inl ⟨by rfl, fun w' hw => by (have k0 := lv0 hw; have k1 := lv1 hw; have k2 := lv2 hw; have k3 := lv3 hw; have k4 := lv4 hw; go_simp)⟩) hHeld ?_
  try simp only [Act.put, List.setIfInBounds_toArray, List.set_cons_zero, List.set_cons_succ]
  refine one_ready 8 rfl (by kernel_rfl) (fun K hK => ?_)
  go_simp
  refine (HT.out _).mono ?_
  rintro e w3 ⟨rfl, hb3⟩
  have ho3 : Only nobody w2 w3 := Only.of_below hb3
  have hO3 := hO2.none ho3
  have hB3 := hHeld.only ho3 (not_nobody _)
  have hK3 := hK2.trans (Kept.of_none ho3)
  refine hK.out _ _ hB3 (fun hHeld => ?_)
  clear hK K hb3 ho3 hO2 hK2
  simp only [List.setIfInBounds_toArray, List.set_cons_zero, List.set_cons_succ]
  refine one_ready 14 rfl (by kernel_rfl) (fun K hK => ?_)
  go_simp
  refine (HR.out _).mono ?_
  rintro e w4 ⟨rfl, hb4⟩
  have ho4 : Only nobody w3 w4 := Only.of_below hb4
  have hO4 := hO3.none ho4
  have hB4 := hB3.only ho4 (not_nobody _)
  have hK4 := hK3.trans (Kept.of_none ho4)
  refine hK.out _ _ hB4 (fun hHeld => ?_)
  clear hK K hb4 ho4 hO3 hK3 hB3
  simp only [List.setIfInBounds_toArray, List.set_cons_zero, List.set_cons_succ]
  refine one_ready 15 rfl (by kernel_rfl) (fun K hK => ?_)
  go_simp
  refine (HRun.out _ hO4).mono ?_
  rintro e w5 ⟨rfl, hO5, hk⟩
  have HE := Lib.hid (And.intro hO5 (hK4.trans hk))
  have hB5 := hk.box hB4 hX1
  refine hK.out _ _ hB5 (fun hHeld => ?_)
  clear hK K hk hO4 hK4 hB4 hO5 hB5
  simp only [List.setIfInBounds_toArray, List.set_cons_zero, List.set_cons_succ]
  refine wpAnyH_done (by kernel_rfl) ?_ _
  go_wp2_with fail
  go_end0
  exact ⟨rfl, HE.out.1, HE.out.2⟩
structure GbAt (w : World) (X : Nat → Prop) (mp f : Nat) (sp : Nat → Nat × Nat) (M : MS) (Z : Nat → Cl) (ev : List Ev) (i : Nat) (wr : World) : Prop where
  own : Own wr X mp (M.gone (cG sp Z M.c i) ev)
  kept : Kept X w wr
set_option maxRecDepth 100000 in
set_option maxHeartbeats 4000000 in
theorem back_any {N S T D L n Q P : Nat} (h : Conf N S T D L n Q P) (X : Nat → Prop) (lp mp f lf g cap : Nat) (ov : Bool) (mb : Option Nat) (M : MS) (C : Nat → Cl) (w : World) (hM : LvM M f S D T Q) (hlf : lf < N) (hf : f ≤ 100)
    (hC : ∀ a, a < Q → M.c (f + 2) a = C a) (hO : Own w X mp M) (hX1 : X lp) (hX3 : X g) (hB : Box w lp 80 (LvA mp f N S T ov mb)) (hs : Sps w 0 g (L + T) (spot S D f lf)) :
    Calls Tryz.prog 56 #[.pointer (some ⟨lp, 0, none⟩), .slice (some ⟨g, 0, none⟩) (L + T) cap] w fun e w' =>
      e = .returned (.tuple #[]) ∧ GbAt w X mp f (spot S D f lf) M (fun i => setw (C i) 11 0) (evG S D f lf (L + T)) (L + T) w' := by
  have HT := Lib.hid (fun W => table_at f (N : Int) (S : Int) (T : Int) W hf)
  have hlf2 : lf < 2 ^ D := by rw [h.hN]; exact hlf
  have HSp := Lib.hid (fun i hi => hM.inM (by have := h.s1; omega) h.hL hlf2 (i := i) hi)
  have hLb := h.big.1
  have ht := h.t64
  have hLQ : L + T < Q := by have := h.hn; have := h.le; omega
  have HA : Hid (GbAt w X mp f (spot S D f lf) M (fun i => setw (C i) 11 0) (evG S D f lf 0) 0 w) := Lib.hid ⟨by show Own w X mp (M.gone M.c []); rw [gone_self]; exact hO, Kept.refl _ _⟩
  have HBx := Lib.hid hB
  have HSs := Lib.hid hs
  have HC := Lib.hid hC
  have hM2 := hM.hk
  have hs2 := hM.s2
  have hml := hM.len
  clear h hO hB hs hM hlf2 hlf hC
  go_enter Tryz.func56, Tryz.ntmps56
  go_wp2_with fail
  go_loopw [9] (fun v wr => ∃ i : Nat, v = .int .i64 i ∧ i ≤ L + T ∧ GbAt w X mp f (spot S D f lf) M (fun i => setw (C i) 11 0) (evG S D f lf i) i wr) (fun v _ => L + T - (intOf v).toNat)
  case atStart => exact ⟨0, rfl, by omega, HA.out⟩
  case round =>
    obtain ⟨i, rfl, hi, hS⟩ := hrel
    clear HA
    have HS := Lib.hid hS
    by_cases hin : i < L + T
    · obtain ⟨c0, c1⟩ := (HSs.out.kept hS.kept hX3).cell i hin
      have hBw := hS.kept.box HBx.out hX1
      obtain ⟨hr, ha⟩ := HSp.out i hin
      have hel := evG_len S D f lf i
      have hcell : cG (spot S D f lf) (fun i => setw (C i) 11 0) M.c i (f + 2) i = C i := by
        rw [cG_far _ _ _ _ _ _ (fun j _ e => spot_ne (S := S) (D := D) (f := f) (lf := lf) j (by rw [e]))]
        exact HC.out i (by omega)
      have hsuc : putC (cG (spot S D f lf) (fun i => setw (C i) 11 0) M.c i) (spot S D f lf i).1 (spot S D f lf i).2 (setw (C i) 11 0) = cG (spot S D f lf) (fun i => setw (C i) 11 0) M.c (i + 1) := rfl
      have hev : evG S D f lf (i + 1) = evG S D f lf i ++ [(f + 2, i, false)] ++ [((spot S D f lf i).1, (spot S D f lf i).2, true)] := rfl
      have hown := hS.own
      have hkept := hS.kept
      clear hS HS
      generalize hsp : spot S D f lf i = sp at c0 c1 hr ha hsuc hev
      obtain ⟨sr, sa⟩ := sp
      dsimp only at c0 c1 hr ha hsuc hev
      have HCELL := Lib.hid hcell
      have HSUC := Lib.hid hsuc
      have HEV := Lib.hid hev
      generalize hcc : cG (spot S D f lf) (fun i => setw (C i) 11 0) M.c i = cc at HCELL HSUC hown
      generalize hll : evG S D f lf i = ll at HEV hown hel
      have hel2 : ll.length ≤ 600 := by omega
      have HO := Lib.hid hown
      have HK := Lib.hid hkept
      have HBw := Lib.hid hBw
      clear hown hkept hBw hcell hsuc hev hel hcc hll hsp
      obtain ⟨w9, h9⟩ : ∃ x, x = wr := ⟨_, rfl⟩
      subst h9
      go_upto_region 3 with fail
      clear c0 c1
      obtain ⟨sb, hsb⟩ : ∃ b, w9.heap.size = b := ⟨_, rfl⟩
      obtain ⟨w1', hw1⟩ : ∃ x, w9.alloc (.cells #[.int .i64 (sr : Int), .int .i64 (sa : Int)] 92) = x := ⟨_, rfl⟩
      have hO1 : Own w1' (plus1 X sb) mp (M.gone cc ll) := by rw [← hw1, ← hsb]; exact HO.out.one _
      have hB1 : Box w1' lp 80 (LvA mp f N S T ov mb) := by rw [← hw1]; exact HBw.out.alloc _
      have hs1 : Box w1' sb 92 #[.int .i64 (sr : Int), .int .i64 (sa : Int)] := by rw [← hw1, ← hsb]; exact Box.new w9 _ _
      have hK1 : Kept X w9 w1' := by rw [← hw1]; exact (Kept.refl _ _).alloc _
      rw [hsb, hw1]
      refine held_s (S := fun w' => Box w' lp 80 (LvA mp f N S T ov mb) ∧ Box w' sb 92 #[.int .i64 (sr : Int), .int .i64 (sa : Int)]) 13 rfl (by kernel_rfl) ⟨hB1.drewN 1, hs1.drewN 1⟩ (fun hHeld => ?_)
      simp only [Array.replicate_succ, Array.replicate_zero, List.push_toArray, List.nil_append, List.cons_append]
      have hO2 : Own w1'.drew (plus1 X sb) mp (M.gone cc ll) := hO1.drewN 1
      have hB2 : Box w1'.drew lp 80 (LvA mp f N S T ov mb) := hB1.drewN 1
      have hs2' : Box w1'.drew sb 92 #[.int .i64 (sr : Int), .int .i64 (sa : Int)] := hs1.drewN 1
      have hK2 : Kept X w9 w1'.drew := hK1.drewN 1
      clear hO1 hB1 hs1 hK1 hw1
      generalize w1'.drew = w2 at *
      refine wpAnyH_take (i := 0) (oi := ⟨some 14, _, _, _, _, _⟩) (v := (.pointer (some ⟨lp, 0, none⟩))) rfl (by kernel_rfl) (by kernel_rfl) (by kernel_rfl) (fun _ _ _ h => h) (Or.inl ⟨by rfl, fun w' hw => by go_simp⟩) hHeld ?_
      try simp only [Act.put, List.setIfInBounds_toArray, List.set_cons_zero, List.set_cons_succ]
      refine wpAnyH_take (i := 1) (oi := ⟨some 15, _, _, _, _, _⟩) (v := (.pointer (some ⟨lp, 0, none⟩))) rfl (by kernel_rfl) (by kernel_rfl) (by kernel_rfl) (fun _ _ _ h => h) (Or.inl ⟨by rfl, fun w' hw => by go_simp⟩) hHeld ?_
      try simp only [Act.put, List.setIfInBounds_toArray, List.set_cons_zero, List.set_cons_succ]
      refine wpAnyH_take (i := 2) (oi := ⟨some 16, _, _, _, _, _⟩) (v := (.pointer (some ⟨lp, 0, none⟩))) rfl (by kernel_rfl) (by kernel_rfl) (by kernel_rfl) (fun _ _ _ h => h) (Or.inl ⟨by rfl, fun w' hw => by go_simp⟩) hHeld ?_
      try simp only [Act.put, List.setIfInBounds_toArray, List.set_cons_zero, List.set_cons_succ]
      refine wpAnyH_take (i := 3) (oi := ⟨some 17, _, _, _, _, _⟩) (v := (.pointer (some ⟨mp, 0, none⟩))) rfl (by kernel_rfl) (by kernel_rfl) (by kernel_rfl) (fun _ _ _ h => h) (Or.inl ⟨by rfl, fun w' hw => by (have k0 := lv0 hw.1; have k1 := lv1 hw.1; have k2 := lv2 hw.1; have k3 := lv3 hw.1; have k4 := lv4 hw.1; skip; go_simp)⟩) hHeld ?_
      try simp only [Act.put, List.setIfInBounds_toArray, List.set_cons_zero, List.set_cons_succ]
      refine wpAnyH_take (i := 4) (oi := ⟨some 18, _, _, _, _, _⟩) (v := (.pointer (some ⟨lp, 0, none⟩))) rfl (by kernel_rfl) (by kernel_rfl) (by kernel_rfl) (fun _ _ _ h => h) (Or.inl ⟨by rfl, fun w' hw => by go_simp⟩) hHeld ?_
      try simp only [Act.put, List.setIfInBounds_toArray, List.set_cons_zero, List.set_cons_succ]
      refine wpAnyH_take (i := 5) (oi := ⟨some 19, _, _, _, _, _⟩) (v := (.pointer (some ⟨lp, 0, none⟩))) rfl (by kernel_rfl) (by kernel_rfl) (by kernel_rfl) (fun _ _ _ h => h) (Or.inl ⟨by rfl, fun w' hw => by go_simp⟩) hHeld ?_
      try simp only [Act.put, List.setIfInBounds_toArray, List.set_cons_zero, List.set_cons_succ]
      refine wpAnyH_take (i := 6) (oi := ⟨some 20, _, _, _, _, _⟩) (v := (.pointer (some ⟨lp, 1, none⟩))) rfl (by kernel_rfl) (by kernel_rfl) (by kernel_rfl) (fun _ _ _ h => h) (Or.inl ⟨by rfl, fun w' hw => by go_simp⟩) hHeld ?_
      try simp only [Act.put, List.setIfInBounds_toArray, List.set_cons_zero, List.set_cons_succ]
      refine wpAnyH_take (i := 7) (oi := ⟨some 21, _, _, _, _, _⟩) (v := (.agg #[.int .i64 (f : Int), .int .i64 (N : Int), .int .i64 (S : Int), .int .i64 (T : Int)])) rfl (by kernel_rfl) (by kernel_rfl) (by kernel_rfl) (fun _ _ _ h => h) (Or.inl ⟨by rfl, fun w' hw => by (have k0 := lv0 hw.1; have k1 := lv1 hw.1; have k2 := lv2 hw.1; have k3 := lv3 hw.1; have k4 := lv4 hw.1; skip; go_simp)⟩) hHeld ?_
      try simp only [Act.put, List.setIfInBounds_toArray, List.set_cons_zero, List.set_cons_succ]
      refine wpAnyH_take (i := 9) (oi := ⟨some 23, _, _, _, _, _⟩) (v := (.int .i64 (i : Int))) rfl (by kernel_rfl) (by kernel_rfl) (by kernel_rfl) (fun _ _ _ h => h) (Or.inl ⟨by rfl, fun w' hw => by go_simp⟩) hHeld ?_
      try simp only [Act.put, List.setIfInBounds_toArray, List.set_cons_zero, List.set_cons_succ]
      -- LEFT [8, 10, 11, 12]
      have HO2 := Lib.hid hO2
      have HB2 := Lib.hid hB2
      have HS2 := Lib.hid hs2'
      have HK2 := Lib.hid hK2
      clear hO2 hB2 hs2' hK2
      refine join_at (S := fun w5 cb => Own w5 (plus1 (plus1 X sb) cb) mp (M.gone cc (ll ++ [(f + 2, i, false)])) ∧ Box w5 lp 80 (LvA mp f N S T ov mb) ∧ Box w5 sb 92 #[.int .i64 (sr : Int), .int .i64 (sa : Int)] ∧ Var w5 cb (C i) ∧ Kept X w9 w5 ∧ (lp < cb ∧ sb < cb ∧ w9.heap.size ≤ cb)) (G := ?G3) (fun key => ?_) ?_
      rotate_left
      · refine wpAnyH_ready (rs := [8, 11]) (by kernel_rfl) (by simp) ?_
        refine AllReadyH.cons rfl (fun K hK => ?_) ?_
        · have hO2 := HO2.out
          have hB2 := HB2.out
          have hs2 := HS2.out
          have hK2 := HK2.out
          go_simp
          refine (HT.out _).mono ?_
          rintro e w3 ⟨rfl, hb⟩
          have ho : Only nobody w2 w3 := Only.of_below hb
          have hO3 := hO2.none ho
          have hB3 := hB2.only ho (not_nobody _)
          have hs3 := hs2.only ho (not_nobody _)
          have hK3 := hK2.trans (Kept.of_none ho)
          refine hK.out _ _ ⟨hB3, hs3⟩ (fun hHeld => ?_)
          clear hK K hb ho
          simp only [List.setIfInBounds_toArray, List.set_cons_zero, List.set_cons_succ]
          -- LEFT [10, 11, 12]
          refine wpAnyH_ready (rs := [10, 11]) (by kernel_rfl) (by simp) ?_
          refine AllReadyH.cons rfl (fun K hK => ?_) ?_
          · go_simp
            refine (own_read (plus1 X sb) mp (M.gone cc ll) w3 ((f + 2 : Nat) : Int) (i : Int) hO3 (by rw [gone_len]; omega)).mono ?_
            rintro e w4 ⟨rfl, hO4, hk⟩
            rw [gone_read (by omega) (by omega)] at hO4
            rw [gone_cell (by omega) (by omega), HCELL.out]
            have hB4 := hk.box hB3 (.inl hX1)
            have hs4 := hk.box hs3 (.inr rfl)
            have hK4 := hK3.trans (hk.mono (fun i hi => .inl hi))
            refine hK.out _ _ ⟨hB4, hs4⟩ (fun hHeld => ?_)
            clear hK K hk
            simp only [List.setIfInBounds_toArray, List.set_cons_zero, List.set_cons_succ]
            refine one_ready 11 rfl (by kernel_rfl) (fun K hK => ?_)
            go_simp
            obtain ⟨cb, hcb⟩ : ∃ c, w4.heap.size = c := ⟨_, rfl⟩
            obtain ⟨w5, hw5⟩ : ∃ x, w4.alloc (.cells (CA fun _ => 0) 103) = x := ⟨_, rfl⟩
            have hO5 : Own w5 (plus1 (plus1 X sb) cb) mp (M.gone cc (ll ++ [(f + 2, i, false)])) := by rw [← hw5, ← hcb]; exact hO4.one _
            have hB5 : Box w5 lp 80 (LvA mp f N S T ov mb) := by rw [← hw5]; exact hB4.alloc _
            have hs5 : Box w5 sb 92 #[.int .i64 (sr : Int), .int .i64 (sa : Int)] := by rw [← hw5]; exact hs4.alloc _
            have hC5 : Var w5 cb (fun _ => 0) := by rw [← hw5, ← hcb]; exact Var.new w4 _ _
            have hK5 : Kept X w9 w5 := by rw [← hw5]; exact hK4.alloc _
            have hcn : lp < cb ∧ sb < cb ∧ w9.heap.size ≤ cb := ⟨by rw [← hcb]; exact hB4.lt, by rw [← hcb]; exact hs4.lt, by rw [← hcb]; exact hK4.size⟩
            refine hK.out _ _ ⟨hB4.alloc _, hs4.alloc _⟩ (fun hHeld => ?_)
            change wpAnyH _ _ _ _ _ _ _ _ (w4.alloc (.cells (CA fun _ => 0) 103))
            rw [hw5]
            simp only [hcb]
            clear hK K hw5
            simp only [List.setIfInBounds_toArray, List.set_cons_zero, List.set_cons_succ]
            refine one_ready 12 (o := ⟨none, _, _, _, _, _⟩) rfl (by kernel_rfl) (fun K hK => ?_)
            refine step_store_cell rfl (.tmp 6) (.tmp 24) rfl cb 0 rfl (C i) rfl hC5.there ?_
            have hoc : Only (just cb) w5 (w5.setCells cb 0 (CA (C i)).toList) := only_setCells _ 0 _ (Only.refl _ _) (.inl (just_self cb))
            have hOe := hO5.setCells cb (CA (C i)).toList (.inr rfl)
            have hBe := hB5.only hoc (just_ne (by omega))
            have hse := hs5.only hoc (just_ne (by omega))
            have hCe := hC5.set (C i)
            have hKe := hK5.setCells cb (CA (C i)).toList hcn.2.2
            refine hK.out _ _ ⟨hBe, hse⟩ (fun hHeld => ?_)
            clear hK K hoc
            simp only [List.setIfInBounds_toArray, List.set_cons_zero, List.set_cons_succ]
            generalize w5.setCells cb 0 (CA (C i)).toList = we at hOe hBe hse hCe hKe ⊢
            exact key we cb ⟨hOe, hBe, hse, hCe, hKe, hcn⟩
          · refine AllReadyH.cons rfl (fun K hK => ?_) AllReadyH.nil
            go_simp
            obtain ⟨cb, hcb⟩ : ∃ c, w3.heap.size = c := ⟨_, rfl⟩
            obtain ⟨w4, hw4⟩ : ∃ x, w3.alloc (.cells (CA fun _ => 0) 103) = x := ⟨_, rfl⟩
            have hO4 : Own w4 (plus1 (plus1 X sb) cb) mp (M.gone cc ll) := by rw [← hw4, ← hcb]; exact hO3.one _
            have hB4 : Box w4 lp 80 (LvA mp f N S T ov mb) := by rw [← hw4]; exact hB3.alloc _
            have hs4 : Box w4 sb 92 #[.int .i64 (sr : Int), .int .i64 (sa : Int)] := by rw [← hw4]; exact hs3.alloc _
            have hC4 : Var w4 cb (fun _ => 0) := by rw [← hw4, ← hcb]; exact Var.new w3 _ _
            have hK4 : Kept X w9 w4 := by rw [← hw4]; exact hK3.alloc _
            have hcn : lp < cb ∧ sb < cb ∧ w9.heap.size ≤ cb := ⟨by rw [← hcb]; exact hB3.lt, by rw [← hcb]; exact hs3.lt, by rw [← hcb]; exact hK3.size⟩
            refine hK.out _ _ ⟨hB3.alloc _, hs3.alloc _⟩ (fun hHeld => ?_)
            change wpAnyH _ _ _ _ _ _ _ _ (w3.alloc (.cells (CA fun _ => 0) 103))
            rw [hw4]
            simp only [hcb]
            clear hK K hw4
            simp only [List.setIfInBounds_toArray, List.set_cons_zero, List.set_cons_succ]
            refine one_ready 10 rfl (by kernel_rfl) (fun K hK => ?_)
            go_simp
            refine (own_read (plus1 (plus1 X sb) cb) mp (M.gone cc ll) w4 ((f + 2 : Nat) : Int) (i : Int) hO4 (by rw [gone_len]; omega)).mono ?_
            rintro e w5 ⟨rfl, hO5, hk⟩
            rw [gone_read (by omega) (by omega)] at hO5
            rw [gone_cell (by omega) (by omega), HCELL.out]
            have hB5 := hk.box hB4 (.inl (.inl hX1))
            have hs5 := hk.box hs4 (.inl (.inr rfl))
            have hK5 := hK4.trans (hk.mono (fun i hi => .inl (.inl hi)))
            have hC5 := hC4.kept hk (.inr rfl)
            refine hK.out _ _ ⟨hB5, hs5⟩ (fun hHeld => ?_)
            clear hK K hk
            simp only [List.setIfInBounds_toArray, List.set_cons_zero, List.set_cons_succ]
            refine one_ready 12 (o := ⟨none, _, _, _, _, _⟩) rfl (by kernel_rfl) (fun K hK => ?_)
            refine step_store_cell rfl (.tmp 6) (.tmp 24) rfl cb 0 rfl (C i) rfl hC5.there ?_
            have hoc : Only (just cb) w5 (w5.setCells cb 0 (CA (C i)).toList) := only_setCells _ 0 _ (Only.refl _ _) (.inl (just_self cb))
            have hOe := hO5.setCells cb (CA (C i)).toList (.inr rfl)
            have hBe := hB5.only hoc (just_ne (by omega))
            have hse := hs5.only hoc (just_ne (by omega))
            have hCe := hC5.set (C i)
            have hKe := hK5.setCells cb (CA (C i)).toList hcn.2.2
            refine hK.out _ _ ⟨hBe, hse⟩ (fun hHeld => ?_)
            clear hK K hoc
            simp only [List.setIfInBounds_toArray, List.set_cons_zero, List.set_cons_succ]
            generalize w5.setCells cb 0 (CA (C i)).toList = we at hOe hBe hse hCe hKe ⊢
            exact key we cb ⟨hOe, hBe, hse, hCe, hKe, hcn⟩
        · refine AllReadyH.cons rfl (fun K hK => ?_) AllReadyH.nil
          have hO2 := HO2.out
          have hB2 := HB2.out
          have hs2 := HS2.out
          have hK2 := HK2.out
          go_simp
          obtain ⟨cb, hcb⟩ : ∃ c, w2.heap.size = c := ⟨_, rfl⟩
          obtain ⟨w3, hw3⟩ : ∃ x, w2.alloc (.cells (CA fun _ => 0) 103) = x := ⟨_, rfl⟩
          have hO3 : Own w3 (plus1 (plus1 X sb) cb) mp (M.gone cc ll) := by rw [← hw3, ← hcb]; exact hO2.one _
          have hB3 : Box w3 lp 80 (LvA mp f N S T ov mb) := by rw [← hw3]; exact hB2.alloc _
          have hs3 : Box w3 sb 92 #[.int .i64 (sr : Int), .int .i64 (sa : Int)] := by rw [← hw3]; exact hs2.alloc _
          have hC3 : Var w3 cb (fun _ => 0) := by rw [← hw3, ← hcb]; exact Var.new w2 _ _
          have hK3 : Kept X w9 w3 := by rw [← hw3]; exact hK2.alloc _
          have hcn : lp < cb ∧ sb < cb ∧ w9.heap.size ≤ cb := ⟨by rw [← hcb]; exact hB2.lt, by rw [← hcb]; exact hs2.lt, by rw [← hcb]; exact hK2.size⟩
          refine hK.out _ _ ⟨hB2.alloc _, hs2.alloc _⟩ (fun hHeld => ?_)
          change wpAnyH _ _ _ _ _ _ _ _ (w2.alloc (.cells (CA fun _ => 0) 103))
          rw [hw3]
          simp only [hcb]
          clear hK K hw3
          simp only [List.setIfInBounds_toArray, List.set_cons_zero, List.set_cons_succ]
          refine one_ready 8 rfl (by kernel_rfl) (fun K hK => ?_)
          go_simp
          refine (HT.out _).mono ?_
          rintro e w4 ⟨rfl, hb⟩
          have ho : Only nobody w3 w4 := Only.of_below hb
          have hO4 := hO3.none ho
          have hB4 := hB3.only ho (not_nobody _)
          have hs4 := hs3.only ho (not_nobody _)
          have hK4 := hK3.trans (Kept.of_none ho)
          have hC4 := hC3.nob ho
          refine hK.out _ _ ⟨hB4, hs4⟩ (fun hHeld => ?_)
          clear hK K hb ho
          simp only [List.setIfInBounds_toArray, List.set_cons_zero, List.set_cons_succ]
          refine one_ready 10 rfl (by kernel_rfl) (fun K hK => ?_)
          go_simp
          refine (own_read (plus1 (plus1 X sb) cb) mp (M.gone cc ll) w4 ((f + 2 : Nat) : Int) (i : Int) hO4 (by rw [gone_len]; omega)).mono ?_
          rintro e w5 ⟨rfl, hO5, hk⟩
          rw [gone_read (by omega) (by omega)] at hO5
          rw [gone_cell (by omega) (by omega), HCELL.out]
          have hB5 := hk.box hB4 (.inl (.inl hX1))
          have hs5 := hk.box hs4 (.inl (.inr rfl))
          have hK5 := hK4.trans (hk.mono (fun i hi => .inl (.inl hi)))
          have hC5 := hC4.kept hk (.inr rfl)
          refine hK.out _ _ ⟨hB5, hs5⟩ (fun hHeld => ?_)
          clear hK K hk
          simp only [List.setIfInBounds_toArray, List.set_cons_zero, List.set_cons_succ]
          refine one_ready 12 (o := ⟨none, _, _, _, _, _⟩) rfl (by kernel_rfl) (fun K hK => ?_)
          refine step_store_cell rfl (.tmp 6) (.tmp 24) rfl cb 0 rfl (C i) rfl hC5.there ?_
          have hoc : Only (just cb) w5 (w5.setCells cb 0 (CA (C i)).toList) := only_setCells _ 0 _ (Only.refl _ _) (.inl (just_self cb))
          have hOe := hO5.setCells cb (CA (C i)).toList (.inr rfl)
          have hBe := hB5.only hoc (just_ne (by omega))
          have hse := hs5.only hoc (just_ne (by omega))
          have hCe := hC5.set (C i)
          have hKe := hK5.setCells cb (CA (C i)).toList hcn.2.2
          refine hK.out _ _ ⟨hBe, hse⟩ (fun hHeld => ?_)
          clear hK K hoc
          simp only [List.setIfInBounds_toArray, List.set_cons_zero, List.set_cons_succ]
          generalize w5.setCells cb 0 (CA (C i)).toList = we at hOe hBe hse hCe hKe ⊢
          exact key we cb ⟨hOe, hBe, hse, hCe, hKe, hcn⟩
      intro w5 cb hkey
      obtain ⟨hO5, hB5, hs5, hC5, hK5, hcn⟩ := hkey
      refine wpAnyH_done (by kernel_rfl) ?_ _
      have hfc := hC5.free 11 (by decide)
      have hcc11 := hC5.cell (κ := 11) (by decide)
      have hO6 := hO5.only (Only.setCell (p := ⟨cb, 11, none⟩) (Only.refl (just cb) w5) (.inl (just_self cb)) (.int .u64 0)) (fun j hj => by have e : j = cb := hj; subst e; exact .inr rfl)
      have hB6 := hB5.far (a := ⟨cb, 11, none⟩) (by show lp ≠ cb; omega) (.int .u64 0)
      have hs6 := hs5.far (a := ⟨cb, 11, none⟩) (by show sb ≠ cb; omega) (.int .u64 0)
      have hC6 := hC5.put 11 0
      have hK6 : Kept X w9 (w5.setCell ⟨cb, 11, none⟩ (.int .u64 0)) := Only.setCell (p := ⟨cb, 11, none⟩) hK5 (.inr hcn.2.2) (.int .u64 0)
      have HO6 := Lib.hid hO6
      have HB6 := Lib.hid hB6
      have HS6 := Lib.hid hs6
      have HC6 := Lib.hid hC6
      have HK6 := Lib.hid hK6
      clear hO5 hB5 hs5 hC5 hK5 hO6 hB6 hs6 hC6 hK6
      go_upto_region 5 with fail
      clear hfc hcc11
      generalize w5.setCell ⟨cb, 11, none⟩ (.int .u64 0) = w6 at *
      refine held_s (S := fun w' => Box w' lp 80 (LvA mp f N S T ov mb) ∧ Box w' sb 92 #[.int .i64 (sr : Int), .int .i64 (sa : Int)] ∧ Var w' cb (setw (C i) 11 0)) 10 rfl (by kernel_rfl) ⟨HB6.out.drewN 1, HS6.out.drewN 1, HC6.out.drew⟩ (fun hHeld => ?_)
      simp only [Array.replicate_succ, Array.replicate_zero, List.push_toArray, List.nil_append, List.cons_append]
      have hO7 : Own w6.drew (plus1 (plus1 X sb) cb) mp (M.gone cc (ll ++ [(f + 2, i, false)])) := HO6.out.drewN 1
      have hB7 : Box w6.drew lp 80 (LvA mp f N S T ov mb) := HB6.out.drewN 1
      have hs7 : Box w6.drew sb 92 #[.int .i64 (sr : Int), .int .i64 (sa : Int)] := HS6.out.drewN 1
      have hC7 : Var w6.drew cb (setw (C i) 11 0) := HC6.out.drew
      have hK7 : Kept X w9 w6.drew := HK6.out.drewN 1
      clear HO6 HB6 HS6 HC6 HK6
      generalize w6.drew = w7 at *
      refine wpAnyH_take (i := 0) (oi := ⟨some 26, _, _, _, _, _⟩) (v := (.pointer (some ⟨lp, 0, none⟩))) rfl (by kernel_rfl) (by kernel_rfl) (by kernel_rfl) (fun _ _ _ h => h) (Or.inl ⟨by rfl, fun w' hw => by go_simp⟩) hHeld ?_
      try simp only [Act.put, List.setIfInBounds_toArray, List.set_cons_zero, List.set_cons_succ]
      refine wpAnyH_take (i := 1) (oi := ⟨some 27, _, _, _, _, _⟩) (v := (.pointer (some ⟨lp, 0, none⟩))) rfl (by kernel_rfl) (by kernel_rfl) (by kernel_rfl) (fun _ _ _ h => h) (Or.inl ⟨by rfl, fun w' hw => by go_simp⟩) hHeld ?_
      try simp only [Act.put, List.setIfInBounds_toArray, List.set_cons_zero, List.set_cons_succ]
      refine wpAnyH_take (i := 2) (oi := ⟨some 28, _, _, _, _, _⟩) (v := (.pointer (some ⟨lp, 0, none⟩))) rfl (by kernel_rfl) (by kernel_rfl) (by kernel_rfl) (fun _ _ _ h => h) (Or.inl ⟨by rfl, fun w' hw => by go_simp⟩) hHeld ?_
      try simp only [Act.put, List.setIfInBounds_toArray, List.set_cons_zero, List.set_cons_succ]
      refine wpAnyH_take (i := 3) (oi := ⟨some 29, _, _, _, _, _⟩) (v := (.pointer (some ⟨mp, 0, none⟩))) rfl (by kernel_rfl) (by kernel_rfl) (by kernel_rfl) (fun _ _ _ h => h) (Or.inl ⟨by rfl, fun w' hw => by (have k0 := lv0 hw.1; have k1 := lv1 hw.1; have k2 := lv2 hw.1; have k3 := lv3 hw.1; have k4 := lv4 hw.1; have s0 := hw.2.1.cell 0; have s1 := hw.2.1.cell 1; go_simp)⟩) hHeld ?_
      try simp only [Act.put, List.setIfInBounds_toArray, List.set_cons_zero, List.set_cons_succ]
      refine wpAnyH_take (i := 4) (oi := ⟨some 30, _, _, _, _, _⟩) (v := (.pointer (some ⟨sb, 0, none⟩))) rfl (by kernel_rfl) (by kernel_rfl) (by kernel_rfl) (fun _ _ _ h => h) (Or.inl ⟨by rfl, fun w' hw => by go_simp⟩) hHeld ?_
      try simp only [Act.put, List.setIfInBounds_toArray, List.set_cons_zero, List.set_cons_succ]
      refine wpAnyH_take (i := 5) (oi := ⟨some 31, _, _, _, _, _⟩) (v := (.int .i64 (sr : Int))) rfl (by kernel_rfl) (by kernel_rfl) (by kernel_rfl) (fun _ _ _ h => h) (Or.inl ⟨by rfl, fun w' hw => by (have k0 := lv0 hw.1; have k1 := lv1 hw.1; have k2 := lv2 hw.1; have k3 := lv3 hw.1; have k4 := lv4 hw.1; have s0 := hw.2.1.cell 0; have s1 := hw.2.1.cell 1; go_simp)⟩) hHeld ?_
      try simp only [Act.put, List.setIfInBounds_toArray, List.set_cons_zero, List.set_cons_succ]
      refine wpAnyH_take (i := 6) (oi := ⟨some 32, _, _, _, _, _⟩) (v := (.pointer (some ⟨sb, 1, none⟩))) rfl (by kernel_rfl) (by kernel_rfl) (by kernel_rfl) (fun _ _ _ h => h) (Or.inl ⟨by rfl, fun w' hw => by go_simp⟩) hHeld ?_
      try simp only [Act.put, List.setIfInBounds_toArray, List.set_cons_zero, List.set_cons_succ]
      refine wpAnyH_take (i := 7) (oi := ⟨some 33, _, _, _, _, _⟩) (v := (.int .i64 (sa : Int))) rfl (by kernel_rfl) (by kernel_rfl) (by kernel_rfl) (fun _ _ _ h => h) (Or.inl ⟨by rfl, fun w' hw => by (have k0 := lv0 hw.1; have k1 := lv1 hw.1; have k2 := lv2 hw.1; have k3 := lv3 hw.1; have k4 := lv4 hw.1; have s0 := hw.2.1.cell 0; have s1 := hw.2.1.cell 1; go_simp)⟩) hHeld ?_
      try simp only [Act.put, List.setIfInBounds_toArray, List.set_cons_zero, List.set_cons_succ]
      refine take_row 8 (oi := ⟨some 34, _, _, _, _, _⟩) (CA (setw (C i) 11 0)).toList rfl (by kernel_rfl) (by kernel_rfl) (by kernel_rfl) (fun _ _ _ h => h) (by rfl) _ _ rfl _ _ rfl _ (fun w' hw => hw.2.2.rng) Tryz.underlying103 rfl (infoCellL (setw (C i) 11 0)) hHeld ?_
      try simp only [Act.put, List.setIfInBounds_toArray, List.set_cons_zero, List.set_cons_succ]
      refine one_ready 9 rfl (by kernel_rfl) (fun K hK => ?_)
      go_simp
      refine (own_write _ mp (M.gone cc (ll ++ [(f + 2, i, false)])) w7 (sr : Int) (sa : Int) (setw (C i) 11 0) hO7 (by rw [gone_len, List.length_append]; simp only [List.length_cons, List.length_nil]; omega)).mono ?_
      rintro e w8 ⟨rfl, ho, hk⟩
      rw [gone_write hr ha, HSUC.out, ← HEV.out] at ho
      have hB8 := hk.box hB7 (.inl (.inl hX1))
      have hs8 := hk.box hs7 (.inl (.inr rfl))
      have hC8 := hC7.kept hk (.inr rfl)
      have HE : Hid (GbAt w X mp f (spot S D f lf) M (fun i => setw (C i) 11 0) (evG S D f lf (i + 1)) (i + 1) w8) := Lib.hid ⟨ho.weak (fun j hj => .inl (.inl hj)), (HK.out.trans hK7).trans (hk.mono (fun j hj => .inl (.inl hj)))⟩
      refine hK.out _ _ ⟨hB8, hs8, hC8⟩ (fun hHeld => ?_)
      clear hK K hk ho hO7 hB7 hs7 hC7 hK7 hB8 hs8 hC8
      simp only [List.setIfInBounds_toArray, List.set_cons_zero, List.set_cons_succ]
      refine wpAnyH_done (by kernel_rfl) ?_ _
      go_wp2_with fail
      go_roundw
      case rel => exact ⟨i + 1, by go_num, by omega, HE.out⟩
      case measure => simp [intOf]; omega
    · obtain rfl : i = L + T := by omega
      clear hS
      go_wp2_with fail
      go_end0
      exact ⟨rfl, HS.out⟩
end Go.Proofs.YtmageeohnfomnaaGreat


namespace Go.Proofs.YtmageeohnfomnaaGreat
set_option maxRecDepth 100000
open Go.RowKit Go.ChangeShapes Go.WideShapes Go.ChangeAt

theorem new_item (W : World) (t : TypeId) (a b : Value) {k : Nat} (hk : k = W.heap.size) : ∀ j u, [a, b][j]? = some u → (W.alloc (.cells #[a, b] t)).cell? ((⟨k, 0, none⟩ : Addr).add j) = some u := by
  subst hk
  intro j u h
  have hb := Box.new W t #[a, b]
  have := hb.cell j
  rw [add_plain, Nat.zero_add, this]
  simpa using h
structure NuIn (W : World) (bl bf bi lp mp f N S T : Nat) (ov : Bool) (mb : Option Nat) (lf base : Nat) (v : Value) (l : List It) : Prop where
  xl : Box W bl 37 #[.pointer (some ⟨lp, 0, none⟩)]
  xf : Box W bf 3 #[.int .i64 (lf : Int)]
  xp : Box W lp 80 (LvA mp f N S T ov mb)
  xi : Box W bi 126 #[v]
  own : W.ownsRow base 139 2 v l.length (itl l)
  lt : bl < base ∧ bf < base ∧ lp < base ∧ bi < base
  ne : bi ≠ bl ∧ bi ≠ bf ∧ bi ≠ lp
  size : base ≤ W.heap.size
section
variable {W W' : World} {bl bf bi lp mp f N S T : Nat} {ov : Bool} {mb : Option Nat} {lf base : Nat} {v : Value} {l : List It}
theorem NuIn.nob (h : NuIn W bl bf bi lp mp f N S T ov mb lf base v l) (ho : Only nobody W W') : NuIn W' bl bf bi lp mp f N S T ov mb lf base v l :=
  ⟨h.xl.only ho (not_nobody _), h.xf.only ho (not_nobody _), h.xp.only ho (not_nobody _), h.xi.only ho (not_nobody _), row_stay h.own (fun b _ hl => ho.block b hl (not_nobody _)), h.lt, h.ne, Nat.le_trans h.size ho.size⟩
theorem NuIn.far (h : NuIn W bl bf bi lp mp f N S T ov mb lf base v l) {c : Nat} (ho : Only (just c) W W') (hc : base ≤ c) (hv : v.ownBlock ≠ some c) : NuIn W' bl bf bi lp mp f N S T ov mb lf base v l := by
  obtain ⟨h1, h2, h3, h4⟩ := h.lt
  exact ⟨h.xl.only ho (just_ne (by omega)), h.xf.only ho (just_ne (by omega)), h.xp.only ho (just_ne (by omega)), h.xi.only ho (just_ne (by omega)), own_block h.own (fun g hg => ho.block g (own_lt h.own hg).2 (fun e => hv (by rw [hg]; exact congrArg some e))), h.lt, h.ne, Nat.le_trans h.size ho.size⟩
theorem NuIn.next (h : NuIn W bl bf bi lp mp f N S T ov mb lf base v l) {x : It} {A : Option Addr} {cap : Nat} (ho : W'.ownsRow base 139 2 (.slice A (l.length + 1) cap) (l.length + 1) (itl l ++ [.int .u64 x.1, .int .i64 x.2]))
    (hg : Only (fun j => v.ownBlock = some j) W W') :
    NuIn (W'.setCell ⟨bi, 0, none⟩ (.slice A (l.length + 1) cap)) bl bf bi lp mp f N S T ov mb lf base (.slice A (l.length + 1) cap) (l ++ [x]) ∧ Only (fun j => j = bi ∨ v.ownBlock = some j) W (W'.setCell ⟨bi, 0, none⟩ (.slice A (l.length + 1) cap)) := by
  have hb := fun g hg' => own_lt (g := g) h.own hg'
  obtain ⟨h1, h2, h3, h4⟩ := h.lt
  obtain ⟨e1, e2, e3⟩ := h.ne
  have hov : ∀ j, j < base → ¬ v.ownBlock = some j := fun j hj e => by have := (hb j e).1; omega
  have hO : Only (fun j => j = bi ∨ v.ownBlock = some j) W (W'.setCell ⟨bi, 0, none⟩ (.slice A (l.length + 1) cap)) := (hg.mono (fun _ _ k => .inr k)).setCell (p := ⟨bi, 0, none⟩) (.inl (.inl rfl)) _
  refine ⟨⟨h.xl.only hO (fun k => k.elim (fun e => e1 e.symm) (hov _ h1)), h.xf.only hO (fun k => k.elim (fun e => e2 e.symm) (hov _ h2)), h.xp.only hO (fun k => k.elim (fun e => e3 e.symm) (hov _ h3)),
    (h.xi.only hg (hov _ h4)).put 0 _, ?_, h.lt, h.ne, Nat.le_trans h.size hO.size⟩, hO⟩
  rw [List.length_append, itl_snoc]
  exact own_block ho (fun b e => Below.heap_setCell _ ⟨bi, 0, none⟩ _ b (by have := (own_lt ho e).1; show b ≠ bi; omega))
end
theorem depth_q {D N : Nat} (hD : D ≤ 10) (hN : 2 ^ D = N) (w : World) {n : Nat} : Calls Tryz.prog 62 #[.int .i64 (N : Int)] (w.drewN n) fun e w' => e = .returned (.int .i64 (D : Int)) ∧ ∃ m, w' = w.drewN m := by
  have h1 : N ≤ 2 ^ 10 := by rw [← hN]; exact Nat.pow_le_pow_right (by decide) hD
  refine (path_depth (N : Int) _ (by omega) (by omega)).mono fun e w' ⟨he, hw⟩ => ⟨?_, n, hw⟩
  rw [dpt_two hD hN] at he
  exact he
def numZ (D lf i : Nat) (g : Cl) : Cl := setw g 11 (if g 0 = 1 then ((D : Int) - (itemOf (dpW D lf) g).2) * 4294967296 + (itemOf (dpW D lf) g).1 else 4611686018427387904 + (i : Int))
def NumPost (w : World) (bl bf bi lp mp f N S T : Nat) (ov : Bool) (mb : Option Nat) (lf base : Nat) (v : Value) (l : List It) (D i : Nat) (g : Cl) (e : Ending) (w' : World) : Prop :=
  e = .returned (.agg (CA (numZ D lf i g))) ∧ Only (fun j => j = bi ∨ v.ownBlock = some j) w w' ∧ ∃ v', NuIn w' bl bf bi lp mp f N S T ov mb lf base v' (l ++ [itemOf (dpW D lf) g]) ∧ ∀ b, v'.ownBlock = some b → v.ownBlock = some b ∨ w.heap.size ≤ b
set_option maxRecDepth 100000 in
set_option maxHeartbeats 4000000 in
theorem num_clo {N S T D L n Q P : Nat} (h : Conf N S T D L n Q P) (bl bf bi lp mp f : Nat) (ov : Bool) (mb : Option Nat) (lf base : Nat) (v : Value) (l : List It) (i : Nat) (g : Nat → Int) (w : World) (hlf : lf < N) (hi : i < Q) (hg : GoodC N g) (hll : l.length ≤ 256)
    (hP : NuIn w bl bf bi lp mp f N S T ov mb lf base v l) :
    Calls Tryz.prog 84 #[.int .i64 (i : Int), .agg (CA g), .pointer (some ⟨bl, 0, none⟩), .pointer (some ⟨bf, 0, none⟩), .pointer (some ⟨bi, 0, none⟩)] w (NumPost w bl bf bi lp mp f N S T ov mb lf base v l D i g) := by
  have HIt := Lib.hid (fun W => item_any h lf g W hlf hg)
  have HH := Lib.hid (fun z W => has_any (setw g 11 z) W)
  have hQ := h.big.2.2.2
  obtain ⟨⟨x1, x2⟩, hx⟩ : ∃ x, itemOf (dpW D lf) g = x := ⟨_, rfl⟩
  rw [hx] at HIt
  simp only [itA] at HIt
  have HX := Lib.hid hx
  obtain ⟨cb, hcb⟩ : ∃ b, w.heap.size = b := ⟨_, rfl⟩
  obtain ⟨w2, hw2⟩ : ∃ x, (w.alloc (.cells (CA g) 103)).alloc (.cells #[.int .u64 0, .int .u64 0, .int .u64 0, .int .u64 0, .int .u64 0, .int .u64 0, .int .u64 0, .int .u64 0, .int .u64 0, .int .u64 0, .int .u64 0, .int .u64 0] 103) = x := ⟨_, rfl⟩
  have hV2 : Var w2 cb g := by rw [← hw2, ← hcb]; exact (Var.new w g 103).alloc _
  have hR2 : Var w2 (cb + 1) (fun _ => 0) := by
    rw [← hw2, ← hcb]
    have := Var.new (w.alloc (.cells (CA g) 103)) (fun _ => 0) 103
    have e : (w.alloc (.cells (CA g) 103)).heap.size = w.heap.size + 1 := by simp
    rw [e] at this
    exact this
  have ho2 : Only nobody w w2 := by rw [← hw2]; exact ((Only.refl nobody w).alloc _).alloc _
  have hP2 := hP.nob ho2
  have hlo : base ≤ cb := by rw [← hcb]; exact hP.size
  have hvb : ∀ b, v.ownBlock = some b → b < cb := fun b e => by rw [← hcb]; exact (own_lt hP.own e).2
  have HV2 := Lib.hid hV2
  have HR2 := Lib.hid hR2
  have HO2 := Lib.hid ho2
  have HP2 := Lib.hid hP2
  have HW2 := Lib.hid hw2
  have HCb := Lib.hid hcb
  have HG := Lib.hid hg
  have HVb := Lib.hid hvb
  have hD := h.hD
  have HC := Lib.hid h
  clear hV2 hR2 ho2 hP2 hw2 hcb hP hg hx hvb h
  go_enter Tryz.func84, Tryz.ntmps84
  go_upto_region 1 with fail
  rw [HCb.out]
  simp only [HW2.out]
  refine held_s (S := fun w' => NuIn w' bl bf bi lp mp f N S T ov mb lf base v l ∧ Var w' cb g) 10 rfl (by kernel_rfl) ⟨HP2.out.nob ((Only.refl nobody w2).drewN 1), HV2.out.drew⟩ (fun hHeld => ?_)
  simp only [Array.replicate_succ, Array.replicate_zero, List.push_toArray, List.nil_append, List.cons_append]
  have hV3 : Var w2.drew cb g := HV2.out.drew
  have hR3 : Var w2.drew (cb + 1) (fun _ => 0) := HR2.out.drew
  have hP3 := HP2.out.nob ((Only.refl nobody w2).drewN 1)
  have hO3 : Only nobody w w2.drew := HO2.out.drew
  clear HV2 HR2 HP2 HO2
  change NuIn w2.drew bl bf bi lp mp f N S T ov mb lf base v l at hP3
  generalize w2.drew = w3 at *
  refine wpAnyH_take (i := 0) (oi := ⟨some 10, _, _, _, _, _⟩) (v := (.pointer (some ⟨lp, 0, none⟩))) rfl (by kernel_rfl) (by kernel_rfl) (by kernel_rfl) (fun _ _ _ h => h) (Or.inl ⟨by rfl, fun w' hw => by (have k0 := hw.1.xl.cell 0; have k1 := hw.1.xf.cell 0; have k2 := lv2 hw.1.xp; have k3 := lv3 hw.1.xp; have k4 := lv4 hw.1.xp; go_simp)⟩) hHeld ?_
  try simp only [Act.put, List.setIfInBounds_toArray, List.set_cons_zero, List.set_cons_succ]
  refine wpAnyH_take (i := 1) (oi := ⟨some 11, _, _, _, _, _⟩) (v := (.pointer (some ⟨lp, 0, none⟩))) rfl (by kernel_rfl) (by kernel_rfl) (by kernel_rfl) (fun _ _ _ h => h) (Or.inl ⟨by rfl, fun w' hw => by go_simp⟩) hHeld ?_
  try simp only [Act.put, List.setIfInBounds_toArray, List.set_cons_zero, List.set_cons_succ]
  refine wpAnyH_take (i := 2) (oi := ⟨some 12, _, _, _, _, _⟩) (v := (.pointer (some ⟨lp, 1, none⟩))) rfl (by kernel_rfl) (by kernel_rfl) (by kernel_rfl) (fun _ _ _ h => h) (Or.inl ⟨by rfl, fun w' hw => by go_simp⟩) hHeld ?_
  try simp only [Act.put, List.setIfInBounds_toArray, List.set_cons_zero, List.set_cons_succ]
  refine wpAnyH_take (i := 3) (oi := ⟨some 13, _, _, _, _, _⟩) (v := (.pointer (some ⟨lp, 2, none⟩))) rfl (by kernel_rfl) (by kernel_rfl) (by kernel_rfl) (fun _ _ _ h => h) (Or.inl ⟨by rfl, fun w' hw => by go_simp⟩) hHeld ?_
  try simp only [Act.put, List.setIfInBounds_toArray, List.set_cons_zero, List.set_cons_succ]
  refine wpAnyH_take (i := 4) (oi := ⟨some 14, _, _, _, _, _⟩) (v := (.agg #[.int .i64 (N : Int), .int .i64 (S : Int), .int .i64 (T : Int)])) rfl (by kernel_rfl) (by kernel_rfl) (by kernel_rfl) (fun _ _ _ h => h) (Or.inl ⟨by rfl, fun w' hw => by (have k0 := hw.1.xl.cell 0; have k1 := hw.1.xf.cell 0; have k2 := lv2 hw.1.xp; have k3 := lv3 hw.1.xp; have k4 := lv4 hw.1.xp; go_simp)⟩) hHeld ?_
  try simp only [Act.put, List.setIfInBounds_toArray, List.set_cons_zero, List.set_cons_succ]
  refine wpAnyH_take (i := 6) (oi := ⟨some 16, _, _, _, _, _⟩) (v := (.int .i64 (lf : Int))) rfl (by kernel_rfl) (by kernel_rfl) (by kernel_rfl) (fun _ _ _ h => h) (Or.inl ⟨by rfl, fun w' hw => by (have k0 := hw.1.xl.cell 0; have k1 := hw.1.xf.cell 0; have k2 := lv2 hw.1.xp; have k3 := lv3 hw.1.xp; have k4 := lv4 hw.1.xp; go_simp)⟩) hHeld ?_
  try simp only [Act.put, List.setIfInBounds_toArray, List.set_cons_zero, List.set_cons_succ]
  -- LEFT [5, 7, 8, 9]
  refine take_row 5 (oi := ⟨some 15, _, _, _, _, _⟩) (CA g).toList rfl (by kernel_rfl) (by kernel_rfl) (by kernel_rfl) (fun _ _ _ h => h) (by rfl) _ _ rfl _ _ rfl _ (fun w' hw => hw.2.rng) Tryz.underlying103 rfl (infoCellL g) hHeld ?_
  try simp only [Act.put, List.setIfInBounds_toArray, List.set_cons_zero, List.set_cons_succ]
  refine wpAnyH_ready (rs := [7, 8]) (by kernel_rfl) (by simp) ?_
  refine AllReadyH.cons rfl (fun K hK => ?_) ?_
  · go_simp
    refine (HIt.out _).mono ?_
    rintro e w4 ⟨rfl, ho⟩
    have hV4 := hV3.nob ho
    have hR4 := hR3.nob ho
    have hP4 := hP3.nob ho
    have hO4 := hO3.trans ho
    refine hK.out _ _ ⟨hP4, hV4⟩ (fun hHeld => ?_)
    clear hK K ho
    simp only [List.setIfInBounds_toArray, List.set_cons_zero, List.set_cons_succ]
    refine one_ready 8 rfl (by kernel_rfl) (fun K hK => ?_)
    go_simp
    obtain ⟨ib, hib⟩ : ∃ c, w4.heap.size = c := ⟨_, rfl⟩
    obtain ⟨w5, hw5⟩ : ∃ x, w4.alloc (.cells #[.int .u64 0, .int .i64 0] 139) = x := ⟨_, rfl⟩
    have ho : Only nobody w4 w5 := by rw [← hw5]; exact (Only.refl nobody _).alloc _
    have hI5 : Box w5 ib 139 #[.int .u64 0, .int .i64 0] := by rw [← hw5, ← hib]; exact Box.new w4 _ _
    have hil : cb + 1 < ib := by rw [← hib]; exact hR4.lt
    have hV5 := hV4.nob ho
    have hR5 := hR4.nob ho
    have hP5 := hP4.nob ho
    have hO5 := hO4.trans ho
    refine hK.out _ _ (by rw [hw5]; exact ⟨hP5, hV5⟩) (fun hHeld => ?_)
    change wpAnyH _ _ _ _ _ _ _ _ (w4.alloc (.cells #[.int .u64 0, .int .i64 0] 139))
    rw [hw5] at hHeld ⊢
    simp only [hib]
    clear hK K hw5 ho
    simp only [List.setIfInBounds_toArray, List.set_cons_zero, List.set_cons_succ]
    refine one_ready 9 (o := ⟨none, _, _, _, _, _⟩) rfl (by kernel_rfl) (fun K hK => ?_)
    have q0 := hI5.cell 0
    have q1 := hI5.cell 1
    have q2 := hI5.frozen 0
    have q3 := hI5.frozen 1
    go_simp
    obtain ⟨w7, hw7⟩ : ∃ x, (w5.setCell ⟨ib, 0, none⟩ (.int .u64 x1)).setCell ⟨ib, 1, none⟩ (.int .i64 x2) = x := ⟨_, rfl⟩
    have ho : Only (just ib) w5 w7 := by rw [← hw7]; exact ((Only.refl _ _).setCell (p := ⟨ib, 0, none⟩) (.inl (just_self _)) _).setCell (p := ⟨ib, 1, none⟩) (.inl (just_self _)) _
    have hibw : w.heap.size ≤ ib := by have := HCb.out; omega
    have hO7 : Only nobody w w7 := by rw [← hw7]; exact (hO5.setCell (p := ⟨ib, 0, none⟩) (.inr hibw) _).setCell (p := ⟨ib, 1, none⟩) (.inr hibw) _
    have hI7 : Box w7 ib 139 #[.int .u64 x1, .int .i64 x2] := by rw [← hw7]; exact (hI5.put 0 _).put 1 _
    have hV7 := hV5.only ho (just_ne (by omega))
    have hR7 := hR5.only ho (just_ne (by omega))
    have hP7 := hP5.far ho (by omega) (fun e => by have := HVb.out _ e; omega)
    rw [hw7]
    refine hK.out _ _ ⟨hP7, hV7⟩ (fun hHeld => ?_)
    clear hK K q0 q1 q2 q3 ho hHeld hw7
    simp only [List.setIfInBounds_toArray, List.set_cons_zero, List.set_cons_succ]
    refine wpAnyH_done (by kernel_rfl) ?_ _
    have HV7 := Lib.hid hV7
    have HR7 := Lib.hid hR7
    have HP7 := Lib.hid hP7
    have HO7 := Lib.hid hO7
    have HI7 := Lib.hid hI7
    have i0 := hI7.cell 0
    have i1 := hI7.cell 1
    have b0 := hP7.xi.cell 0
    clear hV7 hR7 hP7 hO7 hI7
    go_wp2_with (with_reducible refine wpList_append_where _ rfl (.tmp 18) (.tmp 20) 126 rfl base 139 (.agg #[.int .u64 0, .int .i64 0]) 2 16 Tryz.underlying126 infoItem rfl (by decide) v l.length (itl l) rfl (row_stay HP7.out.own (fun b _ hb => Below.heap_alloc _ _ b hb)) ⟨w7.heap.size, 0, none⟩ 1 1 [.int .u64 x1, .int .i64 x2] rfl rfl ?c0 ?c1 ?c2 ?c3 ?c4 ?_)
    case c0 => exact new_item w7 _ _ _ rfl
    case c1 => simp [Value.oneCell']
    case c2 => simp only [maxLen]; omega
    case c3 => omega
    case c4 => have := HP7.out.size; simp; omega
    intro A2 cap2 w8 hown hgr hwh
    have hgo : Only (fun j => v.ownBlock = some j) w7 w8 := ((Only.refl _ w7).alloc _).grown hgr (fun k e => .inl e)
    have HN := Lib.hid (HP7.out.next (x := (x1, x2)) hown hgo)
    have hwx : ∀ b, (Value.slice A2 (l.length + 1) cap2).ownBlock = some b → v.ownBlock = some b ∨ cb + 1 < b := fun b e => by
      rcases hwh with hh | hh
      · exact .inl (hh ▸ e)
      · rw [e] at hh
        injection hh with hh
        subst hh
        refine .inr ?_
        have := HI7.out.lt
        simp
        omega
    have HWx := Lib.hid hwx
    have hbx : ¬ v.ownBlock = some bi := fun e => by have := (own_lt HP7.out.own e).1; have := HP7.out.lt.2.2.2; omega
    have q0 := (HP7.out.xi.only hgo hbx).cell 0
    have q1 := (HP7.out.xi.only hgo hbx).frozen 0
    clear hown hgr hwh hwx hgo i0 i1 b0
    go_upto_region 3 with fail
    clear q0 q1
    generalize w8.setCell ⟨bi, 0, none⟩ (.slice A2 (l.length + 1) cap2) = w9 at *
    have hbc : bi < cb := Nat.lt_of_lt_of_le HP7.out.lt.2.2.2 hlo
    have hnv : ∀ b, cb ≤ b → ¬ (b = bi ∨ v.ownBlock = some b) := fun b hb e => by
      rcases e with e | e
      · omega
      · have := HVb.out _ e; omega
    have HV9 := Lib.hid (HV7.out.only HN.out.2 (hnv _ (Nat.le_refl _)))
    have HR9 := Lib.hid (HR7.out.only HN.out.2 (hnv _ (by omega)))
    have HI9 := Lib.hid (HI7.out.only HN.out.2 (hnv _ (by omega)))
    have HN9 := Lib.hid HN.out.1
    have HO9 : Hid (Only (fun j => j = bi ∨ v.ownBlock = some j) w w9) := Lib.hid ((HO7.out.mono (fun _ _ h => absurd h (not_nobody _))).trans HN.out.2)
    clear HN HV7 HR7 HP7 HO7 HI7 hbx hnv
    generalize hA2 : (Value.slice A2 (l.length + 1) cap2) = v2 at *
    have hwi : IntKind.u64.wrap (i : Int) = (i : Int) := by rw [IntKind.wrap_u64]; omega
    have hwa : IntKind.u64.wrap (4611686018427387904 + (i : Int)) = 4611686018427387904 + (i : Int) := by rw [IntKind.wrap_u64]; omega
    have c11 := HV9.out.cell (κ := 11) (by decide)
    have f11 := HV9.out.free 11 (by decide)
    have ho : Only (just cb) w9 (w9.setCell ⟨cb, 11, none⟩ (.int .u64 (4611686018427387904 + (i : Int)))) := (Only.refl _ w9).setCell (p := ⟨cb, 11, none⟩) (.inl (just_self _)) _
    have HVa := Lib.hid (HV9.out.put 11 (4611686018427387904 + (i : Int)))
    have HRa := Lib.hid (HR9.out.only ho (just_ne (by omega)))
    have HIa := Lib.hid (HI9.out.only ho (just_ne (by omega)))
    have hv2 : v2.ownBlock ≠ some cb ∧ v2.ownBlock ≠ some (cb + 1) := ⟨fun e => by
      rcases HWx.out _ e with h | h
      · have := HVb.out _ h; omega
      · omega, fun e => by
      rcases HWx.out _ e with h | h
      · have := HVb.out _ h; omega
      · omega⟩
    have HNa := Lib.hid (HN9.out.far ho hlo hv2.1)
    have HOa := Lib.hid (HO9.out.setCell (p := ⟨cb, 11, none⟩) (.inr (Nat.le_of_eq HCb.out)) (.int .u64 (4611686018427387904 + (i : Int))))
    clear ho HV9 HR9 HI9 HN9 HO9
    go_upto_region 4 with fail
    clear c11 f11
    generalize w9.setCell ⟨cb, 11, none⟩ (.int .u64 (4611686018427387904 + (i : Int))) = wa at *
    go_wp2_with (with_reducible refine wpList_load_cell rfl (.tmp 6) rfl cb 0 rfl (setw g 11 (4611686018427387904 + (i : Int))) HVa.out.rng ?_)
    refine (HH.out _ _).mono ?_
    rintro e wb ⟨rfl, hbb⟩
    have ho : Only nobody wa wb := Only.of_below hbb
    have HVc := Lib.hid (HVa.out.nob ho)
    have HRc := Lib.hid (HRa.out.only ho (not_nobody _))
    have HIc := Lib.hid (HIa.out.only ho (not_nobody _))
    have HNc := Lib.hid (HNa.out.nob ho)
    have HOc := Lib.hid (HOa.out.trans (ho.mono (fun _ _ h => absurd h (not_nobody _))))
    clear ho hbb HVa HRa HIa HNa HOa
    rw [setw_far g 11 _ 0 (by decide)]
    by_cases h0 : g 0 = 1
    · have e0 : (g 0 == 1) = true := by rw [beq_iff_eq]; exact h0
      obtain ⟨q, hq, hx1, hx2⟩ : ∃ q : Nat, q ≤ D ∧ x1 = g 1 ∧ x2 = (q : Int) := by
        have hx := HX.out
        unfold itemOf at hx
        rw [if_pos h0] at hx
        injection hx with h1 h2
        exact ⟨_, deep_le _ _ _ _, h1.symm, h2.symm⟩
      have hb1 := (HG.out.2 h0).1
      have hb2 := (HG.out.1 1)
      rw [e0]
      have k0 := HNc.out.xl.cell 0
      have k2 := lv2 HNc.out.xp
      have i0 := HIc.out.cell 0
      have i1 := HIc.out.cell 1
      have c11 := HVc.out.cell (κ := 11) (by decide)
      have f11 := HVc.out.free 11 (by decide)
      subst hx2
      go_upto_region 5 with fail
      go_quiet (first | (go_at_call 62; exact depth_q HC.out.hD HC.out.hN _))
      go_upto_region 7 with fail
      generalize hK : ((D : Int) - (q : Int)) * 4294967296 + g 1 = key at *
      obtain ⟨wd, hwd⟩ : ∃ x, (wb.drewN nq).setCell ⟨cb, 11, none⟩ (.int .u64 key) = x := ⟨_, rfl⟩
      have ho : Only (just cb) wb wd := by rw [← hwd]; exact ((Only.refl _ wb).drewN _).setCell (p := ⟨cb, 11, none⟩) (.inl (just_self _)) _
      have HVd : Hid (Var wd cb (setw g 11 key)) := by
        have := (HVc.out.drewN nq).put 11 key
        rw [setw_two, hwd] at this
        exact this
      have HRd := Lib.hid (HRc.out.only ho (just_ne (by omega)))
      have HNd := Lib.hid (HNc.out.far ho hlo hv2.1)
      have HOd := Lib.hid (HOc.out.then ho (fun j hj => .inr (by have := HCb.out; have : j = cb := hj; omega)))
      clear ho
      rw [hwd]
      clear hwd
      have HE : Hid (NumPost w bl bf bi lp mp f N S T ov mb lf base v l D i g (.returned (.agg (CA (setw g 11 key)))) (wd.setCells (cb + 1) 0 (CA (setw g 11 key)).toList)) := by
        refine ⟨?_, only_setCells _ 0 _ HOd.out (.inr (by have := HCb.out; omega)), v2, ?_, fun b e => (HWx.out b e).imp id (fun h => by have := HCb.out; omega)⟩
        · unfold numZ
          rw [HX.out, if_pos h0, ← hK, hx1]
        · rw [HX.out]
          exact HNd.out.far (only_setCells _ 0 _ (Only.refl _ _) (.inl (just_self (cb + 1)))) (by omega) hv2.2
      go_wp2_with (first | with_reducible refine wpList_load_cell rfl (.tmp 6) rfl cb 0 rfl (setw g 11 key) HVd.out.rng ?_ | with_reducible refine wpList_store_cell rfl (.tmp 7) (.tmp 45) rfl (cb + 1) 0 rfl (setw g 11 key) rfl HRd.out.there ?_)
      exact bodyPost_ret (v := .agg (CA (setw g 11 key))) (results_one Tryz.results84 rfl (HRd.out.set _).load) rfl HE.out
    · have e0 : (g 0 == 1) = false := by rw [beq_eq_false_iff_ne]; exact h0
      rw [e0]
      have HVd := HVc
      have HRd := HRc
      have HNd := HNc
      have HOd := HOc
      obtain ⟨key, hK⟩ : ∃ z : Int, 4611686018427387904 + (i : Int) = z := ⟨_, rfl⟩
      rw [hK] at HVd ⊢
      generalize wb = wd at *
      have HE : Hid (NumPost w bl bf bi lp mp f N S T ov mb lf base v l D i g (.returned (.agg (CA (setw g 11 key)))) (wd.setCells (cb + 1) 0 (CA (setw g 11 key)).toList)) := by
        refine ⟨?_, only_setCells _ 0 _ HOd.out (.inr (by have := HCb.out; omega)), v2, ?_, fun b e => (HWx.out b e).imp id (fun h => by have := HCb.out; omega)⟩
        · unfold numZ
          rw [HX.out, if_neg h0, ← hK]
        · rw [HX.out]
          exact HNd.out.far (only_setCells _ 0 _ (Only.refl _ _) (.inl (just_self (cb + 1)))) (by omega) hv2.2
      go_wp2_with (first | with_reducible refine wpList_load_cell rfl (.tmp 6) rfl cb 0 rfl (setw g 11 key) HVd.out.rng ?_ | with_reducible refine wpList_store_cell rfl (.tmp 7) (.tmp 45) rfl (cb + 1) 0 rfl (setw g 11 key) rfl HRd.out.there ?_)
      exact bodyPost_ret (v := .agg (CA (setw g 11 key))) (results_one Tryz.results84 rfl (HRd.out.set _).load) rfl HE.out
  · refine AllReadyH.cons rfl (fun K hK => ?_) AllReadyH.nil
    go_simp
    obtain ⟨ib, hib⟩ : ∃ c, w3.heap.size = c := ⟨_, rfl⟩
    obtain ⟨w4, hw4⟩ : ∃ x, w3.alloc (.cells #[.int .u64 0, .int .i64 0] 139) = x := ⟨_, rfl⟩
    have ho : Only nobody w3 w4 := by rw [← hw4]; exact (Only.refl nobody _).alloc _
    have hI4 : Box w4 ib 139 #[.int .u64 0, .int .i64 0] := by rw [← hw4, ← hib]; exact Box.new w3 _ _
    have hil : cb + 1 < ib := by rw [← hib]; exact hR3.lt
    have hV4 := hV3.nob ho
    have hR4 := hR3.nob ho
    have hP4 := hP3.nob ho
    have hO4 := hO3.trans ho
    refine hK.out _ _ (by rw [hw4]; exact ⟨hP4, hV4⟩) (fun hHeld => ?_)
    change wpAnyH _ _ _ _ _ _ _ _ (w3.alloc (.cells #[.int .u64 0, .int .i64 0] 139))
    rw [hw4] at hHeld ⊢
    simp only [hib]
    clear hK K hw4 ho
    simp only [List.setIfInBounds_toArray, List.set_cons_zero, List.set_cons_succ]
    refine one_ready 7 rfl (by kernel_rfl) (fun K hK => ?_)
    go_simp
    refine (HIt.out _).mono ?_
    rintro e w5 ⟨rfl, ho⟩
    have hV5 := hV4.nob ho
    have hR5 := hR4.nob ho
    have hP5 := hP4.nob ho
    have hO5 := hO4.trans ho
    have hI5 := hI4.only ho (not_nobody _)
    refine hK.out _ _ ⟨hP5, hV5⟩ (fun hHeld => ?_)
    clear hK K ho
    simp only [List.setIfInBounds_toArray, List.set_cons_zero, List.set_cons_succ]
    refine one_ready 9 (o := ⟨none, _, _, _, _, _⟩) rfl (by kernel_rfl) (fun K hK => ?_)
    have q0 := hI5.cell 0
    have q1 := hI5.cell 1
    have q2 := hI5.frozen 0
    have q3 := hI5.frozen 1
    go_simp
    obtain ⟨w7, hw7⟩ : ∃ x, (w5.setCell ⟨ib, 0, none⟩ (.int .u64 x1)).setCell ⟨ib, 1, none⟩ (.int .i64 x2) = x := ⟨_, rfl⟩
    have ho : Only (just ib) w5 w7 := by rw [← hw7]; exact ((Only.refl _ _).setCell (p := ⟨ib, 0, none⟩) (.inl (just_self _)) _).setCell (p := ⟨ib, 1, none⟩) (.inl (just_self _)) _
    have hibw : w.heap.size ≤ ib := by have := HCb.out; omega
    have hO7 : Only nobody w w7 := by rw [← hw7]; exact (hO5.setCell (p := ⟨ib, 0, none⟩) (.inr hibw) _).setCell (p := ⟨ib, 1, none⟩) (.inr hibw) _
    have hI7 : Box w7 ib 139 #[.int .u64 x1, .int .i64 x2] := by rw [← hw7]; exact (hI5.put 0 _).put 1 _
    have hV7 := hV5.only ho (just_ne (by omega))
    have hR7 := hR5.only ho (just_ne (by omega))
    have hP7 := hP5.far ho (by omega) (fun e => by have := HVb.out _ e; omega)
    rw [hw7]
    refine hK.out _ _ ⟨hP7, hV7⟩ (fun hHeld => ?_)
    clear hK K q0 q1 q2 q3 ho hHeld hw7
    simp only [List.setIfInBounds_toArray, List.set_cons_zero, List.set_cons_succ]
    refine wpAnyH_done (by kernel_rfl) ?_ _
    have HV7 := Lib.hid hV7
    have HR7 := Lib.hid hR7
    have HP7 := Lib.hid hP7
    have HO7 := Lib.hid hO7
    have HI7 := Lib.hid hI7
    have i0 := hI7.cell 0
    have i1 := hI7.cell 1
    have b0 := hP7.xi.cell 0
    clear hV7 hR7 hP7 hO7 hI7
    go_wp2_with (with_reducible refine wpList_append_where _ rfl (.tmp 18) (.tmp 20) 126 rfl base 139 (.agg #[.int .u64 0, .int .i64 0]) 2 16 Tryz.underlying126 infoItem rfl (by decide) v l.length (itl l) rfl (row_stay HP7.out.own (fun b _ hb => Below.heap_alloc _ _ b hb)) ⟨w7.heap.size, 0, none⟩ 1 1 [.int .u64 x1, .int .i64 x2] rfl rfl ?c0 ?c1 ?c2 ?c3 ?c4 ?_)
    case c0 => exact new_item w7 _ _ _ rfl
    case c1 => simp [Value.oneCell']
    case c2 => simp only [maxLen]; omega
    case c3 => omega
    case c4 => have := HP7.out.size; simp; omega
    intro A2 cap2 w8 hown hgr hwh
    have hgo : Only (fun j => v.ownBlock = some j) w7 w8 := ((Only.refl _ w7).alloc _).grown hgr (fun k e => .inl e)
    have HN := Lib.hid (HP7.out.next (x := (x1, x2)) hown hgo)
    have hwx : ∀ b, (Value.slice A2 (l.length + 1) cap2).ownBlock = some b → v.ownBlock = some b ∨ cb + 1 < b := fun b e => by
      rcases hwh with hh | hh
      · exact .inl (hh ▸ e)
      · rw [e] at hh
        injection hh with hh
        subst hh
        refine .inr ?_
        have := HI7.out.lt
        simp
        omega
    have HWx := Lib.hid hwx
    have hbx : ¬ v.ownBlock = some bi := fun e => by have := (own_lt HP7.out.own e).1; have := HP7.out.lt.2.2.2; omega
    have q0 := (HP7.out.xi.only hgo hbx).cell 0
    have q1 := (HP7.out.xi.only hgo hbx).frozen 0
    clear hown hgr hwh hwx hgo i0 i1 b0
    go_upto_region 3 with fail
    clear q0 q1
    generalize w8.setCell ⟨bi, 0, none⟩ (.slice A2 (l.length + 1) cap2) = w9 at *
    have hbc : bi < cb := Nat.lt_of_lt_of_le HP7.out.lt.2.2.2 hlo
    have hnv : ∀ b, cb ≤ b → ¬ (b = bi ∨ v.ownBlock = some b) := fun b hb e => by
      rcases e with e | e
      · omega
      · have := HVb.out _ e; omega
    have HV9 := Lib.hid (HV7.out.only HN.out.2 (hnv _ (Nat.le_refl _)))
    have HR9 := Lib.hid (HR7.out.only HN.out.2 (hnv _ (by omega)))
    have HI9 := Lib.hid (HI7.out.only HN.out.2 (hnv _ (by omega)))
    have HN9 := Lib.hid HN.out.1
    have HO9 : Hid (Only (fun j => j = bi ∨ v.ownBlock = some j) w w9) := Lib.hid ((HO7.out.mono (fun _ _ h => absurd h (not_nobody _))).trans HN.out.2)
    clear HN HV7 HR7 HP7 HO7 HI7 hbx hnv
    generalize hA2 : (Value.slice A2 (l.length + 1) cap2) = v2 at *
    have hwi : IntKind.u64.wrap (i : Int) = (i : Int) := by rw [IntKind.wrap_u64]; omega
    have hwa : IntKind.u64.wrap (4611686018427387904 + (i : Int)) = 4611686018427387904 + (i : Int) := by rw [IntKind.wrap_u64]; omega
    have c11 := HV9.out.cell (κ := 11) (by decide)
    have f11 := HV9.out.free 11 (by decide)
    have ho : Only (just cb) w9 (w9.setCell ⟨cb, 11, none⟩ (.int .u64 (4611686018427387904 + (i : Int)))) := (Only.refl _ w9).setCell (p := ⟨cb, 11, none⟩) (.inl (just_self _)) _
    have HVa := Lib.hid (HV9.out.put 11 (4611686018427387904 + (i : Int)))
    have HRa := Lib.hid (HR9.out.only ho (just_ne (by omega)))
    have HIa := Lib.hid (HI9.out.only ho (just_ne (by omega)))
    have hv2 : v2.ownBlock ≠ some cb ∧ v2.ownBlock ≠ some (cb + 1) := ⟨fun e => by
      rcases HWx.out _ e with h | h
      · have := HVb.out _ h; omega
      · omega, fun e => by
      rcases HWx.out _ e with h | h
      · have := HVb.out _ h; omega
      · omega⟩
    have HNa := Lib.hid (HN9.out.far ho hlo hv2.1)
    have HOa := Lib.hid (HO9.out.setCell (p := ⟨cb, 11, none⟩) (.inr (Nat.le_of_eq HCb.out)) (.int .u64 (4611686018427387904 + (i : Int))))
    clear ho HV9 HR9 HI9 HN9 HO9
    go_upto_region 4 with fail
    clear c11 f11
    generalize w9.setCell ⟨cb, 11, none⟩ (.int .u64 (4611686018427387904 + (i : Int))) = wa at *
    go_wp2_with (with_reducible refine wpList_load_cell rfl (.tmp 6) rfl cb 0 rfl (setw g 11 (4611686018427387904 + (i : Int))) HVa.out.rng ?_)
    refine (HH.out _ _).mono ?_
    rintro e wb ⟨rfl, hbb⟩
    have ho : Only nobody wa wb := Only.of_below hbb
    have HVc := Lib.hid (HVa.out.nob ho)
    have HRc := Lib.hid (HRa.out.only ho (not_nobody _))
    have HIc := Lib.hid (HIa.out.only ho (not_nobody _))
    have HNc := Lib.hid (HNa.out.nob ho)
    have HOc := Lib.hid (HOa.out.trans (ho.mono (fun _ _ h => absurd h (not_nobody _))))
    clear ho hbb HVa HRa HIa HNa HOa
    rw [setw_far g 11 _ 0 (by decide)]
    by_cases h0 : g 0 = 1
    · have e0 : (g 0 == 1) = true := by rw [beq_iff_eq]; exact h0
      obtain ⟨q, hq, hx1, hx2⟩ : ∃ q : Nat, q ≤ D ∧ x1 = g 1 ∧ x2 = (q : Int) := by
        have hx := HX.out
        unfold itemOf at hx
        rw [if_pos h0] at hx
        injection hx with h1 h2
        exact ⟨_, deep_le _ _ _ _, h1.symm, h2.symm⟩
      have hb1 := (HG.out.2 h0).1
      have hb2 := (HG.out.1 1)
      rw [e0]
      have k0 := HNc.out.xl.cell 0
      have k2 := lv2 HNc.out.xp
      have i0 := HIc.out.cell 0
      have i1 := HIc.out.cell 1
      have c11 := HVc.out.cell (κ := 11) (by decide)
      have f11 := HVc.out.free 11 (by decide)
      subst hx2
      go_upto_region 5 with fail
      go_quiet (first | (go_at_call 62; exact depth_q HC.out.hD HC.out.hN _))
      go_upto_region 7 with fail
      generalize hK : ((D : Int) - (q : Int)) * 4294967296 + g 1 = key at *
      obtain ⟨wd, hwd⟩ : ∃ x, (wb.drewN nq).setCell ⟨cb, 11, none⟩ (.int .u64 key) = x := ⟨_, rfl⟩
      have ho : Only (just cb) wb wd := by rw [← hwd]; exact ((Only.refl _ wb).drewN _).setCell (p := ⟨cb, 11, none⟩) (.inl (just_self _)) _
      have HVd : Hid (Var wd cb (setw g 11 key)) := by
        have := (HVc.out.drewN nq).put 11 key
        rw [setw_two, hwd] at this
        exact this
      have HRd := Lib.hid (HRc.out.only ho (just_ne (by omega)))
      have HNd := Lib.hid (HNc.out.far ho hlo hv2.1)
      have HOd := Lib.hid (HOc.out.then ho (fun j hj => .inr (by have := HCb.out; have : j = cb := hj; omega)))
      clear ho
      rw [hwd]
      clear hwd
      have HE : Hid (NumPost w bl bf bi lp mp f N S T ov mb lf base v l D i g (.returned (.agg (CA (setw g 11 key)))) (wd.setCells (cb + 1) 0 (CA (setw g 11 key)).toList)) := by
        refine ⟨?_, only_setCells _ 0 _ HOd.out (.inr (by have := HCb.out; omega)), v2, ?_, fun b e => (HWx.out b e).imp id (fun h => by have := HCb.out; omega)⟩
        · unfold numZ
          rw [HX.out, if_pos h0, ← hK, hx1]
        · rw [HX.out]
          exact HNd.out.far (only_setCells _ 0 _ (Only.refl _ _) (.inl (just_self (cb + 1)))) (by omega) hv2.2
      go_wp2_with (first | with_reducible refine wpList_load_cell rfl (.tmp 6) rfl cb 0 rfl (setw g 11 key) HVd.out.rng ?_ | with_reducible refine wpList_store_cell rfl (.tmp 7) (.tmp 45) rfl (cb + 1) 0 rfl (setw g 11 key) rfl HRd.out.there ?_)
      exact bodyPost_ret (v := .agg (CA (setw g 11 key))) (results_one Tryz.results84 rfl (HRd.out.set _).load) rfl HE.out
    · have e0 : (g 0 == 1) = false := by rw [beq_eq_false_iff_ne]; exact h0
      rw [e0]
      have HVd := HVc
      have HRd := HRc
      have HNd := HNc
      have HOd := HOc
      obtain ⟨key, hK⟩ : ∃ z : Int, 4611686018427387904 + (i : Int) = z := ⟨_, rfl⟩
      rw [hK] at HVd ⊢
      generalize wb = wd at *
      have HE : Hid (NumPost w bl bf bi lp mp f N S T ov mb lf base v l D i g (.returned (.agg (CA (setw g 11 key)))) (wd.setCells (cb + 1) 0 (CA (setw g 11 key)).toList)) := by
        refine ⟨?_, only_setCells _ 0 _ HOd.out (.inr (by have := HCb.out; omega)), v2, ?_, fun b e => (HWx.out b e).imp id (fun h => by have := HCb.out; omega)⟩
        · unfold numZ
          rw [HX.out, if_neg h0, ← hK]
        · rw [HX.out]
          exact HNd.out.far (only_setCells _ 0 _ (Only.refl _ _) (.inl (just_self (cb + 1)))) (by omega) hv2.2
      go_wp2_with (first | with_reducible refine wpList_load_cell rfl (.tmp 6) rfl cb 0 rfl (setw g 11 key) HVd.out.rng ?_ | with_reducible refine wpList_store_cell rfl (.tmp 7) (.tmp 45) rfl (cb + 1) 0 rfl (setw g 11 key) rfl HRd.out.there ?_)
      exact bodyPost_ret (v := .agg (CA (setw g 11 key))) (results_one Tryz.results84 rfl (HRd.out.set _).load) rfl HE.out
end Go.Proofs.YtmageeohnfomnaaGreat

