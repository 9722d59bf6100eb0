/- Texts of ours put together: LevelFetch. -/
import Derived.Test.YtdbjaaalngbpgaaGreatG34
/- level: fetch: the cells of a way and the stash are laid into the table, but the block's, which is told. -/
namespace Go.Proofs.YtdbjaaalngbpgaaGreat
set_option maxRecDepth 100000
open Go.RowKit Go.ChangeShapes Go.WideShapes Go.ChangeAt

/-- In the middle of fetching. -/
structure FeAt (w : World) (X : Nat → Prop) (mp f S D T lf bw : Nat) (id : Int) (nb : Cl) (M : MS) (i : Nat) (wr : World) : Prop where
  own : Own wr X mp (M.gone (cT (f + 2) (laidX S D T lf (cellsE f M.c) id nb) M.c i) (evF S D T f lf i))
  kept : Kept (fun j => X j ∧ j ≠ bw) w wr
  was : Var wr bw (wasC (fun j => M.c (spot S D f lf j).1 (spot S D f lf j).2) id i)
set_option maxRecDepth 100000 in
set_option maxHeartbeats 4000000 in
theorem fetch_any {N S T D L n Q P : Nat} (h : Conf N S T D L n Q P) (X : Nat → Prop) (lp mp f lf bw g cap : Nat) (ov : Bool) (mb : Option Nat) (id : Int) (nb : Cl) (M : MS) (w : World) (hM : LvM M f S D T Q) (hlf : lf < N) (hf : f ≤ 100)
    (hid : 0 ≤ id ∧ id ≤ 18446744073709551615) (hO : Own w X mp M) (hX1 : X lp) (hX2 : X bw) (hX3 : X g) (hne : lp ≠ bw ∧ g ≠ bw) (hB : Box w lp 98 (LvA mp f N S T ov mb)) (hV : Var w bw nul) (hs : Sps w 0 g (L + T) (spot S D f lf)) :
    Calls Tryz.prog 46 #[.pointer (some ⟨lp, 0, none⟩), .slice (some ⟨g, 0, none⟩) (L + T) cap, .int .u64 id, .func (.func 47) #[] #[.pointer (some ⟨bw, 0, none⟩)]] w fun e w' =>
      e = .returned (.tuple #[]) ∧ FeAt w X mp f S D T lf bw id nb M (L + T) w' := by
  have HT := Lib.hid (fun W => table_at f (N : Int) (S : Int) (T : Int) W hf)
  have hlf2 : lf < 2 ^ D := by rw [h.hN]; exact hlf
  have HSp := Lib.hid (fun i hi => hM.inM (by have := h.s1; omega) h.hL hlf2 (i := i) hi)
  have HLy := Lib.hid (fun i (hi : i < L + T) => lay_at S D T f lf M.c id nb i (by rw [h.hL]; exact hi))
  have HEv : Hid (∀ i, i < L + T → evF S D T f lf (i + 1) = evF S D T f lf i ++ [((spot S D f lf i).1, (spot S D f lf i).2, false)] ++ [(f + 2, i, true)]) := Lib.hid (fun i hi => by
    show evF S D T f lf i ++ (if i < (D + 1) * S + T then _ else _) ++ _ = _
    rw [if_pos (by rw [h.hL]; exact hi)])
  have hLb := h.big.1
  have ht := h.t64
  have hLQ : L + T < Q := by have := h.hn; have := h.le; omega
  have HA : Hid (FeAt w X mp f S D T lf bw id nb M 0 w) := Lib.hid ⟨by rw [cT_zero]; show Own w X mp (M.gone M.c []); rw [gone_self]; exact hO, Kept.refl _ _, hV⟩
  have HBx := Lib.hid hB
  have HSs := Lib.hid hs
  have HM := Lib.hid hM
  clear h hO hV hB hs hM hlf2 hlf
  go_enter Tryz.func46, Tryz.ntmps46
  go_wp2_with fail
  go_loopw [14] (fun v wr => ∃ i : Nat, v = .int .i64 i ∧ i ≤ L + T ∧ FeAt w X mp f S D T lf bw id nb M i wr) (fun v _ => L + T - (intOf v).toNat)
  case atStart => exact ⟨0, rfl, by omega, HA.out⟩
  case round =>
    obtain ⟨i, rfl, hi, hS⟩ := hrel
    clear HA
    have HS := Lib.hid hS
    by_cases hin : i < L + T
    · obtain ⟨c0, c1⟩ := (hS.kept.block g HSs.out.lt (fun k => k ⟨hX3, hne.2⟩) |> HSs.out.block hS.kept.size).cell i hin
      have hBw := hS.kept.box HBx.out ⟨hX1, hne.1⟩
      obtain ⟨hr, ha⟩ := HSp.out i hin
      have hly := HLy.out i hin
      have hev := HEv.out i hin
      have hne2 := spot_ne (S := S) (D := D) (f := f) (lf := lf) i
      have hwd := HM.out.wd (spot S D f lf i).1 (spot S D f lf i).2
      have hwas : wasC (fun j => M.c (spot S D f lf j).1 (spot S D f lf j).2) id (i + 1) = if decide (M.c (spot S D f lf i).1 (spot S D f lf i).2 0 = 1) && decide (M.c (spot S D f lf i).1 (spot S D f lf i).2 1 = id) then M.c (spot S D f lf i).1 (spot S D f lf i).2 else wasC (fun j => M.c (spot S D f lf j).1 (spot S D f lf j).2) id i := rfl
      have huw := wasC_wd (E := fun j => M.c (spot S D f lf j).1 (spot S D f lf j).2) (fun j => HM.out.wd _ _) id i
      have hel := evF_len S D T f lf i
      have hml := HM.out.len
      have hsuc := cT_succ (t := f + 2) (X := laidX S D T lf (cellsE f M.c) id nb) (c := M.c) (i := i)
      have hcell : cT (f + 2) (laidX S D T lf (cellsE f M.c) id nb) M.c i (spot S D f lf i).1 (spot S D f lf i).2 = M.c (spot S D f lf i).1 (spot S D f lf i).2 := cT_far hne2
      have hown := hS.own
      have hkept := hS.kept
      have hvar := hS.was
      have hk2 := HM.out.hk
      have hs2 := HM.out.s2
      clear hS HS
      generalize spot S D f lf i = sp at *
      obtain ⟨sr, sa⟩ := sp
      dsimp only at hr ha hly hev hne2 hwd hwas hcell c0 c1
      generalize hF : M.c sr sa = F at *
      generalize wasC (fun j => M.c (spot S D f lf j).1 (spot S D f lf j).2) id i = U at *
      generalize hlx : laidX S D T lf (cellsE f M.c) id nb = LX at *
      have HF := Lib.hid hF
      have HLx := Lib.hid hlx
      have HEV := Lib.hid hev
      have HSUC := Lib.hid hsuc
      have HCELL := Lib.hid hcell
      have HWD := Lib.hid hwd
      have HUW := Lib.hid huw
      generalize hcc : cT (f + 2) LX M.c i = cc at *
      generalize hll : evF S D T f lf i = ll at *
      have hel2 : ll.length ≤ 400 := by omega
      have hE1 := me_mk (F 0) 1
      have hE2 := me_mk (F 1) id
      generalize decide (F 0 = 1) = b1 at *
      generalize decide (F 1 = id) = b2 at *
      have HE1 := Lib.hid hE1
      have HE2 := Lib.hid hE2
      have HLY := Lib.hid hly
      have HWAS := Lib.hid hwas
      clear hly hev hwas hsuc hcell hwd huw hF hlx hel hcc hll hE1 hE2
      have HO := Lib.hid hown
      have HK := Lib.hid hkept
      have HV := Lib.hid hvar
      have HBw := Lib.hid hBw
      clear hown hkept hvar hBw
      obtain ⟨w9, h9⟩ : ∃ x, x = wr := ⟨_, rfl⟩
      subst h9
      go_upto_region 3 with fail
      clear c0 c1
      obtain ⟨sb, hsb⟩ : ∃ b, w9.heap.size = b := ⟨_, rfl⟩
      obtain ⟨w1, hw1⟩ : ∃ x, w9.alloc (.cells #[.int .i64 (sr : Int), .int .i64 (sa : Int)] 124) = x := ⟨_, rfl⟩
      have hO1 : Own w1 (plus1 X sb) mp (M.gone cc ll) := by rw [← hw1, ← hsb]; exact HO.out.one _
      have hB1 : Box w1 lp 98 (LvA mp f N S T ov mb) := by rw [← hw1]; exact HBw.out.alloc _
      have hs1 : Box w1 sb 124 #[.int .i64 (sr : Int), .int .i64 (sa : Int)] := by rw [← hw1, ← hsb]; exact Box.new w9 _ _
      have hV1 : Var w1 bw U := by rw [← hw1]; exact HV.out.alloc _
      have hK1 : Kept (fun j => X j ∧ j ≠ bw) w w1 := by rw [← hw1]; exact HK.out.alloc _
      rw [hsb, hw1]
      refine held_s (S := fun w' => Box w' lp 98 (LvA mp f N S T ov mb) ∧ Box w' sb 124 #[.int .i64 (sr : Int), .int .i64 (sa : Int)]) 11 rfl (by kernel_rfl) ⟨hB1.drewN 1, hs1.drewN 1⟩ (fun hHeld => ?_)
      simp only [Array.replicate_succ, Array.replicate_zero, List.push_toArray, List.nil_append, List.cons_append]
      have hO2 : Own w1.drew (plus1 X sb) mp (M.gone cc ll) := hO1.drewN 1
      have hB2 : Box w1.drew lp 98 (LvA mp f N S T ov mb) := hB1.drewN 1
      have hs2' : Box w1.drew sb 124 #[.int .i64 (sr : Int), .int .i64 (sa : Int)] := hs1.drewN 1
      have hV2 : Var w1.drew bw U := hV1.drew
      have hK2 : Kept (fun j => X j ∧ j ≠ bw) w w1.drew := hK1.drewN 1
      clear hO1 hB1 hs1 hV1 hK1 hw1
      generalize w1.drew = w2 at *
      refine wpAnyH_take (i := 0) (oi := ⟨some 19, _, _, _, _, _⟩) (v := (.pointer (some ⟨lp, 0, none⟩))) rfl (by kernel_rfl) (by kernel_rfl) (by kernel_rfl) (fun _ _ _ h => h) (Or.inl ⟨by rfl, fun w' hw => by go_simp⟩) hHeld ?_
      try simp only [Act.put, List.setIfInBounds_toArray, List.set_cons_zero, List.set_cons_succ]
      refine wpAnyH_take (i := 1) (oi := ⟨some 20, _, _, _, _, _⟩) (v := (.pointer (some ⟨lp, 0, none⟩))) rfl (by kernel_rfl) (by kernel_rfl) (by kernel_rfl) (fun _ _ _ h => h) (Or.inl ⟨by rfl, fun w' hw => by go_simp⟩) hHeld ?_
      try simp only [Act.put, List.setIfInBounds_toArray, List.set_cons_zero, List.set_cons_succ]
      refine wpAnyH_take (i := 2) (oi := ⟨some 21, _, _, _, _, _⟩) (v := (.pointer (some ⟨lp, 0, none⟩))) rfl (by kernel_rfl) (by kernel_rfl) (by kernel_rfl) (fun _ _ _ h => h) (Or.inl ⟨by rfl, fun w' hw => by go_simp⟩) hHeld ?_
      try simp only [Act.put, List.setIfInBounds_toArray, List.set_cons_zero, List.set_cons_succ]
      refine wpAnyH_take (i := 3) (oi := ⟨some 22, _, _, _, _, _⟩) (v := (.pointer (some ⟨mp, 0, none⟩))) rfl (by kernel_rfl) (by kernel_rfl) (by kernel_rfl) (fun _ _ _ h => h) (Or.inl ⟨by rfl, fun w' hw => by (have k0 := lv0 hw.1; have k1 := lv1 hw.1; have k2 := lv2 hw.1; have k3 := lv3 hw.1; have k4 := lv4 hw.1; have s0 := hw.2.cell 0; have s1 := hw.2.cell 1; go_simp)⟩) hHeld ?_
      try simp only [Act.put, List.setIfInBounds_toArray, List.set_cons_zero, List.set_cons_succ]
      refine wpAnyH_take (i := 4) (oi := ⟨some 23, _, _, _, _, _⟩) (v := (.pointer (some ⟨sb, 0, none⟩))) rfl (by kernel_rfl) (by kernel_rfl) (by kernel_rfl) (fun _ _ _ h => h) (Or.inl ⟨by rfl, fun w' hw => by go_simp⟩) hHeld ?_
      try simp only [Act.put, List.setIfInBounds_toArray, List.set_cons_zero, List.set_cons_succ]
      refine wpAnyH_take (i := 5) (oi := ⟨some 24, _, _, _, _, _⟩) (v := (.int .i64 (sr : Int))) rfl (by kernel_rfl) (by kernel_rfl) (by kernel_rfl) (fun _ _ _ h => h) (Or.inl ⟨by rfl, fun w' hw => by (have k0 := lv0 hw.1; have k1 := lv1 hw.1; have k2 := lv2 hw.1; have k3 := lv3 hw.1; have k4 := lv4 hw.1; have s0 := hw.2.cell 0; have s1 := hw.2.cell 1; go_simp)⟩) hHeld ?_
      try simp only [Act.put, List.setIfInBounds_toArray, List.set_cons_zero, List.set_cons_succ]
      refine wpAnyH_take (i := 6) (oi := ⟨some 25, _, _, _, _, _⟩) (v := (.pointer (some ⟨sb, 1, none⟩))) rfl (by kernel_rfl) (by kernel_rfl) (by kernel_rfl) (fun _ _ _ h => h) (Or.inl ⟨by rfl, fun w' hw => by go_simp⟩) hHeld ?_
      try simp only [Act.put, List.setIfInBounds_toArray, List.set_cons_zero, List.set_cons_succ]
      refine wpAnyH_take (i := 7) (oi := ⟨some 26, _, _, _, _, _⟩) (v := (.int .i64 (sa : Int))) rfl (by kernel_rfl) (by kernel_rfl) (by kernel_rfl) (fun _ _ _ h => h) (Or.inl ⟨by rfl, fun w' hw => by (have k0 := lv0 hw.1; have k1 := lv1 hw.1; have k2 := lv2 hw.1; have k3 := lv3 hw.1; have k4 := lv4 hw.1; have s0 := hw.2.cell 0; have s1 := hw.2.cell 1; go_simp)⟩) hHeld ?_
      try simp only [Act.put, List.setIfInBounds_toArray, List.set_cons_zero, List.set_cons_succ]
      -- LEFT [8, 9, 10]
      have HO2 := Lib.hid hO2
      have HB2 := Lib.hid hB2
      have HS2 := Lib.hid hs2'
      have HV2 := Lib.hid hV2
      have HK2 := Lib.hid hK2
      clear hO2 hB2 hs2' hV2 hK2
      refine join_at (S := fun w5 cb => Own w5 (plus1 (plus1 X sb) cb) mp (M.gone cc (ll ++ [(sr, sa, false)])) ∧ Box w5 lp 98 (LvA mp f N S T ov mb) ∧ Var w5 bw U ∧ Var w5 cb F ∧ Kept (fun j => X j ∧ j ≠ bw) w w5 ∧ (lp < cb ∧ sb < cb ∧ bw < cb ∧ w.heap.size ≤ cb)) (G := ?G3) (fun key => ?_) ?_
      rotate_left
      · refine wpAnyH_ready (rs := [8, 9]) (by kernel_rfl) (by simp) ?_
        refine AllReadyH.cons rfl (fun K hK => ?_) ?_
        · go_simp
          refine (own_read (plus1 X sb) mp (M.gone cc ll) w2 (sr : Int) (sa : Int) HO2.out (by rw [gone_len]; omega)).mono ?_
          rintro e w3 ⟨rfl, ho, hk⟩
          rw [gone_read hr ha] at ho
          rw [gone_cell hr ha, HCELL.out]
          have hB3 := hk.box HB2.out (.inl hX1)
          have hs3 := hk.box HS2.out (.inr rfl)
          have hV3 := HV2.out.kept hk (.inl hX2)
          have hK3 := HK2.out.trans (hk.mono (fun i hi => .inl hi.1))
          refine hK.out _ _ ⟨hB3, hs3⟩ (fun hHeld => ?_)
          clear hK K hk
          simp only [List.setIfInBounds_toArray, List.set_cons_zero, List.set_cons_succ]
          refine one_ready 9 rfl (by kernel_rfl) (fun K hK => ?_)
          go_simp
          obtain ⟨cb, hcb⟩ : ∃ c, w3.heap.size = c := ⟨_, rfl⟩
          obtain ⟨w4, hw4⟩ : ∃ x, w3.alloc (.cells (CA fun _ => 0) 64) = x := ⟨_, rfl⟩
          have hO4 : Own w4 (plus1 (plus1 X sb) cb) mp (M.gone cc (ll ++ [(sr, sa, false)])) := by rw [← hw4, ← hcb]; exact ho.one _
          have hB4 : Box w4 lp 98 (LvA mp f N S T ov mb) := by rw [← hw4]; exact hB3.alloc _
          have hs4 : Box w4 sb 124 #[.int .i64 (sr : Int), .int .i64 (sa : Int)] := by rw [← hw4]; exact hs3.alloc _
          have hV4 : Var w4 bw U := by rw [← hw4]; exact hV3.alloc _
          have hC4 : Var w4 cb (fun _ => 0) := by rw [← hw4, ← hcb]; exact Var.new w3 _ _
          have hK4 : Kept (fun j => X j ∧ j ≠ bw) w w4 := by rw [← hw4]; exact hK3.alloc _
          have hcn : lp < cb ∧ sb < cb ∧ bw < cb ∧ w.heap.size ≤ cb := ⟨by rw [← hcb]; exact hB3.lt, by rw [← hcb]; exact hs3.lt, by rw [← hcb]; exact hV3.lt, by rw [← hcb]; exact hK3.size⟩
          refine hK.out _ _ ⟨hB3.alloc _, hs3.alloc _⟩ (fun hHeld => ?_)
          change wpAnyH _ _ _ _ _ _ _ _ (w3.alloc (.cells (CA fun _ => 0) 64))
          rw [hw4]
          simp only [hcb]
          clear hK K hB3 hs3 hV3 hK3 ho hw4
          simp only [List.setIfInBounds_toArray, List.set_cons_zero, List.set_cons_succ]
          refine one_ready 10 rfl (by kernel_rfl) (fun K hK => ?_)
          refine step_store_cell rfl (.tmp 10) (.tmp 27) rfl cb 0 rfl F rfl hC4.there ?_
          have hoc : Only (just cb) w4 (w4.setCells cb 0 (CA F).toList) := only_setCells _ 0 _ (Only.refl _ _) (.inl (just_self cb))
          have hO5 := hO4.setCells cb (CA F).toList (.inr rfl)
          have hB5 := hB4.only hoc (just_ne (by omega))
          have hs5 := hs4.only hoc (just_ne (by omega))
          have hV5 := hV4.far (c := cb) (by omega) (CA F).toList
          have hC5 := hC4.set F
          have hK5 := hK4.setCells cb (CA F).toList hcn.2.2.2
          refine hK.out _ _ ⟨hB5, hs5⟩ (fun hHeld => ?_)
          clear hK K hoc hO4 hB4 hs4 hV4 hC4 hK4
          simp only [List.setIfInBounds_toArray, List.set_cons_zero, List.set_cons_succ]
          clear hs5
          generalize w4.setCells cb 0 (CA F).toList = w5 at hO5 hB5 hV5 hC5 hK5 ⊢
          exact key w5 cb ⟨hO5, hB5, hV5, hC5, hK5, hcn⟩
        · refine AllReadyH.cons rfl (fun K hK => ?_) AllReadyH.nil
          go_simp
          obtain ⟨cb, hcb⟩ : ∃ c, w2.heap.size = c := ⟨_, rfl⟩
          obtain ⟨w3, hw3⟩ : ∃ x, w2.alloc (.cells (CA fun _ => 0) 64) = x := ⟨_, rfl⟩
          have hO3 : Own w3 (plus1 (plus1 X sb) cb) mp (M.gone cc ll) := by rw [← hw3, ← hcb]; exact HO2.out.one _
          have hB3 : Box w3 lp 98 (LvA mp f N S T ov mb) := by rw [← hw3]; exact HB2.out.alloc _
          have hs3 : Box w3 sb 124 #[.int .i64 (sr : Int), .int .i64 (sa : Int)] := by rw [← hw3]; exact HS2.out.alloc _
          have hV3 : Var w3 bw U := by rw [← hw3]; exact HV2.out.alloc _
          have hC3 : Var w3 cb (fun _ => 0) := by rw [← hw3, ← hcb]; exact Var.new w2 _ _
          have hK3 : Kept (fun j => X j ∧ j ≠ bw) w w3 := by rw [← hw3]; exact HK2.out.alloc _
          have hcn : lp < cb ∧ sb < cb ∧ bw < cb ∧ w.heap.size ≤ cb := ⟨by rw [← hcb]; exact HB2.out.lt, by rw [← hcb]; exact HS2.out.lt, by rw [← hcb]; exact HV2.out.lt, by rw [← hcb]; exact HK2.out.size⟩
          refine hK.out _ _ ⟨HB2.out.alloc _, HS2.out.alloc _⟩ (fun hHeld => ?_)
          change wpAnyH _ _ _ _ _ _ _ _ (w2.alloc (.cells (CA fun _ => 0) 64))
          rw [hw3]
          simp only [hcb]
          clear hK K hw3
          simp only [List.setIfInBounds_toArray, List.set_cons_zero, List.set_cons_succ]
          refine one_ready 8 rfl (by kernel_rfl) (fun K hK => ?_)
          go_simp
          refine (own_read (plus1 (plus1 X sb) cb) mp (M.gone cc ll) w3 (sr : Int) (sa : Int) hO3 (by rw [gone_len]; omega)).mono ?_
          rintro e w4 ⟨rfl, ho, hk⟩
          rw [gone_read hr ha] at ho
          rw [gone_cell hr ha, HCELL.out]
          have hO4 := ho
          have hB4 := hk.box hB3 (.inl (.inl hX1))
          have hs4 := hk.box hs3 (.inl (.inr rfl))
          have hV4 := hV3.kept hk (.inl (.inl hX2))
          have hC4 := hC3.kept hk (.inr rfl)
          have hK4 := hK3.trans (hk.mono (fun i hi => .inl (.inl hi.1)))
          refine hK.out _ _ ⟨hB4, hs4⟩ (fun hHeld => ?_)
          clear hK K hk hB3 hs3 hV3 hC3 hK3 hO3 ho
          simp only [List.setIfInBounds_toArray, List.set_cons_zero, List.set_cons_succ]
          refine one_ready 10 rfl (by kernel_rfl) (fun K hK => ?_)
          refine step_store_cell rfl (.tmp 10) (.tmp 27) rfl cb 0 rfl F rfl hC4.there ?_
          have hoc : Only (just cb) w4 (w4.setCells cb 0 (CA F).toList) := only_setCells _ 0 _ (Only.refl _ _) (.inl (just_self cb))
          have hO5 := hO4.setCells cb (CA F).toList (.inr rfl)
          have hB5 := hB4.only hoc (just_ne (by omega))
          have hs5 := hs4.only hoc (just_ne (by omega))
          have hV5 := hV4.far (c := cb) (by omega) (CA F).toList
          have hC5 := hC4.set F
          have hK5 := hK4.setCells cb (CA F).toList hcn.2.2.2
          refine hK.out _ _ ⟨hB5, hs5⟩ (fun hHeld => ?_)
          clear hK K hoc hO4 hB4 hs4 hV4 hC4 hK4
          simp only [List.setIfInBounds_toArray, List.set_cons_zero, List.set_cons_succ]
          clear hs5
          generalize w4.setCells cb 0 (CA F).toList = w5 at hO5 hB5 hV5 hC5 hK5 ⊢
          exact key w5 cb ⟨hO5, hB5, hV5, hC5, hK5, hcn⟩
      intro w5 cb hkey
      obtain ⟨hO5, hB5, hV5, hC5, hK5, hcn⟩ := hkey
      refine wpAnyH_done (by kernel_rfl) ?_ _
      have HO5 := Lib.hid hO5
      have HB5 := Lib.hid hB5
      have HV5 := Lib.hid hV5
      have HK5 := Lib.hid hK5
      have HC5 := Lib.hid hC5
      clear hO5 hB5 hV5 hK5 hC5
      go_upto_region 4 with fail
      refine held_s (S := fun w' => Var w' cb F) 9 rfl (by kernel_rfl) HC5.out.drew (fun hHeld => ?_)
      simp only [Array.replicate_succ, Array.replicate_zero, List.push_toArray, List.nil_append, List.cons_append]
      have HO6 : Hid (Own w5.drew (plus1 (plus1 X sb) cb) mp (M.gone cc (ll ++ [(sr, sa, false)]))) := Lib.hid (HO5.out.drewN 1)
      have HB6 : Hid (Box w5.drew lp 98 (LvA mp f N S T ov mb)) := Lib.hid (HB5.out.drewN 1)
      have HV6 : Hid (Var w5.drew bw U) := Lib.hid HV5.out.drew
      have HK6 : Hid (Kept (fun j => X j ∧ j ≠ bw) w w5.drew) := Lib.hid (HK5.out.drewN 1)
      have hand := and_mk b1 b2
      clear HO5 HB5 HV5 HK5 HC5
      generalize w5.drew = w6 at *
      refine wpAnyH_take (i := 0) (oi := ⟨some 28, _, _, _, _, _⟩) (v := (.pointer (some ⟨cb, 0, none⟩))) rfl (by kernel_rfl) (by kernel_rfl) (by kernel_rfl) (fun _ _ _ h => h) (Or.inl ⟨by rfl, fun w' hw => by go_simp⟩) hHeld ?_
      try simp only [Act.put, List.setIfInBounds_toArray, List.set_cons_zero]
      refine wpAnyH_take (i := 1) (oi := ⟨some 29, _, _, _, _, _⟩) (v := (.int .u64 (F 0))) rfl (by kernel_rfl) (by kernel_rfl) (by kernel_rfl) (fun _ _ _ h => h) (Or.inl ⟨by rfl, fun w' hw => by (have k0 := hw.cell (κ := 0) (by decide); have k1 := hw.cell (κ := 1) (by decide); go_simp)⟩) hHeld ?_
      try simp only [Act.put, List.setIfInBounds_toArray, List.set_cons_zero, List.set_cons_succ]
      refine wpAnyH_take (i := 3) (oi := ⟨some 31, _, _, _, _, _⟩) (v := (.pointer (some ⟨cb, 1, none⟩))) rfl (by kernel_rfl) (by kernel_rfl) (by kernel_rfl) (fun _ _ _ h => h) (Or.inl ⟨by rfl, fun w' hw => by go_simp⟩) hHeld ?_
      try simp only [Act.put, List.setIfInBounds_toArray, List.set_cons_zero, List.set_cons_succ]
      refine wpAnyH_take (i := 4) (oi := ⟨some 32, _, _, _, _, _⟩) (v := (.int .u64 (F 1))) rfl (by kernel_rfl) (by kernel_rfl) (by kernel_rfl) (fun _ _ _ h => h) (Or.inl ⟨by rfl, fun w' hw => by (have k0 := hw.cell (κ := 0) (by decide); have k1 := hw.cell (κ := 1) (by decide); go_simp)⟩) hHeld ?_
      try simp only [Act.put, List.setIfInBounds_toArray, List.set_cons_zero, List.set_cons_succ]
      refine wpAnyH_take (i := 5) (oi := ⟨some 33, _, _, _, _, _⟩) (v := (.int .u64 id)) rfl (by kernel_rfl) (by kernel_rfl) (by kernel_rfl) (fun _ _ _ h => h) (Or.inl ⟨by rfl, fun w' hw => by go_simp⟩) hHeld ?_
      try simp only [Act.put, List.setIfInBounds_toArray, List.set_cons_zero, List.set_cons_succ]
      refine one_ready 2 rfl (by kernel_rfl) (fun K hK => ?_)
      go_simp
      refine (equal_any (F 0) 1 _ (HWD.out 0).1 (HWD.out 0).2 (by decide) (by decide)).mono ?_
      rintro e wx ⟨rfl, rfl⟩
      rw [HE1.out]
      refine hK.out _ _ hHeld (fun hHeld => ?_)
      clear hK K
      simp only [List.setIfInBounds_toArray, List.set_cons_zero, List.set_cons_succ]
      refine one_ready 6 rfl (by kernel_rfl) (fun K hK => ?_)
      go_simp
      refine (equal_any (F 1) id _ (HWD.out 1).1 (HWD.out 1).2 hid.1 hid.2).mono ?_
      rintro e wx ⟨rfl, rfl⟩
      rw [HE2.out]
      refine hK.out _ _ hHeld (fun hHeld => ?_)
      clear hK K
      simp only [List.setIfInBounds_toArray, List.set_cons_zero, List.set_cons_succ]
      refine wpAnyH_take (i := 7) (oi := ⟨some 35, _, _, _, _, _⟩) (v := (.int .u64 (msk (b1 && b2)))) rfl (by kernel_rfl) (by kernel_rfl) (by kernel_rfl) (fun _ _ _ h => h) (Or.inl ⟨by rfl, fun w' hw => by go_simp⟩) hHeld ?_
      try simp only [Act.put, List.setIfInBounds_toArray, List.set_cons_zero, List.set_cons_succ]
      refine wpAnyH_take (i := 8) (oi := ⟨some 11, _, _, _, _, _⟩) (v := (.int .u64 (msk (b1 && b2)))) rfl (by kernel_rfl) (by kernel_rfl) (by kernel_rfl) (fun _ _ _ h => h) (Or.inl ⟨by rfl, fun w' hw => by go_simp⟩) hHeld ?_
      try simp only [Act.put, List.setIfInBounds_toArray, List.set_cons_zero, List.set_cons_succ]
      refine wpAnyH_done (by kernel_rfl) ?_ _
      have HC6 := Lib.hid hHeld
      clear hHeld hand
      generalize (b1 && b2) = mine at *
      go_wp2_with (with_reducible refine wpList_load_cell rfl (.tmp 10) rfl cb 0 rfl F HC6.out.rng ?_)
      refine (tell_any mine F U bw _ HWD.out HUW.out HV6.out).mono ?_
      rintro e w7 ⟨rfl, hV7, ho7⟩
      have hO7 := HO6.out.only ho7 (fun i hi => by have e : i = bw := hi; subst e; exact .inl (.inl hX2))
      have hB7 := HB6.out.only ho7 (just_ne hne.1)
      have hC7 := HC6.out.only ho7 (just_ne (by omega))
      have hK7 : Kept (fun j => X j ∧ j ≠ bw) w w7 := HK6.out.trans (Only.mono ho7 (fun i _ (hi : i = bw) h => h.2 hi))
      have HO7 := Lib.hid hO7
      have HB7 := Lib.hid hB7
      have HV7 := Lib.hid hV7
      have HK7 := Lib.hid hK7
      have HC7 := Lib.hid hC7
      clear hO7 hB7 hV7 hK7 hC7 ho7 HO6 HB6 HV6 HK6 HC6
      go_upto_region 6 with fail
      refine held_s (S := fun w' => Box w' lp 98 (LvA mp f N S T ov mb) ∧ Var w' cb F) 15 rfl (by kernel_rfl) ⟨HB7.out.drewN 1, HC7.out.drew⟩ (fun hHeld => ?_)
      simp only [Array.replicate_succ, Array.replicate_zero, List.push_toArray, List.nil_append, List.cons_append]
      have hO7 : Own w7.drew (plus1 (plus1 X sb) cb) mp (M.gone cc (ll ++ [(sr, sa, false)])) := HO7.out.drewN 1
      have hB7 : Box w7.drew lp 98 (LvA mp f N S T ov mb) := HB7.out.drewN 1
      have hC7 : Var w7.drew cb F := HC7.out.drew
      have hV7 : Var w7.drew bw (if mine = true then F else U) := HV7.out.drew
      have hK7 : Kept (fun j => X j ∧ j ≠ bw) w w7.drew := HK7.out.drewN 1
      clear HO7 HB7 HC7 HV7 HK7
      generalize w7.drew = w8' at *
      refine wpAnyH_take (i := 0) (oi := ⟨some 40, _, _, _, _, _⟩) (v := (.pointer (some ⟨lp, 0, none⟩))) rfl (by kernel_rfl) (by kernel_rfl) (by kernel_rfl) (fun _ _ _ h => h) (Or.inl ⟨by rfl, fun w' hw => by go_simp⟩) hHeld ?_
      try simp only [Act.put, List.setIfInBounds_toArray, List.set_cons_zero, List.set_cons_succ]
      refine wpAnyH_take (i := 1) (oi := ⟨some 41, _, _, _, _, _⟩) (v := (.pointer (some ⟨lp, 0, none⟩))) rfl (by kernel_rfl) (by kernel_rfl) (by kernel_rfl) (fun _ _ _ h => h) (Or.inl ⟨by rfl, fun w' hw => by go_simp⟩) hHeld ?_
      try simp only [Act.put, List.setIfInBounds_toArray, List.set_cons_zero, List.set_cons_succ]
      refine wpAnyH_take (i := 2) (oi := ⟨some 42, _, _, _, _, _⟩) (v := (.pointer (some ⟨lp, 0, none⟩))) rfl (by kernel_rfl) (by kernel_rfl) (by kernel_rfl) (fun _ _ _ h => h) (Or.inl ⟨by rfl, fun w' hw => by go_simp⟩) hHeld ?_
      try simp only [Act.put, List.setIfInBounds_toArray, List.set_cons_zero, List.set_cons_succ]
      refine wpAnyH_take (i := 3) (oi := ⟨some 43, _, _, _, _, _⟩) (v := (.pointer (some ⟨mp, 0, none⟩))) rfl (by kernel_rfl) (by kernel_rfl) (by kernel_rfl) (fun _ _ _ h => h) (Or.inl ⟨by rfl, fun w' hw => by (have k0 := lv0 hw.1; have k1 := lv1 hw.1; have k2 := lv2 hw.1; have k3 := lv3 hw.1; have k4 := lv4 hw.1; skip; go_simp)⟩) hHeld ?_
      try simp only [Act.put, List.setIfInBounds_toArray, List.set_cons_zero, List.set_cons_succ]
      refine wpAnyH_take (i := 4) (oi := ⟨some 44, _, _, _, _, _⟩) (v := (.pointer (some ⟨lp, 0, none⟩))) rfl (by kernel_rfl) (by kernel_rfl) (by kernel_rfl) (fun _ _ _ h => h) (Or.inl ⟨by rfl, fun w' hw => by go_simp⟩) hHeld ?_
      try simp only [Act.put, List.setIfInBounds_toArray, List.set_cons_zero, List.set_cons_succ]
      refine wpAnyH_take (i := 5) (oi := ⟨some 45, _, _, _, _, _⟩) (v := (.pointer (some ⟨lp, 0, none⟩))) rfl (by kernel_rfl) (by kernel_rfl) (by kernel_rfl) (fun _ _ _ h => h) (Or.inl ⟨by rfl, fun w' hw => by go_simp⟩) hHeld ?_
      try simp only [Act.put, List.setIfInBounds_toArray, List.set_cons_zero, List.set_cons_succ]
      refine wpAnyH_take (i := 6) (oi := ⟨some 46, _, _, _, _, _⟩) (v := (.pointer (some ⟨lp, 1, none⟩))) rfl (by kernel_rfl) (by kernel_rfl) (by kernel_rfl) (fun _ _ _ h => h) (Or.inl ⟨by rfl, fun w' hw => by go_simp⟩) hHeld ?_
      try simp only [Act.put, List.setIfInBounds_toArray, List.set_cons_zero, List.set_cons_succ]
      refine wpAnyH_take (i := 7) (oi := ⟨some 47, _, _, _, _, _⟩) (v := (.agg #[.int .i64 (f : Int), .int .i64 (N : Int), .int .i64 (S : Int), .int .i64 (T : Int)])) rfl (by kernel_rfl) (by kernel_rfl) (by kernel_rfl) (fun _ _ _ h => h) (Or.inl ⟨by rfl, fun w' hw => by (have k0 := lv0 hw.1; have k1 := lv1 hw.1; have k2 := lv2 hw.1; have k3 := lv3 hw.1; have k4 := lv4 hw.1; skip; go_simp)⟩) hHeld ?_
      try simp only [Act.put, List.setIfInBounds_toArray, List.set_cons_zero, List.set_cons_succ]
      refine wpAnyH_take (i := 9) (oi := ⟨some 49, _, _, _, _, _⟩) (v := (.int .i64 (i : Int))) rfl (by kernel_rfl) (by kernel_rfl) (by kernel_rfl) (fun _ _ _ h => h) (Or.inl ⟨by rfl, fun w' hw => by go_simp⟩) hHeld ?_
      try simp only [Act.put, List.setIfInBounds_toArray, List.set_cons_zero, List.set_cons_succ]
      refine wpAnyH_take (i := 10) (oi := ⟨some 50, _, _, _, _, _⟩) (v := (.int .u64 (msk mine))) rfl (by kernel_rfl) (by kernel_rfl) (by kernel_rfl) (fun _ _ _ h => h) (Or.inl ⟨by rfl, fun w' hw => by go_simp⟩) hHeld ?_
      try simp only [Act.put, List.setIfInBounds_toArray, List.set_cons_zero, List.set_cons_succ]
      refine wpAnyH_take (i := 11) (oi := ⟨some 51, _, _, _, _, _⟩) (v := (.agg (CA nul))) rfl (by kernel_rfl) (by kernel_rfl) (by kernel_rfl) (fun _ _ _ h => h) (Or.inl ⟨by rfl, fun w' hw => by (go_simp; rfl)⟩) hHeld ?_
      try simp only [Act.put, List.setIfInBounds_toArray, List.set_cons_zero, List.set_cons_succ]
      refine take_row 12 (oi := ⟨some 52, _, _, _, _, _⟩) (CA F).toList rfl (by kernel_rfl) (by kernel_rfl) (by kernel_rfl) (fun _ _ _ h => h) (by rfl) _ _ rfl _ _ rfl _ (fun w' hw => hw.2.rng) Tryz.underlying64 rfl (infoCellL F) hHeld ?_
      try simp only [Act.put, List.setIfInBounds_toArray, List.set_cons_zero, List.set_cons_succ]
      refine one_ready 8 rfl (by kernel_rfl) (fun K hK => ?_)
      go_simp
      refine (HT.out _).mono ?_
      rintro e w8 ⟨rfl, hb8⟩
      have ho8 : Only nobody w8' w8 := Only.of_below hb8
      have hO8 := hO7.none ho8
      have hB8 := hB7.only ho8 (not_nobody _)
      have hC8 := hC7.nob ho8
      have hV8 := hV7.nob ho8
      have hK8 := hK7.trans (Kept.of_none ho8)
      refine hK.out _ _ ⟨hB8, hC8⟩ (fun hHeld => ?_)
      clear hK K hb8 ho8 hO7 hB7 hC7 hV7 hK7
      simp only [List.setIfInBounds_toArray, List.set_cons_zero, List.set_cons_succ]
      refine one_ready 13 rfl (by kernel_rfl) (fun K hK => ?_)
      go_simp
      refine (pickCell_mask mine nul F _ wd_zero HWD.out).mono ?_
      rintro e w10 ⟨rfl, hx⟩
      rw [← HLY.out]
      have ho10 := none_of_ext hx
      have hO10 := hO8.none ho10
      have hB10 := hB8.only ho10 (not_nobody _)
      have hC10 := hC8.nob ho10
      have hV10 := hV8.nob ho10
      have hK10 := hK8.trans (Kept.of_none ho10)
      refine hK.out _ _ ⟨hB10, hC10⟩ (fun hHeld => ?_)
      clear hK K hx ho10 hO8 hB8 hC8 hV8 hK8
      simp only [List.setIfInBounds_toArray, List.set_cons_zero, List.set_cons_succ]
      refine one_ready 14 rfl (by kernel_rfl) (fun K hK => ?_)
      go_simp
      refine (own_write _ mp (M.gone cc (ll ++ [(sr, sa, false)])) _ ((f + 2 : Nat) : Int) (i : Int) (LX i) hO10 (by rw [gone_len, List.length_append]; simp only [List.length_cons, List.length_nil]; omega)).mono ?_
      rintro e w11 ⟨rfl, ho, hk⟩
      rw [gone_write (by show f + 2 < M.k; omega) (by show i < M.sz (f + 2); omega), HSUC.out] at ho
      have hB11 := hk.box hB10 (.inl (.inl hX1))
      have hC11 := hC10.kept hk (.inr rfl)
      have hV11 := hV10.kept hk (.inl (.inl hX2))
      have hK11 := hK10.trans (hk.mono (fun i hi => .inl (.inl hi.1)))
      have hO11 := ho.weak (fun j (hj : X j) => .inl (.inl hj))
      refine hK.out _ _ ⟨hB11, hC11⟩ (fun hHeld => ?_)
      clear hK K hk ho hO10 hB10 hC10 hV10 hK10
      simp only [List.setIfInBounds_toArray, List.set_cons_zero, List.set_cons_succ]
      refine wpAnyH_done (by kernel_rfl) ?_ _
      have HE : Hid (FeAt w X mp f S D T lf bw id nb M (i + 1) w11) := Lib.hid ⟨by rw [HLx.out, HEV.out]; exact hO11, hK11, by rw [HWAS.out]; exact hV11⟩
      clear hO11 hK11 hV11 hB11 hC11 hHeld
      go_wp2_with fail
      go_roundw
      case rel => exact ⟨i + 1, by go_num, by omega, HE.out⟩
      case measure => simp [intOf]; omega
    · obtain rfl : i = L + T := by omega
      clear hS
      go_wp2_with fail
      go_end0
      exact ⟨rfl, HS.out⟩
end Go.Proofs.YtdbjaaalngbpgaaGreat
