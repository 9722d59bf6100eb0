import Derived.Carry
import Derived.Test.YtknnebhjldfkhaaGreatG29
import Derived.Test.YtknnebhjldfkhaaGreatG31
import Derived.Test.YtknnebhjldfkhaaGreatG23
import Derived.Test.YtknnebhjldfkhaaGreatG14
namespace Go.Proofs.YtknnebhjldfkhaaGreat
set_option maxRecDepth 100000
open Go.RowKit Go.ChangeShapes Go.WideShapes Go.ChangeAt

structure FeAt (w : World) (X : Nat → Prop) (mp f S D T lf bw : Nat) (id : Int) (nb : Cl) (M : MS) (i : Nat) (wr : World) : Prop where
 own : Own wr X mp (M.gone (cT (f + 2) (laidX S D T lf (cellsE f M.c) id nb) M.c i) (evF S D T f lf i))
 kept : Kept (fun j => X j ∧ j ≠ bw) w wr
 was : Var wr bw (wasC (fun j => M.c (spot S D f lf j).1 (spot S D f lf j).2) id i)
set_option maxRecDepth 100000 in
set_option maxHeartbeats 4000000 in
theorem fetch_any {N S T D L n Q P : Nat} (h : Conf N S T D L n Q P) (X : Nat → Prop) (lp mp f lf bw g cap : Nat) (ov : Bool) (mb : Option Nat) (id : Int) (nb : Cl) (M : MS) (w : World) (hM : LvM M f S D T Q) (hlf : lf < N) (hf : f ≤ 100)
  (hid : 0 ≤ id ∧ id ≤ 18446744073709551615) (hO : Own w X mp M) (hX1 : X lp) (hX2 : X bw) (hX3 : X g) (hne : lp ≠ bw ∧ g ≠ bw) (hB : Box w lp 127 (LvA mp f N S T ov mb)) (hV : Var w bw nul) (hs : Sps w 0 g (L + T) (spot S D f lf)) :
  Calls Tryz.prog 73 #[.pointer (some ⟨lp, 0, none⟩), .slice (some ⟨g, 0, none⟩) (L + T) cap, .int .u64 id, .func (.func 74) #[] #[.pointer (some ⟨bw, 0, none⟩)]] w fun e w' =>
   e = .returned (.tuple #[]) ∧ FeAt w X mp f S D T lf bw id nb M (L + T) w' := by
 have HT := Lib.hid (fun W => table_at f (N : Int) (S : Int) (T : Int) W hf)
 have hlf2 : lf < 2 ^ D := by rw [h.hN]; exact hlf
 have HSp := Lib.hid (fun i hi => hM.inM (by have := h.s1; omega) h.hL hlf2 (i := i) hi)
 have HLy := Lib.hid (fun i (hi : i < L + T) => lay_at S D T f lf M.c id nb i (by rw [h.hL]; exact hi))
 have HEv : Hid (∀ i, i < L + T → evF S D T f lf (i + 1) = evF S D T f lf i ++ [((spot S D f lf i).1, (spot S D f lf i).2, false)] ++ [(f + 2, i, true)]) := Lib.hid (fun i hi => by
  show evF S D T f lf i ++ (if i < (D + 1) * S + T then _ else _) ++ _ = _
  rw [if_pos (by rw [h.hL]; exact hi)])
 have hLb := h.big.1
 have ht := h.t64
 have hLQ : L + T < Q := by have := h.hn; have := h.le; omega
 have HA : Hid (FeAt w X mp f S D T lf bw id nb M 0 w) := Lib.hid ⟨by rw [cT_zero]; show Own w X mp (M.gone M.c []); rw [gone_self]; exact hO, Kept.refl _ _, hV⟩
 have HBx := Lib.hid hB
 have HSs := Lib.hid hs
 have HM := Lib.hid hM
 clear h hO hV hB hs hM hlf2 hlf
 go_enter Tryz.func73, Tryz.ntmps73
 go_wp2_with fail
 go_loopw [14] (fun v wr => ∃ i : Nat, v = .int .i64 i ∧ i ≤ L + T ∧ FeAt w X mp f S D T lf bw id nb M i wr) (fun v _ => L + T - (intOf v).toNat)
 case atStart => exact ⟨0, rfl, by omega, HA.out⟩
 case round =>
  obtain ⟨i, rfl, hi, hS⟩ := hrel
  clear HA
  have HS := Lib.hid hS
  by_cases hin : i < L + T
  ·obtain ⟨c0, c1⟩ := (hS.kept.block g HSs.out.lt (fun k => k ⟨hX3, hne.2⟩) |> HSs.out.block hS.kept.size).cell i hin
   have hBw := hS.kept.box HBx.out ⟨hX1, hne.1⟩
   obtain ⟨hr, ha⟩ := HSp.out i hin
   have hly := HLy.out i hin
   have hev := HEv.out i hin
   have hne2 := spot_ne (S := S) (D := D) (f := f) (lf := lf) i
   have hwd := HM.out.wd (spot S D f lf i).1 (spot S D f lf i).2
   have hwas : wasC (fun j => M.c (spot S D f lf j).1 (spot S D f lf j).2) id (i + 1) = if decide (M.c (spot S D f lf i).1 (spot S D f lf i).2 0 = 1) && decide (M.c (spot S D f lf i).1 (spot S D f lf i).2 1 = id) then M.c (spot S D f lf i).1 (spot S D f lf i).2 else wasC (fun j => M.c (spot S D f lf j).1 (spot S D f lf j).2) id i := rfl
   have huw := wasC_wd (E := fun j => M.c (spot S D f lf j).1 (spot S D f lf j).2) (fun j => HM.out.wd _ _) id i
   have hel := evF_len S D T f lf i
   have hml := HM.out.len
   have hsuc := cT_succ (t := f + 2) (X := laidX S D T lf (cellsE f M.c) id nb) (c := M.c) (i := i)
   have hcell : cT (f + 2) (laidX S D T lf (cellsE f M.c) id nb) M.c i (spot S D f lf i).1 (spot S D f lf i).2 = M.c (spot S D f lf i).1 (spot S D f lf i).2 := cT_far hne2
   have hown := hS.own
   have hkept := hS.kept
   have hvar := hS.was
   have hk2 := HM.out.hk
   have hs2 := HM.out.s2
   clear hS HS
   generalize spot S D f lf i = sp at *
   obtain ⟨sr, sa⟩ := sp
   dsimp only at hr ha hly hev hne2 hwd hwas hcell c0 c1
   generalize hF : M.c sr sa = F at *
   generalize wasC (fun j => M.c (spot S D f lf j).1 (spot S D f lf j).2) id i = U at *
   generalize hlx : laidX S D T lf (cellsE f M.c) id nb = LX at *
   have HF := Lib.hid hF
   have HLx := Lib.hid hlx
   have HEV := Lib.hid hev
   have HSUC := Lib.hid hsuc
   have HCELL := Lib.hid hcell
   have HWD := Lib.hid hwd
   have HUW := Lib.hid huw
   generalize hcc : cT (f + 2) LX M.c i = cc at *
   generalize hll : evF S D T f lf i = ll at *
   have hel2 : ll.length ≤ 400 := by omega
   have hE1 := me_mk (F 0) 1
   have hE2 := me_mk (F 1) id
   generalize decide (F 0 = 1) = b1 at *
   generalize decide (F 1 = id) = b2 at *
   have HE1 := Lib.hid hE1
   have HE2 := Lib.hid hE2
   have HLY := Lib.hid hly
   have HWAS := Lib.hid hwas
   clear hly hev hwas hsuc hcell hwd huw hF hlx hel hcc hll hE1 hE2
   have HO := Lib.hid hown
   have HK := Lib.hid hkept
   have HV := Lib.hid hvar
   have HBw := Lib.hid hBw
   clear hown hkept hvar hBw
   obtain ⟨w9, h9⟩ : ∃ x, x = wr := ⟨_, rfl⟩
   subst h9
   go_upto_region 3 with fail
   clear c0 c1
   obtain ⟨sb, hsb⟩ : ∃ b, w9.heap.size = b := ⟨_, rfl⟩
   obtain ⟨w1, hw1⟩ : ∃ x, w9.alloc (.cells #[.int .i64 (sr : Int), .int .i64 (sa : Int)] 153) = x := ⟨_, rfl⟩
   have hO1 : Own w1 (plus1 X sb) mp (M.gone cc ll) := by rw [← hw1, ← hsb]; exact HO.out.one _
   have hB1 : Box w1 lp 127 (LvA mp f N S T ov mb) := by rw [← hw1]; exact HBw.out.alloc _
   have hs1 : Box w1 sb 153 #[.int .i64 (sr : Int), .int .i64 (sa : Int)] := by rw [← hw1, ← hsb]; exact Box.new w9 _ _
   have hV1 : Var w1 bw U := by rw [← hw1]; exact HV.out.alloc _
   have hK1 : Kept (fun j => X j ∧ j ≠ bw) w w1 := by rw [← hw1]; exact HK.out.alloc _
   rw [hsb, hw1]
   refine held_s (S := fun w' => Box w' lp 127 (LvA mp f N S T ov mb) ∧ Box w' sb 153 #[.int .i64 (sr : Int), .int .i64 (sa : Int)]) 11 rfl (by kernel_rfl) ⟨hB1.drewN 1, hs1.drewN 1⟩ (fun hHeld => ?_)
   simp only [qA0, qB0, qC0, List.nil_append, List.cons_append]
   have hO2 : Own w1.drew (plus1 X sb) mp (M.gone cc ll) := hO1.drewN 1
   have hB2 : Box w1.drew lp 127 (LvA mp f N S T ov mb) := hB1.drewN 1
   have hs2' : Box w1.drew sb 153 #[.int .i64 (sr : Int), .int .i64 (sa : Int)] := hs1.drewN 1
   have hV2 : Var w1.drew bw U := hV1.drew
   have hK2 : Kept (fun j => X j ∧ j ≠ bw) w w1.drew := hK1.drewN 1
   clear hO1 hB1 hs1 hV1 hK1 hw1
   generalize w1.drew = w2 at *
   refine tk1 0 19 (.pointer (some ⟨lp, 0, none⟩)) rfl (Or.inl ⟨by rfl, fun w' hw => by go_simp⟩) hHeld ?_
   try simp only [Act.put, sA0, sB0, sC0]
   refine tk1 1 20 (.pointer (some ⟨lp, 0, none⟩)) rfl (Or.inl ⟨by rfl, fun w' hw => by go_simp⟩) hHeld ?_
   try simp only [Act.put, sA0, sB0, sC0]
   refine tk1 2 21 (.pointer (some ⟨lp, 0, none⟩)) rfl (Or.inl ⟨by rfl, fun w' hw => by go_simp⟩) hHeld ?_
   try simp only [Act.put, sA0, sB0, sC0]
   refine tk1 3 22 (.pointer (some ⟨mp, 0, none⟩)) rfl (Or.inl ⟨by rfl, fun w' hw => by (have k0 := lv0 hw.1; have k1 := lv1 hw.1; have k2 := lv2 hw.1; have k3 := lv3 hw.1; have k4 := lv4 hw.1; have s0 := hw.2.cell 0; have s1 := hw.2.cell 1; go_simp)⟩) hHeld ?_
   try simp only [Act.put, sA0, sB0, sC0]
   refine tk1 4 23 (.pointer (some ⟨sb, 0, none⟩)) rfl (Or.inl ⟨by rfl, fun w' hw => by go_simp⟩) hHeld ?_
   try simp only [Act.put, sA0, sB0, sC0]
   refine tk1 5 24 (.int .i64 (sr : Int)) rfl (Or.inl ⟨by rfl, fun w' hw => by (have k0 := lv0 hw.1; have k1 := lv1 hw.1; have k2 := lv2 hw.1; have k3 := lv3 hw.1; have k4 := lv4 hw.1; have s0 := hw.2.cell 0; have s1 := hw.2.cell 1; go_simp)⟩) hHeld ?_
   try simp only [Act.put, sA0, sB0, sC0]
   refine tk1 6 25 (.pointer (some ⟨sb, 1, none⟩)) rfl (Or.inl ⟨by rfl, fun w' hw => by go_simp⟩) hHeld ?_
   try simp only [Act.put, sA0, sB0, sC0]
   refine tk1 7 26 (.int .i64 (sa : Int)) rfl (Or.inl ⟨by rfl, fun w' hw => by (have k0 := lv0 hw.1; have k1 := lv1 hw.1; have k2 := lv2 hw.1; have k3 := lv3 hw.1; have k4 := lv4 hw.1; have s0 := hw.2.cell 0; have s1 := hw.2.cell 1; go_simp)⟩) hHeld ?_
   try simp only [Act.put, sA0, sB0, sC0]
   -- LEFT [8, 9, 10]
   have HO2 := Lib.hid hO2
   have HB2 := Lib.hid hB2
   have HS2 := Lib.hid hs2'
   have HV2 := Lib.hid hV2
   have HK2 := Lib.hid hK2
   clear hO2 hB2 hs2' hV2 hK2
   refine join_at (S := fun w5 cb => Own w5 (plus1 (plus1 X sb) cb) mp (M.gone cc (ll ++ [(sr, sa, false)])) ∧ Box w5 lp 127 (LvA mp f N S T ov mb) ∧ Var w5 bw U ∧ Var w5 cb F ∧ Kept (fun j => X j ∧ j ≠ bw) w w5 ∧ (lp < cb ∧ sb < cb ∧ bw < cb ∧ w.heap.size ≤ cb)) (G := ?G3) (fun key => ?_) ?_
   rotate_left
   ·refine wpAnyH_ready (rs := [8, 9]) (by kernel_rfl) (by simp) ?_
    refine AllReadyH.cons rfl (fun K hK => ?_) ?_
    ·go_simp
     refine (own_read (plus1 X sb) mp (M.gone cc ll) w2 (sr : Int) (sa : Int) HO2.out (by rw [gone_len]; omega)).mono ?_
     rintro e w3 ⟨rfl, ho, hk⟩
     rw [gone_read hr ha] at ho
     rw [gone_cell hr ha, HCELL.out]
     have hB3 := hk.box HB2.out (.inl hX1)
     have hs3 := hk.box HS2.out (.inr rfl)
     have hV3 := HV2.out.kept hk (.inl hX2)
     have hK3 := HK2.out.trans (hk.mono (fun i hi => .inl hi.1))
     refine hK.out _ _ ⟨hB3, hs3⟩ (fun hHeld => ?_)
     clear hK K hk
     simp only [sA0, sB0, sC0]
     refine one_ready 9 rfl (by kernel_rfl) (fun K hK => ?_)
     go_simp
     obtain ⟨cb, hcb⟩ : ∃ c, w3.heap.size = c := ⟨_, rfl⟩
     obtain ⟨w4, hw4⟩ : ∃ x, w3.alloc (.cells (CA fun _ => 0) 64) = x := ⟨_, rfl⟩
     have hO4 : Own w4 (plus1 (plus1 X sb) cb) mp (M.gone cc (ll ++ [(sr, sa, false)])) := by rw [← hw4, ← hcb]; exact ho.one _
     have hB4 : Box w4 lp 127 (LvA mp f N S T ov mb) := by rw [← hw4]; exact hB3.alloc _
     have hs4 : Box w4 sb 153 #[.int .i64 (sr : Int), .int .i64 (sa : Int)] := by rw [← hw4]; exact hs3.alloc _
     have hV4 : Var w4 bw U := by rw [← hw4]; exact hV3.alloc _
     have hC4 : Var w4 cb (fun _ => 0) := by rw [← hw4, ← hcb]; exact Var.new w3 _ _
     have hK4 : Kept (fun j => X j ∧ j ≠ bw) w w4 := by rw [← hw4]; exact hK3.alloc _
     have hcn : lp < cb ∧ sb < cb ∧ bw < cb ∧ w.heap.size ≤ cb := ⟨by rw [← hcb]; exact hB3.lt, by rw [← hcb]; exact hs3.lt, by rw [← hcb]; exact hV3.lt, by rw [← hcb]; exact hK3.size⟩
     refine hK.out _ _ ⟨hB3.alloc _, hs3.alloc _⟩ (fun hHeld => ?_)
     change wpAnyH _ _ _ _ _ _ _ _ (w3.alloc (.cells (CA fun _ => 0) 64))
     rw [hw4]
     simp only [hcb]
     clear hK K hB3 hs3 hV3 hK3 ho hw4
     simp only [sA0, sB0, sC0]
     refine one_ready 10 rfl (by kernel_rfl) (fun K hK => ?_)
     refine step_store_cell rfl (.tmp 10) (.tmp 27) rfl cb 0 rfl F rfl hC4.there ?_
     have hoc : Only (just cb) w4 (w4.setCells cb 0 (CA F).toList) := only_setCells _ 0 _ (Only.refl _ _) (.inl (just_self cb))
     have hO5 := hO4.setCells cb (CA F).toList (.inr rfl)
     have hB5 := hB4.only hoc (just_ne (by omega))
     have hs5 := hs4.only hoc (just_ne (by omega))
     have hV5 := hV4.far (c := cb) (by omega) (CA F).toList
     have hC5 := hC4.set F
     have hK5 := hK4.setCells cb (CA F).toList hcn.2.2.2
     refine hK.out _ _ ⟨hB5, hs5⟩ (fun hHeld => ?_)
     clear hK K hoc hO4 hB4 hs4 hV4 hC4 hK4
     simp only [sA0, sB0, sC0]
     clear hs5
     generalize w4.setCells cb 0 (CA F).toList = w5 at hO5 hB5 hV5 hC5 hK5 ⊢
     exact key w5 cb ⟨hO5, hB5, hV5, hC5, hK5, hcn⟩
    ·refine AllReadyH.cons rfl (fun K hK => ?_) AllReadyH.nil
     go_simp
     obtain ⟨cb, hcb⟩ : ∃ c, w2.heap.size = c := ⟨_, rfl⟩
     obtain ⟨w3, hw3⟩ : ∃ x, w2.alloc (.cells (CA fun _ => 0) 64) = x := ⟨_, rfl⟩
     have hO3 : Own w3 (plus1 (plus1 X sb) cb) mp (M.gone cc ll) := by rw [← hw3, ← hcb]; exact HO2.out.one _
     have hB3 : Box w3 lp 127 (LvA mp f N S T ov mb) := by rw [← hw3]; exact HB2.out.alloc _
     have hs3 : Box w3 sb 153 #[.int .i64 (sr : Int), .int .i64 (sa : Int)] := by rw [← hw3]; exact HS2.out.alloc _
     have hV3 : Var w3 bw U := by rw [← hw3]; exact HV2.out.alloc _
     have hC3 : Var w3 cb (fun _ => 0) := by rw [← hw3, ← hcb]; exact Var.new w2 _ _
     have hK3 : Kept (fun j => X j ∧ j ≠ bw) w w3 := by rw [← hw3]; exact HK2.out.alloc _
     have hcn : lp < cb ∧ sb < cb ∧ bw < cb ∧ w.heap.size ≤ cb := ⟨by rw [← hcb]; exact HB2.out.lt, by rw [← hcb]; exact HS2.out.lt, by rw [← hcb]; exact HV2.out.lt, by rw [← hcb]; exact HK2.out.size⟩
     refine hK.out _ _ ⟨HB2.out.alloc _, HS2.out.alloc _⟩ (fun hHeld => ?_)
     change wpAnyH _ _ _ _ _ _ _ _ (w2.alloc (.cells (CA fun _ => 0) 64))
     rw [hw3]
     simp only [hcb]
     clear hK K hw3
     simp only [sA0, sB0, sC0]
     refine one_ready 8 rfl (by kernel_rfl) (fun K hK => ?_)
     go_simp
     refine (own_read (plus1 (plus1 X sb) cb) mp (M.gone cc ll) w3 (sr : Int) (sa : Int) hO3 (by rw [gone_len]; omega)).mono ?_
     rintro e w4 ⟨rfl, ho, hk⟩
     rw [gone_read hr ha] at ho
     rw [gone_cell hr ha, HCELL.out]
     have hO4 := ho
     have hB4 := hk.box hB3 (.inl (.inl hX1))
     have hs4 := hk.box hs3 (.inl (.inr rfl))
     have hV4 := hV3.kept hk (.inl (.inl hX2))
     have hC4 := hC3.kept hk (.inr rfl)
     have hK4 := hK3.trans (hk.mono (fun i hi => .inl (.inl hi.1)))
     refine hK.out _ _ ⟨hB4, hs4⟩ (fun hHeld => ?_)
     clear hK K hk hB3 hs3 hV3 hC3 hK3 hO3 ho
     simp only [sA0, sB0, sC0]
     refine one_ready 10 rfl (by kernel_rfl) (fun K hK => ?_)
     refine step_store_cell rfl (.tmp 10) (.tmp 27) rfl cb 0 rfl F rfl hC4.there ?_
     have hoc : Only (just cb) w4 (w4.setCells cb 0 (CA F).toList) := only_setCells _ 0 _ (Only.refl _ _) (.inl (just_self cb))
     have hO5 := hO4.setCells cb (CA F).toList (.inr rfl)
     have hB5 := hB4.only hoc (just_ne (by omega))
     have hs5 := hs4.only hoc (just_ne (by omega))
     have hV5 := hV4.far (c := cb) (by omega) (CA F).toList
     have hC5 := hC4.set F
     have hK5 := hK4.setCells cb (CA F).toList hcn.2.2.2
     refine hK.out _ _ ⟨hB5, hs5⟩ (fun hHeld => ?_)
     clear hK K hoc hO4 hB4 hs4 hV4 hC4 hK4
     simp only [sA0, sB0, sC0]
     clear hs5
     generalize w4.setCells cb 0 (CA F).toList = w5 at hO5 hB5 hV5 hC5 hK5 ⊢
     exact key w5 cb ⟨hO5, hB5, hV5, hC5, hK5, hcn⟩
   intro w5 cb hkey
   obtain ⟨hO5, hB5, hV5, hC5, hK5, hcn⟩ := hkey
   refine wpAnyH_done (by kernel_rfl) ?_ _
   have HO5 := Lib.hid hO5
   have HB5 := Lib.hid hB5
   have HV5 := Lib.hid hV5
   have HK5 := Lib.hid hK5
   have HC5 := Lib.hid hC5
   clear hO5 hB5 hV5 hK5 hC5
   go_upto_region 4 with fail
   refine held_s (S := fun w' => Var w' cb F) 9 rfl (by kernel_rfl) HC5.out.drew (fun hHeld => ?_)
   simp only [qA0, qB0, qC0, List.nil_append, List.cons_append]
   have HO6 : Hid (Own w5.drew (plus1 (plus1 X sb) cb) mp (M.gone cc (ll ++ [(sr, sa, false)]))) := Lib.hid (HO5.out.drewN 1)
   have HB6 : Hid (Box w5.drew lp 127 (LvA mp f N S T ov mb)) := Lib.hid (HB5.out.drewN 1)
   have HV6 : Hid (Var w5.drew bw U) := Lib.hid HV5.out.drew
   have HK6 : Hid (Kept (fun j => X j ∧ j ≠ bw) w w5.drew) := Lib.hid (HK5.out.drewN 1)
   have hand := and_mk b1 b2
   clear HO5 HB5 HV5 HK5 HC5
   generalize w5.drew = w6 at *
   refine tk1 0 28 (.pointer (some ⟨cb, 0, none⟩)) rfl (Or.inl ⟨by rfl, fun w' hw => by go_simp⟩) hHeld ?_
   try simp only [Act.put, List.setIfInBounds_toArray, List.set_cons_zero]
   refine tk1 1 29 (.int .u64 (F 0)) rfl (Or.inl ⟨by rfl, fun w' hw => by (have k0 := hw.cell (κ := 0) (by decide); have k1 := hw.cell (κ := 1) (by decide); go_simp)⟩) hHeld ?_
   try simp only [Act.put, sA0, sB0, sC0]
   refine tk1 3 31 (.pointer (some ⟨cb, 1, none⟩)) rfl (Or.inl ⟨by rfl, fun w' hw => by go_simp⟩) hHeld ?_
   try simp only [Act.put, sA0, sB0, sC0]
   refine tk1 4 32 (.int .u64 (F 1)) rfl (Or.inl ⟨by rfl, fun w' hw => by (have k0 := hw.cell (κ := 0) (by decide); have k1 := hw.cell (κ := 1) (by decide); go_simp)⟩) hHeld ?_
   try simp only [Act.put, sA0, sB0, sC0]
   refine tk1 5 33 (.int .u64 id) rfl (Or.inl ⟨by rfl, fun w' hw => by go_simp⟩) hHeld ?_
   try simp only [Act.put, sA0, sB0, sC0]
   refine one_ready 2 rfl (by kernel_rfl) (fun K hK => ?_)
   go_simp
   refine (equal_any (F 0) 1 _ (HWD.out 0).1 (HWD.out 0).2 (by decide) (by decide)).mono ?_
   rintro e wx ⟨rfl, rfl⟩
   rw [HE1.out]
   refine hK.out _ _ hHeld (fun hHeld => ?_)
   clear hK K
   simp only [sA0, sB0, sC0]
   refine one_ready 6 rfl (by kernel_rfl) (fun K hK => ?_)
   go_simp
   refine (equal_any (F 1) id _ (HWD.out 1).1 (HWD.out 1).2 hid.1 hid.2).mono ?_
   rintro e wx ⟨rfl, rfl⟩
   rw [HE2.out]
   refine hK.out _ _ hHeld (fun hHeld => ?_)
   clear hK K
   simp only [sA0, sB0, sC0]
   refine tk1 7 35 (.int .u64 (msk (b1 && b2))) rfl (Or.inl ⟨by rfl, fun w' hw => by go_simp⟩) hHeld ?_
   try simp only [Act.put, sA0, sB0, sC0]
   refine tk1 8 11 (.int .u64 (msk (b1 && b2))) rfl (Or.inl ⟨by rfl, fun w' hw => by go_simp⟩) hHeld ?_
   try simp only [Act.put, sA0, sB0, sC0]
   refine wpAnyH_done (by kernel_rfl) ?_ _
   have HC6 := Lib.hid hHeld
   clear hHeld hand
   generalize (b1 && b2) = mine at *
   go_wp2_with (with_reducible refine wpList_load_cell rfl (.tmp 10) rfl cb 0 rfl F HC6.out.rng ?_)
   refine (tell_any mine F U bw _ HWD.out HUW.out HV6.out).mono ?_
   rintro e w7 ⟨rfl, hV7, ho7⟩
   have hO7 := HO6.out.only ho7 (fun i hi => by have e : i = bw := hi; subst e; exact .inl (.inl hX2))
   have hB7 := HB6.out.only ho7 (just_ne hne.1)
   have hC7 := HC6.out.only ho7 (just_ne (by omega))
   have hK7 : Kept (fun j => X j ∧ j ≠ bw) w w7 := HK6.out.trans (Only.mono ho7 (fun i _ (hi : i = bw) h => h.2 hi))
   have HO7 := Lib.hid hO7
   have HB7 := Lib.hid hB7
   have HV7 := Lib.hid hV7
   have HK7 := Lib.hid hK7
   have HC7 := Lib.hid hC7
   clear hO7 hB7 hV7 hK7 hC7 ho7 HO6 HB6 HV6 HK6 HC6
   go_upto_region 6 with fail
   refine held_s (S := fun w' => Box w' lp 127 (LvA mp f N S T ov mb) ∧ Var w' cb F) 15 rfl (by kernel_rfl) ⟨HB7.out.drewN 1, HC7.out.drew⟩ (fun hHeld => ?_)
   simp only [qA0, qB0, qC0, List.nil_append, List.cons_append]
   have hO7 : Own w7.drew (plus1 (plus1 X sb) cb) mp (M.gone cc (ll ++ [(sr, sa, false)])) := HO7.out.drewN 1
   have hB7 : Box w7.drew lp 127 (LvA mp f N S T ov mb) := HB7.out.drewN 1
   have hC7 : Var w7.drew cb F := HC7.out.drew
   have hV7 : Var w7.drew bw (if mine = true then F else U) := HV7.out.drew
   have hK7 : Kept (fun j => X j ∧ j ≠ bw) w w7.drew := HK7.out.drewN 1
   clear HO7 HB7 HC7 HV7 HK7
   generalize w7.drew = w8' at *
   refine tk1 0 40 (.pointer (some ⟨lp, 0, none⟩)) rfl (Or.inl ⟨by rfl, fun w' hw => by go_simp⟩) hHeld ?_
   try simp only [Act.put, sA0, sB0, sC0]
   refine tk1 1 41 (.pointer (some ⟨lp, 0, none⟩)) rfl (Or.inl ⟨by rfl, fun w' hw => by go_simp⟩) hHeld ?_
   try simp only [Act.put, sA0, sB0, sC0]
   refine tk1 2 42 (.pointer (some ⟨lp, 0, none⟩)) rfl (Or.inl ⟨by rfl, fun w' hw => by go_simp⟩) hHeld ?_
   try simp only [Act.put, sA0, sB0, sC0]
   refine tk1 3 43 (.pointer (some ⟨mp, 0, none⟩)) rfl (Or.inl ⟨by rfl, fun w' hw => by (have k0 := lv0 hw.1; have k1 := lv1 hw.1; have k2 := lv2 hw.1; have k3 := lv3 hw.1; have k4 := lv4 hw.1; skip; go_simp)⟩) hHeld ?_
   try simp only [Act.put, sA0, sB0, sC0]
   refine tk1 4 44 (.pointer (some ⟨lp, 0, none⟩)) rfl (Or.inl ⟨by rfl, fun w' hw => by go_simp⟩) hHeld ?_
   try simp only [Act.put, sA0, sB0, sC0]
   refine tk1 5 45 (.pointer (some ⟨lp, 0, none⟩)) rfl (Or.inl ⟨by rfl, fun w' hw => by go_simp⟩) hHeld ?_
   try simp only [Act.put, sA0, sB0, sC0]
   refine tk1 6 46 (.pointer (some ⟨lp, 1, none⟩)) rfl (Or.inl ⟨by rfl, fun w' hw => by go_simp⟩) hHeld ?_
   try simp only [Act.put, sA0, sB0, sC0]
   refine tk1 7 47 (.agg #[.int .i64 (f : Int), .int .i64 (N : Int), .int .i64 (S : Int), .int .i64 (T : Int)]) rfl (Or.inl ⟨by rfl, fun w' hw => by (have k0 := lv0 hw.1; have k1 := lv1 hw.1; have k2 := lv2 hw.1; have k3 := lv3 hw.1; have k4 := lv4 hw.1; skip; go_simp)⟩) hHeld ?_
   try simp only [Act.put, sA0, sB0, sC0]
   refine tk1 9 49 (.int .i64 (i : Int)) rfl (Or.inl ⟨by rfl, fun w' hw => by go_simp⟩) hHeld ?_
   try simp only [Act.put, sA0, sB0, sC0]
   refine tk1 10 50 (.int .u64 (msk mine)) rfl (Or.inl ⟨by rfl, fun w' hw => by go_simp⟩) hHeld ?_
   try simp only [Act.put, sA0, sB0, sC0]
   refine tk1 11 51 (.agg (CA nul)) rfl (Or.inl ⟨by rfl, fun w' hw => by (go_simp; rfl)⟩) hHeld ?_
   try simp only [Act.put, sA0, sB0, sC0]
   refine take_row 12 (oi := ⟨some 52, _, _, _, _, _⟩) (CA F).toList rfl (by kernel_rfl) (by kernel_rfl) (by kernel_rfl) (fun _ _ _ h => h) (by rfl) _ _ rfl _ _ rfl _ (fun w' hw => hw.2.rng) Tryz.underlying64 rfl (infoCellL F) hHeld ?_
   try simp only [Act.put, sA0, sB0, sC0]
   refine one_ready 8 rfl (by kernel_rfl) (fun K hK => ?_)
   go_simp
   refine (HT.out _).mono ?_
   rintro e w8 ⟨rfl, hb8⟩
   have ho8 : Only nobody w8' w8 := Only.of_below hb8
   have hO8 := hO7.none ho8
   have hB8 := hB7.only ho8 (not_nobody _)
   have hC8 := hC7.nob ho8
   have hV8 := hV7.nob ho8
   have hK8 := hK7.trans (Kept.of_none ho8)
   refine hK.out _ _ ⟨hB8, hC8⟩ (fun hHeld => ?_)
   clear hK K hb8 ho8 hO7 hB7 hC7 hV7 hK7
   simp only [sA0, sB0, sC0]
   refine one_ready 13 rfl (by kernel_rfl) (fun K hK => ?_)
   go_simp
   refine (pickCell_mask mine nul F _ wd_zero HWD.out).mono ?_
   rintro e w10 ⟨rfl, hx⟩
   rw [← HLY.out]
   have ho10 := none_of_ext hx
   have hO10 := hO8.none ho10
   have hB10 := hB8.only ho10 (not_nobody _)
   have hC10 := hC8.nob ho10
   have hV10 := hV8.nob ho10
   have hK10 := hK8.trans (Kept.of_none ho10)
   refine hK.out _ _ ⟨hB10, hC10⟩ (fun hHeld => ?_)
   clear hK K hx ho10 hO8 hB8 hC8 hV8 hK8
   simp only [sA0, sB0, sC0]
   refine one_ready 14 rfl (by kernel_rfl) (fun K hK => ?_)
   go_simp
   refine (own_write _ mp (M.gone cc (ll ++ [(sr, sa, false)])) _ ((f + 2 : Nat) : Int) (i : Int) (LX i) hO10 (by rw [gone_len, List.length_append]; simp only [List.length_cons, List.length_nil]; omega)).mono ?_
   rintro e w11 ⟨rfl, ho, hk⟩
   rw [gone_write (by show f + 2 < M.k; omega) (by show i < M.sz (f + 2); omega), HSUC.out] at ho
   have hB11 := hk.box hB10 (.inl (.inl hX1))
   have hC11 := hC10.kept hk (.inr rfl)
   have hV11 := hV10.kept hk (.inl (.inl hX2))
   have hK11 := hK10.trans (hk.mono (fun i hi => .inl (.inl hi.1)))
   have hO11 := ho.weak (fun j (hj : X j) => .inl (.inl hj))
   refine hK.out _ _ ⟨hB11, hC11⟩ (fun hHeld => ?_)
   clear hK K hk ho hO10 hB10 hC10 hV10 hK10
   simp only [sA0, sB0, sC0]
   refine wpAnyH_done (by kernel_rfl) ?_ _
   have HE : Hid (FeAt w X mp f S D T lf bw id nb M (i + 1) w11) := Lib.hid ⟨by rw [HLx.out, HEV.out]; exact hO11, hK11, by rw [HWAS.out]; exact hV11⟩
   clear hO11 hK11 hV11 hB11 hC11 hHeld
   go_wp2_with fail
   go_roundw
   case rel => exact ⟨i + 1, by go_num, by omega, HE.out⟩
   case measure => simp [intOf]; omega
  ·obtain rfl : i = L + T := by omega
   clear hS
   go_wp2_with fail
   go_end0
   exact ⟨rfl, HS.out⟩
end Go.Proofs.YtknnebhjldfkhaaGreat


namespace Go.Proofs.YtknnebhjldfkhaaGreat
set_option maxRecDepth 100000
open Go.RowKit Go.ChangeShapes Go.WideShapes Go.ChangeAt Go.Maps

theorem Own.wide {S : Nat → Prop} {w w' : World} {X : Nat → Prop} {p : Nat} {M : MS} (h : Own w X p M) (ho : Only S w w') (hs : ∀ i, S i → X i) : Own w' (fun i => X i ∨ (w.heap.size ≤ i ∧ i < w'.heap.size)) p M := by
 obtain ⟨F, hm, hF, hX⟩ := h
 refine ⟨F, hm.only ho (fun i hi k => hF i hi (hs i k)), fun i hi k => ?_, fun i hi => ?_⟩
 ·rcases k with k | k
  ·exact hF i hi k
  ·have := hm.lt i hi; omega
 ·rcases hi with hi | hi
  ·exact Nat.lt_of_lt_of_le (hX i hi) ho.size
  ·exact hi.2
structure AcMid {H : Type} (w : World) (lp mp f N S T : Nat) (ov : Bool) (bm nm ab b : Nat) (op id at' : Int) (d : Nat → Int) (lf to : Int) (D0 : DataW H) (w' : World) : Prop where
 only : Only (just bm) w w'
 lv : Box w' lp 127 (LvA mp f N S T ov (some bm))
 ask : Box w' ab 122 (askA op id at' d lf to)
 res : Box w' (b + 1) 48 (DA fun _ => 0)
 ids : ∃ n', n' ≤ nm + 1 ∧ w'.ownsMap Tryz.prog 43 unitElem bm n' (if (op == 1 || op == 2) = true then D0.put (.int .u64 id) (.agg []) else D0)
def wasA (S D T f lf : Nat) (id : Int) (M : MS) : Cl := wasC (fun j => M.c (spot S D f lf j).1 (spot S D f lf j).2) id ((D + 1) * S + T)
def nbA (S D T f lf : Nat) (op id at' to : Int) (d : Nat → Int) (M : MS) : Cl := newB op id at' to d (wasA S D T f lf id M)
def laidA (S D T f lf : Nat) (op id at' to : Int) (d : Nat → Int) (M : MS) : Nat → Cl := laidX S D T lf (cellsE f M.c) id (nbA S D T f lf op id at' to d M)
def AcsPost {H : Type} (w : World) (X : Nat → Prop) (lp mp f N S T D n P lf to bm nm : Nat) (ov : Bool) (op id at' : Int) (d : Nat → Int) (D0 : DataW H) (M : MS) (e : Ending) (w' : World) : Prop :=
 e = .returned (.tuple #[.agg (DA fun i => wasA S D T f lf id M (3 + i)), .bool (wasA S D T f lf id M 0 == 1)]) ∧
 ∃ o, IsOrd (tabI D n P (dpW D lf) (laidA S D T f lf op id at' to d M)) n o ∧
  Own w' X mp (M.gone (accC S D T f P lf id (nbA S D T f lf op id at' to d M) o M.c) (evA S D T f P lf)) ∧
  Box w' lp 127 (LvA mp f N S T (ov || !(lostO (tabI D n P (dpW D lf) (laidA S D T f lf op id at' to d M)) S D T o).isEmpty) (some bm)) ∧
  (∃ n', n' ≤ nm + 1 ∧ w'.ownsMap Tryz.prog 43 unitElem bm n' (if (op == 1 || op == 2) = true then D0.put (.int .u64 id) (.agg []) else D0)) ∧
  Kept (fun j => X j ∧ j ≠ lp ∧ j ≠ bm) w w'
theorem acc_done {N S T D L n Q P : Nat} (h : Conf N S T D L n Q P) (f lf : Nat) (op id at' to : Int) (d : Nat → Int) (M : MS) (o : List Nat) :
  (arrM (M.gone (cT (f + 2) (laidA S D T f lf op id at' to d M) M.c Q) (evF S D T f lf Q)) f Q n S D T P lf (laidA S D T f lf op id at' to d M) o).gone
   (cG (spot S D f lf) (fun i => setw (tab3 S D T n P (dpW D lf) (laidA S D T f lf op id at' to d M) o i) 11 0) (arrM (M.gone (cT (f + 2) (laidA S D T f lf op id at' to d M) M.c Q) (evF S D T f lf Q)) f Q n S D T P lf (laidA S D T f lf op id at' to d M) o).c (L + T)) (evG S D f lf (L + T)) =
  M.gone (accC S D T f P lf id (nbA S D T f lf op id at' to d M) o M.c) (evA S D T f P lf) := by
 have h1 := h.hL
 have h2 := h.hn
 have h3 := h.hQ
 subst h1
 subst h2
 subst h3
 unfold arrM
 rw [gone_gone, gone_gone]
 show M.gone (cG _ _ (cT (f + 2) _ (cT (f + 2) _ M.c _) _) _) _ = _
 rw [cT_over rfl]
 unfold evA accC
 simp only [List.append_assoc]
 rfl
structure AcEnd {H : Type} (w : World) (X X2 : Nat → Prop) (lp mp f N S T b bm nm : Nat) (ov : Bool) (D1 : DataW H) (M : MS) (wr : World) : Prop where
 own : Own wr X2 mp M
 box : Box wr lp 127 (LvA mp f N S T ov (some bm))
 ids : ∃ n', n' ≤ nm + 1 ∧ wr.ownsMap Tryz.prog 43 unitElem bm n' D1
 res : Box wr (b + 1) 48 (DA fun _ => 0)
 kept : Kept (fun j => X j ∧ j ≠ lp ∧ j ≠ bm) w wr
theorem AcEnd.nob {H : Type} {w : World} {X X2 : Nat → Prop} {lp mp f N S T b bm nm : Nat} {ov : Bool} {D1 : DataW H} {M : MS} {wr wr' : World} (h : AcEnd w X X2 lp mp f N S T b bm nm ov D1 M wr) (ho : Only nobody wr wr') : AcEnd w X X2 lp mp f N S T b bm nm ov D1 M wr' := by
 obtain ⟨n', h1, h2⟩ := h.ids
 exact ⟨h.own.none ho, h.box.only ho (not_nobody _), ⟨n', h1, map_only h2 ho (not_nobody _)⟩, h.res.only ho (not_nobody _), h.kept.trans (Kept.of_none ho)⟩
theorem AcEnd.put {H : Type} {w : World} {X X2 : Nat → Prop} {lp mp f N S T b bm nm : Nat} {ov : Bool} {D1 : DataW H} {M : MS} {wr : World} (h : AcEnd w X X2 lp mp f N S T b bm nm ov D1 M wr) (vs : List Value) (hb : w.heap.size ≤ b) (hX : ∀ i, X i → X2 i) (hX2 : X2 (b + 1)) (hlb : lp < b) (hmb : bm < b) :
  Own (wr.setCells (b + 1) 0 vs) X mp M ∧ Box (wr.setCells (b + 1) 0 vs) lp 127 (LvA mp f N S T ov (some bm)) ∧ (∃ n', n' ≤ nm + 1 ∧ (wr.setCells (b + 1) 0 vs).ownsMap Tryz.prog 43 unitElem bm n' D1) ∧ Kept (fun j => X j ∧ j ≠ lp ∧ j ≠ bm) w (wr.setCells (b + 1) 0 vs) := by
 have ho : Only (just (b + 1)) wr (wr.setCells (b + 1) 0 vs) := only_setCells vs 0 wr (Only.refl _ _) (.inl (just_self _))
 obtain ⟨n', h1, h2⟩ := h.ids
 exact ⟨(h.own.setCells (b + 1) vs hX2).weak hX, h.box.only ho (just_ne (by omega)), ⟨n', h1, map_only h2 ho (just_ne (by omega))⟩, h.kept.setCells (b + 1) vs (by omega)⟩
theorem step_store_data {ops : Array Oper} {o : Oper} {a : Act} {w : World} {K : Act → World → Prop} {Q : Exit → Act → World → Prop} {E : Prop} (hgd : o.guard = none) (x y : Operand) (ho : o.op = .store 48 x y)
  (b i : Nat) (hx : a.eval x = .pointer (some ⟨b, i, none⟩)) (f : Nat → Int) (hy : a.eval y = .agg (DA f)) (ht : w.there b i 8)
  (h : K (a.put o.dst undef) (w.setCells b i (DA f).toList)) : if Region.wanted o (yielded ops a.tmps) = true then Oper.wp Tryz.prog o a w K Q else E := by
 have hw : Region.wanted o (yielded ops a.tmps) = true := by simp [Region.wanted, hgd]
 rw [if_pos hw]
 exact wp_store_mid 48 x y ho b i (DA f) hx hy ht (infoData f) (by simp [DA, Value.oneCell']) h
set_option maxRecDepth 100000 in
set_option maxHeartbeats 4000000 in
theorem access_any {H : Type} {N S T D L n Q P : Nat} (h : Conf N S T D L n Q P) (X : Nat → Prop) (lp mp f bm nm lf to : Nat) (ov : Bool) (D0 : DataW H) (op id at' : Int) (d : Nat → Int) (M : MS) (w : World) (hI : isAsk N op id at' lf to = true) (hi : 0 ≤ id) (hn : nm < maxLen)
  (hM : LvM M f S D T Q) (hf : f ≤ 100) (hlf : lf < N) (hto : to ≤ 1024) (hO : Own w X mp M) (hX1 : X lp) (hX2 : X bm)
  (hB : Box w lp 127 (LvA mp f N S T ov (some bm))) (hmp : w.ownsMap Tryz.prog 43 unitElem bm nm D0)
  (hl : M.es.length < 898000000) (hCg : ∀ i, i < Q → GoodC N (laidA S D T f lf op id at' to d M i)) (hT : TabOk D n P (dpW D lf) (laidA S D T f lf op id at' to d M)) :
  Calls Tryz.prog 16 #[.pointer (some ⟨lp, 0, none⟩), .int .i64 op, .int .u64 id, .int .i64 at', .agg (DA d), .int .i64 (lf : Int), .int .i64 (to : Int)] w (AcsPost w X lp mp f N S T D n P lf to bm nm ov op id at' d D0 M) := by
 have HSp := Lib.hid (fun W => way_spots h f lf hf hlf W)
 have HFe := Lib.hid (fun X' bw g cap nb W => fetch_any h X' lp mp f lf bw g cap ov (some bm) id nb M W hM hlf hf)
 have HO0 := Lib.hid hO
 have hask : (0 ≤ op ∧ op ≤ 3) ∧ (op = 2 → 0 ≤ at' ∧ at' ≤ 6) := by
  have hI' := hI
  unfold isAsk at hI'
  simp only [Bool.and_eq_true, Bool.or_eq_true, decide_eq_true_eq] at hI'
  exact ⟨⟨hI'.1.1.1.1.1, hI'.1.1.1.1.2⟩, fun e => hI'.2.resolve_left (fun k => k e)⟩
 have HBk := Lib.hid (fun g W => block_any op id at' d lf to g W hask.1 hask.2 ⟨by omega, by omega⟩)
 have HAd := Lib.hid (fun X' B Z W => add_any h X' lp mp f lf ov (some bm) M B Z W hM hf)
 clear hask
 have HAr := Lib.hid (fun X' W Mf (hMf : LvM Mf f S D T Q) (hl' : Mf.es.length < 899000000) hC hO' hx hb => arrange_any h X' lp mp f lf ov (some bm) Mf (laidA S D T f lf op id at' to d M) W hMf hl' hf hlf hC hCg hT hO' hx hb)
 have HBa := Lib.hid (fun X' g cap ov' Mf C W (hMf : LvM Mf f S D T Q) hC hO' hx hg hb hs => back_any h X' lp mp f lf g cap ov' (some bm) Mf C W hMf hlf hf hC hO' hx hg hb hs)
 have HDa := Lib.hid (fun W => data_any (wasA S D T f lf id M) W)
 have HHa := Lib.hid (fun W => has_any (wasA S D T f lf id M) W)
 have HDn := Lib.hid (fun o => acc_done h f lf op id at' to d M o)
 have hQP := h.hQ
 have hQ := h.big.2.2.2
 have hQ2 : 2 ^ P ≤ 256 := by rw [hQP]; exact hQ
 have hnet : 4 * (netL P).length ≤ 8 * 9 * 256 := by
  rw [netL_len P]
  exact Nat.mul_le_mul (Nat.mul_le_mul h.hP (by have := h.hP; omega)) hQ2
 have hlk := looks_len (f + 2) (netL P)
 have hevE := evE_len (f + 2) Q
 have hevF := evF_len S D T f lf Q
 have hwl : ∀ i, i < 2 ^ P → Wd (laidA S D T f lf op id at' to d M i) := fun i hi => (hCg i (by rw [← hQP]; exact hi)).1
 have hMf := hM.gone (cT (f + 2) (laidA S D T f lf op id at' to d M) M.c Q) (evF S D T f lf Q) (cT_wd9 (fun a ha => hwl a (by rw [hQP]; exact ha)) hM.wd) (by omega)
 have HMf := Lib.hid hMf
 have HlMf : Hid ((M.gone (cT (f + 2) (laidA S D T f lf op id at' to d M) M.c Q) (evF S D T f lf Q)).es.length < 899000000) := Lib.hid (by rw [gone_len]; omega)
 have HMa := Lib.hid (fun o (ho : IsOrd (tabI D n P (dpW D lf) (laidA S D T f lf op id at' to d M)) n o) => hMf.gone (cT (f + 2) (tab3 S D T n P (dpW D lf) (laidA S D T f lf op id at' to d M) o) (cT (f + 2) (laidA S D T f lf op id at' to d M) M.c Q) Q) (evE (f + 2) Q ++ looks (f + 2) (netL P) ++ evE (f + 2) Q ++ looks (f + 2) (netL P))
  (cT_wd9 (fun a ha => tab3_wd h.hD hQ2 hT hwl h.s1 (by have := h.hL; have := h.hn; omega) ho (by rw [hQP]; exact ha)) (cT_wd9 (fun a ha => hwl a (by rw [hQP]; exact ha)) hM.wd)) (by
   rw [gone_len, List.length_append, List.length_append, List.length_append]
   omega))
 have HZL := Lib.hid (show laidA S D T f lf op id at' to d M (L + T) = nbA S D T f lf op id at' to d M by
  unfold laidA laidX
  rw [h.hL, if_neg (by omega), if_pos rfl])
 have HZn := Lib.hid (show ∀ j, L + T < j → laidA S D T f lf op id at' to d M j = nul from fun j hj => by
  unfold laidA laidX
  rw [h.hL, if_neg (by omega), if_neg (by omega)])
 have hL := h.hL
 clear hMf hwl hT hCg hevF hevE hlk hnet hQ2 hQ hQP
 clear hM hO h
 have HA := Lib.hid (fun W => ask_right (N : Int) (S : Int) (T : Int) op id at' d lf to W)
 rw [hI] at HA
 obtain ⟨b, hb⟩ : ∃ b, w.heap.size = b := ⟨_, rfl⟩
 have HBb := Lib.hid hb
 have HB := Lib.hid hB
 have HM := Lib.hid hmp
 have hid : id ≤ 2147483648 := by
  unfold isAsk at hI
  simp only [Bool.and_eq_true, decide_eq_true_eq] at hI
  exact hI.1.2
 clear hb hB hI hmp
 go_enter Tryz.func16, Tryz.ntmps16
 go_upto_region 1 with fail
 rw [HBb.out]
 obtain ⟨w2, hw2⟩ : ∃ x, (w.alloc (.cells (DA d) 48)).alloc (.cells #[.int .u64 0, .int .u64 0, .int .u64 0, .int .u64 0, .int .u64 0, .int .u64 0, .int .u64 0, .int .u64 0] 48) = x := ⟨_, rfl⟩
 have hd : Box w2 b 48 (DA d) := by rw [← hw2, ← HBb.out]; exact (Box.new w _ _).alloc _
 have hr : Box w2 (b + 1) 48 (DA fun _ => 0) := by
  rw [← hw2]
  have := Box.new (w.alloc (.cells (DA d) 48)) 48 (DA fun _ => 0)
  have e : (w.alloc (.cells (DA d) 48)).heap.size = b + 1 := by simp [HBb.out]
  rw [e] at this
  exact this
 have ho2 : Only nobody w w2 := by rw [← hw2]; exact ((Only.refl nobody w).alloc _).alloc _
 have HD := Lib.hid hd
 have HR := Lib.hid hr
 have HO2 := Lib.hid ho2
 have HB2 := Lib.hid (HB.out.only ho2 (not_nobody _))
 have HM2 := Lib.hid (map_only HM.out ho2 (not_nobody _))
 clear hd hr ho2
 rw [show (w.alloc (.cells (DA d) 48)).alloc (.cells #[.int .u64 0, .int .u64 0, .int .u64 0, .int .u64 0, .int .u64 0, .int .u64 0, .int .u64 0, .int .u64 0] 48) = w2 from hw2]
 clear hw2
 have d0 := HD.out.cell 0
 have d1 := HD.out.cell 1
 have d2 := HD.out.cell 2
 have d3 := HD.out.cell 3
 have d4 := HD.out.cell 4
 have d5 := HD.out.cell 5
 have d6 := HD.out.cell 6
 have d7 := HD.out.cell 7
 simp only [DA, List.getElem?_toArray, List.getElem?_cons_succ, List.getElem?_cons_zero] at d0 d1 d2 d3 d4 d5 d6 d7
 simp only [DA]
 go_upto_region 2 with fail
 clear d0 d1 d2 d3 d4 d5 d6 d7
 obtain ⟨ab, hab⟩ : ∃ x, w2.heap.size = x := ⟨_, rfl⟩
 have HAb : Hid (w.heap.size ≤ ab) := Lib.hid (by have := HO2.out.size; omega)
 obtain ⟨w3, hw3⟩ : ∃ x, w2.alloc (.cells (askA op id at' d lf to) 122) = x := ⟨_, rfl⟩
 have ha : Box w3 ab 122 (askA op id at' d lf to) := by rw [← hw3, ← hab]; exact Box.new w2 _ _
 have ho3 : Only nobody w2 w3 := by rw [← hw3]; exact (Only.refl nobody _).alloc _
 have hB3 := HB2.out.only ho3 (not_nobody _)
 have hR3 := HR.out.only ho3 (not_nobody _)
 have hO3 := HO2.out.trans ho3
 have hM3 := map_only HM2.out ho3 (not_nobody _)
 simp only [hab]
 change Code.wp _ _ _ _ (w2.alloc (.cells (askA op id at' d lf to) 122))
 rw [hw3]
 clear ho3 hw3 HB2 HR HO2 HD
 refine held_s (S := fun w' => Box w' lp 127 (LvA mp f N S T ov (some bm)) ∧ Box w' ab 122 (askA op id at' d lf to)) 8 rfl (by kernel_rfl) ⟨hB3.drewN 1, ha.drewN 1⟩ (fun hHeld => ?_)
 simp only [qA0, qB0, qC0, List.nil_append, List.cons_append]
 have hR4 : Box w3.drew (b + 1) 48 (DA fun _ => 0) := hR3.drewN 1
 have hO4 : Only nobody w w3.drew := hO3.drew
 have hM4 : w3.drew.ownsMap Tryz.prog 43 unitElem bm nm D0 := hM3
 clear hR3 hO3 hB3 ha hM3 HM2 HB HM
 generalize w3.drew = w4 at *
 refine tk1 0 26 ((.agg (askA op id at' d lf to))) rfl (Or.inl ⟨by rfl, fun w' hw => by (have k0 := hw.2.cell 0; have k1 := hw.2.cell 1; have k2 := hw.2.cell 2; have k3 := hw.2.cell 3; have k4 := hw.2.cell 4; have k5 := hw.2.cell 5; have k6 := hw.2.cell 6; have k7 := hw.2.cell 7; have k8 := hw.2.cell 8; have k9 := hw.2.cell 9; have k10 := hw.2.cell 10; have k11 := hw.2.cell 11; have k12 := hw.2.cell 12; simp only [askA, List.getElem?_toArray, List.getElem?_cons_succ, List.getElem?_cons_zero] at k0 k1 k2 k3 k4 k5 k6 k7 k8 k9 k10 k11 k12 ⊢; go_simp)⟩) hHeld ?_
 try simp only [Act.put, sA0, sB0, sC0]
 refine tk1 1 27 (.pointer (some ⟨lp, 0, none⟩)) rfl (Or.inl ⟨by rfl, fun w' hw => by go_simp⟩) hHeld ?_
 try simp only [Act.put, sA0, sB0, sC0]
 refine tk1 2 28 (.pointer (some ⟨lp, 0, none⟩)) rfl (Or.inl ⟨by rfl, fun w' hw => by go_simp⟩) hHeld ?_
 try simp only [Act.put, sA0, sB0, sC0]
 refine tk1 3 29 (.pointer (some ⟨lp, 1, none⟩)) rfl (Or.inl ⟨by rfl, fun w' hw => by go_simp⟩) hHeld ?_
 try simp only [Act.put, sA0, sB0, sC0]
 refine tk1 4 30 (.pointer (some ⟨lp, 2, none⟩)) rfl (Or.inl ⟨by rfl, fun w' hw => by go_simp⟩) hHeld ?_
 try simp only [Act.put, sA0, sB0, sC0]
 refine tk1 5 31 (.agg #[.int .i64 (N : Int), .int .i64 (S : Int), .int .i64 (T : Int)]) rfl (Or.inl ⟨by rfl, fun w' hw => by (have k2 := lv2 hw.1; have k3 := lv3 hw.1; have k4 := lv4 hw.1; go_simp)⟩) hHeld ?_
 try simp only [Act.put, sA0, sB0, sC0]
 refine one_ready 6 rfl (by kernel_rfl) (fun K hK => ?_)
 go_simp
 refine (HA.out _).mono ?_
 rintro e w5 ⟨rfl, hb5⟩
 have ho : Only nobody w4 w5 := Only.of_below hb5
 have hR5 := hR4.only ho (not_nobody _)
 have hO5 := hO4.trans ho
 have hM5 := map_only hM4 ho (not_nobody _)
 refine hK.out _ _ ⟨hHeld.1.only ho (not_nobody _), hHeld.2.only ho (not_nobody _)⟩ (fun hHeld => ?_)
 clear hK K ho hb5 hR4 hO4 hM4
 simp only [sA0, sB0, sC0]
 refine tk1 7 33 (.bool false) rfl (Or.inl ⟨by rfl, fun w' hw => by go_simp⟩) hHeld ?_
 try simp only [Act.put, sA0, sB0, sC0]
 refine wpAnyH_done (by kernel_rfl) ?_ _
 have HBx := Lib.hid hHeld.1
 have HAx := Lib.hid hHeld.2
 have HR5 := Lib.hid hR5
 have HO5 := Lib.hid hO5
 have HM5 := Lib.hid hM5
 have HPu := Lib.hid (fun W => puts_any op id at' d lf to W)
 clear hHeld hR5 hO5 hM5
 go_upto_region 4 with fail
 have k0 := HAx.out.cell 0
 have k1 := HAx.out.cell 1
 have k2 := HAx.out.cell 2
 have k3 := HAx.out.cell 3
 have k4 := HAx.out.cell 4
 have k5 := HAx.out.cell 5
 have k6 := HAx.out.cell 6
 have k7 := HAx.out.cell 7
 have k8 := HAx.out.cell 8
 have k9 := HAx.out.cell 9
 have k10 := HAx.out.cell 10
 have k11 := HAx.out.cell 11
 have k12 := HAx.out.cell 12
 simp only [askA, List.getElem?_toArray, List.getElem?_cons_succ, List.getElem?_cons_zero] at k0 k1 k2 k3 k4 k5 k6 k7 k8 k9 k10 k11 k12
 go_wp2_with fail
 refine (HPu.out _).mono ?_
 rintro e w6 ⟨rfl, hb6⟩
 have ho : Only nobody w5 w6 := Only.of_below hb6
 clear k0 k1 k2 k3 k4 k5 k6 k7 k8 k9 k10 k11 k12
 have HB6 := Lib.hid (HBx.out.only ho (not_nobody _))
 have HA6 := Lib.hid (HAx.out.only ho (not_nobody _))
 have HR6 := Lib.hid (HR5.out.only ho (not_nobody _))
 have HM6 := Lib.hid (map_only HM5.out ho (not_nobody _))
 have HO6 := Lib.hid (HO5.out.trans ho)
 have c6 : w6.cell? ⟨lp, 6, none⟩ = some (.map (some bm)) := HB6.out.cell 6
 clear ho hb6 HBx HAx HR5 HM5 HO5
 go_upto_if 36 with fail
 generalize hp : (op == 1 || op == 2) = pb
 go_cut [] from 37 (fun w' => AcMid w lp mp f N S T ov bm nm ab b op id at' d lf to D0 w')
 case first =>
  cases pb with
  | true =>
   go_wp2_with (at_mapUpdate; refine wpList_mapUpdate_in _ rfl (.tmp 40) (.tmp 41) (.tmp 42) 125 rfl 43 128 keyed64 Tryz.underlying125 unitElem bm nm D0 rfl HM6.out hn _ _ (.int .u64 id) rfl rfl (keyOf_int_mk Tryz.underlying43 (WalkArith.wf_u64 (by omega))) (.agg []) [] unitElem_mk ?_; intro w7 hm7 ht7)
   have ht := turned_only ht7
   have HE : Hid (AcMid w lp mp f N S T ov bm nm ab b op id at' d lf to D0 w7) := Lib.hid ⟨(HO6.out.mono (fun _ _ h => absurd h (not_nobody _))).trans ht, HB6.out.only ht (just_ne (map_ne HM6.out HB6.out)), HA6.out.only ht (just_ne (map_ne HM6.out HA6.out)), HR6.out.only ht (just_ne (map_ne HM6.out HR6.out)), nm + 1, Nat.le_refl _, by rw [hp]; exact hm7⟩
   clear hm7 ht7 ht
   go_meet
   case rel => exact HE.out
  | false =>
   have HE : Hid (AcMid w lp mp f N S T ov bm nm ab b op id at' d lf to D0 w6) := Lib.hid ⟨HO6.out.mono (fun _ _ h => absurd h (not_nobody _)), HB6.out, HA6.out, HR6.out, nm, Nat.le_succ _, by rw [hp]; exact HM6.out⟩
   go_wp2_with fail
   go_meet
   case rel => exact HE.out
 case rest =>
  have HC := Lib.hid hcut
  clear hcut HM6 HB6 HA6 HR6 HO6 c6
  obtain ⟨bw, hbw⟩ : ∃ x, wc.heap.size = x := ⟨_, rfl⟩
  obtain ⟨w8, hw8⟩ : ∃ x, wc.alloc (.cells #[.int .u64 0, .int .u64 0, .int .u64 0, .int .u64 0, .int .u64 0, .int .u64 0, .int .u64 0, .int .u64 0, .int .u64 0, .int .u64 0, .int .u64 0, .int .u64 0] 64) = x := ⟨_, rfl⟩
  have hV8 : Var w8 bw nul := by rw [← hw8, ← hbw]; exact Var.new wc nul 64
  have ho8 : Only nobody wc w8 := by rw [← hw8]; exact (Only.refl nobody _).alloc _
  have HB8 := Lib.hid (HC.out.lv.only ho8 (not_nobody _))
  have HV8 := Lib.hid hV8
  have HO8 := Lib.hid ho8
  have HBw := Lib.hid hbw
  clear hV8 ho8
  go_upto_region 7 with fail
  try simp only [hbw]
  try rw [hw8]
  clear hw8 hbw
  have p1 := lv1 HB8.out
  have p2 := lv2 HB8.out
  have p3 := lv3 HB8.out
  have p4 := lv4 HB8.out
  go_wp2_with fail
  refine (HSp.out _).mono ?_
  rintro e w9 ⟨g, cap, rfl, hsp, hb9⟩
  clear p1 p2 p3 p4
  have ho9 : Only nobody w8 w9 := Only.of_below hb9
  have hog : Only (just bm) w w9 := (HC.out.only.trans (HO8.out.mono (fun _ _ h => absurd h (not_nobody _)))).trans (ho9.mono (fun _ _ h => absurd h (not_nobody _)))
  have hwb : w.heap.size ≤ bw := by have := HBw.out; have := HC.out.only.size; omega
  have hw98 : w8.heap.size ≤ w9.heap.size := hb9.size
  have HO9 : Hid (Own w9 (fun i => X i ∨ (w.heap.size ≤ i ∧ i < w9.heap.size)) mp M) := Lib.hid (HO0.out.wide hog (fun i hi => by have hi : i = bm := hi; rw [hi]; exact hX2))
  have HB9 := Lib.hid (HB8.out.only ho9 (not_nobody _))
  have HV9 := Lib.hid (HV8.out.nob ho9)
  have HG9 := Lib.hid hsp
  have HXg : Hid (w.heap.size ≤ g ∧ g < w9.heap.size ∧ bw < g ∧ lp < bw) := Lib.hid (by
   have h1 := hsp.old
   have h2 := hsp.lt
   have h3 := HV8.out.lt
   have h4 := HC.out.lv.lt
   have h5 := HBw.out
   exact ⟨by omega, h2, by omega, by omega⟩)
  have HAsk9 := Lib.hid ((HC.out.ask.only HO8.out (not_nobody _)).only ho9 (not_nobody _))
  have HN9 := Lib.hid ho9
  clear hsp hb9 ho9 HB8 HV8
  go_upto_region 8 with fail
  go_wp2_with fail
  refine (HFe.out (fun i => X i ∨ (w.heap.size ≤ i ∧ i < w9.heap.size)) bw g cap (newB op id at' to d (wasC (fun j => M.c (spot S D f lf j).1 (spot S D f lf j).2) id (L + T))) w9 ⟨hi, by omega⟩ HO9.out (.inl hX1) (.inr ⟨hwb, by have := HXg.out; omega⟩) (.inr ⟨HXg.out.1, HXg.out.2.1⟩) ⟨by have := HXg.out; omega, by have := HXg.out; omega⟩ HB9.out HV9.out ?_).mono ?_
  ·exact ⟨Nat.zero_le _, HG9.out.lt, HG9.out.cell⟩
  rintro e w10 ⟨rfl, hfe⟩
  have HB10 := Lib.hid (hfe.kept.box HB9.out ⟨.inl hX1, by have := HXg.out; omega⟩)
  have HO10 := Lib.hid hfe.own
  have HV10 := Lib.hid hfe.was
  have HK10 := Lib.hid hfe.kept
  have HA10 : Hid (Box w10 ab 122 (askA op id at' d lf to)) := Lib.hid (by
   have h1 := (HC.out.ask.only HO8.out (not_nobody _)).lt
   have h2 := HBw.out
   have h3 := HC.out.ask.lt
   exact hfe.kept.box (HAsk9.out) ⟨.inr ⟨HAb.out, by omega⟩, by omega⟩)
  clear hfe HB9 HV9 HO9
  have k0 := HA10.out.cell 0
  have k1 := HA10.out.cell 1
  have k2 := HA10.out.cell 2
  have k3 := HA10.out.cell 3
  have k4 := HA10.out.cell 4
  have k5 := HA10.out.cell 5
  have k6 := HA10.out.cell 6
  have k7 := HA10.out.cell 7
  have k8 := HA10.out.cell 8
  have k9 := HA10.out.cell 9
  have k10 := HA10.out.cell 10
  have k11 := HA10.out.cell 11
  have k12 := HA10.out.cell 12
  simp only [askA, List.getElem?_toArray, List.getElem?_cons_succ, List.getElem?_cons_zero] at k0 k1 k2 k3 k4 k5 k6 k7 k8 k9 k10 k11 k12
  have hwas : wasC (fun j => M.c (spot S D f lf j).1 (spot S D f lf j).2) id (L + T) = wasA S D T f lf id M := by unfold wasA; rw [hL]
  have HOa : Hid (Own w10 (fun i => X i ∨ (w.heap.size ≤ i ∧ i < w9.heap.size)) mp (M.gone (cT (f + 2) (laidA S D T f lf op id at' to d M) M.c (L + T)) (evF S D T f lf (L + T)))) := Lib.hid (by
   have := HO10.out
   rw [hwas] at this
   exact this)
  have HVa : Hid (Var w10 bw (wasA S D T f lf id M)) := Lib.hid (by rw [← hwas]; exact HV10.out)
  clear HO10 HV10 hwas hL
  go_upto_region 9 with fail
  go_wp2_with (with_reducible refine wpList_load_cell rfl (.tmp 17) rfl bw 0 rfl (wasA S D T f lf id M) HVa.out.rng ?_)
  refine (HBk.out _ _).mono ?_
  rintro e w11 ⟨rfl, hb11⟩
  have ho11 : Only nobody w10 w11 := Only.of_below hb11
  have HOb := Lib.hid (HOa.out.none ho11)
  have HVb := Lib.hid (HVa.out.nob ho11)
  have HBb11 := Lib.hid (HB10.out.only ho11 (not_nobody _))
  have HK11 : Hid (Kept (fun j => (X j ∨ (w.heap.size ≤ j ∧ j < w9.heap.size)) ∧ j ≠ bw) w9 w11) := Lib.hid (HK10.out.trans (Kept.of_none ho11))
  clear k0 k1 k2 k3 k4 k5 k6 k7 k8 k9 k10 k11 k12 hb11 ho11 HOa HVa HB10 HK10 HA10
  go_wp2_with fail
  rw [show (L : Int) + (T : Int) = ((L + T : Nat) : Int) from rfl]
  refine (HAd.out (fun i => X i ∨ (w.heap.size ≤ i ∧ i < w9.heap.size)) _ (laidA S D T f lf op id at' to d M) w11 HZL.out HZn.out HOb.out (.inl hX1) HBb11.out).mono ?_
  rintro e w12 ⟨rfl, hO12, hK12⟩
  have HO12 := Lib.hid hO12
  have HB12 := Lib.hid (hK12.box HBb11.out (.inl hX1))
  have HK12 := Lib.hid (HK11.out.trans (hK12.mono (fun j hj => hj.1)))
  have HV12 := Lib.hid (HVb.out.kept hK12 (.inr ⟨hwb, by have := HXg.out; omega⟩))
  clear hO12 hK12 HOb HVb HBb11 HK11 HAd
  go_wp2_with fail
  refine (HAr.out (fun i => X i ∨ (w.heap.size ≤ i ∧ i < w9.heap.size)) w12 _ HMf.out HlMf.out (fun a ha => cT_at ha) HO12.out (.inl hX1) HB12.out).mono ?_
  rintro e w13 ⟨rfl, o, hor, hO13, hK13, hB13⟩
  have HO13 := Lib.hid hO13
  have HB13 := Lib.hid hB13
  have HOr := Lib.hid hor
  have HK13 := Lib.hid ((HK12.out.mono (Y := fun j => (X j ∨ (w.heap.size ≤ j ∧ j < w9.heap.size)) ∧ j ≠ bw ∧ j ≠ lp) (fun j hj => ⟨hj.1, hj.2.1⟩)).trans (hK13.mono (fun j hj => ⟨hj.1, hj.2.2⟩)))
  have HV13 := Lib.hid (HV12.out.kept hK13 ⟨.inr ⟨hwb, by have := HXg.out; omega⟩, by have := HXg.out; omega⟩)
  clear hO13 hB13 hor hK13 HO12 HB12 HK12 HV12 HAr
  have HS13 := Lib.hid (Sps.kept (show Sps w9 0 g (L + T) (spot S D f lf) from ⟨Nat.zero_le _, HG9.out.lt, HG9.out.cell⟩) HK13.out ⟨.inr ⟨HXg.out.1, HXg.out.2.1⟩, by have := HXg.out; omega, by have := HXg.out; omega⟩)
  go_wp2_with fail
  refine (HBa.out (fun i => X i ∨ (w.heap.size ≤ i ∧ i < w9.heap.size)) g cap _ _ (tab3 S D T n P (dpW D lf) (laidA S D T f lf op id at' to d M) o) w13 (HMa.out o HOr.out) (fun a ha => cT_at ha) HO13.out (.inl hX1) (.inr ⟨HXg.out.1, HXg.out.2.1⟩) HB13.out HS13.out).mono ?_
  rintro e w14 ⟨rfl, hG14⟩
  have hO14 : Own w14 (fun i => X i ∨ (w.heap.size ≤ i ∧ i < w9.heap.size)) mp (M.gone (accC S D T f P lf id (nbA S D T f lf op id at' to d M) o M.c) (evA S D T f P lf)) := by
   rw [← HDn.out o]
   exact hG14.own
  have hK14 := hG14.kept
  clear hG14
  have HO14 := Lib.hid hO14
  have HB14 := Lib.hid (hK14.box HB13.out (.inl hX1))
  have HK14 := Lib.hid (HK13.out.trans (hK14.mono (fun j hj => hj.1)))
  have HV14 := Lib.hid (HV13.out.kept hK14 (.inr ⟨hwb, by have := HXg.out; omega⟩))
  clear hO14 hK14 HO13 HB13 HK13 HV13 HS13 HBa HDn
  have HE : Hid (AcEnd w X (fun i => X i ∨ (w.heap.size ≤ i ∧ i < w9.heap.size)) lp mp f N S T b bm nm (ov || !(lostO (tabI D n P (dpW D lf) (laidA S D T f lf op id at' to d M)) S D T o).isEmpty) (if (op == 1 || op == 2) = true then D0.put (.int .u64 id) (.agg []) else D0) (M.gone (accC S D T f P lf id (nbA S D T f lf op id at' to d M) o M.c) (evA S D T f P lf)) w14) := Lib.hid (by
   obtain ⟨F, _, _, hXlt⟩ := HO0.out
   have q1 := HBw.out
   have q2 := HC.out.res.lt
   have q3 := HBb.out
   have q4 := HO8.out.size
   have q5 := hXlt lp hX1
   have q6 := hXlt bm hX2
   have q7 := HXg.out
   obtain ⟨n', m1, m2⟩ := HC.out.ids
   have m3 := map_ne m2 HC.out.lv
   have ho9 := HN9.out
   refine ⟨HO14.out, HB14.out, ⟨n', m1, ?_⟩, ?_, ?_⟩
   ·exact map_only (map_only (map_only m2 HO8.out (not_nobody _)) ho9 (not_nobody _)) HK14.out (fun k => k ⟨.inl hX2, by omega, fun e => m3 e.symm⟩)
   ·exact HK14.out.box ((HC.out.res.only HO8.out (not_nobody _)).only ho9 (not_nobody _)) ⟨.inr ⟨by omega, by omega⟩, by omega, by omega⟩
   ·exact (hog.mono (fun k _ hk h => h.2.2 hk)).trans (HK14.out.mono (fun j hj => ⟨.inl hj.1, by have := hXlt j hj.1; omega, hj.2.1⟩)))
  have HNb : Hid (w.heap.size ≤ b ∧ lp < b ∧ bm < b ∧ b + 1 < w9.heap.size ∧ b + 1 < bw) := Lib.hid (by
   obtain ⟨F, _, _, hXlt⟩ := HO0.out
   have q3 := HBb.out
   have q5 := hXlt lp hX1
   have q6 := hXlt bm hX2
   have q2 := HC.out.res.lt
   have q1 := HBw.out
   have q7 := HXg.out
   exact ⟨by omega, by omega, by omega, by omega, by omega⟩)
  clear HO14 HB14 HK14 hog HC HO8 HN9 HO0
  go_upto_region 12 with fail
  refine held_s (S := fun w' => Var w' bw (wasA S D T f lf id M)) 6 rfl (by kernel_rfl) (HV14.out.drewN 1) (fun hHeld => ?_)
  simp only [qA0, qB0, qC0, List.nil_append, List.cons_append]
  have hE := HE.out.nob (show Only nobody w14 w14.drew from (Only.refl _ _).drew)
  clear HE HV14
  generalize w14.drew = w15 at *
  refine take_row 0 (oi := ⟨some 67, _, _, _, _, _⟩) (CA (wasA S D T f lf id M)).toList rfl (by kernel_rfl) (by kernel_rfl) (by kernel_rfl) (fun _ _ _ h => h) (by rfl) _ _ rfl _ _ rfl _ (fun w' hw => hw.rng) Tryz.underlying64 rfl (infoCellL (wasA S D T f lf id M)) hHeld ?_
  try simp only [Act.put, sA0, sB0, sC0]
  refine take_row 2 (oi := ⟨some 69, _, _, _, _, _⟩) (CA (wasA S D T f lf id M)).toList rfl (by kernel_rfl) (by kernel_rfl) (by kernel_rfl) (fun _ _ _ h => h) (by rfl) _ _ rfl _ _ rfl _ (fun w' hw => hw.rng) Tryz.underlying64 rfl (infoCellL (wasA S D T f lf id M)) hHeld ?_
  try simp only [Act.put, sA0, sB0, sC0]
  refine one_ready 1 rfl (by kernel_rfl) (fun K hK => ?_)
  go_simp
  refine (HDa.out _).mono ?_
  rintro e w16 ⟨rfl, hb⟩
  have ho : Only nobody w15 w16 := Only.of_below hb
  have hE := hE.nob ho
  refine hK.out _ _ (hHeld.nob ho) (fun hHeld => ?_)
  clear hK K hb ho
  simp only [sA0, sB0, sC0]
  refine one_ready 3 rfl (by kernel_rfl) (fun K hK => ?_)
  go_simp
  refine (HHa.out _).mono ?_
  rintro e w17 ⟨rfl, hb⟩
  have ho : Only nobody w16 w17 := Only.of_below hb
  have hE := hE.nob ho
  refine hK.out _ _ (hHeld.nob ho) (fun hHeld => ?_)
  clear hK K hb ho
  simp only [sA0, sB0, sC0]
  refine one_ready 4 (o := ⟨none, _, _, _, _, _⟩) rfl (by kernel_rfl) (fun K hK => ?_)
  refine step_store_data rfl (.tmp 14) (.tmp 68) rfl (b + 1) 0 rfl (fun i => wasA S D T f lf id M (3 + i)) rfl (hE.res.there 8 (by decide)) ?_
  have hV2 := hHeld.far (c := b + 1) (by have := HNb.out; omega) (DA (fun i => wasA S D T f lf id M (3 + i))).toList
  refine hK.out _ _ hV2 (fun hHeld => ?_)
  clear hK K hV2
  simp only [sA0, sB0, sC0]
  refine tk1 5 15 (.bool (wasA S D T f lf id M 0 == 1)) rfl (Or.inl ⟨by rfl, fun w' hw => by go_simp⟩) hHeld ?_
  try simp only [Act.put, sA0, sB0, sC0]
  refine wpAnyH_done (by kernel_rfl) ?_ _
  have HT := Lib.hid (hE.res.there 8 (by decide))
  have HE := Lib.hid (hE.put (DA (fun i => wasA S D T f lf id M (3 + i))).toList HNb.out.1 (fun _ h => .inl h) (.inr ⟨by have := HNb.out; omega, HNb.out.2.2.2.1⟩) HNb.out.2.1 HNb.out.2.2.1)
  clear hHeld hE
  go_wp2_with fail
  exact bodyPost_ret (v := .tuple #[.agg (DA (fun i => wasA S D T f lf id M (3 + i))), .bool (wasA S D T f lf id M 0 == 1)]) (results_ct Tryz.results16 rfl rfl (load_range (World.rangeAt_setCells_same _ (b + 1) 0 (DA (fun i => wasA S D T f lf id M (3 + i))).toList HT.out) Tryz.underlying48 rfl (infoData (fun i => wasA S D T f lf id M (3 + i))))) rfl ⟨rfl, o, HOr.out, HE.out.1, HE.out.2.1, HE.out.2.2.1, HE.out.2.2.2⟩
end Go.Proofs.YtknnebhjldfkhaaGreat


namespace Go.Proofs.YtknnebhjldfkhaaGreat
set_option maxRecDepth 100000
open Go.RowKit

structure GoodB (D : Nat) (g : Cl) : Prop where
 id0 : 0 ≤ g 1 ∧ g 1 ≤ 2147483648
 lf0 : ∃ l : Nat, g 2 = (l : Int) ∧ l < 2 ^ D
 last : g 11 = 0
 wd : Wd g
def GoodE (D : Nat) (g : Cl) : Prop := g = nul ∨ g 0 = 1 ∧ GoodB D g
def Wk (S D T : Nat) (E : Pl → Cl) : Prop := ∀ q, isPl S D T q → GoodE D (E q)
section
variable {S D T N n P Q f lf : Nat} {id : Int} {E : Pl → Cl} {g : Cl}
theorem GoodE.wd (h : GoodE D g) : Wd g := h.elim (fun e => e ▸ wd_zero) (fun k => k.2.wd)
theorem GoodE.goodC (h : GoodE D g) (hN : 2 ^ D = N) : GoodC N g := by
 refine ⟨h.wd, fun e => ?_⟩
 rcases h with h | h
 ·rw [h] at e; exact absurd e nul_has
 ·exact ⟨h.2.id0.2, by rw [← hN]; exact h.2.lf0⟩
theorem GoodE.last (h : GoodE D g) : g 11 = 0 := h.elim (fun e => by rw [e]; rfl) (fun k => k.2.last)
theorem wasC_good {F : Nat → Cl} : ∀ i, (∀ j, j < i → GoodE D (F j)) → GoodE D (wasC F id i)
 | 0, _ => .inl rfl
 | i + 1, h => by
  unfold wasC
  split
  ·exact h i (by omega)
  ·exact wasC_good i (fun j hj => h j (by omega))
theorem newB_good {op at' : Int} {to : Nat} {d : Nat → Int} (hg : GoodE D g) (hi : 0 ≤ id ∧ id ≤ 2147483648) (ht : to < 2 ^ D) (hat : op = 2 → 0 ≤ at' ∧ at' ≤ 6) (hd : ∀ j, 0 ≤ d j ∧ d j ≤ 18446744073709551615) (hT : (to : Int) ≤ 18446744073709551615) :
  GoodE D (newB op id at' to d g) := by
 unfold newB
 split
 ·exact .inl rfl
 ·refine .inr ⟨rfl, hi, ⟨to, rfl, ht⟩, ?_, fun j => ?_⟩
  ·show nbC op id at' to d g 11 = 0
   unfold nbC
   rw [if_neg (by decide), if_neg (by decide), if_neg (by decide), if_neg (by omega), if_neg (by omega), if_neg (by omega)]
   exact hg.last
  ·unfold nbC
   split
   ·omega
   ·split
    ·omega
    ·split
     ·omega
     ·split
      ·exact hd _
      ·split
       ·exact hd _
       ·split
        ·exact hd _
        ·exact hg.wd j
theorem Wk.laid (h : Wk S D T E) (hS : 0 < S) (hf : lf < 2 ^ D) {nb : Cl} (hn : GoodE D nb) (i : Nat) : GoodE D (laidX S D T lf E id nb i) := by
 unfold laidX
 split
 ·split
  ·exact .inl rfl
  ·exact h _ (wayQ_is hS hf (by assumption))
 ·split
  ·exact hn
  ·exact .inl rfl
theorem good_tab {X : Nat → Cl} (h : ∀ i, GoodE D (X i)) (hn : ∀ i, n ≤ i → X i = nul) (hP : n ≤ 2 ^ P) : TabOk D n P (dpW D lf) X := by
 have hb : ∀ i, hasB (X i) → GoodB D (X i) := fun i e => by
  rcases h i with k | k
  ·rw [k] at e; exact absurd e nul_has
  ·exact k.2
 refine ⟨hP, fun i _ hno => ?_, fun i _ e => (hb i e).id0, fun i _ _ => deep_le _ _ _ _, fun i _ e => (hb i e).last⟩
 by_cases hi : i < n
 ·rcases h i with k | k
  ·exact k
  ·exact absurd ⟨hi, k.1⟩ hno
 ·exact hn i (by omega)
theorem Wk.next (h : Wk S D T E) {E' : Pl → Cl} (hS : 0 < S) (hD : D ≤ 10) (hn : n = (D + 1) * S + T + 1) {X : Nat → Cl} (hX : ∀ i, GoodE D (X i)) (hT : TabOk D n P (dpW D lf) X) {o : List Nat} (ho : IsOrd (tabI D n P (dpW D lf) X) n o)
  (hY : ∀ i, i < (D + 1) * S + T → E' (wayQ S D lf i) = tabY S D T n P (dpW D lf) X o i)
  (hfar : ∀ q, isPl S D T q → (∀ i, i < (D + 1) * S + T → wayQ S D lf i ≠ q) → E' q = E q) : Wk S D T E' := by
 obtain ⟨g, g1, g2, g3, g4⟩ := tab_all hT hD hS hn ho
 intro q hq
 by_cases hw : ∃ i, i < (D + 1) * S + T ∧ wayQ S D lf i = q
 ·obtain ⟨i, hi, rfl⟩ := hw
  rw [hY i hi]
  by_cases hk : ∃ k, k < n ∧ g k = some i
  ·obtain ⟨k, hk, e⟩ := hk
   rw [(g1 k i hk e).2.2.1]
   exact hX k
  ·exact .inl (g3 i (by omega) (fun k hk' e => hk ⟨k, hk', e⟩))
 ·rw [hfar q hq (fun i hi e => hw ⟨i, hi, e⟩)]
  exact h q hq
end
def updD (d : Nat → Int) (at' : Int) (e : Nat → Int) : Nat → Int := fun i => if (i : Int) = at' then e 0 else if (i : Int) = at' + 1 then e 1 else d i
def dat (b : Option (Nat × (Nat → Int))) : Nat → Int := (b.map (·.2)).getD (fun _ => 0)
def newM (op at' : Int) (to : Nat) (d : Nat → Int) (b : Option (Nat × (Nat → Int))) : Option (Nat × (Nat → Int)) :=
 if op = 3 then none else if op = 0 then b.map fun x => (to, x.2) else if op = 1 then some (to, d) else some (to, updD (dat b) at' d)
section
variable {S D T lf : Nat} {E : Pl → Cl} {m : Bm} {id : Int}
theorem wasC_none {F : Nat → Cl} : ∀ i, (∀ j, j < i → ¬ (F j 0 = 1 ∧ F j 1 = id)) → wasC F id i = nul
 | 0, _ => rfl
 | i + 1, h => by
  unfold wasC
  rw [if_neg (by have := h i (by omega); simpa using this)]
  exact wasC_none i (fun j hj => h j (by omega))
theorem wasC_some {F : Nat → Cl} {g : Cl} : ∀ i, (∀ j, j < i → F j 0 = 1 ∧ F j 1 = id → F j = g) → (∃ j, j < i ∧ F j 0 = 1 ∧ F j 1 = id) → wasC F id i = g
 | 0, _, h => by obtain ⟨j, hj, _⟩ := h; omega
 | i + 1, h, hx => by
  unfold wasC
  by_cases e : F i 0 = 1 ∧ F i 1 = id
  ·rw [if_pos (by simp [e])]
   exact h i (by omega) e
  ·rw [if_neg (by simpa using e)]
   obtain ⟨j, hj, hj2⟩ := hx
   refine wasC_some i (fun j hj => h j (by omega)) ⟨j, ?_, hj2⟩
   rcases Nat.lt_or_ge j i with k | k
   ·exact k
   ·have : j = i := by omega
    rw [this] at hj2; exact absurd hj2 e
theorem LvInv.told (h : LvInv S D T E m) (hS : 0 < S) (hf : lf < 2 ^ D) (hat : ∀ l d, m id = some (l, d) → l = lf) : wasC (fun j => E (wayQ S D lf j)) id ((D + 1) * S + T) = cellB id (m id) := by
 obtain ⟨h1, h2⟩ := h.find hS hf hat
 cases e : m id with
 | none =>
  refine wasC_none _ (fun j hj k => ?_)
  obtain ⟨d, hd, _⟩ := h2 j hj k.1 k.2
  rw [e] at hd
  cases hd
 | some b =>
  obtain ⟨l, d⟩ := b
  have hl := hat l d e
  subst hl
  obtain ⟨i, hi, hi2⟩ := h1 l d e
  refine wasC_some _ (fun j hj k => ?_) ⟨i, hi, by show E (wayQ S D l i) 0 = 1 ∧ E (wayQ S D l i) 1 = id; rw [hi2]; exact ⟨rfl, rfl⟩⟩
  obtain ⟨d', hd, hd2⟩ := h2 j hj k.1 k.2
  rw [e] at hd
  injection hd with hd
  injection hd with _ hd
  show E (wayQ S D l j) = _
  rw [hd2, ← hd]
  rfl
theorem newB_cell {op at' : Int} {to : Nat} {d : Nat → Int} (b : Option (Nat × (Nat → Int))) (hop : 0 ≤ op ∧ op ≤ 3) (hat : op = 2 → 0 ≤ at' ∧ at' ≤ 6) : newB op id at' to d (cellB id b) = cellB id (newM op at' to d b) := by
 unfold newB newM
 have h3 : op = 3 ∨ op = 0 ∨ op = 1 ∨ op = 2 := by omega
 rcases h3 with rfl | rfl | rfl | rfl
 ·rw [if_pos (.inl rfl), if_pos rfl]; rfl
 ·cases b with
  | none => rw [if_pos (Or.inr ⟨rfl, by show (0 : Int) ≠ 1; decide⟩), if_neg (by decide), if_pos rfl]; rfl
  | some b =>
   obtain ⟨l, e⟩ := b
   rw [if_neg (by rintro (k | k); exact absurd k (by decide); exact k.2 rfl), if_neg (by decide), if_pos rfl]
   funext i
   show nbC 0 id at' to d (blk id l e) i = blk id to e i
   unfold nbC blk
   by_cases i0 : i = 0
   ·rw [if_pos i0, if_pos i0]
   ·by_cases i1 : i = 1
    ·rw [if_neg i0, if_pos i1, if_neg i0, if_pos i1]
    ·by_cases i2 : i = 2
     ·rw [if_neg i0, if_neg i1, if_pos i2, if_neg i0, if_neg i1, if_pos i2]
     ·simp [i0, i1, i2]
 ·rw [if_neg (by omega), if_neg (by decide), if_neg (by decide), if_pos rfl]
  funext i
  show nbC 1 id at' to d (cellB id b) i = blk id to d i
  unfold nbC blk
  by_cases i0 : i = 0
  ·rw [if_pos i0, if_pos i0]
  ·by_cases i1 : i = 1
   ·rw [if_neg i0, if_pos i1, if_neg i0, if_pos i1]
   ·by_cases i2 : i = 2
    ·rw [if_neg i0, if_neg i1, if_pos i2, if_neg i0, if_neg i1, if_pos i2]
    ·rw [if_neg i0, if_neg i1, if_neg i2, if_neg i0, if_neg i1, if_neg i2]
     by_cases i3 : i < 11
     ·rw [if_pos ⟨rfl, by omega, i3⟩, if_pos i3]
     ·rw [if_neg (fun k => i3 k.2.2), if_neg (fun k => absurd k.1 (by decide)), if_neg (fun k => absurd k.1 (by decide)), if_neg i3]
      cases b with
      | none => rfl
      | some b =>
       show blk id b.1 b.2 i = 0
       unfold blk
       rw [if_neg i0, if_neg i1, if_neg i2, if_neg i3]
 ·have ha := hat rfl
  rw [if_neg (by omega), if_neg (by decide), if_neg (by decide), if_neg (by decide)]
  funext i
  show nbC 2 id at' to d (cellB id b) i = blk id to (updD (dat b) at' d) i
  unfold nbC blk updD
  by_cases i0 : i = 0
  ·rw [if_pos i0, if_pos i0]
  ·by_cases i1 : i = 1
   ·rw [if_neg i0, if_pos i1, if_neg i0, if_pos i1]
   ·by_cases i2 : i = 2
    ·rw [if_neg i0, if_neg i1, if_pos i2, if_neg i0, if_neg i1, if_pos i2]
    ·rw [if_neg i0, if_neg i1, if_neg i2, if_neg i0, if_neg i1, if_neg i2, if_neg (fun k => absurd k.1 (by decide))]
     by_cases i3 : i < 11
     ·rw [if_pos i3]
      by_cases a0 : (i : Int) = 3 + at'
      ·rw [if_pos ⟨rfl, a0⟩, if_pos (by omega)]
      ·by_cases a1 : (i : Int) = 4 + at'
       ·rw [if_neg (fun k => a0 k.2), if_pos ⟨rfl, a1⟩, if_neg (by omega), if_pos (by omega)]
       ·rw [if_neg (fun k => a0 k.2), if_neg (fun k => a1 k.2), if_neg (by omega), if_neg (by omega)]
        cases b with
        | none => rfl
        | some b =>
         show blk id b.1 b.2 i = b.2 (i - 3)
         unfold blk
         rw [if_neg i0, if_neg i1, if_neg i2, if_pos i3]
     ·rw [if_neg (fun k => by have := k.2; omega), if_neg (fun k => by have := k.2; omega), if_neg i3]
      cases b with
      | none => rfl
      | some b =>
       show blk id b.1 b.2 i = 0
       unfold blk
       rw [if_neg i0, if_neg i1, if_neg i2, if_neg i3]
end
end Go.Proofs.YtknnebhjldfkhaaGreat


namespace Go.Proofs.YtknnebhjldfkhaaGreat
set_option maxRecDepth 100000
open Go.RowKit Go.ChangeShapes Go.WideShapes Go.ChangeAt Go.Maps

theorem size_in (M : MS) (r : Nat) (h : r < M.k) : M.size (r : Int) = M.sz r := by
 unfold MS.size
 rw [if_pos (by omega)]
 rfl
set_option maxHeartbeats 2000000 in
theorem lnew_of {H : Type} {N S T D L n Q P : Nat} (h : Conf N S T D L n Q P) (X : Nat → Prop) (p f : Nat) (M : MS) (w : World) (hM : LvM M f S D T Q) (hf : f ≤ 100) (hO : Own w X p M) :
  Calls Tryz.prog 32 #[.pointer (some ⟨p, 0, none⟩), .int .i64 (f : Int), .agg #[.int .i64 (N : Int), .int .i64 (S : Int), .int .i64 (T : Int)]] w fun e w' =>
   ∃ lp bm, e = .returned (.tuple #[.pointer (some ⟨lp, 0, none⟩), .int .i64 0]) ∧ Only nobody w w' ∧ w.heap.size ≤ lp ∧ w.heap.size ≤ bm ∧ Box w' lp 127 (LvA p f N S T false (some bm)) ∧
    w'.ownsMap Tryz.prog 43 unitElem bm 0 (setOf (.agg []) [] : DataW H) := by
 have hk := hM.hk
 have g0 : decide (M.size (f : Int) < S * (2 * 2 ^ D - 1)) = false := decide_eq_false (by rw [size_in M f (by omega)]; have := hM.s0; omega)
 have g1 : decide (M.size ((f : Int) + 1) < T) = false := decide_eq_false (by rw [show (f : Int) + 1 = ((f + 1 : Nat) : Int) from rfl]; rw [size_in M (f + 1) (by omega)]; have := hM.s1; omega)
 have g2 : decide (M.size ((f : Int) + 2) < Q) = false := decide_eq_false (by rw [show (f : Int) + 2 = ((f + 2 : Nat) : Int) from rfl]; rw [size_in M (f + 2) (by omega)]; have := hM.s2; omega)
 have HR := Lib.hid (fun W => lright_of h W)
 have HZ := Lib.hid (fun W => sizes_of h W)
 have HT0 := Lib.hid (fun W => tree_at f (N : Int) (S : Int) (T : Int) W)
 have HT1 := Lib.hid (fun W => stash_at f (N : Int) (S : Int) (T : Int) W hf)
 have HT2 := Lib.hid (fun W => table_at f (N : Int) (S : Int) (T : Int) W hf)
 have HO := Lib.hid hO
 clear hk hO hM h
 generalize S * (2 * 2 ^ D - 1) = tr at *
 obtain ⟨b, hb⟩ : ∃ b, w.heap.size = b := ⟨_, rfl⟩
 obtain ⟨w2, hw2⟩ : ∃ w2, ((w.alloc (.cells #[.int .i64 (N : Int), .int .i64 (S : Int), .int .i64 (T : Int)] 25)).alloc (.cells #[.int .i64 (f : Int), .int .i64 (N : Int), .int .i64 (S : Int), .int .i64 (T : Int)] 124)) = w2 := ⟨_, rfl⟩
 have hx : Box w2 b 25 #[.int .i64 (N : Int), .int .i64 (S : Int), .int .i64 (T : Int)] := by rw [← hw2, ← hb]; exact (Box.new w _ _).alloc _
 have hy : Box w2 (b + 1) 124 #[.int .i64 (f : Int), .int .i64 (N : Int), .int .i64 (S : Int), .int .i64 (T : Int)] := by
  rw [← hw2, ← hb]
  have := Box.new (w.alloc (.cells #[.int .i64 (N : Int), .int .i64 (S : Int), .int .i64 (T : Int)] 25)) 124 #[.int .i64 (f : Int), .int .i64 (N : Int), .int .i64 (S : Int), .int .i64 (T : Int)]
  simpa using this
 have hbl : Below w.heap.size w w2 := by rw [← hw2]; exact ((Below.refl _ w).alloc (Nat.le_refl _) _).alloc (by simp) _
 have HA : Hid ((Box w2 b 25 #[.int .i64 (N : Int), .int .i64 (S : Int), .int .i64 (T : Int)] ∧ Box w2 (b + 1) 124 #[.int .i64 (f : Int), .int .i64 (N : Int), .int .i64 (S : Int), .int .i64 (T : Int)]) ∧ Below w.heap.size w w2) := Lib.hid ⟨⟨hx, hy⟩, hbl⟩
 have HNx : ∀ (wa wb : World), ((Box wa b 25 #[.int .i64 (N : Int), .int .i64 (S : Int), .int .i64 (T : Int)] ∧ Box wa (b + 1) 124 #[.int .i64 (f : Int), .int .i64 (N : Int), .int .i64 (S : Int), .int .i64 (T : Int)]) ∧ Below w.heap.size w wa) → Below wa.heap.size wa wb →
   ((Box wb b 25 #[.int .i64 (N : Int), .int .i64 (S : Int), .int .i64 (T : Int)] ∧ Box wb (b + 1) 124 #[.int .i64 (f : Int), .int .i64 (N : Int), .int .i64 (S : Int), .int .i64 (T : Int)]) ∧ Below w.heap.size w wb) := fun wa wb h hb => ⟨⟨h.1.1.of (hb.block _ h.1.1.lt), h.1.2.of (hb.block _ h.1.2.lt)⟩, h.2.trans (hb.mono h.2.size)⟩
 have HN := Lib.hid HNx
 have HW2 := Lib.hid hw2
 have HBb := Lib.hid hb
 have k0 : w2.cell? ⟨b, 0, none⟩ = some (.int .i64 (N : Int)) := hx.cell 0
 have k1 : w2.cell? ⟨b, 1, none⟩ = some (.int .i64 (S : Int)) := hx.cell 1
 have k2 : w2.cell? ⟨b, 2, none⟩ = some (.int .i64 (T : Int)) := hx.cell 2
 clear HNx hx hy hbl hw2 hb
 go_enter Tryz.func32, Tryz.ntmps32
 go_upto_region 2 with fail
 simp only [HBb.out]
 rw [HW2.out]
 go_wp2_with fail
 refine (HZ.out _).mono ?_
 rintro e w3 ⟨rfl, hb3⟩
 have HA3 := Lib.hid (HN.out _ _ HA.out hb3)
 have k0 : w3.cell? ⟨b, 0, none⟩ = some (.int .i64 (N : Int)) := HA3.out.1.1.cell 0
 have k1 : w3.cell? ⟨b, 1, none⟩ = some (.int .i64 (S : Int)) := HA3.out.1.1.cell 1
 have k2 : w3.cell? ⟨b, 2, none⟩ = some (.int .i64 (T : Int)) := HA3.out.1.1.cell 2
 clear hb3 HA
 go_wp2_with fail
 refine (HR.out _).mono ?_
 rintro e w4 ⟨rfl, hb4⟩
 have HA4 := Lib.hid (HN.out _ _ HA3.out hb4)
 have p0 : w4.cell? ⟨b + 1, 0, none⟩ = some (.int .i64 (f : Int)) := HA4.out.1.2.cell 0
 have p1 : w4.cell? ⟨b + 1, 1, none⟩ = some (.int .i64 (N : Int)) := HA4.out.1.2.cell 1
 have p2 : w4.cell? ⟨b + 1, 2, none⟩ = some (.int .i64 (S : Int)) := HA4.out.1.2.cell 2
 have p3 : w4.cell? ⟨b + 1, 3, none⟩ = some (.int .i64 (T : Int)) := HA4.out.1.2.cell 3
 clear hb4 HA3 k0 k1 k2
 go_wp2_with fail
 refine (HT0.out _).mono ?_
 rintro e w5 ⟨rfl, hb5⟩
 have HA5 := Lib.hid (HN.out _ _ HA4.out hb5)
 clear hb5 HA4 p0 p1 p2 p3
 go_wp2_with fail
 refine (own_size _ _ _ _ _ (HO.out.none (Only.of_below HA5.out.2))).mono ?_
 rintro e w6 ⟨rfl, rfl⟩
 have p0 : w5.cell? ⟨b + 1, 0, none⟩ = some (.int .i64 (f : Int)) := HA5.out.1.2.cell 0
 have p1 : w5.cell? ⟨b + 1, 1, none⟩ = some (.int .i64 (N : Int)) := HA5.out.1.2.cell 1
 have p2 : w5.cell? ⟨b + 1, 2, none⟩ = some (.int .i64 (S : Int)) := HA5.out.1.2.cell 2
 have p3 : w5.cell? ⟨b + 1, 3, none⟩ = some (.int .i64 (T : Int)) := HA5.out.1.2.cell 3
 go_wp2_with fail
 refine (HT1.out _).mono ?_
 rintro e w7 ⟨rfl, hb7⟩
 have HA7 := Lib.hid (HN.out _ _ HA5.out hb7)
 clear hb7 HA5 p0 p1 p2 p3
 go_wp2_with fail
 refine (own_size _ _ _ _ _ (HO.out.none (Only.of_below HA7.out.2))).mono ?_
 rintro e w8 ⟨rfl, rfl⟩
 have p0 : w7.cell? ⟨b + 1, 0, none⟩ = some (.int .i64 (f : Int)) := HA7.out.1.2.cell 0
 have p1 : w7.cell? ⟨b + 1, 1, none⟩ = some (.int .i64 (N : Int)) := HA7.out.1.2.cell 1
 have p2 : w7.cell? ⟨b + 1, 2, none⟩ = some (.int .i64 (S : Int)) := HA7.out.1.2.cell 2
 have p3 : w7.cell? ⟨b + 1, 3, none⟩ = some (.int .i64 (T : Int)) := HA7.out.1.2.cell 3
 go_wp2_with fail
 refine (HT2.out _).mono ?_
 rintro e w9 ⟨rfl, hb9⟩
 have HA9 := Lib.hid (HN.out _ _ HA7.out hb9)
 clear hb9 HA7 p0 p1 p2 p3
 go_wp2_with fail
 refine (own_size _ _ _ _ _ (HO.out.none (Only.of_below HA9.out.2))).mono ?_
 rintro e w10 ⟨rfl, rfl⟩
 have p0 : w9.cell? ⟨b + 1, 0, none⟩ = some (.int .i64 (f : Int)) := HA9.out.1.2.cell 0
 have p1 : w9.cell? ⟨b + 1, 1, none⟩ = some (.int .i64 (N : Int)) := HA9.out.1.2.cell 1
 have p2 : w9.cell? ⟨b + 1, 2, none⟩ = some (.int .i64 (S : Int)) := HA9.out.1.2.cell 2
 have p3 : w9.cell? ⟨b + 1, 3, none⟩ = some (.int .i64 (T : Int)) := HA9.out.1.2.cell 3
 have hmm := @run_makeMap Tryz.prog
 go_wp2_with fail
 go_ret2
 have ho := (Only.of_below (S := nobody) HA9.out.2).alloc (.map #[] 0)
 have hs : w.heap.size ≤ w9.heap.size := HA9.out.2.size
 refine ⟨w9.heap.size + 1, w9.heap.size, rfl, ho.alloc _, by omega, hs, ?_, ?_⟩
 ·have := Box.new (w9.alloc (.map #[] 0)) 127 (LvA p f N S T false (some w9.heap.size))
  simpa [LvA] using this
 ·exact (World.ownsMap_made w9 Tryz.prog 43 unitElem).alloc _
end Go.Proofs.YtknnebhjldfkhaaGreat


namespace Go.Proofs.YtknnebhjldfkhaaGreat
set_option maxRecDepth 100000
open Go.RowKit Go.ChangeShapes Go.WideShapes Go.ChangeAt Go.Maps

structure Ask where
 op : Int
 id : Int
 at' : Int
 d : Nat → Int
 lf : Int
 to : Int
def Ask.ok (a : Ask) (N : Nat) : Bool := isAsk N a.op a.id a.at' a.lf a.to
def Ask.puts (a : Ask) : Bool := a.op == 1 || a.op == 2
section
variable (N S D T f n P : Nat) (a : Ask) (M : MS) (o : List Nat)
def acL : Nat → Cl := laidA S D T f a.lf.toNat a.op a.id a.at' a.to a.d M
def acT : Nat → It := tabI D n P (dpW D a.lf.toNat) (acL S D T f a M)
def acW : Cl := if a.ok N = true then wasA S D T f a.lf.toNat a.id M else nul
def acO : Bool := a.ok N && !(lostO (acT S D T f n P a M) S D T o).isEmpty
def acM : MS := if a.ok N = true then M.gone (accC S D T f P a.lf.toNat a.id (nbA S D T f a.lf.toNat a.op a.id a.at' a.to a.d M) o M.c) (evA S D T f P a.lf.toNat) else M
def acI (I : List Int) : List Int := if (a.ok N && a.puts) = true then I ++ [a.id] else I
end
def addI (l : List Int) (x : Int) : List Int := if x ∈ l then l else l ++ [x]
def difI (I : List Int) : List Int := I.foldl addI []
def litI (i : Int) : Lit := .int .u64 i
def ids {H : Type} (I : List Int) : DataW H := setOf (.agg []) (I.map litI)
theorem ids_snoc {H : Type} (I : List Int) (x : Int) : (ids (I ++ [x]) : DataW H) = (ids I).put (.int .u64 x) (.agg []) := by
 unfold ids
 rw [List.map_append]
 exact setOf_snoc _ _ _
theorem addI_mem (l : List Int) (x y : Int) : y ∈ addI l x ↔ y ∈ l ∨ y = x := by
 unfold addI
 split
 ·rename_i h
  constructor
  ·exact .inl
  ·rintro (k | k)
   ·exact k
   ·rw [k]; exact h
 ·simp
theorem addI_nodup {l : List Int} (h : l.Nodup) (x : Int) : (addI l x).Nodup := by
 unfold addI
 split
 ·exact h
 ·rename_i hx
  rw [List.nodup_append]
  exact ⟨h, by simp, fun a ha b hb e => by simp at hb; subst hb; subst e; exact hx ha⟩
theorem dif_mem : ∀ (I l : List Int) (y : Int), y ∈ I.foldl addI l ↔ y ∈ l ∨ y ∈ I
 | [], l, y => by simp
 | x :: I, l, y => by
  rw [List.foldl_cons, dif_mem I (addI l x) y, addI_mem, List.mem_cons, or_assoc]
theorem dif_nodup : ∀ (I l : List Int), l.Nodup → (I.foldl addI l).Nodup
 | [], _, h => h
 | x :: I, l, h => by rw [List.foldl_cons]; exact dif_nodup I _ (addI_nodup h x)
theorem difI_snoc (I : List Int) (x : Int) : difI (I ++ [x]) = addI (difI I) x := by unfold difI; rw [List.foldl_append]; rfl
theorem difI_le (I L : List Int) (h : ∀ i, i ∈ I → i ∈ L) : (difI I).length ≤ L.length :=
 (dif_nodup I [] (by simp)).length_le_of_subset fun x hx => h x (((dif_mem I [] x).1 hx).resolve_left (by simp))
structure Lv (H : Type) (N S D T Q : Nat) (X : Nat → Prop) (mp lp bm f : Nat) (ov : Bool) (I : List Int) (M : MS) (k : Nat) (w : World) : Prop where
 own : Own w X mp M
 x1 : X lp
 x2 : X bm
 box : Box w lp 127 (LvA mp f N S T ov (some bm))
 map : ∃ nm, nm ≤ k ∧ w.ownsMap Tryz.prog 43 unitElem bm nm (ids I : DataW H)
 lvm : LvM M f S D T Q
 es : M.es.length ≤ 40000 * k
 wk : Wk S D T (cellsE f M.c)
section
variable {H : Type} {N S D T Q : Nat} {X : Nat → Prop} {mp lp bm f : Nat} {ov : Bool} {I : List Int} {M : MS} {k : Nat} {w w' : World}
theorem Lv.nob (h : Lv H N S D T Q X mp lp bm f ov I M k w) (ho : Only nobody w w') : Lv H N S D T Q X mp lp bm f ov I M k w' := by
 obtain ⟨nm, h1, h2⟩ := h.map
 exact ⟨h.own.none ho, h.x1, h.x2, h.box.only ho (not_nobody _), ⟨nm, h1, map_only h2 ho (not_nobody _)⟩, h.lvm, h.es, h.wk⟩
end
theorem cG_wd {sp : Nat → Nat × Nat} {Y : Nat → Cl} {c : Nat → Nat → Cl} : ∀ {i : Nat}, (∀ j, j < i → Wd (Y j)) → (∀ r a, Wd (c r a)) → ∀ r a, Wd (cG sp Y c i r a)
 | 0, _, h, r, a => h r a
 | i + 1, hY, h, r, a => by
  unfold cG putC
  split
  ·exact hY i (by omega)
  ·exact cG_wd (fun j hj => hY j (by omega)) h r a
theorem evA_len {N S T D L n Q P : Nat} (h : Conf N S T D L n Q P) (f lf : Nat) : (evA S D T f P lf).length ≤ 40000 := by
 have hQP := h.hQ
 have hQ := h.big.2.2.2
 have hQ2 : 2 ^ P ≤ 256 := by rw [hQP]; exact hQ
 have hnet : 4 * (netL P).length ≤ 8 * 9 * 256 := by
  rw [netL_len P]
  exact Nat.mul_le_mul (Nat.mul_le_mul h.hP (by have := h.hP; omega)) hQ2
 have hlk := looks_len (f + 2) (netL P)
 have hevE := evE_len (f + 2) (2 ^ P)
 have hevF := evF_len S D T f lf (2 ^ P)
 have hevG := evG_len S D f lf ((D + 1) * S + T)
 have hLT : (D + 1) * S + T ≤ 153 := by have := h.hL; have := h.hn; have := h.big; omega
 unfold evA
 simp only [List.length_append]
 omega
section
variable {N S D T L n Q P f : Nat} {M : MS} {a : Ask}
theorem ask_of (ha : a.ok N = true) : (0 ≤ a.op ∧ a.op ≤ 3) ∧ (0 ≤ a.lf ∧ a.lf < N) ∧ (0 ≤ a.to ∧ a.to < N) ∧ a.id ≤ 2147483648 ∧ (a.op = 2 → 0 ≤ a.at' ∧ a.at' ≤ 6) := by
 unfold Ask.ok isAsk isLf at ha
 simp only [Bool.and_eq_true, Bool.or_eq_true, decide_eq_true_eq] at ha
 obtain ⟨⟨⟨⟨h1, h2⟩, h3⟩, h4⟩, h5⟩ := ha
 exact ⟨h1, h2, h3, h4, fun e => h5.resolve_left (fun k => k e)⟩
theorem acL_good (h : Conf N S T D L n Q P) (hk : Wk S D T (cellsE f M.c)) (ha : a.ok N = true) (hi : 0 ≤ a.id) (hd : ∀ j, 0 ≤ a.d j ∧ a.d j ≤ 18446744073709551615) (i : Nat) : GoodE D (acL S D T f a M i) := by
 obtain ⟨h1, h2, h3, h4, h5⟩ := ask_of ha
 have hN := h.hN
 have hlf : a.lf.toNat < 2 ^ D := by omega
 unfold acL laidA
 refine hk.laid h.s1 hlf ?_ i
 unfold nbA
 obtain ⟨to, hto⟩ : ∃ to : Nat, a.to = (to : Int) := ⟨a.to.toNat, by omega⟩
 rw [hto]
 refine newB_good ?_ ⟨hi, h4⟩ (by omega) h5 hd (by have := h.n1; omega)
 unfold wasA
 exact wasC_good _ fun j hj => hk _ (wayQ_is h.s1 hlf hj)
theorem acL_tab (h : Conf N S T D L n Q P) (hk : Wk S D T (cellsE f M.c)) (ha : a.ok N = true) (hi : 0 ≤ a.id) (hd : ∀ j, 0 ≤ a.d j ∧ a.d j ≤ 18446744073709551615) : TabOk D n P (dpW D a.lf.toNat) (acL S D T f a M) := by
 refine good_tab (acL_good h hk ha hi hd) (fun i hn => ?_) (by have := h.le; have := h.hQ; omega)
 have := h.hL
 have := h.hn
 unfold acL laidA laidX
 rw [if_neg (by omega), if_neg (by omega)]
theorem acM_wk (h : Conf N S T D L n Q P) (hk : Wk S D T (cellsE f M.c)) (ha : a.ok N = true) (hi : 0 ≤ a.id) (hd : ∀ j, 0 ≤ a.d j ∧ a.d j ≤ 18446744073709551615) {o : List Nat} (ho : IsOrd (acT S D T f n P a M) n o) :
  Wk S D T (cellsE f (accC S D T f P a.lf.toNat a.id (nbA S D T f a.lf.toNat a.op a.id a.at' a.to a.d M) o M.c)) := by
 obtain ⟨h1, h2, h3, h4, h5⟩ := ask_of ha
 have hN := h.hN
 have hlf : a.lf.toNat < 2 ^ D := by omega
 have hn : n = (D + 1) * S + T + 1 := by have := h.hL; have := h.hn; omega
 subst hn
 exact hk.next h.s1 h.hD rfl (acL_good h hk ha hi hd) (acL_tab h hk ha hi hd) ho (fun i hi => acc_at h.s1 hlf hi) (fun q hq hf => acc_way (by rcases hq with e | e <;> omega) hf)
end
set_option maxHeartbeats 1000000 in
theorem Lv.access {H : Type} {N S T D L n Q P : Nat} (h : Conf N S T D L n Q P) {X : Nat → Prop} {mp lp bm f : Nat} {ov : Bool} {I : List Int} {M : MS} {k : Nat} {w : World} (hL : Lv H N S D T Q X mp lp bm f ov I M k w) (a : Ask) (hf : f ≤ 100) (hk : k < 20000) (hi : 0 ≤ a.id)
  (hd : ∀ j, 0 ≤ a.d j ∧ a.d j ≤ 18446744073709551615) :
  Calls Tryz.prog 16 #[.pointer (some ⟨lp, 0, none⟩), .int .i64 a.op, .int .u64 a.id, .int .i64 a.at', .agg (DA a.d), .int .i64 a.lf, .int .i64 a.to] w fun e w' =>
   e = .returned (.tuple #[.agg (DA fun i => acW N S D T f a M (3 + i)), .bool (acW N S D T f a M 0 == 1)]) ∧
   ∃ o, (a.ok N = true → IsOrd (acT S D T f n P a M) n o) ∧ Lv H N S D T Q X mp lp bm f (ov || acO N S D T f n P a M o) (acI N a I) (acM N S D T f P a M o) (k + 1) w' ∧ Kept (fun j => X j ∧ j ≠ lp ∧ j ≠ bm) w w' := by
 obtain ⟨nm, hn1, hn2⟩ := hL.map
 cases ha : a.ok N
 ·refine (access_no lp mp f ov _ a.op a.id a.at' a.d a.lf a.to w ha hL.box).mono ?_
  rintro e w' ⟨rfl, ho⟩
  have e1 : acW N S D T f a M = nul := by unfold acW; rw [ha]; rfl
  have e2 : acO N S D T f n P a M [] = false := by unfold acO; rw [ha]; rfl
  have e3 : acI N a I = I := by unfold acI; rw [ha]; rfl
  have e4 : acM N S D T f P a M [] = M := by unfold acM; rw [ha]; rfl
  have hl := hL.nob ho
  obtain ⟨nm', g1, g2⟩ := hl.map
  refine ⟨by rw [e1]; rfl, [], (fun k => by cases k), ?_, Kept.of_none ho⟩
  rw [e2, e3, e4, Bool.or_false]
  exact ⟨hl.own, hl.x1, hl.x2, hl.box, ⟨nm', by omega, g2⟩, hl.lvm, by have := hl.es; omega, hl.wk⟩
 ·obtain ⟨h1, h2, h3, h4, h5⟩ := ask_of ha
  have hgood := acL_good h hL.wk ha hi hd
  have htab := acL_tab h hL.wk ha hi hd
  have hwk := fun o (ho : IsOrd (acT S D T f n P a M) n o) => acM_wk h hL.wk ha hi hd ho
  obtain ⟨op, id, at', d, lf', to'⟩ := a
  obtain ⟨lf, rfl⟩ : ∃ lf : Nat, lf' = (lf : Int) := ⟨lf'.toNat, by show lf' = _; have : 0 ≤ lf' := h2.1; omega⟩
  obtain ⟨to, rfl⟩ : ∃ to : Nat, to' = (to : Int) := ⟨to'.toNat, by show to' = _; have : 0 ≤ to' := h3.1; omega⟩
  have hto : to ≤ 1024 := by have := h3.2; have := h.n1; simp only at *; omega
  have hlf : lf < N := by have := h2.2; simp only at *; omega
  have hmx : nm < maxLen := by
   have : (20000 : Nat) < maxLen := by decide
   omega
  refine (access_any h X lp mp f bm nm lf to ov (ids I) op id at' d M w ha hi hmx hL.lvm hf hlf hto hL.own hL.x1 hL.x2 hL.box hn2 (by have := hL.es; omega) (fun i _ => (hgood i).goodC h.hN) htab).mono ?_
  rintro e w' ⟨rfl, o, ho, hO, hB, hm, hK⟩
  have ho' : IsOrd (acT S D T f n P ⟨op, id, at', d, lf, to⟩ M) n o := ho
  have e1 : acW N S D T f ⟨op, id, at', d, lf, to⟩ M = wasA S D T f lf id M := by unfold acW; rw [ha]; rfl
  have e2 : acO N S D T f n P ⟨op, id, at', d, lf, to⟩ M o = !(lostO (tabI D n P (dpW D lf) (laidA S D T f lf op id at' to d M)) S D T o).isEmpty := by unfold acO; rw [ha]; rfl
  have e4 : acM N S D T f P ⟨op, id, at', d, lf, to⟩ M o = M.gone (accC S D T f P lf id (nbA S D T f lf op id at' to d M) o M.c) (evA S D T f P lf) := by unfold acM; rw [ha]; rfl
  refine ⟨by rw [e1], o, fun _ => ho', ?_, hK⟩
  rw [e2, e4]
  refine ⟨hO, hL.x1, hL.x2, hB, ?_, ?_, ?_, hwk o ho'⟩
  ·obtain ⟨n', g1, g2⟩ := hm
   refine ⟨n', by omega, ?_⟩
   have e3 : (ids (acI N ⟨op, id, at', d, lf, to⟩ I) : DataW H) = if (op == 1 || op == 2) = true then (ids I).put (.int .u64 id) (.agg []) else ids I := by
    unfold acI
    rw [ha, Bool.true_and]
    show (ids (if (op == 1 || op == 2) = true then _ else _) : DataW H) = _
    cases hp : (op == 1 || op == 2)
    ·rfl
    ·exact ids_snoc I id
   rw [e3]
   exact g2
  ·have hw := hwk o ho'
   have hll := evA_len h f lf
   have hes := hL.es
   refine hL.lvm.gone _ _ (fun r a => ?_) (by omega)
   have hQ2 : 2 ^ P ≤ 256 := by have := h.hQ; have := h.big; omega
   have hlt : (D + 1) * S + T < n := by have := h.hL; have := h.hn; omega
   have hn2 : n ≤ 2 ^ P := by have := h.le; have := h.hQ; omega
   have hn1 : n = (D + 1) * S + T + 1 := by have := h.hL; have := h.hn; omega
   have h3 := fun i hi => tab3_wd (T := T) h.hD hQ2 htab (fun i _ => (hgood i).wd) h.s1 hlt ho (i := i) hi
   have h0 := fun i => (hgood i).wd
   clear hw hwk htab hgood
   subst hn1
   exact cG_wd (fun j hj => setw_wd (h3 j (by omega)) (by omega) (by omega)) (fun r a => cT_wd9 (fun j hj => h3 j hj) hL.lvm.wd r a) r a
  ·rw [gone_len]
   have hll := evA_len h f lf
   have hes := hL.es
   omega
end Go.Proofs.YtknnebhjldfkhaaGreat

