/- Texts of ours put together: RLevelEvents, LevelEvAny, LevelNew, LevelNo, LevelWk, LevelLv. -/
import Derived.Below
import Derived.BigQuiet
import Derived.BigRegion
import Derived.ChangeArms
import Derived.ChangeKeysEq
import Derived.ChangeSlices
import Derived.Deep.Cut
import Derived.Deep.Draws
import Derived.Deep.MidRow
import Derived.Deep.OwnRows
import Derived.Deep.Quiet
import Derived.Deep.QuietTactic
import Derived.Deep.RegionHeld
import Derived.Deep.RegionHeld3
import Derived.Deep.Slices
import Derived.Deep.WholeRow
import Derived.Laws.AppendOwn
import Derived.Laws.BitsAllLaws
import Derived.Laws.CopyOwn
import Derived.Laws.StructEq
import Derived.Lib.BitFns
import Derived.Lib.Hide
import Derived.LoopIn
import Derived.LoopNIn
import Derived.Maps.AppendAt
import Derived.OpenShut
import Derived.OrdersIn
import Derived.OwnWalk
import Derived.OwnWalkIn
import Derived.ProofKit
import Derived.RangeFuncBound
import Derived.RangeFuncCalls
import Derived.RangeFuncLeaves
import Derived.RangeFuncNested
import Derived.RegionTactic
import Derived.RowKit3
import Derived.Shelf.Abstract
import Derived.Shelf.Bits.Mul64
import Derived.Shelf.RegionOpen
import Derived.Shelf.SlSortCmp.WholeK
import Derived.Shelf.Spec.BitsCarry
import Derived.Shelf.Strconv.Itoa0
import Derived.SizedLaws
import Derived.Sort.Grow
import Derived.StillTailTactics
import Derived.TacticsInMore
import Derived.WalkKit
import Derived.WideShapes
import Derived.Test.YtmageeohnfomnaaGreatProg
import Derived.Carry
import Derived.Maps.OwnSet
import Derived.Test.YtmageeohnfomnaaGreatG2
import Derived.Test.YtmageeohnfomnaaGreatG0
import Derived.Test.YtmageeohnfomnaaGreatG15
import Derived.Test.YtmageeohnfomnaaGreatG46
import Derived.Test.YtmageeohnfomnaaGreatG16
import Derived.Test.YtmageeohnfomnaaGreatG20
import Derived.Test.YtmageeohnfomnaaGreatG3
import Derived.Test.YtmageeohnfomnaaGreatG1
import Derived.Test.YtmageeohnfomnaaGreatG29
import Derived.Test.YtmageeohnfomnaaGreatG24
import Derived.Test.YtmageeohnfomnaaGreatG21
import Derived.Test.YtmageeohnfomnaaGreatG5
import Derived.Test.YtmageeohnfomnaaGreatG33
import Derived.Test.YtmageeohnfomnaaGreatG6
import Derived.Test.YtmageeohnfomnaaGreatG10
import Derived.Test.YtmageeohnfomnaaGreatG22
import Derived.Test.YtmageeohnfomnaaGreatG23
import Derived.Test.YtmageeohnfomnaaGreatG25
import Derived.Test.YtmageeohnfomnaaGreatG43
import Derived.Test.YtmageeohnfomnaaGreatG26
import Derived.Test.YtmageeohnfomnaaGreatG34
import Derived.Test.YtmageeohnfomnaaGreatG27
import Derived.Test.YtmageeohnfomnaaGreatG9
import Derived.Test.YtmageeohnfomnaaGreatG39
import Derived.Test.YtmageeohnfomnaaGreatG37
import Derived.Test.YtmageeohnfomnaaGreatG30
import Derived.Test.YtmageeohnfomnaaGreatG42
import Derived.Test.YtmageeohnfomnaaGreatG11
import Derived.Test.YtmageeohnfomnaaGreatG14
import Derived.Test.YtmageeohnfomnaaGreatG17
import Derived.Test.YtmageeohnfomnaaGreatG19
import Derived.Test.YtmageeohnfomnaaGreatG31
import Derived.Test.YtmageeohnfomnaaGreatG32
import Derived.Test.YtmageeohnfomnaaGreatG7
namespace Go.Proofs.YtmageeohnfomnaaGreat
set_option maxRecDepth 100000
open Go.RowKit Go.ChangeShapes Go.WideShapes Go.ChangeAt

set_option maxRecDepth 100000 in
set_option maxHeartbeats 8000000 in
theorem rlevents_right {N S T D L n Q P : Nat} (h : Conf N S T D L n Q P) (hz : lvD (N : Int) (S : Int) (T : Int) = (Q : Int)) (hR : lvR (N : Int) (S : Int) (T : Int) = true) (f : Int) (lf : Nat) (hlf : lf < N) (w : World) :
    Calls Tryz.prog 17 #[.int .i64 f, .agg #[.int .i64 (N : Int), .int .i64 (S : Int), .int .i64 (T : Int)], .int .i64 (lf : Int)] w (EvPost w (xA (plcI S D f lf) (wrap64 (f + 2)) (L + T) Q P)) := by
  have HR := Lib.hid (fun W => rlright_all (N : Int) (S : Int) (T : Int) W)
  rw [hR] at HR
  have HZ := Lib.hid (fun W => rlsizes_all (N : Int) (S : Int) (T : Int) W)
  rw [hz] at HZ
  generalize lvA (N : Int) (S : Int) (T : Int) = za at *
  generalize lvB (N : Int) (S : Int) (T : Int) = zb at *
  have HPl := Lib.hid (fun W => rplaces_of h f lf hlf W)
  have hLT : L + T ≤ Q := by have := h.hn; have := h.le; omega
  have hLT0 : 0 < L + T := by have := h.t1; omega
  have hQ := h.big.2.2.2
  have HQ := Lib.hid h.hQ
  have hnet : (netL P).length * 4 ≤ 18432 := by
    have h256 : 2 ^ P ≤ 256 := by have := h.hQ; omega
    have := Nat.mul_le_mul (Nat.mul_le_mul h.hP (show P + 1 ≤ 9 by have := h.hP; omega)) h256
    rw [Nat.mul_comm, netL_len P]
    omega
  have hP8 := h.hP
  have hP0 : 0 < P := Nat.pos_of_ne_zero fun e => by have h1 := h.hQ; rw [e] at h1; have := h.le; have := h.big.2.1; omega
  have hnet0 : 0 < (netL P).length * 4 := by
    rw [Nat.mul_comm, netL_len P]
    exact Nat.mul_pos (Nat.mul_pos hP0 (Nat.succ_pos _)) (Nat.two_pow_pos P)
  have HNet0 := Lib.hid hnet0
  have hn1 := h.n1
  clear h hz hR hnet0 hP0
  obtain ⟨z, hzz⟩ : ∃ z, plcI S D f lf = z := ⟨_, rfl⟩
  rw [hzz] at HPl ⊢
  clear hzz
  obtain ⟨t, ht⟩ : ∃ t, t = wrap64 (f + 2) := ⟨_, rfl⟩
  rw [← ht]
  have HT := Lib.hid ht
  have HTw : Hid (IntKind.i64.wrap (f + 2) = t) := Lib.hid (by rw [ht]; first | rfl | (rw [IntKind.wrap_i64]; unfold wrap64; omega))
  clear ht
  generalize hm : L + T = m at *
  clear hm
  obtain ⟨b, hb⟩ : ∃ b, w.heap.size = b := ⟨_, rfl⟩
  obtain ⟨w2, hw2⟩ : ∃ w2, w.alloc (.cells #[.int .i64 (N : Int), .int .i64 (S : Int), .int .i64 (T : Int)] 28) = w2 := ⟨_, rfl⟩
  have hx : Box w2 b 28 #[.int .i64 (N : Int), .int .i64 (S : Int), .int .i64 (T : Int)] := by rw [← hw2, ← hb]; exact Box.new w _ _
  have ho2 : Below w.heap.size w w2 := by rw [← hw2]; exact (Below.refl _ w).alloc (Nat.le_refl _) _
  have HX := Lib.hid hx
  have HO := Lib.hid ho2
  have HW2 := Lib.hid hw2
  have HBb := Lib.hid hb
  have k0 : w2.cell? ⟨b, 0, none⟩ = some (.int .i64 (N : Int)) := hx.cell 0
  have k1 : w2.cell? ⟨b, 1, none⟩ = some (.int .i64 (S : Int)) := hx.cell 1
  have k2 : w2.cell? ⟨b, 2, none⟩ = some (.int .i64 (T : Int)) := hx.cell 2
  clear hx ho2 hw2 hb
  have g1 : decide ((N : Int) ≤ (lf : Int)) = false := by simp; omega
  have g2 : decide (N ≤ lf) = false := by simp; omega
  go_enter Tryz.func17, Tryz.ntmps17
  go_upto_region 1 with fail
  simp only [HBb.out]
  rw [HW2.out]
  go_wp2_with fail
  refine (HR.out _).mono ?_
  rintro e w3 ⟨rfl, hb3⟩
  have HX3 := Lib.hid (HX.out.of (hb3.block _ HX.out.lt))
  have HO3 := Lib.hid (HO.out.trans (hb3.mono HO.out.size))
  clear hb3 k0 k1 k2 HX HO HR
  have k0 : w3.cell? ⟨b, 0, none⟩ = some (.int .i64 (N : Int)) := HX3.out.cell 0
  have k1 : w3.cell? ⟨b, 1, none⟩ = some (.int .i64 (S : Int)) := HX3.out.cell 1
  have k2 : w3.cell? ⟨b, 2, none⟩ = some (.int .i64 (T : Int)) := HX3.out.cell 2
  go_wp2_with fail
  refine (HPl.out _).mono ?_
  rintro e w4 ⟨g, cg, rfl, hsp, hb4⟩
  have HX4 := Lib.hid (HX3.out.of (hb4.block _ HX3.out.lt))
  have HO4 := Lib.hid (HO3.out.trans (hb4.mono HO3.out.size))
  have HSp := Lib.hid hsp
  clear hb4 k0 k1 k2 HX3 HO3 HPl hsp
  have k0 : w4.cell? ⟨b, 0, none⟩ = some (.int .i64 (N : Int)) := HX4.out.cell 0
  have k1 : w4.cell? ⟨b, 1, none⟩ = some (.int .i64 (S : Int)) := HX4.out.cell 1
  have k2 : w4.cell? ⟨b, 2, none⟩ = some (.int .i64 (T : Int)) := HX4.out.cell 2
  go_wp2_with fail
  refine (HZ.out _).mono ?_
  rintro e w7 ⟨rfl, hb7⟩
  have HO7 := Lib.hid (HO4.out.trans (hb7.mono HO4.out.size))
  have HC : Hid (∀ wx, Below w7.heap.size w7 wx → ∀ j, j < m → wx.cell? ⟨g, j * 2, none⟩ = some (.int .i64 (z j).1) ∧ wx.cell? ⟨g, j * 2 + 1, none⟩ = some (.int .i64 (z j).2)) := Lib.hid fun wx hx j hj => by
    have h1 := HSp.out.block hb7.size (hb7.block _ HSp.out.lt)
    have h2 := h1.block hx.size (hx.block _ h1.lt)
    exact h2.cell j hj
  clear hb7 k0 k1 k2 HX4 HO4 HZ HSp g1 g2
  have ht : wrap64 (f + 2) = t := HT.out.symm
  go_wp2_with fail
  go_loopw [11, 12] (fun v11 v12 wr => ∃ i : Nat, v12 = .int .i64 i ∧ i ≤ Q ∧ EvAt w7 v11 (xF z t m i) wr) (fun _ v12 _ => Q - (intOf v12).toNat)
  case atStart => exact ⟨0, rfl, by omega, EvAt.nil w7⟩
  case round =>
    obtain ⟨i, rfl, hi, hE⟩ := hrel
    by_cases hlt : i < Q
    · have HE := Lib.hid hE
      have hlen := xF_len z t m i
      have HSt : Hid (xF z t m (i + 1) = (xF z t m i ++ (if i < m then [((z i).1, (z i).2, false)] else [])) ++ [(t, (i : Int), true)]) := Lib.hid rfl
      have hiq : (i : Int) < (Q : Int) := by omega
      obtain ⟨li, hli⟩ : ∃ li, xF z t m i = li := ⟨_, rfl⟩
      rw [hli] at HE HSt hlen
      clear hE hli
      by_cases him : i < m
      · have hin : (i : Int) < (m : Int) := by omega
        rw [if_pos him] at HSt
        obtain ⟨d1, d2⟩ := HC.out _ (HE.out.below.drew) i him
        obtain ⟨r, hr⟩ : ∃ r, (z i).1 = r := ⟨_, rfl⟩
        obtain ⟨a, ha⟩ : ∃ a, (z i).2 = a := ⟨_, rfl⟩
        have HCi : Hid (∀ wx, Below w7.heap.size w7 wx → wx.cell? ⟨g, i * 2, none⟩ = some (.int .i64 r) ∧ wx.cell? ⟨g, i * 2 + 1, none⟩ = some (.int .i64 a)) := Lib.hid fun wx hx => by rw [← hr, ← ha]; exact HC.out wx hx i him
        rw [hr] at d1 HSt
        rw [ha] at d2 HSt
        clear hr ha
        go_upto_region 10 with fail
        have HE5 := Lib.hid (HE.out.stay ((Below.refl wr.heap.size wr).drew))
        refine held_s (S := fun w' => w'.cell? ⟨g, i * 2, none⟩ = some (.int .i64 r) ∧ w'.cell? ⟨g, i * 2 + 1, none⟩ = some (.int .i64 a)) 15 rfl (by kernel_rfl) ⟨d1, d2⟩ (fun hHeld => ?_)
        simp only [Array.replicate_succ, Array.replicate_zero, List.push_toArray, List.nil_append, List.cons_append]
        clear d1 d2 HE
        generalize wr.drew = w5 at *
        refine wpAnyH_take (i := 0) (oi := ⟨some 48, _, _, _, _, _⟩) (v := (u11)) rfl (by kernel_rfl) (by kernel_rfl) (by kernel_rfl) (fun _ _ _ h => h) (Or.inl ⟨by rfl, fun w' hw => by go_simp⟩) hHeld ?_
        try simp only [Act.put, List.setIfInBounds_toArray, List.set_cons_zero, List.set_cons_succ]
        refine wpAnyH_take (i := 1) (oi := ⟨some 49, _, _, _, _, _⟩) (v := (.slice (some ⟨g, 0, none⟩) m cg)) rfl (by kernel_rfl) (by kernel_rfl) (by kernel_rfl) (fun _ _ _ h => h) (Or.inl ⟨by rfl, fun w' hw => by go_simp⟩) hHeld ?_
        try simp only [Act.put, List.setIfInBounds_toArray, List.set_cons_zero, List.set_cons_succ]
        refine wpAnyH_take (i := 2) (oi := ⟨some 50, _, _, _, _, _⟩) (v := (.int .i64 (i : Int))) rfl (by kernel_rfl) (by kernel_rfl) (by kernel_rfl) (fun _ _ _ h => h) (Or.inl ⟨by rfl, fun w' hw => by go_simp⟩) hHeld ?_
        try simp only [Act.put, List.setIfInBounds_toArray, List.set_cons_zero, List.set_cons_succ]
        refine wpAnyH_take (i := 3) (oi := ⟨some 51, _, _, _, _, _⟩) (v := (.pointer (some ⟨g, i * 2, none⟩))) rfl (by kernel_rfl) (by kernel_rfl) (by kernel_rfl) (fun _ _ _ h => h) (Or.inl ⟨by rfl, fun w' hw => by go_simp⟩) hHeld ?_
        try simp only [Act.put, List.setIfInBounds_toArray, List.set_cons_zero, List.set_cons_succ]
        refine wpAnyH_take (i := 4) (oi := ⟨some 52, _, _, _, _, _⟩) (v := (.pointer (some ⟨g, i * 2, none⟩))) rfl (by kernel_rfl) (by kernel_rfl) (by kernel_rfl) (fun _ _ _ h => h) (Or.inl ⟨by rfl, fun w' hw => by go_simp⟩) hHeld ?_
        try simp only [Act.put, List.setIfInBounds_toArray, List.set_cons_zero, List.set_cons_succ]
        refine wpAnyH_take (i := 5) (oi := ⟨some 53, _, _, _, _, _⟩) (v := (.int .i64 r)) rfl (by kernel_rfl) (by kernel_rfl) (by kernel_rfl) (fun _ _ _ h => h) (Or.inl ⟨by rfl, fun w' hw => by (have c0 := hw.1; have c1 := hw.2; go_simp)⟩) hHeld ?_
        try simp only [Act.put, List.setIfInBounds_toArray, List.set_cons_zero, List.set_cons_succ]
        refine wpAnyH_take (i := 6) (oi := ⟨some 54, _, _, _, _, _⟩) (v := (.slice (some ⟨g, 0, none⟩) m cg)) rfl (by kernel_rfl) (by kernel_rfl) (by kernel_rfl) (fun _ _ _ h => h) (Or.inl ⟨by rfl, fun w' hw => by go_simp⟩) hHeld ?_
        try simp only [Act.put, List.setIfInBounds_toArray, List.set_cons_zero, List.set_cons_succ]
        refine wpAnyH_take (i := 7) (oi := ⟨some 55, _, _, _, _, _⟩) (v := (.int .i64 (i : Int))) rfl (by kernel_rfl) (by kernel_rfl) (by kernel_rfl) (fun _ _ _ h => h) (Or.inl ⟨by rfl, fun w' hw => by go_simp⟩) hHeld ?_
        try simp only [Act.put, List.setIfInBounds_toArray, List.set_cons_zero, List.set_cons_succ]
        refine wpAnyH_take (i := 8) (oi := ⟨some 56, _, _, _, _, _⟩) (v := (.pointer (some ⟨g, i * 2, none⟩))) rfl (by kernel_rfl) (by kernel_rfl) (by kernel_rfl) (fun _ _ _ h => h) (Or.inl ⟨by rfl, fun w' hw => by go_simp⟩) hHeld ?_
        try simp only [Act.put, List.setIfInBounds_toArray, List.set_cons_zero, List.set_cons_succ]
        refine wpAnyH_take (i := 9) (oi := ⟨some 57, _, _, _, _, _⟩) (v := (.pointer (some ⟨g, i * 2 + 1, none⟩))) rfl (by kernel_rfl) (by kernel_rfl) (by kernel_rfl) (fun _ _ _ h => h) (Or.inl ⟨by rfl, fun w' hw => by go_simp⟩) hHeld ?_
        try simp only [Act.put, List.setIfInBounds_toArray, List.set_cons_zero, List.set_cons_succ]
        refine wpAnyH_take (i := 10) (oi := ⟨some 58, _, _, _, _, _⟩) (v := (.int .i64 a)) rfl (by kernel_rfl) (by kernel_rfl) (by kernel_rfl) (fun _ _ _ h => h) (Or.inl ⟨by rfl, fun w' hw => by (have c0 := hw.1; have c1 := hw.2; go_simp)⟩) hHeld ?_
        try simp only [Act.put, List.setIfInBounds_toArray, List.set_cons_zero, List.set_cons_succ]
        refine wpAnyH_take (i := 11) (oi := ⟨some 59, _, _, _, _, _⟩) (v := (.agg #[.int .i64 r, .int .i64 a, .bool false])) rfl (by kernel_rfl) (by kernel_rfl) (by kernel_rfl) (fun _ _ _ h => h) (Or.inl ⟨by rfl, fun w' hw => by go_simp⟩) hHeld ?_
        try simp only [Act.put, List.setIfInBounds_toArray, List.set_cons_zero, List.set_cons_succ]
        refine one_ready 12 rfl (by kernel_rfl) (fun K hK => ?_)
        go_simp
        have hsz : w7.heap.size ≤ w5.heap.size := HE5.out.below.size
        refine hK.out _ _ (HCi.out _ (HE5.out.below.alloc hsz _)) (fun _ => ?_)
        clear hK K
        simp only [List.setIfInBounds_toArray, List.set_cons_zero, List.set_cons_succ]
        refine one_ready 13 rfl (by kernel_rfl) (fun K hK => ?_)
        have HOW : Hid (w5.ownsRow w7.heap.size 87 3 u11 li.length (ievs li)) := Lib.hid HE5.out.own
        refine step_append_where rfl (.tmp 48) (.tmp 60) 48 rfl w7.heap.size 87 (.agg #[.int .i64 0, .int .i64 0, .bool false]) 3 24 Tryz.underlying48 infoEvent rfl (by decide) u11 li.length (ievs li) rfl (HOW.out.alloc _) ⟨w5.heap.size, 0, none⟩ 1 1 (ievs [(r, a, false)]) rfl rfl ?a0 (ievs_one _) ?a2 ?a3 ?a4 ?_
        case a0 => exact ievs_new w5 _ [(r, a, false)] rfl
        case a2 => simp only [maxLen]; omega
        case a3 => omega
        case a4 => simp; omega
        intro A2 cap2 wz hown hgr _
        have HEz := Lib.hid (HE5.out.one (e := (r, a, false)) rfl hown hgr)
        clear hown hgr HE5 HOW hsz
        refine hK.out _ _ (HCi.out _ HEz.out.below) (fun hHeld => ?_)
        clear hK K
        simp only [List.setIfInBounds_toArray, List.set_cons_zero, List.set_cons_succ]
        refine wpAnyH_take (i := 14) (oi := ⟨some 11, _, _, _, _, _⟩) (v := (.slice A2 (li.length + 1) cap2)) rfl (by kernel_rfl) (by kernel_rfl) (by kernel_rfl) (fun _ _ _ h => h) (Or.inl ⟨by rfl, fun w' hw => by go_simp⟩) hHeld ?_
        try simp only [Act.put, List.setIfInBounds_toArray, List.set_cons_zero, List.set_cons_succ]
        refine wpAnyH_done (by kernel_rfl) ?_ _
        clear hHeld
        have hsz : w7.heap.size ≤ wz.heap.size := HEz.out.below.size
        have HOW : Hid (wz.ownsRow w7.heap.size 87 3 (.slice A2 (li.length + 1) cap2) (li.length + 1) (ievs (li ++ [(r, a, false)]))) := Lib.hid (by have := HEz.out.own; rwa [List.length_append] at this)
        go_upto_region 11 with fail
        go_wp2_with (with_reducible refine wpList_append_where _ rfl (.tmp 62) (.tmp 67) 48 rfl w7.heap.size 87 (.agg #[.int .i64 0, .int .i64 0, .bool false]) 3 24 Tryz.underlying48 infoEvent rfl (by decide) (.slice A2 (li.length + 1) cap2) (li.length + 1) (ievs (li ++ [(r, a, false)])) rfl (HOW.out.alloc _) ⟨wz.heap.size, 0, none⟩ 1 1 (ievs [(t, (i : Int), true)]) rfl rfl ?b0 (ievs_one _) ?b2 ?b3 ?b4 ?_)
        case b0 => first | exact ievs_new wz _ [(t, (i : Int), true)] rfl | exact fun j u hu => hu
        case b2 => simp only [maxLen]; omega
        case b3 => omega
        case b4 => first | omega | (simp; omega)
        intro A3 cap3 w11 hown hgr _
        have HE11 := Lib.hid (HEz.out.one (e := (t, (i : Int), true)) (by simp) hown hgr)
        clear hown hgr HEz HOW hsz
        go_wp2_with fail
        go_roundw
        case rel => exact ⟨i + 1, by go_num, by omega, by rw [HSt.out]; exact HE11.out⟩
        case measure => simp [intOf]; omega
      · have hin : ¬ (i : Int) < (m : Int) := by omega
        rw [if_neg him, List.append_nil] at HSt
        have HEz := HE
        clear HE
        have hsz : w7.heap.size ≤ wr.heap.size := HEz.out.below.size
        have HOW : Hid (wr.ownsRow w7.heap.size 87 3 u11 li.length (ievs li)) := Lib.hid (by have := HEz.out.own; exact this)
        go_upto_region 11 with fail
        go_wp2_with (with_reducible refine wpList_append_where _ rfl (.tmp 62) (.tmp 67) 48 rfl w7.heap.size 87 (.agg #[.int .i64 0, .int .i64 0, .bool false]) 3 24 Tryz.underlying48 infoEvent rfl (by decide) u11 li.length (ievs li) rfl (HOW.out.alloc _) ⟨wr.heap.size, 0, none⟩ 1 1 (ievs [(t, (i : Int), true)]) rfl rfl ?c0 (ievs_one _) ?c2 ?c3 ?c4 ?_)
        case c0 => first | exact ievs_new wr _ [(t, (i : Int), true)] rfl | exact fun j u hu => hu
        case c2 => simp only [maxLen]; omega
        case c3 => omega
        case c4 => first | omega | (simp; omega)
        intro A3 cap3 w11 hown hgr _
        have HE11 := Lib.hid (HEz.out.one (e := (t, (i : Int), true)) rfl hown hgr)
        clear hown hgr HEz HOW hsz
        go_wp2_with fail
        go_roundw
        case rel => exact ⟨i + 1, by go_num, by omega, by rw [HSt.out]; exact HE11.out⟩
        case measure => simp [intOf]; omega
    · obtain rfl : i = Q := by omega
      have HE1 : Hid (EvAt w7 u11 (xR z t m i P 0) wr) := Lib.hid hE
      clear hE
      have HLen := Lib.hid (xR_len z t m i P hQ hnet)
      have HRs : Hid (∀ r, xR z t m i P (r + 1) = xR z t m i P r ++ xE t i ++ ilooks t (netL P)) := Lib.hid fun _ => rfl
      go_wp2_with fail
      go_loopw [11, 13] (fun v11 v13 wr => ∃ r : Nat, v13 = .int .i64 r ∧ r ≤ 2 ∧ EvAt w7 v11 (xR z t m i P r) wr) (fun _ v13 _ => 2 - (intOf v13).toNat)
      case atStart => exact ⟨0, rfl, by omega, HE1.out⟩
      case round =>
        clear HE1
        obtain ⟨r, rfl, hr, hE⟩ := hrel
        by_cases hr2 : r < 2
        · have HE1 := Lib.hid hE
          have hrd : decide ((r : Int) < 2) = true := decide_eq_true (by omega)
          have hlen0 : (xR z t m i P r).length ≤ 60000 := by have := HLen.out r; have := Nat.mul_le_mul_right 18944 hr; omega
          clear hE
          go_wp2_with fail
          go_loopw [11, 14] (fun v11 v14 wr => ∃ j : Nat, v14 = .int .i64 j ∧ j ≤ i ∧ EvAt w7 v11 (xR z t m i P r ++ xE t j) wr) (fun _ v14 _ => i - (intOf v14).toNat)
          case atStart => exact ⟨0, rfl, by omega, by rw [show xE t 0 = [] from rfl, List.append_nil]; exact HE1.out⟩
          case round =>
            clear HE1
            obtain ⟨j, rfl, hj, hE⟩ := hrel
            have hlen : (xR z t m i P r ++ xE t j).length ≤ 70000 := by rw [List.length_append, xE_len]; omega
            have HEs : Hid (xR z t m i P r ++ xE t (j + 1) = (xR z t m i P r ++ xE t j) ++ [(t, (j : Int), false), (t, (j : Int), true)]) := Lib.hid (by rw [List.append_assoc]; rfl)
            obtain ⟨li, hli⟩ : ∃ li, xR z t m i P r ++ xE t j = li := ⟨_, rfl⟩
            rw [hli] at hE HEs hlen
            have HLi := Lib.hid hli
            have HEz := Lib.hid hE
            clear hE hli
            by_cases hjt : j < i
            · have hjq : (j : Int) < (i : Int) := by omega
              have hsz : w7.heap.size ≤ wr.heap.size := HEz.out.below.size
              have HOW : Hid (wr.ownsRow w7.heap.size 87 3 u11 li.length (ievs li)) := Lib.hid HEz.out.own
              go_upto_region 18 with fail
              go_wp2_with (with_reducible refine wpList_append_where _ rfl (.tmp 78) (.tmp 87) 48 rfl w7.heap.size 87 (.agg #[.int .i64 0, .int .i64 0, .bool false]) 3 24 Tryz.underlying48 infoEvent rfl (by decide) u11 li.length (ievs li) rfl (HOW.out.alloc _) ⟨wr.heap.size, 0, none⟩ 2 2 (ievs [(t, (j : Int), false), (t, (j : Int), true)]) rfl rfl ?d0 (ievs_one _) ?d2 ?d3 ?d4 ?_)
              case d0 => exact ievs_new wr _ [(t, (j : Int), false), (t, (j : Int), true)] rfl
              case d2 => simp only [maxLen]; omega
              case d3 => omega
              case d4 => simp; omega
              intro A3 cap3 w11 hown hgr _
              have HE11 := Lib.hid (HEz.out.two (e := (t, (j : Int), false)) (e' := (t, (j : Int), true)) rfl hown hgr)
              clear hown hgr HEz HOW hsz
              go_wp2_with fail
              go_roundw
              case rel => exact ⟨j + 1, by go_num, by omega, by rw [HEs.out]; exact HE11.out⟩
              case measure => simp [intOf]; omega
            · obtain rfl : j = i := by omega
              go_wp2_with fail
              refine (refEvents_any t (j : Int) (2 ^ P) (netL P) ⟨.inl ⟨P, by omega, by rw [HQ.out], rfl, rfl⟩⟩ _).mono ?_
              rintro e we ⟨A, cap, rfl, hv, ho⟩
              have hne : ilooks t (netL P) ≠ [] := fun e => by
                have h1 := congrArg List.length e
                rw [ilooks_len] at h1
                have h2 := HNet0.out
                simp only [List.length_nil] at h1
                omega
              obtain ⟨bA, oA, rfl, hrA⟩ := hv hne
              have hnl : (ilooks t (netL P)).length ≤ 18432 := by rw [ilooks_len]; exact hnet
              have HEe := Lib.hid (HEz.out.stay (Only.none ho))
              have hse : w7.heap.size ≤ we.heap.size := HEe.out.below.size
              have HOW : Hid (we.ownsRow w7.heap.size 87 3 u11 li.length (ievs li)) := Lib.hid HEe.out.own
              have HRa := Lib.hid hrA
              clear hv ho hne hrA HEz
              go_wp2_with (with_reducible refine wpList_append_where _ rfl (.tmp 89) (.tmp 93) 48 rfl w7.heap.size 87 (.agg #[.int .i64 0, .int .i64 0, .bool false]) 3 24 Tryz.underlying48 infoEvent rfl (by decide) u11 li.length (ievs li) rfl HOW.out ⟨bA, oA, none⟩ (ilooks t (netL P)).length cap (ievs (ilooks t (netL P))) rfl (ievs_len _) ?e0 (ievs_one _) ?e2 ?e3 ?e4 ?_)
              case e0 => exact fun q u hq => by rw [add_plain]; exact HRa.out q u hq
              case e2 => simp only [maxLen]; omega
              case e3 => omega
              case e4 => exact hse
              intro A2 cap2 w9 hown hgr _
              have HE9 := Lib.hid (HEe.out.all hown hgr)
              clear hown hgr HEe HOW hse
              go_wp2_with fail
              go_roundw
              case rel => exact ⟨r + 1, by go_num, by omega, by rw [HRs.out r, HLi.out]; exact HE9.out⟩
              case measure => simp [intOf]; omega
        · have HR3 : Hid (r = 2) := Lib.hid (by omega)
          have HE1 := Lib.hid hE
          have hlen0 : (xR z t m i P r).length ≤ 60000 := by have := HLen.out r; have := Nat.mul_le_mul_right 18944 hr; omega
          clear hE
          have hrd : decide ((r : Int) < 2) = false := decide_eq_false (by omega)
          go_wp2_with fail
          go_loopw [11, 15] (fun v11 v15 wr => ∃ k : Nat, v15 = .int .i64 k ∧ k ≤ m ∧ EvAt w7 v11 (xR z t m i P r ++ xG z t k) wr) (fun _ v15 _ => m - (intOf v15).toNat)
          case atStart => exact ⟨0, rfl, by omega, by rw [show xG z t 0 = [] from rfl, List.append_nil]; exact HE1.out⟩
          case round =>
            clear HE1
            obtain ⟨k, rfl, hk, hE⟩ := hrel
            by_cases hkt : k < m
            · have hkl : (k : Int) < (m : Int) := by omega
              have hlen : (xR z t m i P r ++ xG z t k).length ≤ 70000 := by rw [List.length_append, xG_len]; omega
              have HGs : Hid (xR z t m i P r ++ xG z t (k + 1) = (xR z t m i P r ++ xG z t k) ++ [(t, (k : Int), false), ((z k).1, (z k).2, true)]) := Lib.hid (by rw [List.append_assoc]; rfl)
              obtain ⟨li, hli⟩ : ∃ li, xR z t m i P r ++ xG z t k = li := ⟨_, rfl⟩
              rw [hli] at hE HGs hlen
              have HE := Lib.hid hE
              clear hE hli
              obtain ⟨d1, d2⟩ := HC.out _ (HE.out.below.drew) k hkt
              obtain ⟨rg, hrg⟩ : ∃ r, (z k).1 = r := ⟨_, rfl⟩
              obtain ⟨a, ha⟩ : ∃ a, (z k).2 = a := ⟨_, rfl⟩
              have HCi : Hid (∀ wx, Below w7.heap.size w7 wx → wx.cell? ⟨g, k * 2, none⟩ = some (.int .i64 rg) ∧ wx.cell? ⟨g, k * 2 + 1, none⟩ = some (.int .i64 a)) := Lib.hid fun wx hx => by rw [← hrg, ← ha]; exact HC.out wx hx k hkt
              rw [hrg] at d1 HGs
              rw [ha] at d2 HGs
              clear hrg ha
              go_upto_region 23 with fail
              have HE5 := Lib.hid (HE.out.stay ((Below.refl wr.heap.size wr).drew))
              refine held_s (S := fun w' => w'.cell? ⟨g, k * 2, none⟩ = some (.int .i64 rg) ∧ w'.cell? ⟨g, k * 2 + 1, none⟩ = some (.int .i64 a)) 19 rfl (by kernel_rfl) ⟨d1, d2⟩ (fun hHeld => ?_)
              simp only [Array.replicate_succ, Array.replicate_zero, List.push_toArray, List.nil_append, List.cons_append]
              clear d1 d2 HE
              generalize wr.drew = w5 at *
              refine wpAnyH_take (i := 0) (oi := ⟨some 101, _, _, _, _, _⟩) (v := (u11)) rfl (by kernel_rfl) (by kernel_rfl) (by kernel_rfl) (fun _ _ _ h => h) (Or.inl ⟨by rfl, fun w' hw => by go_simp⟩) hHeld ?_
              try simp only [Act.put, List.setIfInBounds_toArray, List.set_cons_zero, List.set_cons_succ]
              refine wpAnyH_take (i := 1) (oi := ⟨some 102, _, _, _, _, _⟩) (v := (.int .i64 f)) rfl (by kernel_rfl) (by kernel_rfl) (by kernel_rfl) (fun _ _ _ h => h) (Or.inl ⟨by rfl, fun w' hw => by go_simp⟩) hHeld ?_
              try simp only [Act.put, List.setIfInBounds_toArray, List.set_cons_zero, List.set_cons_succ]
              refine wpAnyH_take (i := 2) (oi := ⟨some 103, _, _, _, _, _⟩) (v := (.int .i64 t)) rfl (by kernel_rfl) (by kernel_rfl) (by kernel_rfl) (fun _ _ _ h => h) (Or.inl ⟨by rfl, fun w' hw => by (go_simp; exact HTw.out)⟩) hHeld ?_
              try simp only [Act.put, List.setIfInBounds_toArray, List.set_cons_zero, List.set_cons_succ]
              refine wpAnyH_take (i := 3) (oi := ⟨some 104, _, _, _, _, _⟩) (v := (.int .i64 (k : Int))) rfl (by kernel_rfl) (by kernel_rfl) (by kernel_rfl) (fun _ _ _ h => h) (Or.inl ⟨by rfl, fun w' hw => by go_simp⟩) hHeld ?_
              try simp only [Act.put, List.setIfInBounds_toArray, List.set_cons_zero, List.set_cons_succ]
              refine wpAnyH_take (i := 4) (oi := ⟨some 105, _, _, _, _, _⟩) (v := (.agg #[.int .i64 t, .int .i64 (k : Int), .bool false])) rfl (by kernel_rfl) (by kernel_rfl) (by kernel_rfl) (fun _ _ _ h => h) (Or.inl ⟨by rfl, fun w' hw => by go_simp⟩) hHeld ?_
              try simp only [Act.put, List.setIfInBounds_toArray, List.set_cons_zero, List.set_cons_succ]
              refine wpAnyH_take (i := 5) (oi := ⟨some 106, _, _, _, _, _⟩) (v := (.slice (some ⟨g, 0, none⟩) m cg)) rfl (by kernel_rfl) (by kernel_rfl) (by kernel_rfl) (fun _ _ _ h => h) (Or.inl ⟨by rfl, fun w' hw => by go_simp⟩) hHeld ?_
              try simp only [Act.put, List.setIfInBounds_toArray, List.set_cons_zero, List.set_cons_succ]
              refine wpAnyH_take (i := 6) (oi := ⟨some 107, _, _, _, _, _⟩) (v := (.int .i64 (k : Int))) rfl (by kernel_rfl) (by kernel_rfl) (by kernel_rfl) (fun _ _ _ h => h) (Or.inl ⟨by rfl, fun w' hw => by go_simp⟩) hHeld ?_
              try simp only [Act.put, List.setIfInBounds_toArray, List.set_cons_zero, List.set_cons_succ]
              refine wpAnyH_take (i := 7) (oi := ⟨some 108, _, _, _, _, _⟩) (v := (.pointer (some ⟨g, k * 2, none⟩))) rfl (by kernel_rfl) (by kernel_rfl) (by kernel_rfl) (fun _ _ _ h => h) (Or.inl ⟨by rfl, fun w' hw => by go_simp⟩) hHeld ?_
              try simp only [Act.put, List.setIfInBounds_toArray, List.set_cons_zero, List.set_cons_succ]
              refine wpAnyH_take (i := 8) (oi := ⟨some 109, _, _, _, _, _⟩) (v := (.pointer (some ⟨g, k * 2, none⟩))) rfl (by kernel_rfl) (by kernel_rfl) (by kernel_rfl) (fun _ _ _ h => h) (Or.inl ⟨by rfl, fun w' hw => by go_simp⟩) hHeld ?_
              try simp only [Act.put, List.setIfInBounds_toArray, List.set_cons_zero, List.set_cons_succ]
              refine wpAnyH_take (i := 9) (oi := ⟨some 110, _, _, _, _, _⟩) (v := (.int .i64 rg)) rfl (by kernel_rfl) (by kernel_rfl) (by kernel_rfl) (fun _ _ _ h => h) (Or.inl ⟨by rfl, fun w' hw => by (have c0 := hw.1; have c1 := hw.2; go_simp)⟩) hHeld ?_
              try simp only [Act.put, List.setIfInBounds_toArray, List.set_cons_zero, List.set_cons_succ]
              refine wpAnyH_take (i := 10) (oi := ⟨some 111, _, _, _, _, _⟩) (v := (.slice (some ⟨g, 0, none⟩) m cg)) rfl (by kernel_rfl) (by kernel_rfl) (by kernel_rfl) (fun _ _ _ h => h) (Or.inl ⟨by rfl, fun w' hw => by go_simp⟩) hHeld ?_
              try simp only [Act.put, List.setIfInBounds_toArray, List.set_cons_zero, List.set_cons_succ]
              refine wpAnyH_take (i := 11) (oi := ⟨some 112, _, _, _, _, _⟩) (v := (.int .i64 (k : Int))) rfl (by kernel_rfl) (by kernel_rfl) (by kernel_rfl) (fun _ _ _ h => h) (Or.inl ⟨by rfl, fun w' hw => by go_simp⟩) hHeld ?_
              try simp only [Act.put, List.setIfInBounds_toArray, List.set_cons_zero, List.set_cons_succ]
              refine wpAnyH_take (i := 12) (oi := ⟨some 113, _, _, _, _, _⟩) (v := (.pointer (some ⟨g, k * 2, none⟩))) rfl (by kernel_rfl) (by kernel_rfl) (by kernel_rfl) (fun _ _ _ h => h) (Or.inl ⟨by rfl, fun w' hw => by go_simp⟩) hHeld ?_
              try simp only [Act.put, List.setIfInBounds_toArray, List.set_cons_zero, List.set_cons_succ]
              refine wpAnyH_take (i := 13) (oi := ⟨some 114, _, _, _, _, _⟩) (v := (.pointer (some ⟨g, k * 2 + 1, none⟩))) rfl (by kernel_rfl) (by kernel_rfl) (by kernel_rfl) (fun _ _ _ h => h) (Or.inl ⟨by rfl, fun w' hw => by go_simp⟩) hHeld ?_
              try simp only [Act.put, List.setIfInBounds_toArray, List.set_cons_zero, List.set_cons_succ]
              refine wpAnyH_take (i := 14) (oi := ⟨some 115, _, _, _, _, _⟩) (v := (.int .i64 a)) rfl (by kernel_rfl) (by kernel_rfl) (by kernel_rfl) (fun _ _ _ h => h) (Or.inl ⟨by rfl, fun w' hw => by (have c0 := hw.1; have c1 := hw.2; go_simp)⟩) hHeld ?_
              try simp only [Act.put, List.setIfInBounds_toArray, List.set_cons_zero, List.set_cons_succ]
              refine wpAnyH_take (i := 15) (oi := ⟨some 116, _, _, _, _, _⟩) (v := (.agg #[.int .i64 rg, .int .i64 a, .bool true])) rfl (by kernel_rfl) (by kernel_rfl) (by kernel_rfl) (fun _ _ _ h => h) (Or.inl ⟨by rfl, fun w' hw => by go_simp⟩) hHeld ?_
              try simp only [Act.put, List.setIfInBounds_toArray, List.set_cons_zero, List.set_cons_succ]
              refine one_ready 16 rfl (by kernel_rfl) (fun K hK => ?_)
              go_simp
              have hsz : w7.heap.size ≤ w5.heap.size := HE5.out.below.size
              refine hK.out _ _ (HCi.out _ (HE5.out.below.alloc hsz _)) (fun _ => ?_)
              clear hK K
              simp only [List.setIfInBounds_toArray, List.set_cons_zero, List.set_cons_succ]
              refine one_ready 17 rfl (by kernel_rfl) (fun K hK => ?_)
              have HOW : Hid (w5.ownsRow w7.heap.size 87 3 u11 li.length (ievs li)) := Lib.hid HE5.out.own
              refine step_append_where rfl (.tmp 101) (.tmp 117) 48 rfl w7.heap.size 87 (.agg #[.int .i64 0, .int .i64 0, .bool false]) 3 24 Tryz.underlying48 infoEvent rfl (by decide) u11 li.length (ievs li) rfl (HOW.out.alloc _) ⟨w5.heap.size, 0, none⟩ 2 2 (ievs [(t, (k : Int), false), (rg, a, true)]) rfl rfl ?f0 (ievs_one _) ?f2 ?f3 ?f4 ?_
              case f0 => exact ievs_new w5 _ [(t, (k : Int), false), (rg, a, true)] rfl
              case f2 => simp only [maxLen]; omega
              case f3 => omega
              case f4 => simp; omega
              intro A2 cap2 wz hown hgr _
              have HEz := Lib.hid (HE5.out.two (e := (t, (k : Int), false)) (e' := (rg, a, true)) rfl hown hgr)
              clear hown hgr HE5 HOW hsz
              refine hK.out _ _ (HCi.out _ HEz.out.below) (fun hHeld => ?_)
              clear hK K
              simp only [List.setIfInBounds_toArray, List.set_cons_zero, List.set_cons_succ]
              refine wpAnyH_take (i := 18) (oi := ⟨some 11, _, _, _, _, _⟩) (v := (.slice A2 (li.length + 2) cap2)) rfl (by kernel_rfl) (by kernel_rfl) (by kernel_rfl) (fun _ _ _ h => h) (Or.inl ⟨by rfl, fun w' hw => by go_simp⟩) hHeld ?_
              try simp only [Act.put, List.setIfInBounds_toArray, List.set_cons_zero, List.set_cons_succ]
              refine wpAnyH_done (by kernel_rfl) ?_ _
              clear hHeld
              go_wp2_with fail
              go_roundw
              case rel => exact ⟨k + 1, by go_num, by omega, by rw [HGs.out]; exact HEz.out⟩
              case measure => simp [intOf]; omega
            · obtain rfl : k = m := by omega
              have HD : Hid (EvPost w (xA z t k i P) (.returned u11) wr) := Lib.hid (by rw [HR3.out] at hE; exact ev_done hE HO7.out)
              clear hE
              go_wp2_with fail
              go_ret
              exact HD.out
end Go.Proofs.YtmageeohnfomnaaGreat


namespace Go.Proofs.YtmageeohnfomnaaGreat
set_option maxRecDepth 100000
open Go.RowKit Go.ChangeShapes Go.WideShapes Go.ChangeAt

def lvEv (f N S T lf : Int) : List IEv := if (lvR N S T && isLf N lf) = true then xA (plcI S.toNat (dpt N) f lf.toNat) (wrap64 (f + 2)) ((dpt N + 1) * S.toNat + T.toNat) (lvD N S T).toNat (lg (lvD N S T)).toNat else []
theorem ev_none {w w' : World} (h : Below w.heap.size w w') : EvPost w [] (.returned (.slice none 0 0)) w' := ⟨none, 0, rfl, fun h => absurd rfl h, Only.of_below h⟩
set_option maxHeartbeats 1000000 in
theorem levents_wrong (f N S T lf : Int) (w : World) (hN : Rg N) (h : lvR N S T = false) :
    Calls Tryz.prog 16 #[.int .i64 f, .agg #[.int .i64 N, .int .i64 S, .int .i64 T], .int .i64 lf] w (EvPost w []) := by
  have HR := Lib.hid (fun W => lright_all N S T W hN)
  rw [h] at HR
  clear h
  go_enter Tryz.func16, Tryz.ntmps16
  go_wp2_with fail
  refine (HR.out _).mono ?_
  rintro e w3 ⟨rfl, hb3⟩
  have HB := Lib.hid (((Below.refl _ w).alloc (Nat.le_refl _) (.cells #[.int .i64 N, .int .i64 S, .int .i64 T] 23)).trans (hb3.mono (by simp)))
  have HE := Lib.hid (ev_none HB.out)
  clear hb3
  go_wp2_with fail
  go_ret
  exact HE.out
set_option maxHeartbeats 1000000 in
theorem levents_noleaf (f N S T lf : Int) (w : World) (hN : Rg N) (h : lvR N S T = true) (hl : isLf N lf = false) :
    Calls Tryz.prog 16 #[.int .i64 f, .agg #[.int .i64 N, .int .i64 S, .int .i64 T], .int .i64 lf] w (EvPost w []) := by
  have HR := Lib.hid (fun W => lright_all N S T W hN)
  rw [h] at HR
  have HLf := Lib.hid (fun W => leaf_any N S T lf W)
  rw [hl] at HLf
  clear h hl
  obtain ⟨b, hb⟩ : ∃ b, w.heap.size = b := ⟨_, rfl⟩
  obtain ⟨w2, hw2⟩ : ∃ w2, w.alloc (.cells #[.int .i64 N, .int .i64 S, .int .i64 T] 23) = w2 := ⟨_, rfl⟩
  have hx : Box w2 b 23 #[.int .i64 N, .int .i64 S, .int .i64 T] := by rw [← hw2, ← hb]; exact Box.new w _ _
  have ho2 : Below w.heap.size w w2 := by rw [← hw2]; exact (Below.refl _ w).alloc (Nat.le_refl _) _
  have HX := Lib.hid hx
  have HO := Lib.hid ho2
  have HW2 := Lib.hid hw2
  have HBb := Lib.hid hb
  have k0 : w2.cell? ⟨b, 0, none⟩ = some (.int .i64 N) := hx.cell 0
  have k1 : w2.cell? ⟨b, 1, none⟩ = some (.int .i64 S) := hx.cell 1
  have k2 : w2.cell? ⟨b, 2, none⟩ = some (.int .i64 T) := hx.cell 2
  clear hx ho2 hw2 hb
  go_enter Tryz.func16, Tryz.ntmps16
  go_upto_region 1 with fail
  simp only [HBb.out]
  rw [HW2.out]
  go_wp2_with fail
  refine (HR.out _).mono ?_
  rintro e w3 ⟨rfl, hb3⟩
  have HX3 := Lib.hid (HX.out.of (hb3.block _ HX.out.lt))
  have HO3 := Lib.hid (HO.out.trans (hb3.mono HO.out.size))
  clear hb3 k0 k1 k2 HX HO HR
  have k0 : w3.cell? ⟨b, 0, none⟩ = some (.int .i64 N) := HX3.out.cell 0
  have k1 : w3.cell? ⟨b, 1, none⟩ = some (.int .i64 S) := HX3.out.cell 1
  have k2 : w3.cell? ⟨b, 2, none⟩ = some (.int .i64 T) := HX3.out.cell 2
  go_wp2_with fail
  refine (HLf.out _).mono ?_
  rintro e w4 ⟨rfl, hb4⟩
  have HE := Lib.hid (ev_none (HO3.out.trans (hb4.mono HO3.out.size)))
  clear hb4 k0 k1 k2 HX3 HO3 HLf
  go_wp2_with fail
  go_ret
  exact HE.out
set_option maxHeartbeats 1000000 in
theorem rlevents_wrong (f N S T lf : Int) (w : World) (h : lvR N S T = false) :
    Calls Tryz.prog 17 #[.int .i64 f, .agg #[.int .i64 N, .int .i64 S, .int .i64 T], .int .i64 lf] w (EvPost w []) := by
  have HR := Lib.hid (fun W => rlright_all N S T W)
  rw [h] at HR
  clear h
  go_enter Tryz.func17, Tryz.ntmps17
  go_wp2_with fail
  refine (HR.out _).mono ?_
  rintro e w3 ⟨rfl, hb3⟩
  have HB := Lib.hid (((Below.refl _ w).alloc (Nat.le_refl _) (.cells #[.int .i64 N, .int .i64 S, .int .i64 T] 28)).trans (hb3.mono (by simp)))
  have HE := Lib.hid (ev_none HB.out)
  clear hb3
  go_wp2_with fail
  go_ret
  exact HE.out
set_option maxHeartbeats 1000000 in
theorem rlevents_noleaf (f N S T lf : Int) (w : World) (h : lvR N S T = true) (hl : isLf N lf = false) :
    Calls Tryz.prog 17 #[.int .i64 f, .agg #[.int .i64 N, .int .i64 S, .int .i64 T], .int .i64 lf] w (EvPost w []) := by
  have HR := Lib.hid (fun W => rlright_all N S T W)
  rw [h] at HR
  have hl' : lf < 0 ∨ (0 ≤ lf ∧ N ≤ lf) := by
    unfold isLf at hl
    by_cases h0 : lf < 0
    · exact .inl h0
    · refine .inr ⟨by omega, ?_⟩
      have : 0 ≤ lf := by omega
      simpa [this] using hl
  clear h hl
  obtain ⟨b, hb⟩ : ∃ b, w.heap.size = b := ⟨_, rfl⟩
  obtain ⟨w2, hw2⟩ : ∃ w2, w.alloc (.cells #[.int .i64 N, .int .i64 S, .int .i64 T] 28) = w2 := ⟨_, rfl⟩
  have hx : Box w2 b 28 #[.int .i64 N, .int .i64 S, .int .i64 T] := by rw [← hw2, ← hb]; exact Box.new w _ _
  have ho2 : Below w.heap.size w w2 := by rw [← hw2]; exact (Below.refl _ w).alloc (Nat.le_refl _) _
  have HX := Lib.hid hx
  have HO := Lib.hid ho2
  have HW2 := Lib.hid hw2
  have HBb := Lib.hid hb
  have k0 : w2.cell? ⟨b, 0, none⟩ = some (.int .i64 N) := hx.cell 0
  have k1 : w2.cell? ⟨b, 1, none⟩ = some (.int .i64 S) := hx.cell 1
  have k2 : w2.cell? ⟨b, 2, none⟩ = some (.int .i64 T) := hx.cell 2
  clear hx ho2 hw2 hb
  go_enter Tryz.func17, Tryz.ntmps17
  go_upto_region 1 with fail
  simp only [HBb.out]
  rw [HW2.out]
  go_wp2_with fail
  refine (HR.out _).mono ?_
  rintro e w3 ⟨rfl, hb3⟩
  have HX3 := Lib.hid (HX.out.of (hb3.block _ HX.out.lt))
  have HO3 := Lib.hid (HO.out.trans (hb3.mono HO.out.size))
  have HE := Lib.hid (ev_none HO3.out)
  clear hb3 k0 k1 k2 HX HO HR
  have k0 : w3.cell? ⟨b, 0, none⟩ = some (.int .i64 N) := HX3.out.cell 0
  have k1 : w3.cell? ⟨b, 1, none⟩ = some (.int .i64 S) := HX3.out.cell 1
  have k2 : w3.cell? ⟨b, 2, none⟩ = some (.int .i64 T) := HX3.out.cell 2
  rcases hl' with hl | ⟨h0, hl⟩
  · have d0 : decide (lf < 0) = true := decide_eq_true hl
    go_wp2_with fail
    go_ret
    exact HE.out
  · have d0 : decide (lf < 0) = false := decide_eq_false (by omega)
    have d1 : decide (N ≤ lf) = true := decide_eq_true hl
    go_wp2_with fail
    go_ret
    exact HE.out
theorem lvEv_in {b s t Q P lf : Nat} {f : Int} (hc : Conf (2 ^ b) s t b ((b + 1) * s) ((b + 1) * s + t + 1) Q P) (hb : b ≤ 10) (hz : lvD ((2 ^ b : Nat) : Int) s t = (Q : Int)) (hr : lvR ((2 ^ b : Nat) : Int) s t = true) (hlf : lf < 2 ^ b) :
    lvEv f ((2 ^ b : Nat) : Int) s t lf = xA (plcI s b f lf) (wrap64 (f + 2)) ((b + 1) * s + t) Q P := by
  have hi : isLf ((2 ^ b : Nat) : Int) (lf : Int) = true := by
    have h1 : ((lf : Nat) : Int) < ((2 ^ b : Nat) : Int) := by omega
    unfold isLf
    generalize ((2 ^ b : Nat) : Int) = M at *
    simp
    omega
  have hp : (lg ((Q : Nat) : Int)).toNat = P := by rw [← hc.hQ, lg_two]; exact Int.toNat_natCast P
  unfold lvEv
  rw [hr, hi, hz, dpt_two hb rfl, hp, Int.toNat_natCast, Int.toNat_natCast, Int.toNat_natCast, Int.toNat_natCast]
  rfl
theorem lvEv_no {f N S T lf : Int} (h : lvR N S T = false ∨ isLf N lf = false) : lvEv f N S T lf = [] := by
  unfold lvEv
  rcases h with h | h <;> simp [h]
theorem levents_any10 (f N S T lf : Int) (w : World) (hN : Rg N) :
    Calls Tryz.prog 16 #[.int .i64 f, .agg #[.int .i64 N, .int .i64 S, .int .i64 T], .int .i64 lf] w (EvPost w (lvEv f N S T lf)) := by
  cases h : lvR N S T
  · rw [lvEv_no (.inl h)]
    exact levents_wrong f N S T lf w hN h
  · cases hl : isLf N lf
    · rw [lvEv_no (.inr hl)]
      exact levents_noleaf f N S T lf w hN h hl
    · obtain ⟨b, s, t, Q, P, hc, hb, rfl, rfl, rfl, _, _, hz, _, _⟩ := lv_conf h
      obtain ⟨m, rfl, hm⟩ : ∃ m : Nat, lf = (m : Int) ∧ m < 2 ^ b := by
        unfold isLf at hl
        simp only [Bool.and_eq_true, decide_eq_true_eq] at hl
        exact ⟨lf.toNat, by omega, by omega⟩
      rw [lvEv_in hc hb hz h hm]
      exact levents_all hc f m hm w
theorem rlevents_any10 (f N S T lf : Int) (w : World) :
    Calls Tryz.prog 17 #[.int .i64 f, .agg #[.int .i64 N, .int .i64 S, .int .i64 T], .int .i64 lf] w (EvPost w (lvEv f N S T lf)) := by
  cases h : lvR N S T
  · rw [lvEv_no (.inl h)]
    exact rlevents_wrong f N S T lf w h
  · cases hl : isLf N lf
    · rw [lvEv_no (.inr hl)]
      exact rlevents_noleaf f N S T lf w h hl
    · obtain ⟨b, s, t, Q, P, hc, hb, rfl, rfl, rfl, _, _, hz, _, _⟩ := lv_conf h
      obtain ⟨m, rfl, hm⟩ : ∃ m : Nat, lf = (m : Int) ∧ m < 2 ^ b := by
        unfold isLf at hl
        simp only [Bool.and_eq_true, decide_eq_true_eq] at hl
        exact ⟨lf.toNat, by omega, by omega⟩
      rw [lvEv_in hc hb hz h hm]
      exact rlevents_right hc hz h f m hm w
end Go.Proofs.YtmageeohnfomnaaGreat


namespace Go.Proofs.YtmageeohnfomnaaGreat
set_option maxRecDepth 100000
open Go.RowKit Go.ChangeShapes Go.WideShapes Go.ChangeAt Go.Maps

theorem size_in (M : MS) (r : Nat) (h : r < M.k) : M.size (r : Int) = M.sz r := by
  unfold MS.size
  rw [if_pos (by omega)]
  rfl
set_option maxHeartbeats 2000000 in
theorem lnew_of {H : Type} {N S T D L n Q P : Nat} (h : Conf N S T D L n Q P) (X : Nat → Prop) (p f : Nat) (M : MS) (w : World) (hM : LvM M f S D T Q) (hf : f ≤ 100) (hO : Own w X p M) :
    Calls Tryz.prog 11 #[.pointer (some ⟨p, 0, none⟩), .int .i64 (f : Int), .agg #[.int .i64 (N : Int), .int .i64 (S : Int), .int .i64 (T : Int)]] w fun e w' =>
      ∃ lp bm, e = .returned (.tuple #[.pointer (some ⟨lp, 0, none⟩), .int .i64 0]) ∧ Only nobody w w' ∧ w.heap.size ≤ lp ∧ w.heap.size ≤ bm ∧ Box w' lp 80 (LvA p f N S T false (some bm)) ∧
        w'.ownsMap Tryz.prog 54 unitElem bm 0 (setOf (.agg []) [] : DataW H) := by
  have hk := hM.hk
  have g0 : decide (M.size (f : Int) < S * (2 * 2 ^ D - 1)) = false := decide_eq_false (by rw [size_in M f (by omega)]; have := hM.s0; omega)
  have g1 : decide (M.size ((f : Int) + 1) < T) = false := decide_eq_false (by rw [show (f : Int) + 1 = ((f + 1 : Nat) : Int) from rfl]; rw [size_in M (f + 1) (by omega)]; have := hM.s1; omega)
  have g2 : decide (M.size ((f : Int) + 2) < Q) = false := decide_eq_false (by rw [show (f : Int) + 2 = ((f + 2 : Nat) : Int) from rfl]; rw [size_in M (f + 2) (by omega)]; have := hM.s2; omega)
  have HR := Lib.hid (fun W => lright_of h W)
  have HZ := Lib.hid (fun W => sizes_of h W)
  have HT0 := Lib.hid (fun W => tree_at f (N : Int) (S : Int) (T : Int) W)
  have HT1 := Lib.hid (fun W => stash_at f (N : Int) (S : Int) (T : Int) W hf)
  have HT2 := Lib.hid (fun W => table_at f (N : Int) (S : Int) (T : Int) W hf)
  have HO := Lib.hid hO
  clear hk hO hM h
  generalize S * (2 * 2 ^ D - 1) = tr at *
  obtain ⟨b, hb⟩ : ∃ b, w.heap.size = b := ⟨_, rfl⟩
  obtain ⟨w2, hw2⟩ : ∃ w2, ((w.alloc (.cells #[.int .i64 (N : Int), .int .i64 (S : Int), .int .i64 (T : Int)] 23)).alloc (.cells #[.int .i64 (f : Int), .int .i64 (N : Int), .int .i64 (S : Int), .int .i64 (T : Int)] 77)) = w2 := ⟨_, rfl⟩
  have hx : Box w2 b 23 #[.int .i64 (N : Int), .int .i64 (S : Int), .int .i64 (T : Int)] := by rw [← hw2, ← hb]; exact (Box.new w _ _).alloc _
  have hy : Box w2 (b + 1) 77 #[.int .i64 (f : Int), .int .i64 (N : Int), .int .i64 (S : Int), .int .i64 (T : Int)] := by
    rw [← hw2, ← hb]
    have := Box.new (w.alloc (.cells #[.int .i64 (N : Int), .int .i64 (S : Int), .int .i64 (T : Int)] 23)) 77 #[.int .i64 (f : Int), .int .i64 (N : Int), .int .i64 (S : Int), .int .i64 (T : Int)]
    simpa using this
  have hbl : Below w.heap.size w w2 := by rw [← hw2]; exact ((Below.refl _ w).alloc (Nat.le_refl _) _).alloc (by simp) _
  have HA : Hid ((Box w2 b 23 #[.int .i64 (N : Int), .int .i64 (S : Int), .int .i64 (T : Int)] ∧ Box w2 (b + 1) 77 #[.int .i64 (f : Int), .int .i64 (N : Int), .int .i64 (S : Int), .int .i64 (T : Int)]) ∧ Below w.heap.size w w2) := Lib.hid ⟨⟨hx, hy⟩, hbl⟩
  have HNx : ∀ (wa wb : World), ((Box wa b 23 #[.int .i64 (N : Int), .int .i64 (S : Int), .int .i64 (T : Int)] ∧ Box wa (b + 1) 77 #[.int .i64 (f : Int), .int .i64 (N : Int), .int .i64 (S : Int), .int .i64 (T : Int)]) ∧ Below w.heap.size w wa) → Below wa.heap.size wa wb →
      ((Box wb b 23 #[.int .i64 (N : Int), .int .i64 (S : Int), .int .i64 (T : Int)] ∧ Box wb (b + 1) 77 #[.int .i64 (f : Int), .int .i64 (N : Int), .int .i64 (S : Int), .int .i64 (T : Int)]) ∧ Below w.heap.size w wb) := fun wa wb h hb => ⟨⟨h.1.1.of (hb.block _ h.1.1.lt), h.1.2.of (hb.block _ h.1.2.lt)⟩, h.2.trans (hb.mono h.2.size)⟩
  have HN := Lib.hid HNx
  have HW2 := Lib.hid hw2
  have HBb := Lib.hid hb
  have k0 : w2.cell? ⟨b, 0, none⟩ = some (.int .i64 (N : Int)) := hx.cell 0
  have k1 : w2.cell? ⟨b, 1, none⟩ = some (.int .i64 (S : Int)) := hx.cell 1
  have k2 : w2.cell? ⟨b, 2, none⟩ = some (.int .i64 (T : Int)) := hx.cell 2
  clear HNx hx hy hbl hw2 hb
  go_enter Tryz.func11, Tryz.ntmps11
  go_upto_region 2 with fail
  simp only [HBb.out]
  rw [HW2.out]
  go_wp2_with fail
  refine (HZ.out _).mono ?_
  rintro e w3 ⟨rfl, hb3⟩
  have HA3 := Lib.hid (HN.out _ _ HA.out hb3)
  have k0 : w3.cell? ⟨b, 0, none⟩ = some (.int .i64 (N : Int)) := HA3.out.1.1.cell 0
  have k1 : w3.cell? ⟨b, 1, none⟩ = some (.int .i64 (S : Int)) := HA3.out.1.1.cell 1
  have k2 : w3.cell? ⟨b, 2, none⟩ = some (.int .i64 (T : Int)) := HA3.out.1.1.cell 2
  clear hb3 HA
  go_wp2_with fail
  refine (HR.out _).mono ?_
  rintro e w4 ⟨rfl, hb4⟩
  have HA4 := Lib.hid (HN.out _ _ HA3.out hb4)
  have p0 : w4.cell? ⟨b + 1, 0, none⟩ = some (.int .i64 (f : Int)) := HA4.out.1.2.cell 0
  have p1 : w4.cell? ⟨b + 1, 1, none⟩ = some (.int .i64 (N : Int)) := HA4.out.1.2.cell 1
  have p2 : w4.cell? ⟨b + 1, 2, none⟩ = some (.int .i64 (S : Int)) := HA4.out.1.2.cell 2
  have p3 : w4.cell? ⟨b + 1, 3, none⟩ = some (.int .i64 (T : Int)) := HA4.out.1.2.cell 3
  clear hb4 HA3 k0 k1 k2
  go_wp2_with fail
  refine (HT0.out _).mono ?_
  rintro e w5 ⟨rfl, hb5⟩
  have HA5 := Lib.hid (HN.out _ _ HA4.out hb5)
  clear hb5 HA4 p0 p1 p2 p3
  go_wp2_with fail
  refine (own_size _ _ _ _ _ (HO.out.none (Only.of_below HA5.out.2))).mono ?_
  rintro e w6 ⟨rfl, rfl⟩
  have p0 : w5.cell? ⟨b + 1, 0, none⟩ = some (.int .i64 (f : Int)) := HA5.out.1.2.cell 0
  have p1 : w5.cell? ⟨b + 1, 1, none⟩ = some (.int .i64 (N : Int)) := HA5.out.1.2.cell 1
  have p2 : w5.cell? ⟨b + 1, 2, none⟩ = some (.int .i64 (S : Int)) := HA5.out.1.2.cell 2
  have p3 : w5.cell? ⟨b + 1, 3, none⟩ = some (.int .i64 (T : Int)) := HA5.out.1.2.cell 3
  go_wp2_with fail
  refine (HT1.out _).mono ?_
  rintro e w7 ⟨rfl, hb7⟩
  have HA7 := Lib.hid (HN.out _ _ HA5.out hb7)
  clear hb7 HA5 p0 p1 p2 p3
  go_wp2_with fail
  refine (own_size _ _ _ _ _ (HO.out.none (Only.of_below HA7.out.2))).mono ?_
  rintro e w8 ⟨rfl, rfl⟩
  have p0 : w7.cell? ⟨b + 1, 0, none⟩ = some (.int .i64 (f : Int)) := HA7.out.1.2.cell 0
  have p1 : w7.cell? ⟨b + 1, 1, none⟩ = some (.int .i64 (N : Int)) := HA7.out.1.2.cell 1
  have p2 : w7.cell? ⟨b + 1, 2, none⟩ = some (.int .i64 (S : Int)) := HA7.out.1.2.cell 2
  have p3 : w7.cell? ⟨b + 1, 3, none⟩ = some (.int .i64 (T : Int)) := HA7.out.1.2.cell 3
  go_wp2_with fail
  refine (HT2.out _).mono ?_
  rintro e w9 ⟨rfl, hb9⟩
  have HA9 := Lib.hid (HN.out _ _ HA7.out hb9)
  clear hb9 HA7 p0 p1 p2 p3
  go_wp2_with fail
  refine (own_size _ _ _ _ _ (HO.out.none (Only.of_below HA9.out.2))).mono ?_
  rintro e w10 ⟨rfl, rfl⟩
  have p0 : w9.cell? ⟨b + 1, 0, none⟩ = some (.int .i64 (f : Int)) := HA9.out.1.2.cell 0
  have p1 : w9.cell? ⟨b + 1, 1, none⟩ = some (.int .i64 (N : Int)) := HA9.out.1.2.cell 1
  have p2 : w9.cell? ⟨b + 1, 2, none⟩ = some (.int .i64 (S : Int)) := HA9.out.1.2.cell 2
  have p3 : w9.cell? ⟨b + 1, 3, none⟩ = some (.int .i64 (T : Int)) := HA9.out.1.2.cell 3
  have hmm := @run_makeMap Tryz.prog
  go_wp2_with fail
  go_ret2
  have ho := (Only.of_below (S := nobody) HA9.out.2).alloc (.map #[] 0)
  have hs : w.heap.size ≤ w9.heap.size := HA9.out.2.size
  refine ⟨w9.heap.size + 1, w9.heap.size, rfl, ho.alloc _, by omega, hs, ?_, ?_⟩
  · have := Box.new (w9.alloc (.map #[] 0)) 80 (LvA p f N S T false (some w9.heap.size))
    simpa [LvA] using this
  · exact (World.ownsMap_made w9 Tryz.prog 54 unitElem).alloc _
set_option maxHeartbeats 1000000 in
theorem blocks_of {H : Type} {N S T : Nat} (lp mp f bm nm : Nat) (ov : Bool) (D0 : DataW H) (w : World) (hB : Box w lp 80 (LvA mp f N S T ov (some bm))) (hm : w.ownsMap Tryz.prog 54 unitElem bm nm D0) :
    Calls Tryz.prog 22 #[.pointer (some ⟨lp, 0, none⟩)] w fun e w' => e = .returned (.int .i64 (Maps.size D0 : Nat)) ∧ w' = w := by
  have c6 : w.cell? ⟨lp, 6, none⟩ = some (.map (some bm)) := hB.cell 6
  have HM := Lib.hid hm
  clear hB hm
  go_enter Tryz.func22, Tryz.ntmps22
  go_wp2_with (at_len; refine wpList_len_own _ rfl (.tmp 6) 78 rfl 54 101 Tryz.underlying78 unitElem bm nm D0 rfl HM.out ?_)
  go_ret
  exact ⟨rfl, rfl⟩
end Go.Proofs.YtmageeohnfomnaaGreat


namespace Go.Proofs.YtmageeohnfomnaaGreat
set_option maxRecDepth 100000
open Go.RowKit Go.ChangeShapes Go.WideShapes Go.ChangeAt

set_option maxRecDepth 100000 in
theorem over_of {N S T : Nat} (lp mp f : Nat) (ov : Bool) (mb : Option Nat) (w : World) (hB : Box w lp 80 (LvA mp f N S T ov mb)) :
    Calls Tryz.prog 21 #[.pointer (some ⟨lp, 0, none⟩)] w fun e w' => e = .returned (.bool ov) ∧ w' = w := by
  have c5 : w.cell? ⟨lp, 5, none⟩ = some (.bool ov) := hB.cell 5
  clear hB
  go_enter Tryz.func21, Tryz.ntmps21
  go_wp2_with fail
  go_ret
  exact ⟨rfl, rfl⟩
set_option maxRecDepth 100000 in
set_option maxHeartbeats 2000000 in
theorem access_no {N S T : Nat} (lp mp f : Nat) (ov : Bool) (mb : Option Nat) (op id at' : Int) (d : Nat → Int) (lf to : Int) (w : World) (hI : isAsk N op id at' lf to = false)
    (hB : Box w lp 80 (LvA mp f N S T ov mb)) :
    Calls Tryz.prog 19 #[.pointer (some ⟨lp, 0, none⟩), .int .i64 op, .int .u64 id, .int .i64 at', .agg (DA d), .int .i64 lf, .int .i64 to] w fun e w' =>
      e = .returned (.tuple #[.agg (DA fun _ => 0), .bool false]) ∧ Only nobody w w' := by
  have HA := Lib.hid (fun W => ask_right (N : Int) (S : Int) (T : Int) op id at' d lf to W)
  rw [hI] at HA
  obtain ⟨b, hb⟩ : ∃ b, w.heap.size = b := ⟨_, rfl⟩
  have HBb := Lib.hid hb
  have HB := Lib.hid hB
  clear hb hB hI
  go_enter Tryz.func19, Tryz.ntmps19
  go_upto_region 1 with fail
  rw [HBb.out]
  obtain ⟨w2, hw2⟩ : ∃ x, (w.alloc (.cells (DA d) 56)).alloc (.cells #[.int .u64 0, .int .u64 0, .int .u64 0, .int .u64 0, .int .u64 0, .int .u64 0, .int .u64 0, .int .u64 0] 56) = x := ⟨_, rfl⟩
  have hd : Box w2 b 56 (DA d) := by rw [← hw2, ← HBb.out]; exact (Box.new w _ _).alloc _
  have hr : Box w2 (b + 1) 56 (DA fun _ => 0) := by
    rw [← hw2]
    have := Box.new (w.alloc (.cells (DA d) 56)) 56 (DA fun _ => 0)
    have e : (w.alloc (.cells (DA d) 56)).heap.size = b + 1 := by simp [HBb.out]
    rw [e] at this
    exact this
  have ho2 : Only nobody w w2 := by rw [← hw2]; exact ((Only.refl nobody w).alloc _).alloc _
  have HD := Lib.hid hd
  have HR := Lib.hid hr
  have HO2 := Lib.hid ho2
  have HB2 := Lib.hid (HB.out.only ho2 (not_nobody _))
  clear hd hr ho2
  rw [show (w.alloc (.cells (DA d) 56)).alloc (.cells #[.int .u64 0, .int .u64 0, .int .u64 0, .int .u64 0, .int .u64 0, .int .u64 0, .int .u64 0, .int .u64 0] 56) = w2 from hw2]
  clear hw2
  have d0 := HD.out.cell 0
  have d1 := HD.out.cell 1
  have d2 := HD.out.cell 2
  have d3 := HD.out.cell 3
  have d4 := HD.out.cell 4
  have d5 := HD.out.cell 5
  have d6 := HD.out.cell 6
  have d7 := HD.out.cell 7
  simp only [DA, List.getElem?_toArray, List.getElem?_cons_succ, List.getElem?_cons_zero] at d0 d1 d2 d3 d4 d5 d6 d7
  simp only [DA]
  go_upto_region 2 with fail
  clear d0 d1 d2 d3 d4 d5 d6 d7
  obtain ⟨ab, hab⟩ : ∃ x, w2.heap.size = x := ⟨_, rfl⟩
  obtain ⟨w3, hw3⟩ : ∃ x, w2.alloc (.cells (askA op id at' d lf to) 100) = x := ⟨_, rfl⟩
  have ha : Box w3 ab 100 (askA op id at' d lf to) := by rw [← hw3, ← hab]; exact Box.new w2 _ _
  have ho3 : Only nobody w2 w3 := by rw [← hw3]; exact (Only.refl nobody _).alloc _
  have hB3 := HB2.out.only ho3 (not_nobody _)
  have hR3 := HR.out.only ho3 (not_nobody _)
  have hO3 := HO2.out.trans ho3
  simp only [hab]
  change Code.wp _ _ _ _ (w2.alloc (.cells (askA op id at' d lf to) 100))
  rw [hw3]
  clear ho3 hw3 HB2 HR HO2 HD
  refine held_s (S := fun w' => Box w' lp 80 (LvA mp f N S T ov mb) ∧ Box w' ab 100 (askA op id at' d lf to)) 8 rfl (by kernel_rfl) ⟨hB3.drewN 1, ha.drewN 1⟩ (fun hHeld => ?_)
  simp only [Array.replicate_succ, Array.replicate_zero, List.push_toArray, List.nil_append, List.cons_append]
  have hR4 : Box w3.drew (b + 1) 56 (DA fun _ => 0) := hR3.drewN 1
  have hO4 : Only nobody w w3.drew := hO3.drew
  clear hR3 hO3 hB3 ha
  generalize w3.drew = w4 at *
  refine wpAnyH_take (i := 0) (oi := ⟨some 26, _, _, _, _, _⟩) (v := ((.agg (askA op id at' d lf to)))) rfl (by kernel_rfl) (by kernel_rfl) (by kernel_rfl) (fun _ _ _ h => h) (Or.inl ⟨by rfl, fun w' hw => by (have k0 := hw.2.cell 0; have k1 := hw.2.cell 1; have k2 := hw.2.cell 2; have k3 := hw.2.cell 3; have k4 := hw.2.cell 4; have k5 := hw.2.cell 5; have k6 := hw.2.cell 6; have k7 := hw.2.cell 7; have k8 := hw.2.cell 8; have k9 := hw.2.cell 9; have k10 := hw.2.cell 10; have k11 := hw.2.cell 11; have k12 := hw.2.cell 12; simp only [askA, List.getElem?_toArray, List.getElem?_cons_succ, List.getElem?_cons_zero] at k0 k1 k2 k3 k4 k5 k6 k7 k8 k9 k10 k11 k12 ⊢; go_simp)⟩) hHeld ?_
  try simp only [Act.put, List.setIfInBounds_toArray, List.set_cons_zero, List.set_cons_succ]
  refine wpAnyH_take (i := 1) (oi := ⟨some 27, _, _, _, _, _⟩) (v := (.pointer (some ⟨lp, 0, none⟩))) rfl (by kernel_rfl) (by kernel_rfl) (by kernel_rfl) (fun _ _ _ h => h) (Or.inl ⟨by rfl, fun w' hw => by go_simp⟩) hHeld ?_
  try simp only [Act.put, List.setIfInBounds_toArray, List.set_cons_zero, List.set_cons_succ]
  refine wpAnyH_take (i := 2) (oi := ⟨some 28, _, _, _, _, _⟩) (v := (.pointer (some ⟨lp, 0, none⟩))) rfl (by kernel_rfl) (by kernel_rfl) (by kernel_rfl) (fun _ _ _ h => h) (Or.inl ⟨by rfl, fun w' hw => by go_simp⟩) hHeld ?_
  try simp only [Act.put, List.setIfInBounds_toArray, List.set_cons_zero, List.set_cons_succ]
  refine wpAnyH_take (i := 3) (oi := ⟨some 29, _, _, _, _, _⟩) (v := (.pointer (some ⟨lp, 1, none⟩))) rfl (by kernel_rfl) (by kernel_rfl) (by kernel_rfl) (fun _ _ _ h => h) (Or.inl ⟨by rfl, fun w' hw => by go_simp⟩) hHeld ?_
  try simp only [Act.put, List.setIfInBounds_toArray, List.set_cons_zero, List.set_cons_succ]
  refine wpAnyH_take (i := 4) (oi := ⟨some 30, _, _, _, _, _⟩) (v := (.pointer (some ⟨lp, 2, none⟩))) rfl (by kernel_rfl) (by kernel_rfl) (by kernel_rfl) (fun _ _ _ h => h) (Or.inl ⟨by rfl, fun w' hw => by go_simp⟩) hHeld ?_
  try simp only [Act.put, List.setIfInBounds_toArray, List.set_cons_zero, List.set_cons_succ]
  refine wpAnyH_take (i := 5) (oi := ⟨some 31, _, _, _, _, _⟩) (v := (.agg #[.int .i64 (N : Int), .int .i64 (S : Int), .int .i64 (T : Int)])) rfl (by kernel_rfl) (by kernel_rfl) (by kernel_rfl) (fun _ _ _ h => h) (Or.inl ⟨by rfl, fun w' hw => by (have k2 := lv2 hw.1; have k3 := lv3 hw.1; have k4 := lv4 hw.1; go_simp)⟩) hHeld ?_
  try simp only [Act.put, List.setIfInBounds_toArray, List.set_cons_zero, List.set_cons_succ]
  refine one_ready 6 rfl (by kernel_rfl) (fun K hK => ?_)
  go_simp
  refine (HA.out _).mono ?_
  rintro e w5 ⟨rfl, hb5⟩
  have ho : Only nobody w4 w5 := Only.of_below hb5
  have hR5 := hR4.only ho (not_nobody _)
  have hO5 := hO4.trans ho
  refine hK.out _ _ ⟨hHeld.1.only ho (not_nobody _), hHeld.2.only ho (not_nobody _)⟩ (fun hHeld => ?_)
  clear hK K ho hb5 hR4 hO4
  simp only [List.setIfInBounds_toArray, List.set_cons_zero, List.set_cons_succ]
  refine wpAnyH_take (i := 7) (oi := ⟨some 33, _, _, _, _, _⟩) (v := (.bool true)) rfl (by kernel_rfl) (by kernel_rfl) (by kernel_rfl) (fun _ _ _ h => h) (Or.inl ⟨by rfl, fun w' hw => by go_simp⟩) hHeld ?_
  try simp only [Act.put, List.setIfInBounds_toArray, List.set_cons_zero, List.set_cons_succ]
  refine wpAnyH_done (by kernel_rfl) ?_ _
  have HT := Lib.hid (hR5.there 8 (by decide))
  have HE : Hid (Only nobody w (w5.setCells (b + 1) 0 (DA fun _ => 0).toList)) := Lib.hid (only_setCells _ 0 _ hO5 (.inr (by have := HBb.out; omega)))
  clear hHeld hR5 hO5
  go_wp2_with (with_reducible refine wpList_store_data rfl (.tmp 14) (.tmp 34) rfl (b + 1) 0 rfl (fun _ => 0) rfl HT.out ?_)
  exact bodyPost_ret (v := .tuple #[.agg (DA fun _ => 0), .bool false]) (results_ct Tryz.results19 rfl rfl (load_range (World.rangeAt_setCells_same w5 (b + 1) 0 (DA fun _ => 0).toList HT.out) Tryz.underlying56 rfl (infoData (fun _ => 0)))) rfl ⟨rfl, HE.out⟩
end Go.Proofs.YtmageeohnfomnaaGreat


namespace Go.Proofs.YtmageeohnfomnaaGreat
set_option maxRecDepth 100000
open Go.RowKit

structure GoodB (D : Nat) (g : Cl) : Prop where
  id0 : 0 ≤ g 1 ∧ g 1 ≤ 2147483648
  lf0 : ∃ l : Nat, g 2 = (l : Int) ∧ l < 2 ^ D
  last : g 11 = 0
  wd : Wd g
def GoodE (D : Nat) (g : Cl) : Prop := g = nul ∨ g 0 = 1 ∧ GoodB D g
def Wk (S D T : Nat) (E : Pl → Cl) : Prop := ∀ q, isPl S D T q → GoodE D (E q)
section
variable {S D T N n P Q f lf : Nat} {id : Int} {E : Pl → Cl} {g : Cl}
theorem GoodE.wd (h : GoodE D g) : Wd g := h.elim (fun e => e ▸ wd_zero) (fun k => k.2.wd)
theorem GoodE.goodC (h : GoodE D g) (hN : 2 ^ D = N) : GoodC N g := by
  refine ⟨h.wd, fun e => ?_⟩
  rcases h with h | h
  · rw [h] at e; exact absurd e nul_has
  · exact ⟨h.2.id0.2, by rw [← hN]; exact h.2.lf0⟩
theorem GoodE.last (h : GoodE D g) : g 11 = 0 := h.elim (fun e => by rw [e]; rfl) (fun k => k.2.last)
theorem wasC_good {F : Nat → Cl} : ∀ i, (∀ j, j < i → GoodE D (F j)) → GoodE D (wasC F id i)
  | 0, _ => .inl rfl
  | i + 1, h => by
    unfold wasC
    split
    · exact h i (by omega)
    · exact wasC_good i (fun j hj => h j (by omega))
theorem newB_good {op at' : Int} {to : Nat} {d : Nat → Int} (hg : GoodE D g) (hi : 0 ≤ id ∧ id ≤ 2147483648) (ht : to < 2 ^ D) (hat : op = 2 → 0 ≤ at' ∧ at' ≤ 6) (hd : ∀ j, 0 ≤ d j ∧ d j ≤ 18446744073709551615) (hT : (to : Int) ≤ 18446744073709551615) :
    GoodE D (newB op id at' to d g) := by
  unfold newB
  split
  · exact .inl rfl
  · refine .inr ⟨rfl, hi, ⟨to, rfl, ht⟩, ?_, fun j => ?_⟩
    · show nbC op id at' to d g 11 = 0
      unfold nbC
      rw [if_neg (by decide), if_neg (by decide), if_neg (by decide), if_neg (by omega), if_neg (by omega), if_neg (by omega)]
      exact hg.last
    · unfold nbC
      split
      · omega
      · split
        · omega
        · split
          · omega
          · split
            · exact hd _
            · split
              · exact hd _
              · split
                · exact hd _
                · exact hg.wd j
theorem Wk.laid (h : Wk S D T E) (hS : 0 < S) (hf : lf < 2 ^ D) {nb : Cl} (hn : GoodE D nb) (i : Nat) : GoodE D (laidX S D T lf E id nb i) := by
  unfold laidX
  split
  · split
    · exact .inl rfl
    · exact h _ (wayQ_is hS hf (by assumption))
  · split
    · exact hn
    · exact .inl rfl
theorem good_tab {X : Nat → Cl} (h : ∀ i, GoodE D (X i)) (hn : ∀ i, n ≤ i → X i = nul) (hP : n ≤ 2 ^ P) : TabOk D n P (dpW D lf) X := by
  have hb : ∀ i, hasB (X i) → GoodB D (X i) := fun i e => by
    rcases h i with k | k
    · rw [k] at e; exact absurd e nul_has
    · exact k.2
  refine ⟨hP, fun i _ hno => ?_, fun i _ e => (hb i e).id0, fun i _ _ => deep_le _ _ _ _, fun i _ e => (hb i e).last⟩
  by_cases hi : i < n
  · rcases h i with k | k
    · exact k
    · exact absurd ⟨hi, k.1⟩ hno
  · exact hn i (by omega)
theorem Wk.next (h : Wk S D T E) {E' : Pl → Cl} (hS : 0 < S) (hD : D ≤ 10) (hn : n = (D + 1) * S + T + 1) {X : Nat → Cl} (hX : ∀ i, GoodE D (X i)) (hT : TabOk D n P (dpW D lf) X) {o : List Nat} (ho : IsOrd (tabI D n P (dpW D lf) X) n o)
    (hY : ∀ i, i < (D + 1) * S + T → E' (wayQ S D lf i) = tabY S D T n P (dpW D lf) X o i)
    (hfar : ∀ q, isPl S D T q → (∀ i, i < (D + 1) * S + T → wayQ S D lf i ≠ q) → E' q = E q) : Wk S D T E' := by
  obtain ⟨g, g1, g2, g3, g4⟩ := tab_all hT hD hS hn ho
  intro q hq
  by_cases hw : ∃ i, i < (D + 1) * S + T ∧ wayQ S D lf i = q
  · obtain ⟨i, hi, rfl⟩ := hw
    rw [hY i hi]
    by_cases hk : ∃ k, k < n ∧ g k = some i
    · obtain ⟨k, hk, e⟩ := hk
      rw [(g1 k i hk e).2.2.1]
      exact hX k
    · exact .inl (g3 i (by omega) (fun k hk' e => hk ⟨k, hk', e⟩))
  · rw [hfar q hq (fun i hi e => hw ⟨i, hi, e⟩)]
    exact h q hq
end
def updD (d : Nat → Int) (at' : Int) (e : Nat → Int) : Nat → Int := fun i => if (i : Int) = at' then e 0 else if (i : Int) = at' + 1 then e 1 else d i
def dat (b : Option (Nat × (Nat → Int))) : Nat → Int := (b.map (·.2)).getD (fun _ => 0)
def newM (op at' : Int) (to : Nat) (d : Nat → Int) (b : Option (Nat × (Nat → Int))) : Option (Nat × (Nat → Int)) :=
  if op = 3 then none else if op = 0 then b.map fun x => (to, x.2) else if op = 1 then some (to, d) else some (to, updD (dat b) at' d)
section
variable {S D T lf : Nat} {E : Pl → Cl} {m : Bm} {id : Int}
theorem wasC_none {F : Nat → Cl} : ∀ i, (∀ j, j < i → ¬ (F j 0 = 1 ∧ F j 1 = id)) → wasC F id i = nul
  | 0, _ => rfl
  | i + 1, h => by
    unfold wasC
    rw [if_neg (by have := h i (by omega); simpa using this)]
    exact wasC_none i (fun j hj => h j (by omega))
theorem wasC_some {F : Nat → Cl} {g : Cl} : ∀ i, (∀ j, j < i → F j 0 = 1 ∧ F j 1 = id → F j = g) → (∃ j, j < i ∧ F j 0 = 1 ∧ F j 1 = id) → wasC F id i = g
  | 0, _, h => by obtain ⟨j, hj, _⟩ := h; omega
  | i + 1, h, hx => by
    unfold wasC
    by_cases e : F i 0 = 1 ∧ F i 1 = id
    · rw [if_pos (by simp [e])]
      exact h i (by omega) e
    · rw [if_neg (by simpa using e)]
      obtain ⟨j, hj, hj2⟩ := hx
      refine wasC_some i (fun j hj => h j (by omega)) ⟨j, ?_, hj2⟩
      rcases Nat.lt_or_ge j i with k | k
      · exact k
      · have : j = i := by omega
        rw [this] at hj2; exact absurd hj2 e
theorem LvInv.told (h : LvInv S D T E m) (hS : 0 < S) (hf : lf < 2 ^ D) (hat : ∀ l d, m id = some (l, d) → l = lf) : wasC (fun j => E (wayQ S D lf j)) id ((D + 1) * S + T) = cellB id (m id) := by
  obtain ⟨h1, h2⟩ := h.find hS hf hat
  cases e : m id with
  | none =>
    refine wasC_none _ (fun j hj k => ?_)
    obtain ⟨d, hd, _⟩ := h2 j hj k.1 k.2
    rw [e] at hd
    cases hd
  | some b =>
    obtain ⟨l, d⟩ := b
    have hl := hat l d e
    subst hl
    obtain ⟨i, hi, hi2⟩ := h1 l d e
    refine wasC_some _ (fun j hj k => ?_) ⟨i, hi, by show E (wayQ S D l i) 0 = 1 ∧ E (wayQ S D l i) 1 = id; rw [hi2]; exact ⟨rfl, rfl⟩⟩
    obtain ⟨d', hd, hd2⟩ := h2 j hj k.1 k.2
    rw [e] at hd
    injection hd with hd
    injection hd with _ hd
    show E (wayQ S D l j) = _
    rw [hd2, ← hd]
    rfl
theorem newB_cell {op at' : Int} {to : Nat} {d : Nat → Int} (b : Option (Nat × (Nat → Int))) (hop : 0 ≤ op ∧ op ≤ 3) (hat : op = 2 → 0 ≤ at' ∧ at' ≤ 6) : newB op id at' to d (cellB id b) = cellB id (newM op at' to d b) := by
  unfold newB newM
  have h3 : op = 3 ∨ op = 0 ∨ op = 1 ∨ op = 2 := by omega
  rcases h3 with rfl | rfl | rfl | rfl
  · rw [if_pos (.inl rfl), if_pos rfl]; rfl
  · cases b with
    | none => rw [if_pos (Or.inr ⟨rfl, by show (0 : Int) ≠ 1; decide⟩), if_neg (by decide), if_pos rfl]; rfl
    | some b =>
      obtain ⟨l, e⟩ := b
      rw [if_neg (by rintro (k | k); exact absurd k (by decide); exact k.2 rfl), if_neg (by decide), if_pos rfl]
      funext i
      show nbC 0 id at' to d (blk id l e) i = blk id to e i
      unfold nbC blk
      by_cases i0 : i = 0
      · rw [if_pos i0, if_pos i0]
      · by_cases i1 : i = 1
        · rw [if_neg i0, if_pos i1, if_neg i0, if_pos i1]
        · by_cases i2 : i = 2
          · rw [if_neg i0, if_neg i1, if_pos i2, if_neg i0, if_neg i1, if_pos i2]
          · simp [i0, i1, i2]
  · rw [if_neg (by omega), if_neg (by decide), if_neg (by decide), if_pos rfl]
    funext i
    show nbC 1 id at' to d (cellB id b) i = blk id to d i
    unfold nbC blk
    by_cases i0 : i = 0
    · rw [if_pos i0, if_pos i0]
    · by_cases i1 : i = 1
      · rw [if_neg i0, if_pos i1, if_neg i0, if_pos i1]
      · by_cases i2 : i = 2
        · rw [if_neg i0, if_neg i1, if_pos i2, if_neg i0, if_neg i1, if_pos i2]
        · rw [if_neg i0, if_neg i1, if_neg i2, if_neg i0, if_neg i1, if_neg i2]
          by_cases i3 : i < 11
          · rw [if_pos ⟨rfl, by omega, i3⟩, if_pos i3]
          · rw [if_neg (fun k => i3 k.2.2), if_neg (fun k => absurd k.1 (by decide)), if_neg (fun k => absurd k.1 (by decide)), if_neg i3]
            cases b with
            | none => rfl
            | some b =>
              show blk id b.1 b.2 i = 0
              unfold blk
              rw [if_neg i0, if_neg i1, if_neg i2, if_neg i3]
  · have ha := hat rfl
    rw [if_neg (by omega), if_neg (by decide), if_neg (by decide), if_neg (by decide)]
    funext i
    show nbC 2 id at' to d (cellB id b) i = blk id to (updD (dat b) at' d) i
    unfold nbC blk updD
    by_cases i0 : i = 0
    · rw [if_pos i0, if_pos i0]
    · by_cases i1 : i = 1
      · rw [if_neg i0, if_pos i1, if_neg i0, if_pos i1]
      · by_cases i2 : i = 2
        · rw [if_neg i0, if_neg i1, if_pos i2, if_neg i0, if_neg i1, if_pos i2]
        · rw [if_neg i0, if_neg i1, if_neg i2, if_neg i0, if_neg i1, if_neg i2, if_neg (fun k => absurd k.1 (by decide))]
          by_cases i3 : i < 11
          · rw [if_pos i3]
            by_cases a0 : (i : Int) = 3 + at'
            · rw [if_pos ⟨rfl, a0⟩, if_pos (by omega)]
            · by_cases a1 : (i : Int) = 4 + at'
              · rw [if_neg (fun k => a0 k.2), if_pos ⟨rfl, a1⟩, if_neg (by omega), if_pos (by omega)]
              · rw [if_neg (fun k => a0 k.2), if_neg (fun k => a1 k.2), if_neg (by omega), if_neg (by omega)]
                cases b with
                | none => rfl
                | some b =>
                  show blk id b.1 b.2 i = b.2 (i - 3)
                  unfold blk
                  rw [if_neg i0, if_neg i1, if_neg i2, if_pos i3]
          · rw [if_neg (fun k => by have := k.2; omega), if_neg (fun k => by have := k.2; omega), if_neg i3]
            cases b with
            | none => rfl
            | some b =>
              show blk id b.1 b.2 i = 0
              unfold blk
              rw [if_neg i0, if_neg i1, if_neg i2, if_neg i3]
end
end Go.Proofs.YtmageeohnfomnaaGreat


namespace Go.Proofs.YtmageeohnfomnaaGreat
set_option maxRecDepth 100000
open Go.RowKit Go.ChangeShapes Go.WideShapes Go.ChangeAt Go.Maps

structure Ask where
  op : Int
  id : Int
  at' : Int
  d : Nat → Int
  lf : Int
  to : Int
def Ask.ok (a : Ask) (N : Nat) : Bool := isAsk N a.op a.id a.at' a.lf a.to
def Ask.puts (a : Ask) : Bool := a.op == 1 || a.op == 2
section
variable (N S D T f n P : Nat) (a : Ask) (M : MS) (o : List Nat)
def acL : Nat → Cl := laidA S D T f a.lf.toNat a.op a.id a.at' a.to a.d M
def acT : Nat → It := tabI D n P (dpW D a.lf.toNat) (acL S D T f a M)
def acW : Cl := if a.ok N = true then wasA S D T f a.lf.toNat a.id M else nul
def acO : Bool := a.ok N && !(lostO (acT S D T f n P a M) S D T o).isEmpty
def acM : MS := if a.ok N = true then M.gone (accC S D T f P a.lf.toNat a.id (nbA S D T f a.lf.toNat a.op a.id a.at' a.to a.d M) o M.c) (evA S D T f P a.lf.toNat) else M
def acI (I : List Int) : List Int := if (a.ok N && a.puts) = true then I ++ [a.id] else I
end
def addI (l : List Int) (x : Int) : List Int := if x ∈ l then l else l ++ [x]
def difI (I : List Int) : List Int := I.foldl addI []
def litI (i : Int) : Lit := .int .u64 i
theorem lit_key (i : Int) : WideAt.IsKeyLit (litI i) := trivial
theorem same_lit (a b : Int) : (litI a).sameKey (litI b) = decide (a = b) := by
  by_cases h : a = b
  · subst h
    rw [WideAt.sameKey_self (lit_key a)]
    simp
  · rw [sameKey_ne (fun e => h (by unfold litI at e; injection e)), decide_eq_false h]
theorem dif_fold : ∀ (I L : List Int), (I.map litI).foldl addKey (L.map litI) = (I.foldl addI L).map litI
  | [], _ => rfl
  | x :: I, L => by
    rw [List.map_cons, List.foldl_cons, List.foldl_cons, ← dif_fold I (addI L x)]
    congr 1
    unfold addKey addI
    have e : ((L.map litI).any fun y => y.sameKey (litI x)) = decide (x ∈ L) := by
      rw [List.any_map]
      induction L with
      | nil => rfl
      | cons y L ih =>
        rw [List.any_cons, ih]
        show ((litI y).sameKey (litI x) || _) = _
        rw [same_lit]
        by_cases h : y = x
        · subst h; simp
        · simp [h, Ne.symm h]
    rw [e]
    by_cases h : x ∈ L
    · rw [if_pos h, if_pos (by simpa using h)]
    · rw [if_neg h, if_neg (by simpa using h), List.map_append]; rfl
def ids {H : Type} (I : List Int) : DataW H := setOf (.agg []) (I.map litI)
theorem ids_snoc {H : Type} (I : List Int) (x : Int) : (ids (I ++ [x]) : DataW H) = (ids I).put (.int .u64 x) (.agg []) := by
  unfold ids
  rw [List.map_append]
  exact setOf_snoc _ _ _
theorem ids_size {H : Type} (I : List Int) : Maps.size (ids I : DataW H) = (difI I).length := by
  unfold ids
  rw [size_setOf _ _ (fun x hx => by obtain ⟨i, _, rfl⟩ := List.mem_map.1 hx; exact lit_key i)]
  have := dif_fold I []
  rw [List.map_nil] at this
  rw [this, List.length_map]
  rfl
structure Lv (H : Type) (N S D T Q : Nat) (X : Nat → Prop) (mp lp bm f : Nat) (ov : Bool) (I : List Int) (M : MS) (k : Nat) (w : World) : Prop where
  own : Own w X mp M
  x1 : X lp
  x2 : X bm
  box : Box w lp 80 (LvA mp f N S T ov (some bm))
  map : ∃ nm, nm ≤ k ∧ w.ownsMap Tryz.prog 54 unitElem bm nm (ids I : DataW H)
  lvm : LvM M f S D T Q
  es : M.es.length ≤ 40000 * k
  wk : Wk S D T (cellsE f M.c)
section
variable {H : Type} {N S D T Q : Nat} {X : Nat → Prop} {mp lp bm f : Nat} {ov : Bool} {I : List Int} {M : MS} {k : Nat} {w w' : World}
theorem Lv.nob (h : Lv H N S D T Q X mp lp bm f ov I M k w) (ho : Only nobody w w') : Lv H N S D T Q X mp lp bm f ov I M k w' := by
  obtain ⟨nm, h1, h2⟩ := h.map
  exact ⟨h.own.none ho, h.x1, h.x2, h.box.only ho (not_nobody _), ⟨nm, h1, map_only h2 ho (not_nobody _)⟩, h.lvm, h.es, h.wk⟩
theorem Lv.grow (h : Lv H N S D T Q X mp lp bm f ov I M k w) (ho : Only nobody w w') : Lv H N S D T Q (fun i => X i ∨ (w.heap.size ≤ i ∧ i < w'.heap.size)) mp lp bm f ov I M k w' := by
  obtain ⟨nm, h1, h2⟩ := h.map
  exact ⟨h.own.grow ho, .inl h.x1, .inl h.x2, h.box.only ho (not_nobody _), ⟨nm, h1, map_only h2 ho (not_nobody _)⟩, h.lvm, h.es, h.wk⟩
theorem Lv.lt (h : Lv H N S D T Q X mp lp bm f ov I M k w) {i : Nat} (hi : X i) : i < w.heap.size := by
  obtain ⟨F, _, _, hX⟩ := h.own
  exact hX i hi
theorem Lv.over (h : Lv H N S D T Q X mp lp bm f ov I M k w) : Calls Tryz.prog 21 #[.pointer (some ⟨lp, 0, none⟩)] w fun e w' => e = .returned (.bool ov) ∧ w' = w := over_of lp mp f ov _ w h.box
theorem Lv.blocks (h : Lv H N S D T Q X mp lp bm f ov I M k w) : Calls Tryz.prog 22 #[.pointer (some ⟨lp, 0, none⟩)] w fun e w' => e = .returned (.int .i64 ((difI I).length : Nat)) ∧ w' = w := by
  obtain ⟨nm, h1, h2⟩ := h.map
  have := blocks_of lp mp f bm nm ov _ w h.box h2
  rw [ids_size] at this
  exact this
end
theorem cG_wd {sp : Nat → Nat × Nat} {Y : Nat → Cl} {c : Nat → Nat → Cl} : ∀ {i : Nat}, (∀ j, j < i → Wd (Y j)) → (∀ r a, Wd (c r a)) → ∀ r a, Wd (cG sp Y c i r a)
  | 0, _, h, r, a => h r a
  | i + 1, hY, h, r, a => by
    unfold cG putC
    split
    · exact hY i (by omega)
    · exact cG_wd (fun j hj => hY j (by omega)) h r a
theorem evA_len {N S T D L n Q P : Nat} (h : Conf N S T D L n Q P) (f lf : Nat) : (evA S D T f P lf).length ≤ 40000 := by
  have hQP := h.hQ
  have hQ := h.big.2.2.2
  have hQ2 : 2 ^ P ≤ 256 := by rw [hQP]; exact hQ
  have hnet : 4 * (netL P).length ≤ 8 * 9 * 256 := by
    rw [netL_len P]
    exact Nat.mul_le_mul (Nat.mul_le_mul h.hP (by have := h.hP; omega)) hQ2
  have hlk := looks_len (f + 2) (netL P)
  have hevE := evE_len (f + 2) (2 ^ P)
  have hevF := evF_len S D T f lf (2 ^ P)
  have hevG := evG_len S D f lf ((D + 1) * S + T)
  have hLT : (D + 1) * S + T ≤ 153 := by have := h.hL; have := h.hn; have := h.big; omega
  unfold evA
  simp only [List.length_append]
  omega
section
variable {N S D T L n Q P f : Nat} {M : MS} {a : Ask}
theorem ask_of (ha : a.ok N = true) : (0 ≤ a.op ∧ a.op ≤ 3) ∧ (0 ≤ a.lf ∧ a.lf < N) ∧ (0 ≤ a.to ∧ a.to < N) ∧ a.id ≤ 2147483648 ∧ (a.op = 2 → 0 ≤ a.at' ∧ a.at' ≤ 6) := by
  unfold Ask.ok isAsk isLf at ha
  simp only [Bool.and_eq_true, Bool.or_eq_true, decide_eq_true_eq] at ha
  obtain ⟨⟨⟨⟨h1, h2⟩, h3⟩, h4⟩, h5⟩ := ha
  exact ⟨h1, h2, h3, h4, fun e => h5.resolve_left (fun k => k e)⟩
theorem acL_good (h : Conf N S T D L n Q P) (hk : Wk S D T (cellsE f M.c)) (ha : a.ok N = true) (hi : 0 ≤ a.id) (hd : ∀ j, 0 ≤ a.d j ∧ a.d j ≤ 18446744073709551615) (i : Nat) : GoodE D (acL S D T f a M i) := by
  obtain ⟨h1, h2, h3, h4, h5⟩ := ask_of ha
  have hN := h.hN
  have hlf : a.lf.toNat < 2 ^ D := by omega
  unfold acL laidA
  refine hk.laid h.s1 hlf ?_ i
  unfold nbA
  obtain ⟨to, hto⟩ : ∃ to : Nat, a.to = (to : Int) := ⟨a.to.toNat, by omega⟩
  rw [hto]
  refine newB_good ?_ ⟨hi, h4⟩ (by omega) h5 hd (by have := h.n1; omega)
  unfold wasA
  exact wasC_good _ fun j hj => hk _ (wayQ_is h.s1 hlf hj)
theorem acL_tab (h : Conf N S T D L n Q P) (hk : Wk S D T (cellsE f M.c)) (ha : a.ok N = true) (hi : 0 ≤ a.id) (hd : ∀ j, 0 ≤ a.d j ∧ a.d j ≤ 18446744073709551615) : TabOk D n P (dpW D a.lf.toNat) (acL S D T f a M) := by
  refine good_tab (acL_good h hk ha hi hd) (fun i hn => ?_) (by have := h.le; have := h.hQ; omega)
  have := h.hL
  have := h.hn
  unfold acL laidA laidX
  rw [if_neg (by omega), if_neg (by omega)]
theorem acM_wk (h : Conf N S T D L n Q P) (hk : Wk S D T (cellsE f M.c)) (ha : a.ok N = true) (hi : 0 ≤ a.id) (hd : ∀ j, 0 ≤ a.d j ∧ a.d j ≤ 18446744073709551615) {o : List Nat} (ho : IsOrd (acT S D T f n P a M) n o) :
    Wk S D T (cellsE f (accC S D T f P a.lf.toNat a.id (nbA S D T f a.lf.toNat a.op a.id a.at' a.to a.d M) o M.c)) := by
  obtain ⟨h1, h2, h3, h4, h5⟩ := ask_of ha
  have hN := h.hN
  have hlf : a.lf.toNat < 2 ^ D := by omega
  have hn : n = (D + 1) * S + T + 1 := by have := h.hL; have := h.hn; omega
  subst hn
  exact hk.next h.s1 h.hD rfl (acL_good h hk ha hi hd) (acL_tab h hk ha hi hd) ho (fun i hi => acc_at h.s1 hlf hi) (fun q hq hf => acc_way (by rcases hq with e | e <;> omega) hf)
end
set_option maxHeartbeats 1000000 in
theorem Lv.access {H : Type} {N S T D L n Q P : Nat} (h : Conf N S T D L n Q P) {X : Nat → Prop} {mp lp bm f : Nat} {ov : Bool} {I : List Int} {M : MS} {k : Nat} {w : World} (hL : Lv H N S D T Q X mp lp bm f ov I M k w) (a : Ask) (hf : f ≤ 100) (hk : k < 20000) (hi : 0 ≤ a.id)
    (hd : ∀ j, 0 ≤ a.d j ∧ a.d j ≤ 18446744073709551615) :
    Calls Tryz.prog 19 #[.pointer (some ⟨lp, 0, none⟩), .int .i64 a.op, .int .u64 a.id, .int .i64 a.at', .agg (DA a.d), .int .i64 a.lf, .int .i64 a.to] w fun e w' =>
      e = .returned (.tuple #[.agg (DA fun i => acW N S D T f a M (3 + i)), .bool (acW N S D T f a M 0 == 1)]) ∧
      ∃ o, (a.ok N = true → IsOrd (acT S D T f n P a M) n o) ∧ Lv H N S D T Q X mp lp bm f (ov || acO N S D T f n P a M o) (acI N a I) (acM N S D T f P a M o) (k + 1) w' ∧ Kept (fun j => X j ∧ j ≠ lp ∧ j ≠ bm) w w' := by
  obtain ⟨nm, hn1, hn2⟩ := hL.map
  cases ha : a.ok N
  · refine (access_no lp mp f ov _ a.op a.id a.at' a.d a.lf a.to w ha hL.box).mono ?_
    rintro e w' ⟨rfl, ho⟩
    have e1 : acW N S D T f a M = nul := by unfold acW; rw [ha]; rfl
    have e2 : acO N S D T f n P a M [] = false := by unfold acO; rw [ha]; rfl
    have e3 : acI N a I = I := by unfold acI; rw [ha]; rfl
    have e4 : acM N S D T f P a M [] = M := by unfold acM; rw [ha]; rfl
    have hl := hL.nob ho
    obtain ⟨nm', g1, g2⟩ := hl.map
    refine ⟨by rw [e1]; rfl, [], (fun k => by cases k), ?_, Kept.of_none ho⟩
    rw [e2, e3, e4, Bool.or_false]
    exact ⟨hl.own, hl.x1, hl.x2, hl.box, ⟨nm', by omega, g2⟩, hl.lvm, by have := hl.es; omega, hl.wk⟩
  · obtain ⟨h1, h2, h3, h4, h5⟩ := ask_of ha
    have hgood := acL_good h hL.wk ha hi hd
    have htab := acL_tab h hL.wk ha hi hd
    have hwk := fun o (ho : IsOrd (acT S D T f n P a M) n o) => acM_wk h hL.wk ha hi hd ho
    obtain ⟨op, id, at', d, lf', to'⟩ := a
    obtain ⟨lf, rfl⟩ : ∃ lf : Nat, lf' = (lf : Int) := ⟨lf'.toNat, by show lf' = _; have : 0 ≤ lf' := h2.1; omega⟩
    obtain ⟨to, rfl⟩ : ∃ to : Nat, to' = (to : Int) := ⟨to'.toNat, by show to' = _; have : 0 ≤ to' := h3.1; omega⟩
    have hto : to ≤ 1024 := by have := h3.2; have := h.n1; simp only at *; omega
    have hlf : lf < N := by have := h2.2; simp only at *; omega
    have hmx : nm < maxLen := by
      have : (20000 : Nat) < maxLen := by decide
      omega
    refine (access_any h X lp mp f bm nm lf to ov (ids I) op id at' d M w ha hi hmx hL.lvm hf hlf hto hL.own hL.x1 hL.x2 hL.box hn2 (by have := hL.es; omega) (fun i _ => (hgood i).goodC h.hN) htab).mono ?_
    rintro e w' ⟨rfl, o, ho, hO, hB, hm, hK⟩
    have ho' : IsOrd (acT S D T f n P ⟨op, id, at', d, lf, to⟩ M) n o := ho
    have e1 : acW N S D T f ⟨op, id, at', d, lf, to⟩ M = wasA S D T f lf id M := by unfold acW; rw [ha]; rfl
    have e2 : acO N S D T f n P ⟨op, id, at', d, lf, to⟩ M o = !(lostO (tabI D n P (dpW D lf) (laidA S D T f lf op id at' to d M)) S D T o).isEmpty := by unfold acO; rw [ha]; rfl
    have e4 : acM N S D T f P ⟨op, id, at', d, lf, to⟩ M o = M.gone (accC S D T f P lf id (nbA S D T f lf op id at' to d M) o M.c) (evA S D T f P lf) := by unfold acM; rw [ha]; rfl
    refine ⟨by rw [e1], o, fun _ => ho', ?_, hK⟩
    rw [e2, e4]
    refine ⟨hO, hL.x1, hL.x2, hB, ?_, ?_, ?_, hwk o ho'⟩
    · obtain ⟨n', g1, g2⟩ := hm
      refine ⟨n', by omega, ?_⟩
      have e3 : (ids (acI N ⟨op, id, at', d, lf, to⟩ I) : DataW H) = if (op == 1 || op == 2) = true then (ids I).put (.int .u64 id) (.agg []) else ids I := by
        unfold acI
        rw [ha, Bool.true_and]
        show (ids (if (op == 1 || op == 2) = true then _ else _) : DataW H) = _
        cases hp : (op == 1 || op == 2)
        · rfl
        · exact ids_snoc I id
      rw [e3]
      exact g2
    · have hw := hwk o ho'
      have hll := evA_len h f lf
      have hes := hL.es
      refine hL.lvm.gone _ _ (fun r a => ?_) (by omega)
      have hQ2 : 2 ^ P ≤ 256 := by have := h.hQ; have := h.big; omega
      have hlt : (D + 1) * S + T < n := by have := h.hL; have := h.hn; omega
      have hn2 : n ≤ 2 ^ P := by have := h.le; have := h.hQ; omega
      have hn1 : n = (D + 1) * S + T + 1 := by have := h.hL; have := h.hn; omega
      have h3 := fun i hi => tab3_wd (T := T) h.hD hQ2 htab (fun i _ => (hgood i).wd) h.s1 hlt ho (i := i) hi
      have h0 := fun i => (hgood i).wd
      clear hw hwk htab hgood
      subst hn1
      exact cG_wd (fun j hj => setw_wd (h3 j (by omega)) (by omega) (by omega)) (fun r a => cT_wd9 (fun j hj => h3 j hj) hL.lvm.wd r a) r a
    · rw [gone_len]
      have hll := evA_len h f lf
      have hes := hL.es
      omega
end Go.Proofs.YtmageeohnfomnaaGreat

