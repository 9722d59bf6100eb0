/- Texts of ours put together: LevelNumber, LevelArr, LevelFetch, LevelMap. -/
import Derived.Below
import Derived.BigQuiet
import Derived.BigRegion
import Derived.ChangeArms
import Derived.ChangeKeysEq
import Derived.ChangeSlices
import Derived.Deep.Cut
import Derived.Deep.Draws
import Derived.Deep.MidRow
import Derived.Deep.OwnRows
import Derived.Deep.Quiet
import Derived.Deep.QuietTactic
import Derived.Deep.RegionHeld
import Derived.Deep.RegionHeld3
import Derived.Deep.Slices
import Derived.Deep.WholeRow
import Derived.Laws.AppendOwn
import Derived.Laws.BitsAllLaws
import Derived.Laws.CopyOwn
import Derived.Laws.StructEq
import Derived.Lib.BitFns
import Derived.Lib.Hide
import Derived.LoopIn
import Derived.LoopNIn
import Derived.Maps.AppendAt
import Derived.OpenShut
import Derived.OwnWalk
import Derived.OwnWalkIn
import Derived.ProofKit
import Derived.RangeFuncBound
import Derived.RangeFuncCalls
import Derived.RangeFuncLeaves
import Derived.RangeFuncNested
import Derived.RegionTactic
import Derived.RowKit3
import Derived.Shelf.Abstract
import Derived.Shelf.Bits.Mul64
import Derived.Shelf.RegionOpen
import Derived.Shelf.SlSortCmp.WholeK
import Derived.Shelf.Spec.BitsCarry
import Derived.Shelf.Strconv.Itoa0
import Derived.SizedLaws
import Derived.Sort.Grow
import Derived.StillTailTactics
import Derived.TacticsInMore
import Derived.WalkKit
import Derived.WideShapes
import Derived.Test.YtmageeohnfomnaaGreatProg
import Derived.Maps.OwnSet
import Derived.Test.YtmageeohnfomnaaGreatG2
import Derived.Test.YtmageeohnfomnaaGreatG0
import Derived.Test.YtmageeohnfomnaaGreatG16
import Derived.Test.YtmageeohnfomnaaGreatG20
import Derived.Test.YtmageeohnfomnaaGreatG17
import Derived.Test.YtmageeohnfomnaaGreatG3
import Derived.Test.YtmageeohnfomnaaGreatG1
import Derived.Test.YtmageeohnfomnaaGreatG19
import Derived.Test.YtmageeohnfomnaaGreatG21
import Derived.Test.YtmageeohnfomnaaGreatG5
import Derived.Test.YtmageeohnfomnaaGreatG27
import Derived.Test.YtmageeohnfomnaaGreatG29
import Derived.Test.YtmageeohnfomnaaGreatG15
import Derived.Test.YtmageeohnfomnaaGreatG31
import Derived.Test.YtmageeohnfomnaaGreatG6
import Derived.Test.YtmageeohnfomnaaGreatG30
import Derived.Test.YtmageeohnfomnaaGreatG10
import Derived.Test.YtmageeohnfomnaaGreatG23
import Derived.Test.YtmageeohnfomnaaGreatG25
import Derived.Test.YtmageeohnfomnaaGreatG26
import Derived.Test.YtmageeohnfomnaaGreatG40
import Derived.Test.YtmageeohnfomnaaGreatG39
import Derived.Test.YtmageeohnfomnaaGreatG7
import Derived.Test.YtmageeohnfomnaaGreatG9
import Derived.Test.YtmageeohnfomnaaGreatG24
import Derived.Test.YtmageeohnfomnaaGreatG14
import Derived.Test.YtmageeohnfomnaaGreatG37
import Derived.Test.YtmageeohnfomnaaGreatG8
import Derived.Test.YtmageeohnfomnaaGreatG38
import Derived.Test.YtmageeohnfomnaaGreatG22
namespace Go.Proofs.YtmageeohnfomnaaGreat
set_option maxRecDepth 100000
open Go.RowKit Go.ChangeShapes Go.WideShapes Go.ChangeAt

section
variable {W W' : World} {bl bf bi lp mp f N S T : Nat} {ov : Bool} {mb : Option Nat} {lf base : Nat} {v : Value} {l : List It}
theorem NuIn.kept {Z : Nat → Prop} (h : NuIn W bl bf bi lp mp f N S T ov mb lf base v l) (hk : Kept Z W W') (hz : Z bl ∧ Z bf ∧ Z lp ∧ Z bi) (hv : ∀ b, v.ownBlock = some b → Z b) : NuIn W' bl bf bi lp mp f N S T ov mb lf base v l :=
  ⟨hk.box h.xl hz.1, hk.box h.xf hz.2.1, hk.box h.xp hz.2.2.1, hk.box h.xi hz.2.2.2, own_block h.own (fun b e => hk.block b (own_lt h.own e).2 (fun k => k (hv b e))), h.lt, h.ne, Nat.le_trans h.size hk.size⟩
end
def NuInv (bl bf bi lp mp f N S T : Nat) (ov : Bool) (mb : Option Nat) (lf base : Nat) (y : Nat → It) (i : Nat) (Y : Nat → Prop) (W : World) : Prop :=
  ∃ v, NuIn W bl bf bi lp mp f N S T ov mb lf base v (lsI i y) ∧ ∀ j, Y j ↔ (j = bi ∨ v.ownBlock = some j)
theorem num_Clo {N S T D L n Q P : Nat} (h : Conf N S T D L n Q P) (X : Nat → Prop) (bl bf bi lp mp f : Nat) (ov : Bool) (mb : Option Nat) (lf base : Nat) (C : Nat → Cl) (hlf : lf < N) (hC : ∀ i, i < Q → GoodC N (C i)) (hX : X bl ∧ X bf ∧ X lp) :
    Clo X 84 #[.pointer (some ⟨bl, 0, none⟩), .pointer (some ⟨bf, 0, none⟩), .pointer (some ⟨bi, 0, none⟩)] Q C (fun i => numZ D lf i (C i)) (NuInv bl bf bi lp mp f N S T ov mb lf base (fun j => itemOf (dpW D lf) (C j))) := by
  have hQ := h.big.2.2.2
  refine ⟨fun i Y W W' ⟨v, hv, hY⟩ hk => ⟨v, hv.kept hk ⟨.inl hX.1, .inl hX.2.1, .inl hX.2.2, .inr ((hY _).2 (.inl rfl))⟩ (fun b e => .inr ((hY _).2 (.inr e))), hY⟩, fun i Y W hi ⟨v, hv, hY⟩ _ _ => ?_⟩
  refine (num_clo h bl bf bi lp mp f ov mb lf base v _ i (C i) W hlf hi (hC i hi) (by rw [lsI_len]; omega) hv).mono ?_
  rintro e w' ⟨he, ho, v', hn, hb⟩
  refine ⟨he, ho.mono (fun j _ hj => (hY j).2 hj), fun j => j = bi ∨ v'.ownBlock = some j, ⟨v', ?_, fun j => Iff.rfl⟩, fun j hj => ?_⟩
  · rw [lsI_succ]; exact hn
  · rcases hj with rfl | hj
    · exact .inl ((hY _).2 (.inl rfl))
    · exact (hb j hj).imp (fun e => (hY _).2 (.inr e)) (fun e => ⟨e, (own_lt hn.own hj).2⟩)
theorem num_fn (args : Array Value) (W : World) : Sem.run Tryz.prog (callFunc 84 args) W = .ok (.enter 84 args) W := by go_simp
theorem NuIn.start {w : World} {lp mp f N S T : Nat} {ov : Bool} {mb : Option Nat} {lf b : Nat} (hB : Box w lp 80 (LvA mp f N S T ov mb)) (hb : w.heap.size = b) :
    NuIn (((w.alloc (.cells #[.pointer (some ⟨lp, 0, none⟩)] 37)).alloc (.cells #[.int .i64 (lf : Int)] 3)).alloc (.cells #[.slice none 0 0] 126)) b (b + 1) (b + 2) lp mp f N S T ov mb lf (b + 3) (.slice none 0 0) [] := by
  have hl := hB.lt
  have e1 : (w.alloc (.cells #[.pointer (some ⟨lp, 0, none⟩)] 37)).heap.size = b + 1 := by simp [hb]
  have e2 : ((w.alloc (.cells #[.pointer (some ⟨lp, 0, none⟩)] 37)).alloc (.cells #[.int .i64 (lf : Int)] 3)).heap.size = b + 2 := by simp [hb]
  have h1 := Box.new w 37 #[.pointer (some ⟨lp, 0, none⟩)]
  have h2 := Box.new (w.alloc (.cells #[.pointer (some ⟨lp, 0, none⟩)] 37)) 3 #[.int .i64 (lf : Int)]
  have h3 := Box.new ((w.alloc (.cells #[.pointer (some ⟨lp, 0, none⟩)] 37)).alloc (.cells #[.int .i64 (lf : Int)] 3)) 126 #[.slice none 0 0]
  rw [hb] at h1
  rw [e1] at h2
  rw [e2] at h3
  exact ⟨(h1.alloc _).alloc _, h2.alloc _, ((hB.alloc _).alloc _).alloc _, h3, World.ownsRow_nil _ _ _ _, ⟨by omega, by omega, by omega, by omega⟩, ⟨by omega, by omega, by omega⟩, by simp [hb]⟩
def NrPost (w : World) (X : Nat → Prop) (mp f Q D lf : Nat) (M : MS) (C : Nat → Cl) (e : Ending) (w' : World) : Prop :=
  ∃ (o : List Nat) (gi off cap : Nat), IsOrd (fun j => itemOf (dpW D lf) (C j)) Q o ∧ e = .returned (.slice (some ⟨gi, off, none⟩) Q cap) ∧ Q ≤ cap ∧ Its w' w'.heap.size (some ⟨gi, off, none⟩) Q (fun j => itemOf (dpW D lf) (C (o.getD j 0))) ∧
    Own w' (fun j => X j ∨ j = gi) mp (M.gone (cT (f + 2) (fun i => numZ D lf i (C i)) M.c Q) (evE (f + 2) Q)) ∧ Kept X w w'
theorem own_cap {w : World} {t : TypeId} {base n : Nat} {v : Value} {xs : List Value} (h : w.ownsRow base t 2 v n xs) (hn : 0 < n) : ∃ g cap, v = .slice (some ⟨g, 0, none⟩) n cap ∧ n ≤ cap := by
  rcases h.2 with ⟨_, h0⟩ | ⟨g, cap, cur, e, _, _, hc, _⟩
  · omega
  · exact ⟨g, cap, e, hc⟩
set_option maxRecDepth 100000 in
set_option maxHeartbeats 4000000 in
theorem number_any {N S T D L n Q P : Nat} (h : Conf N S T D L n Q P) (X : Nat → Prop) (lp mp f lf : Nat) (ov : Bool) (mb : Option Nat) (M : MS) (C : Nat → Cl) (w : World) (hM : LvM M f S D T Q) (hf : f ≤ 100) (hlf : lf < N)
    (hC : ∀ a, a < Q → M.c (f + 2) a = C a) (hCg : ∀ i, i < Q → GoodC N (C i)) (hO : Own w X mp M) (hX1 : X lp) (hB : Box w lp 80 (LvA mp f N S T ov mb)) :
    Calls Tryz.prog 71 #[.pointer (some ⟨lp, 0, none⟩), .int .i64 (lf : Int)] w (NrPost w X mp f Q D lf M C) := by
  have HEa := Lib.hid (fun X' W Y caps Inv Z => each_any h X' Y lp mp f ov mb M 84 caps C Z Inv W hM hf hC)
  have HCl := Lib.hid (fun X' bl bf bi base (hX : X' bl ∧ X' bf ∧ X' lp) => num_Clo h X' bl bf bi lp mp f ov mb lf base C hlf hCg hX)
  have hQ := h.big.2.2.2
  have hnQ := h.le
  have hn3 := h.big.2.1
  obtain ⟨b, hb⟩ : ∃ b, w.heap.size = b := ⟨_, rfl⟩
  obtain ⟨w2, hw2⟩ : ∃ x, ((w.alloc (.cells #[.pointer (some ⟨lp, 0, none⟩)] 37)).alloc (.cells #[.int .i64 (lf : Int)] 3)).alloc (.cells #[.slice none 0 0] 126) = x := ⟨_, rfl⟩
  have hN2 := NuIn.start (lf := lf) hB hb
  have ho2 : Only nobody w w2 := by rw [← hw2]; exact (((Only.refl nobody w).alloc _).alloc _).alloc _
  have hs2 : w2.heap.size = b + 3 := by rw [← hw2]; simp [hb]
  rw [hw2] at hN2
  have hlt : ∀ j, X j → j < b := fun j hj => by
    obtain ⟨F, _, _, hl⟩ := hO
    rw [← hb]
    exact hl j hj
  have HOw : Hid (Own w2 (fun j => (X j ∨ j = b ∨ j = b + 1) ∨ j = b + 2) mp M) := Lib.hid ((hO.grow ho2).weak (fun j hj => by
    rcases hj with (hj | hj | hj) | hj
    · exact .inl hj
    · exact .inr ⟨by omega, by omega⟩
    · exact .inr ⟨by omega, by omega⟩
    · exact .inr ⟨by omega, by omega⟩))
  have HDis : Hid (∀ j, (X j ∨ j = b ∨ j = b + 1) → ¬ j = b + 2) := Lib.hid (fun j hj e => by
    rcases hj with hj | hj | hj
    · have := hlt j hj; omega
    · omega
    · omega)
  have HN2 := Lib.hid hN2
  have HO2 := Lib.hid ho2
  have HW2 := Lib.hid hw2
  have HBb := Lib.hid hb
  have c0 := hN2.xl.cell 0
  clear hC hCg hO hB hN2 ho2 hs2 hlt hb hw2 hM h
  go_enter Tryz.func71, Tryz.ntmps71
  go_upto_region 2 with fail
  rw [HBb.out]
  simp only [HW2.out]
  have e2 : b + 1 + 1 = b + 2 := rfl
  simp only [e2]
  go_wp2_with fail
  refine (HEa.out (fun j => X j ∨ j = b ∨ j = b + 1) _ (fun j => j = b + 2) _ _ _ (HCl.out _ b (b + 1) (b + 2) (b + 3) ⟨.inr (.inl rfl), .inr (.inr rfl), .inl hX1⟩) num_fn ⟨_, HN2.out, fun j => ⟨.inl, fun e => e.resolve_right (fun e => by cases e)⟩⟩ HOw.out (.inl hX1) HDis.out HN2.out.xp).mono ?_
  rintro e w3 ⟨rfl, Y, ⟨v, hN3, hY⟩, hOw, hKe, hd⟩
  have HE := Lib.hid (hOw.weak (Y := X) (fun j hj => .inl (.inl hj)))
  have HK := Lib.hid (Kept.trans (Kept.of_none (X := X) HO2.out) (hKe.mono (fun j hj => .inl hj)))
  have hown := hN3.own
  rw [lsI_len] at hown
  obtain ⟨ga, cap, rfl, hcap⟩ := own_cap hown (by omega)
  have HIts := Lib.hid (own_items hown)
  have HXi := Lib.hid hN3.xi
  clear hN3 hY hOw hKe hd hown HN2 HO2 HOw HDis HW2 c0 HEa HCl
  have c0 := HXi.out.cell 0
  go_upto_region 4 with fail
  go_wp2_with fail
  refine (dorder_any (some ⟨ga, 0, none⟩) Q cap (fun j => itemOf (dpW D lf) (C j)) w3 (by omega) HIts.out).mono ?_
  rintro e w4 ⟨o, g, hor, rfl, hir, hb4⟩
  have HOr := Lib.hid hor
  have HIr := Lib.hid hir
  have HB4 := Lib.hid hb4
  have HXi4 := Lib.hid (HXi.out.only (Only.of_below hb4) (not_nobody _))
  have HIt4 := Lib.hid (HIts.out.below hb4)
  have HE4 := Lib.hid (HE.out.none (Only.of_below hb4))
  have HK4 := Lib.hid (HK.out.trans (Kept.of_none (Only.of_below hb4)))
  have hs4 : w3.heap.size ≤ w4.heap.size := hb4.size
  clear hor hir hb4 HXi HIts HE HK c0
  go_wp2_with fail
  have HA : Hid (ItAt 139 w4 (.slice none 0 0) (lsI 0 (fun j => itemOf (dpW D lf) (C (o.getD j 0)))) w4) := ItAt.nil _ w4
  go_loopw [6, 15] (fun v6 v15 wr => ∃ k : Nat, v15 = .int .i64 k ∧ k ≤ Q ∧ ItAt 139 w4 v6 (lsI k (fun j => itemOf (dpW D lf) (C (o.getD j 0)))) wr) (fun _ v _ => Q - (intOf v).toNat)
  case atStart => exact ⟨0, rfl, by omega, HA.out⟩
  case round =>
    obtain ⟨k, rfl, hle, hS⟩ := hrel
    clear HA
    have HS := Lib.hid hS
    by_cases hk : k < Q
    · have hok : o.getD k 0 < Q := by
        have hl : o.length = Q := by rw [HOr.out.perm.length_eq, List.length_range]
        have e : o.getD k 0 = o[k]'(by omega) := by rw [List.getD_eq_getElem?_getD, List.getElem?_eq_getElem (by omega)]; rfl
        rw [e]
        exact List.mem_range.1 (HOr.out.perm.mem_iff.1 (List.getElem_mem _))
      have HN := Lib.hid (lsI_succ k (fun j => itemOf (dpW D lf) (C (o.getD j 0))))
      have hll := lsI_len k (fun j => itemOf (dpW D lf) (C (o.getD j 0)))
      generalize hlq : lsI k (fun j => itemOf (dpW D lf) (C (o.getD j 0))) = lq at *
      have hbr : Below w4.heap.size w4 wr := hS.below
      have i0 : wr.cell? ⟨g, k, none⟩ = some (.int .i64 ((o.getD k 0 : Nat) : Int)) := (HIr.out.below hbr (Nat.le_refl _)).cell k hk
      have b0 : wr.cell? ⟨b + 2, 0, none⟩ = some (.slice (some ⟨ga, 0, none⟩) Q cap) := (HXi4.out.only (Only.of_below hbr) (not_nobody _)).cell 0
      obtain ⟨b', off', e', hb', c0, c1⟩ := ((HIt4.out.more hs4).below hbr).at hok
      injection e' with e'
      injection e' with e1 e2
      subst e1 e2
      generalize itemOf (dpW D lf) (C (o.getD k 0)) = x at *
      obtain ⟨x1, x2⟩ := x
      generalize o.getD k 0 = q at *
      have hbs : w4.heap.size ≤ wr.heap.size := hbr.size
      clear hS hlq hbr
      rw [Nat.zero_add] at c0 c1
      go_wp2_with (with_reducible refine wpList_append_where _ rfl (.tmp 19) (.tmp 24) 126 rfl w4.heap.size 139 (.agg #[.int .u64 0, .int .i64 0]) 2 16 Tryz.underlying126 infoItem rfl (by decide) u6 lq.length (itl lq) rfl (row_stay HS.out.own (fun b _ hb => Below.heap_alloc _ _ b hb)) ⟨wr.heap.size, 0, none⟩ 1 1 [.int .u64 x1, .int .i64 x2] rfl rfl ?c0 ?c1 ?c2 ?c3 ?c4 ?_)
      case c1 => simp [Value.oneCell']
      case c2 => simp only [maxLen]; omega
      case c3 => omega
      case c4 => omega
      intro A2 cap2 w7 hown hgr _
      have HS7 := Lib.hid (HS.out.next (x := (x1, x2)) (by rw [hll]; exact hown) hgr)
      clear hown hgr HS
      rw [hll] at HS7
      go_wp2_with fail
      go_roundw
      case rel => exact ⟨k + 1, by go_num, by omega, by rw [HN.out]; exact HS7.out⟩
      case measure => simp [intOf]; omega
    · obtain rfl : k = Q := by omega
      have hown := hS.own
      rw [lsI_len] at hown
      obtain ⟨gi, ci, rfl, hci⟩ := own_cap hown (by omega)
      have HR := Lib.hid (own_items hown)
      have hbr : Below w4.heap.size w4 wr := hS.below
      have hgi := own_lt hown (g := gi) rfl
      have HE5 : Hid (Own wr (fun j => X j ∨ j = gi) mp (M.gone (cT (f + 2) (fun i => numZ D lf i (C i)) M.c k) (evE (f + 2) k))) := Lib.hid ((HE4.out.grow (Only.of_below hbr)).weak (fun j hj => hj.imp id (fun e => by rw [e]; exact hgi)))
      have HK5 := Lib.hid (HK4.out.trans (Kept.of_none (Only.of_below hbr)))
      clear hS HS hown hbr hgi
      go_wp2_with fail
      go_ret
      exact ⟨o, gi, 0, ci, HOr.out, rfl, hci, HR.out, HE5.out, HK5.out⟩
end Go.Proofs.YtmageeohnfomnaaGreat


namespace Go.Proofs.YtmageeohnfomnaaGreat
set_option maxRecDepth 100000
open Go.RowKit Go.ChangeShapes Go.WideShapes Go.ChangeAt

theorem setw_wd {g : Cl} {k : Nat} {v : Int} (hg : Wd g) (h0 : 0 ≤ v) (h1 : v ≤ 18446744073709551615) : Wd (setw g k v) := fun j => by
  unfold setw
  by_cases e : j = k
  · rw [if_pos e]; exact ⟨h0, h1⟩
  · rw [if_neg e]; exact hg j
theorem Its.kept {w w' : World} {Z : Nat → Prop} {B n b off : Nat} {y : Nat → It} (h : Its w B (some ⟨b, off, none⟩) n y) (hk : Kept Z w w') (hb : Z b) : Its w' B (some ⟨b, off, none⟩) n y := fun h0 => by
  obtain ⟨b', off', e, hB, hc⟩ := h h0
  injection e with e
  injection e with e1 e2
  subst e1 e2
  exact ⟨b, off, rfl, hB, fun j hj => ⟨hk.cell (hc j hj).1 hb, hk.cell (hc j hj).2 hb⟩⟩
theorem cT_wd9 {t : Nat} {X : Nat → Cl} {c : Nat → Nat → Cl} {i : Nat} (hX : ∀ a, a < i → Wd (X a)) (hc : ∀ r a, Wd (c r a)) (r a : Nat) : Wd (cT t X c i r a) := by
  unfold cT
  by_cases e : r = t ∧ a < i
  · rw [if_pos e]; exact hX a e.2
  · rw [if_neg e]; exact hc r a
section
variable {S D T n P lf : Nat} {C : Nat → Cl} {o : List Nat}
theorem keyed_wd (hD : D ≤ 10) (hP : 2 ^ P ≤ 256) (hT : TabOk D n P (dpW D lf) C) (hw : ∀ i, i < 2 ^ P → Wd (C i)) {i : Nat} (hi : i < 2 ^ P) : Wd (keyed D n (dpW D lf) C i) := by
  unfold keyed keyOf
  by_cases h : i < n ∧ C i 0 = 1
  · rw [if_pos h]
    have h1 := hT.id0 i h.1 h.2
    have h2 := hT.dep i h.1 h.2
    exact setw_wd (hw i hi) (by omega) (by omega)
  · rw [if_neg h]
    exact setw_wd (hw i hi) (by omega) (by omega)
theorem tab1_wd (hD : D ≤ 10) (hP : 2 ^ P ≤ 256) (hT : TabOk D n P (dpW D lf) C) (hw : ∀ i, i < 2 ^ P → Wd (C i)) {i : Nat} (hi : i < 2 ^ P) : Wd (tab1 D n P (dpW D lf) C i) := by
  obtain ⟨π, h1, h2, _⟩ := tab1_from (D := D) (n := n) (P := P) (dp := dpW D lf) (X := C)
  rw [h1]
  exact keyed_wd hD hP hT hw (h2 i hi)
theorem tab2_wd (hD : D ≤ 10) (hP : 2 ^ P ≤ 256) (hT : TabOk D n P (dpW D lf) C) (hw : ∀ i, i < 2 ^ P → Wd (C i)) (hS : 0 < S) (hn : (D + 1) * S + T < n) (ho : IsOrd (tabI D n P (dpW D lf) C) n o) {i : Nat} (hi : i < 2 ^ P) : Wd (tab2 S D T n P (dpW D lf) C o i) := by
  have h1 := tab1_wd hD hP hT hw hi
  have hr := hT.room
  unfold tab2
  by_cases h : i < n
  · rw [if_pos h]
    have h2 := outP_le (T := T) (D := D) ho hS hn h
    refine setw_wd ?_ (by omega) (by omega)
    split
    · exact wd_zero
    · exact h1
  · rw [if_neg h]
    exact setw_wd h1 (by omega) (by omega)
theorem tab3_wd (hD : D ≤ 10) (hP : 2 ^ P ≤ 256) (hT : TabOk D n P (dpW D lf) C) (hw : ∀ i, i < 2 ^ P → Wd (C i)) (hS : 0 < S) (hn : (D + 1) * S + T < n) (ho : IsOrd (tabI D n P (dpW D lf) C) n o) {i : Nat} (hi : i < 2 ^ P) : Wd (tab3 S D T n P (dpW D lf) C o i) :=
  runC_all 11 (2 ^ P) (netL P) _ (netL_within P) Wd (fun _ hj => tab2_wd hD hP hT hw hS hn ho hj) i hi
theorem numZ_keyed (hT : TabOk D n P (dpW D lf) C) {i : Nat} (hi : i < 2 ^ P) : numZ D lf i (C i) = keyed D n (dpW D lf) C i := by
  unfold numZ keyed keyOf itemOf
  by_cases h : C i 0 = 1
  · have hin := hT.at hi h
    rw [if_pos h, if_pos h, if_pos ⟨hin, h⟩]
  · rw [if_neg h, if_neg (fun e => h e.2)]
theorem plZ_tab2 (ho : IsOrd (tabI D n P (dpW D lf) C) n o) (i : Nat) :
    plZ n i (fun j => (lostO (tabI D n P (dpW D lf) C) S D T o).contains j) (fun j => outP (goes (tabI D n P (dpW D lf) C) S D T o) n j) (tab1 D n P (dpW D lf) C i) = tab2 S D T n P (dpW D lf) C o i := by
  unfold plZ tab2
  have e : (((lostO (tabI D n P (dpW D lf) C) S D T o).contains i) = true) ↔ i ∈ lostO (tabI D n P (dpW D lf) C) S D T o := List.contains_iff_mem
  by_cases h : i < n
  · rw [if_pos h, if_pos h]
    by_cases hm : i ∈ lostO (tabI D n P (dpW D lf) C) S D T o
    · rw [if_pos (e.2 hm), if_pos hm]
    · rw [if_neg (fun k => hm (e.1 k)), if_neg hm]
  · rw [if_neg h, if_neg h, if_neg (fun k => h ((lost_mem ho i).1 (e.1 k)).1.1)]
end
def arrM (M : MS) (f Q n S D T P lf : Nat) (C : Nat → Cl) (o : List Nat) : MS :=
  M.gone (cT (f + 2) (tab3 S D T n P (dpW D lf) C o) M.c Q) (evE (f + 2) Q ++ looks (f + 2) (netL P) ++ evE (f + 2) Q ++ looks (f + 2) (netL P))
def ArrPost (w : World) (X : Nat → Prop) (lp mp f N S T D Q n P lf : Nat) (ov : Bool) (mb : Option Nat) (M : MS) (C : Nat → Cl) (e : Ending) (w' : World) : Prop :=
  e = .returned (.tuple #[]) ∧ ∃ o, IsOrd (tabI D n P (dpW D lf) C) n o ∧ Own w' X mp (arrM M f Q n S D T P lf C o) ∧ Kept (fun j => X j ∧ j ≠ lp) w w' ∧ Box w' lp 80 (LvA mp f N S T (ov || !(lostO (tabI D n P (dpW D lf) C) S D T o).isEmpty) mb)
set_option maxRecDepth 100000 in
set_option maxHeartbeats 4000000 in
theorem arrange_any {N S T D L n Q P : Nat} (h : Conf N S T D L n Q P) (X : Nat → Prop) (lp mp f lf : Nat) (ov : Bool) (mb : Option Nat) (M : MS) (C : Nat → Cl) (w : World) (hM : LvM M f S D T Q) (hl : M.es.length < 899000000) (hf : f ≤ 100) (hlf : lf < N)
    (hC : ∀ a, a < Q → M.c (f + 2) a = C a) (hCg : ∀ i, i < Q → GoodC N (C i)) (hT : TabOk D n P (dpW D lf) C) (hO : Own w X mp M) (hX1 : X lp) (hB : Box w lp 80 (LvA mp f N S T ov mb)) :
    Calls Tryz.prog 55 #[.pointer (some ⟨lp, 0, none⟩), .int .i64 (lf : Int)] w (ArrPost w X lp mp f N S T D Q n P lf ov mb M C) := by
  have hQP := h.hQ
  have hQ := h.big.2.2.2
  have hQ2 : 2 ^ P ≤ 256 := by rw [hQP]; exact hQ
  have hnet : 4 * (netL P).length ≤ 8 * 9 * 256 := by
    rw [netL_len P]
    exact Nat.mul_le_mul (Nat.mul_le_mul h.hP (by have := h.hP; omega)) hQ2
  have hlk := looks_len (f + 2) (netL P)
  have hev := evE_len (f + 2) Q
  have hw : ∀ i, i < 2 ^ P → Wd (C i) := fun i hi => (hCg i (by rw [← hQP]; exact hi)).1
  have hnn : (D + 1) * S + T < n := by have := h.hL; have := h.hn; omega
  have hs1 : 0 < S := h.s1
  have hTd : ∀ j, (tabI D n P (dpW D lf) C j).2 ≤ 9223372036854775807 := fun j => by
    unfold tabI itemOf
    split
    · have := deep_le D lf ((tab1 D n P (dpW D lf) C j) 2).toNat D
      have hD := h.hD
      show ((deep D lf _ D : Nat) : Int) ≤ _
      omega
    · show (-1 : Int) ≤ _; omega
  have e1 : M.gone (cT (f + 2) (fun i => numZ D lf i (C i)) M.c Q) (evE (f + 2) Q) = M.gone (cT (f + 2) (keyed D n (dpW D lf) C) M.c Q) (evE (f + 2) Q) :=
    congrArg (fun c => M.gone c _) (cT_congr (fun a ha => numZ_keyed hT (by rw [hQP]; exact ha)))
  have e2 : (M.gone (cT (f + 2) (keyed D n (dpW D lf) C) M.c Q) (evE (f + 2) Q)).sorted (f + 2) 11 (netL P) = M.gone (cT (f + 2) (tab1 D n P (dpW D lf) C) M.c Q) (evE (f + 2) Q ++ looks (f + 2) (netL P)) := by
    rw [gone_sorted, cT_sorted 11 Q (netL P) (by rw [← hQP]; exact netL_within P)]; rfl
  have hM1 : LvM (M.gone (cT (f + 2) (keyed D n (dpW D lf) C) M.c Q) (evE (f + 2) Q)) f S D T Q :=
    hM.gone _ _ (cT_wd9 (fun a ha => keyed_wd h.hD hQ2 hT hw (by rw [hQP]; exact ha)) hM.wd) (by omega)
  have hM2 : LvM (M.gone (cT (f + 2) (tab1 D n P (dpW D lf) C) M.c Q) (evE (f + 2) Q ++ looks (f + 2) (netL P))) f S D T Q :=
    hM.gone _ _ (cT_wd9 (fun a ha => tab1_wd h.hD hQ2 hT hw (by rw [hQP]; exact ha)) hM.wd) (by rw [List.length_append]; omega)
  have e3 : ∀ o, IsOrd (tabI D n P (dpW D lf) C) n o → plcM (M.gone (cT (f + 2) (tab1 D n P (dpW D lf) C) M.c Q) (evE (f + 2) Q ++ looks (f + 2) (netL P))) f Q n S D T (fun i => if i < Q then tab1 D n P (dpW D lf) C i else nul) (tabI D n P (dpW D lf) C) o =
      M.gone (cT (f + 2) (tab2 S D T n P (dpW D lf) C o) M.c Q) (evE (f + 2) Q ++ looks (f + 2) (netL P) ++ evE (f + 2) Q) := fun o ho => by
    unfold plcM
    rw [gone_gone]
    show M.gone (cT (f + 2) _ (cT (f + 2) (tab1 D n P (dpW D lf) C) M.c Q) Q) _ = _
    rw [cT_over rfl]
    exact congrArg (fun c => M.gone c _) (cT_congr (fun a ha => by
      show plZ n a _ _ (if a < Q then _ else _) = _
      rw [if_pos ha]
      exact plZ_tab2 ho a))
  have e4 : ∀ o, (M.gone (cT (f + 2) (tab2 S D T n P (dpW D lf) C o) M.c Q) (evE (f + 2) Q ++ looks (f + 2) (netL P) ++ evE (f + 2) Q)).sorted (f + 2) 11 (netL P) = arrM M f Q n S D T P lf C o := fun o => by
    rw [gone_sorted, cT_sorted 11 Q (netL P) (by rw [← hQP]; exact netL_within P)]; rfl
  have hM3 : ∀ o, IsOrd (tabI D n P (dpW D lf) C) n o → LvM (M.gone (cT (f + 2) (tab2 S D T n P (dpW D lf) C o) M.c Q) (evE (f + 2) Q ++ looks (f + 2) (netL P) ++ evE (f + 2) Q)) f S D T Q := fun o ho =>
    hM.gone _ _ (cT_wd9 (fun a ha => tab2_wd h.hD hQ2 hT hw hs1 hnn ho (by rw [hQP]; exact ha)) hM.wd) (by rw [List.length_append, List.length_append]; omega)
  have HNu := Lib.hid (number_any h X lp mp f lf ov mb M C w hM hf hlf hC hCg hO hX1 hB)
  have HS1 := Lib.hid (fun X' W (ho : Own W X' mp (M.gone (cT (f + 2) (keyed D n (dpW D lf) C) M.c Q) (evE (f + 2) Q))) hx hb => sort_any h X' lp mp f ov mb _ W hM1 hf ho hx hb)
  have HS3 := Lib.hid (fun o ho W ov' hO' hb => sort_any h X lp mp f ov' mb _ W (hM3 o ho) hf hO' hX1 hb)
  have HPl := Lib.hid (fun W gi off cap hO' hb hI hc => place_any h X lp mp f gi off cap ov mb _ (fun i => if i < Q then tab1 D n P (dpW D lf) C i else nul) (tabI D n P (dpW D lf) C) W hM2 hf (fun a ha => by
    rw [if_pos ha]; exact cT_at ha) (fun i => by
    split
    · exact tab1_wd h.hD hQ2 hT hw (by rw [hQP]; assumption)
    · exact wd_zero) hO' hX1 hb hI hc (fun j _ => hTd j))
  have HTi := Lib.hid (fun o (ho : IsOrd (fun i => itemOf (dpW D lf) (C i)) Q o) j (hj : j < Q) => hT.items h.hD (by rw [hQP]; exact ho) (by rw [hQP]; exact hj))
  have E1 := Lib.hid e1
  have E2 := Lib.hid e2
  have E3 := Lib.hid e3
  have E4 := Lib.hid e4
  have HB := Lib.hid hB
  clear hM1 hM2 hM3 e1 e2 e3 e4 hTd hw hT hCg hC hO hM hB h
  go_enter Tryz.func55, Tryz.ntmps55
  go_wp2_with fail
  refine HNu.out.mono ?_
  rintro e w1 ⟨o1, gi, off, cap, hor, rfl, hcap, hits, hO1, hK1⟩
  rw [E1.out] at hO1
  have HB1 := Lib.hid (hK1.box HB.out hX1)
  have HI1 := Lib.hid (hits.congr (fun j hj => (HTi.out o1 hor j hj).symm))
  have HO1 := Lib.hid hO1
  have HK1 := Lib.hid hK1
  clear hor hits hO1 hK1 HNu HB
  go_wp2_with fail
  refine (HS1.out (fun j => X j ∨ j = gi) w1 HO1.out (.inl hX1) HB1.out).mono ?_
  rintro e w2 ⟨rfl, hO2, hK2⟩
  rw [E2.out] at hO2
  have HB2 := Lib.hid (hK2.box HB1.out (.inl hX1))
  have HO2 := Lib.hid (hO2.weak (Y := X) (fun j hj => .inl hj))
  have HK2 := Lib.hid (HK1.out.trans (hK2.mono (fun j hj => .inl hj)))
  have HI2 : Hid (Its w2 w2.heap.size (some ⟨gi, off, none⟩) Q (tabI D n P (dpW D lf) C)) := Lib.hid ((HI1.out.kept hK2 (.inr rfl)).more hK2.size)
  clear hO2 hK2 HB1 HO1 HK1 HI1 HS1
  go_wp2_with fail
  refine (HPl.out w2 gi off cap HO2.out HB2.out HI2.out hcap).mono ?_
  rintro e w3 ⟨rfl, o, hor, hO3, hK3, hB3⟩
  rw [E3.out o hor] at hO3
  have HO3 := Lib.hid hO3
  have HB3 := Lib.hid hB3
  have HOr := Lib.hid hor
  have HK3 := Lib.hid ((HK2.out.mono (Y := fun j => X j ∧ j ≠ lp) (fun j hj => hj.1)).trans hK3)
  clear hO3 hB3 hor hK3 HO2 HB2 HK2 HI2
  go_wp2_with fail
  refine (HS3.out o HOr.out w3 _ HO3.out HB3.out).mono ?_
  rintro e w4 ⟨rfl, hO4, hK4⟩
  rw [E4.out o] at hO4
  have HO4 := Lib.hid hO4
  have HB4 := Lib.hid (hK4.box HB3.out hX1)
  have HK4 := Lib.hid (HK3.out.trans (hK4.mono (Y := fun j => X j ∧ j ≠ lp) (fun j hj => hj.1)))
  clear hO4 hK4
  go_wp2_with fail
  go_end0
  exact ⟨rfl, o, HOr.out, HO4.out, HK4.out, HB4.out⟩
end Go.Proofs.YtmageeohnfomnaaGreat


namespace Go.Proofs.YtmageeohnfomnaaGreat
set_option maxRecDepth 100000
open Go.RowKit Go.ChangeShapes Go.WideShapes Go.ChangeAt

structure FeAt (w : World) (X : Nat → Prop) (mp f S D T lf bw : Nat) (id : Int) (nb : Cl) (M : MS) (i : Nat) (wr : World) : Prop where
  own : Own wr X mp (M.gone (cT (f + 2) (laidX S D T lf (cellsE f M.c) id nb) M.c i) (evF S D T f lf i))
  kept : Kept (fun j => X j ∧ j ≠ bw) w wr
  was : Var wr bw (wasC (fun j => M.c (spot S D f lf j).1 (spot S D f lf j).2) id i)
set_option maxRecDepth 100000 in
set_option maxHeartbeats 4000000 in
theorem fetch_any {N S T D L n Q P : Nat} (h : Conf N S T D L n Q P) (X : Nat → Prop) (lp mp f lf bw g cap : Nat) (ov : Bool) (mb : Option Nat) (id : Int) (nb : Cl) (M : MS) (w : World) (hM : LvM M f S D T Q) (hlf : lf < N) (hf : f ≤ 100)
    (hid : 0 ≤ id ∧ id ≤ 18446744073709551615) (hO : Own w X mp M) (hX1 : X lp) (hX2 : X bw) (hX3 : X g) (hne : lp ≠ bw ∧ g ≠ bw) (hB : Box w lp 80 (LvA mp f N S T ov mb)) (hV : Var w bw nul) (hs : Sps w 0 g (L + T) (spot S D f lf)) :
    Calls Tryz.prog 50 #[.pointer (some ⟨lp, 0, none⟩), .slice (some ⟨g, 0, none⟩) (L + T) cap, .int .u64 id, .func (.func 51) #[] #[.pointer (some ⟨bw, 0, none⟩)]] w fun e w' =>
      e = .returned (.tuple #[]) ∧ FeAt w X mp f S D T lf bw id nb M (L + T) w' := by
  have HT := Lib.hid (fun W => table_at f (N : Int) (S : Int) (T : Int) W hf)
  have hlf2 : lf < 2 ^ D := by rw [h.hN]; exact hlf
  have HSp := Lib.hid (fun i hi => hM.inM (by have := h.s1; omega) h.hL hlf2 (i := i) hi)
  have HLy := Lib.hid (fun i (hi : i < L + T) => lay_at S D T f lf M.c id nb i (by rw [h.hL]; exact hi))
  have HEv : Hid (∀ i, i < L + T → evF S D T f lf (i + 1) = evF S D T f lf i ++ [((spot S D f lf i).1, (spot S D f lf i).2, false)] ++ [(f + 2, i, true)]) := Lib.hid (fun i hi => by
    show evF S D T f lf i ++ (if i < (D + 1) * S + T then _ else _) ++ _ = _
    rw [if_pos (by rw [h.hL]; exact hi)])
  have hLb := h.big.1
  have ht := h.t64
  have hLQ : L + T < Q := by have := h.hn; have := h.le; omega
  have HA : Hid (FeAt w X mp f S D T lf bw id nb M 0 w) := Lib.hid ⟨by rw [cT_zero]; show Own w X mp (M.gone M.c []); rw [gone_self]; exact hO, Kept.refl _ _, hV⟩
  have HBx := Lib.hid hB
  have HSs := Lib.hid hs
  have HM := Lib.hid hM
  clear h hO hV hB hs hM hlf2 hlf
  go_enter Tryz.func50, Tryz.ntmps50
  go_wp2_with fail
  go_loopw [14] (fun v wr => ∃ i : Nat, v = .int .i64 i ∧ i ≤ L + T ∧ FeAt w X mp f S D T lf bw id nb M i wr) (fun v _ => L + T - (intOf v).toNat)
  case atStart => exact ⟨0, rfl, by omega, HA.out⟩
  case round =>
    obtain ⟨i, rfl, hi, hS⟩ := hrel
    clear HA
    have HS := Lib.hid hS
    by_cases hin : i < L + T
    · obtain ⟨c0, c1⟩ := (hS.kept.block g HSs.out.lt (fun k => k ⟨hX3, hne.2⟩) |> HSs.out.block hS.kept.size).cell i hin
      have hBw := hS.kept.box HBx.out ⟨hX1, hne.1⟩
      obtain ⟨hr, ha⟩ := HSp.out i hin
      have hly := HLy.out i hin
      have hev := HEv.out i hin
      have hne2 := spot_ne (S := S) (D := D) (f := f) (lf := lf) i
      have hwd := HM.out.wd (spot S D f lf i).1 (spot S D f lf i).2
      have hwas : wasC (fun j => M.c (spot S D f lf j).1 (spot S D f lf j).2) id (i + 1) = if decide (M.c (spot S D f lf i).1 (spot S D f lf i).2 0 = 1) && decide (M.c (spot S D f lf i).1 (spot S D f lf i).2 1 = id) then M.c (spot S D f lf i).1 (spot S D f lf i).2 else wasC (fun j => M.c (spot S D f lf j).1 (spot S D f lf j).2) id i := rfl
      have huw := wasC_wd (E := fun j => M.c (spot S D f lf j).1 (spot S D f lf j).2) (fun j => HM.out.wd _ _) id i
      have hel := evF_len S D T f lf i
      have hml := HM.out.len
      have hsuc := cT_succ (t := f + 2) (X := laidX S D T lf (cellsE f M.c) id nb) (c := M.c) (i := i)
      have hcell : cT (f + 2) (laidX S D T lf (cellsE f M.c) id nb) M.c i (spot S D f lf i).1 (spot S D f lf i).2 = M.c (spot S D f lf i).1 (spot S D f lf i).2 := cT_far hne2
      have hown := hS.own
      have hkept := hS.kept
      have hvar := hS.was
      have hk2 := HM.out.hk
      have hs2 := HM.out.s2
      clear hS HS
      generalize spot S D f lf i = sp at *
      obtain ⟨sr, sa⟩ := sp
      dsimp only at hr ha hly hev hne2 hwd hwas hcell c0 c1
      generalize hF : M.c sr sa = F at *
      generalize wasC (fun j => M.c (spot S D f lf j).1 (spot S D f lf j).2) id i = U at *
      generalize hlx : laidX S D T lf (cellsE f M.c) id nb = LX at *
      have HF := Lib.hid hF
      have HLx := Lib.hid hlx
      have HEV := Lib.hid hev
      have HSUC := Lib.hid hsuc
      have HCELL := Lib.hid hcell
      have HWD := Lib.hid hwd
      have HUW := Lib.hid huw
      generalize hcc : cT (f + 2) LX M.c i = cc at *
      generalize hll : evF S D T f lf i = ll at *
      have hel2 : ll.length ≤ 400 := by omega
      have hE1 := me_mk (F 0) 1
      have hE2 := me_mk (F 1) id
      generalize decide (F 0 = 1) = b1 at *
      generalize decide (F 1 = id) = b2 at *
      have HE1 := Lib.hid hE1
      have HE2 := Lib.hid hE2
      have HLY := Lib.hid hly
      have HWAS := Lib.hid hwas
      clear hly hev hwas hsuc hcell hwd huw hF hlx hel hcc hll hE1 hE2
      have HO := Lib.hid hown
      have HK := Lib.hid hkept
      have HV := Lib.hid hvar
      have HBw := Lib.hid hBw
      clear hown hkept hvar hBw
      obtain ⟨w9, h9⟩ : ∃ x, x = wr := ⟨_, rfl⟩
      subst h9
      go_upto_region 3 with fail
      clear c0 c1
      obtain ⟨sb, hsb⟩ : ∃ b, w9.heap.size = b := ⟨_, rfl⟩
      obtain ⟨w1, hw1⟩ : ∃ x, w9.alloc (.cells #[.int .i64 (sr : Int), .int .i64 (sa : Int)] 92) = x := ⟨_, rfl⟩
      have hO1 : Own w1 (plus1 X sb) mp (M.gone cc ll) := by rw [← hw1, ← hsb]; exact HO.out.one _
      have hB1 : Box w1 lp 80 (LvA mp f N S T ov mb) := by rw [← hw1]; exact HBw.out.alloc _
      have hs1 : Box w1 sb 92 #[.int .i64 (sr : Int), .int .i64 (sa : Int)] := by rw [← hw1, ← hsb]; exact Box.new w9 _ _
      have hV1 : Var w1 bw U := by rw [← hw1]; exact HV.out.alloc _
      have hK1 : Kept (fun j => X j ∧ j ≠ bw) w w1 := by rw [← hw1]; exact HK.out.alloc _
      rw [hsb, hw1]
      refine held_s (S := fun w' => Box w' lp 80 (LvA mp f N S T ov mb) ∧ Box w' sb 92 #[.int .i64 (sr : Int), .int .i64 (sa : Int)]) 11 rfl (by kernel_rfl) ⟨hB1.drewN 1, hs1.drewN 1⟩ (fun hHeld => ?_)
      simp only [Array.replicate_succ, Array.replicate_zero, List.push_toArray, List.nil_append, List.cons_append]
      have hO2 : Own w1.drew (plus1 X sb) mp (M.gone cc ll) := hO1.drewN 1
      have hB2 : Box w1.drew lp 80 (LvA mp f N S T ov mb) := hB1.drewN 1
      have hs2' : Box w1.drew sb 92 #[.int .i64 (sr : Int), .int .i64 (sa : Int)] := hs1.drewN 1
      have hV2 : Var w1.drew bw U := hV1.drew
      have hK2 : Kept (fun j => X j ∧ j ≠ bw) w w1.drew := hK1.drewN 1
      clear hO1 hB1 hs1 hV1 hK1 hw1
      generalize w1.drew = w2 at *
      refine wpAnyH_take (i := 0) (oi := ⟨some 19, _, _, _, _, _⟩) (v := (.pointer (some ⟨lp, 0, none⟩))) rfl (by kernel_rfl) (by kernel_rfl) (by kernel_rfl) (fun _ _ _ h => h) (Or.inl ⟨by rfl, fun w' hw => by go_simp⟩) hHeld ?_
      try simp only [Act.put, List.setIfInBounds_toArray, List.set_cons_zero, List.set_cons_succ]
      refine wpAnyH_take (i := 1) (oi := ⟨some 20, _, _, _, _, _⟩) (v := (.pointer (some ⟨lp, 0, none⟩))) rfl (by kernel_rfl) (by kernel_rfl) (by kernel_rfl) (fun _ _ _ h => h) (Or.inl ⟨by rfl, fun w' hw => by go_simp⟩) hHeld ?_
      try simp only [Act.put, List.setIfInBounds_toArray, List.set_cons_zero, List.set_cons_succ]
      refine wpAnyH_take (i := 2) (oi := ⟨some 21, _, _, _, _, _⟩) (v := (.pointer (some ⟨lp, 0, none⟩))) rfl (by kernel_rfl) (by kernel_rfl) (by kernel_rfl) (fun _ _ _ h => h) (Or.inl ⟨by rfl, fun w' hw => by go_simp⟩) hHeld ?_
      try simp only [Act.put, List.setIfInBounds_toArray, List.set_cons_zero, List.set_cons_succ]
      refine wpAnyH_take (i := 3) (oi := ⟨some 22, _, _, _, _, _⟩) (v := (.pointer (some ⟨mp, 0, none⟩))) rfl (by kernel_rfl) (by kernel_rfl) (by kernel_rfl) (fun _ _ _ h => h) (Or.inl ⟨by rfl, fun w' hw => by (have k0 := lv0 hw.1; have k1 := lv1 hw.1; have k2 := lv2 hw.1; have k3 := lv3 hw.1; have k4 := lv4 hw.1; have s0 := hw.2.cell 0; have s1 := hw.2.cell 1; go_simp)⟩) hHeld ?_
      try simp only [Act.put, List.setIfInBounds_toArray, List.set_cons_zero, List.set_cons_succ]
      refine wpAnyH_take (i := 4) (oi := ⟨some 23, _, _, _, _, _⟩) (v := (.pointer (some ⟨sb, 0, none⟩))) rfl (by kernel_rfl) (by kernel_rfl) (by kernel_rfl) (fun _ _ _ h => h) (Or.inl ⟨by rfl, fun w' hw => by go_simp⟩) hHeld ?_
      try simp only [Act.put, List.setIfInBounds_toArray, List.set_cons_zero, List.set_cons_succ]
      refine wpAnyH_take (i := 5) (oi := ⟨some 24, _, _, _, _, _⟩) (v := (.int .i64 (sr : Int))) rfl (by kernel_rfl) (by kernel_rfl) (by kernel_rfl) (fun _ _ _ h => h) (Or.inl ⟨by rfl, fun w' hw => by (have k0 := lv0 hw.1; have k1 := lv1 hw.1; have k2 := lv2 hw.1; have k3 := lv3 hw.1; have k4 := lv4 hw.1; have s0 := hw.2.cell 0; have s1 := hw.2.cell 1; go_simp)⟩) hHeld ?_
      try simp only [Act.put, List.setIfInBounds_toArray, List.set_cons_zero, List.set_cons_succ]
      refine wpAnyH_take (i := 6) (oi := ⟨some 25, _, _, _, _, _⟩) (v := (.pointer (some ⟨sb, 1, none⟩))) rfl (by kernel_rfl) (by kernel_rfl) (by kernel_rfl) (fun _ _ _ h => h) (Or.inl ⟨by rfl, fun w' hw => by go_simp⟩) hHeld ?_
      try simp only [Act.put, List.setIfInBounds_toArray, List.set_cons_zero, List.set_cons_succ]
      refine wpAnyH_take (i := 7) (oi := ⟨some 26, _, _, _, _, _⟩) (v := (.int .i64 (sa : Int))) rfl (by kernel_rfl) (by kernel_rfl) (by kernel_rfl) (fun _ _ _ h => h) (Or.inl ⟨by rfl, fun w' hw => by (have k0 := lv0 hw.1; have k1 := lv1 hw.1; have k2 := lv2 hw.1; have k3 := lv3 hw.1; have k4 := lv4 hw.1; have s0 := hw.2.cell 0; have s1 := hw.2.cell 1; go_simp)⟩) hHeld ?_
      try simp only [Act.put, List.setIfInBounds_toArray, List.set_cons_zero, List.set_cons_succ]
      -- LEFT [8, 9, 10]
      have HO2 := Lib.hid hO2
      have HB2 := Lib.hid hB2
      have HS2 := Lib.hid hs2'
      have HV2 := Lib.hid hV2
      have HK2 := Lib.hid hK2
      clear hO2 hB2 hs2' hV2 hK2
      refine join_at (S := fun w5 cb => Own w5 (plus1 (plus1 X sb) cb) mp (M.gone cc (ll ++ [(sr, sa, false)])) ∧ Box w5 lp 80 (LvA mp f N S T ov mb) ∧ Var w5 bw U ∧ Var w5 cb F ∧ Kept (fun j => X j ∧ j ≠ bw) w w5 ∧ (lp < cb ∧ sb < cb ∧ bw < cb ∧ w.heap.size ≤ cb)) (G := ?G3) (fun key => ?_) ?_
      rotate_left
      · refine wpAnyH_ready (rs := [8, 9]) (by kernel_rfl) (by simp) ?_
        refine AllReadyH.cons rfl (fun K hK => ?_) ?_
        · go_simp
          refine (own_read (plus1 X sb) mp (M.gone cc ll) w2 (sr : Int) (sa : Int) HO2.out (by rw [gone_len]; omega)).mono ?_
          rintro e w3 ⟨rfl, ho, hk⟩
          rw [gone_read hr ha] at ho
          rw [gone_cell hr ha, HCELL.out]
          have hB3 := hk.box HB2.out (.inl hX1)
          have hs3 := hk.box HS2.out (.inr rfl)
          have hV3 := HV2.out.kept hk (.inl hX2)
          have hK3 := HK2.out.trans (hk.mono (fun i hi => .inl hi.1))
          refine hK.out _ _ ⟨hB3, hs3⟩ (fun hHeld => ?_)
          clear hK K hk
          simp only [List.setIfInBounds_toArray, List.set_cons_zero, List.set_cons_succ]
          refine one_ready 9 rfl (by kernel_rfl) (fun K hK => ?_)
          go_simp
          obtain ⟨cb, hcb⟩ : ∃ c, w3.heap.size = c := ⟨_, rfl⟩
          obtain ⟨w4, hw4⟩ : ∃ x, w3.alloc (.cells (CA fun _ => 0) 103) = x := ⟨_, rfl⟩
          have hO4 : Own w4 (plus1 (plus1 X sb) cb) mp (M.gone cc (ll ++ [(sr, sa, false)])) := by rw [← hw4, ← hcb]; exact ho.one _
          have hB4 : Box w4 lp 80 (LvA mp f N S T ov mb) := by rw [← hw4]; exact hB3.alloc _
          have hs4 : Box w4 sb 92 #[.int .i64 (sr : Int), .int .i64 (sa : Int)] := by rw [← hw4]; exact hs3.alloc _
          have hV4 : Var w4 bw U := by rw [← hw4]; exact hV3.alloc _
          have hC4 : Var w4 cb (fun _ => 0) := by rw [← hw4, ← hcb]; exact Var.new w3 _ _
          have hK4 : Kept (fun j => X j ∧ j ≠ bw) w w4 := by rw [← hw4]; exact hK3.alloc _
          have hcn : lp < cb ∧ sb < cb ∧ bw < cb ∧ w.heap.size ≤ cb := ⟨by rw [← hcb]; exact hB3.lt, by rw [← hcb]; exact hs3.lt, by rw [← hcb]; exact hV3.lt, by rw [← hcb]; exact hK3.size⟩
          refine hK.out _ _ ⟨hB3.alloc _, hs3.alloc _⟩ (fun hHeld => ?_)
          change wpAnyH _ _ _ _ _ _ _ _ (w3.alloc (.cells (CA fun _ => 0) 103))
          rw [hw4]
          simp only [hcb]
          clear hK K hB3 hs3 hV3 hK3 ho hw4
          simp only [List.setIfInBounds_toArray, List.set_cons_zero, List.set_cons_succ]
          refine one_ready 10 rfl (by kernel_rfl) (fun K hK => ?_)
          refine step_store_cell rfl (.tmp 10) (.tmp 27) rfl cb 0 rfl F rfl hC4.there ?_
          have hoc : Only (just cb) w4 (w4.setCells cb 0 (CA F).toList) := only_setCells _ 0 _ (Only.refl _ _) (.inl (just_self cb))
          have hO5 := hO4.setCells cb (CA F).toList (.inr rfl)
          have hB5 := hB4.only hoc (just_ne (by omega))
          have hs5 := hs4.only hoc (just_ne (by omega))
          have hV5 := hV4.far (c := cb) (by omega) (CA F).toList
          have hC5 := hC4.set F
          have hK5 := hK4.setCells cb (CA F).toList hcn.2.2.2
          refine hK.out _ _ ⟨hB5, hs5⟩ (fun hHeld => ?_)
          clear hK K hoc hO4 hB4 hs4 hV4 hC4 hK4
          simp only [List.setIfInBounds_toArray, List.set_cons_zero, List.set_cons_succ]
          clear hs5
          generalize w4.setCells cb 0 (CA F).toList = w5 at hO5 hB5 hV5 hC5 hK5 ⊢
          exact key w5 cb ⟨hO5, hB5, hV5, hC5, hK5, hcn⟩
        · refine AllReadyH.cons rfl (fun K hK => ?_) AllReadyH.nil
          go_simp
          obtain ⟨cb, hcb⟩ : ∃ c, w2.heap.size = c := ⟨_, rfl⟩
          obtain ⟨w3, hw3⟩ : ∃ x, w2.alloc (.cells (CA fun _ => 0) 103) = x := ⟨_, rfl⟩
          have hO3 : Own w3 (plus1 (plus1 X sb) cb) mp (M.gone cc ll) := by rw [← hw3, ← hcb]; exact HO2.out.one _
          have hB3 : Box w3 lp 80 (LvA mp f N S T ov mb) := by rw [← hw3]; exact HB2.out.alloc _
          have hs3 : Box w3 sb 92 #[.int .i64 (sr : Int), .int .i64 (sa : Int)] := by rw [← hw3]; exact HS2.out.alloc _
          have hV3 : Var w3 bw U := by rw [← hw3]; exact HV2.out.alloc _
          have hC3 : Var w3 cb (fun _ => 0) := by rw [← hw3, ← hcb]; exact Var.new w2 _ _
          have hK3 : Kept (fun j => X j ∧ j ≠ bw) w w3 := by rw [← hw3]; exact HK2.out.alloc _
          have hcn : lp < cb ∧ sb < cb ∧ bw < cb ∧ w.heap.size ≤ cb := ⟨by rw [← hcb]; exact HB2.out.lt, by rw [← hcb]; exact HS2.out.lt, by rw [← hcb]; exact HV2.out.lt, by rw [← hcb]; exact HK2.out.size⟩
          refine hK.out _ _ ⟨HB2.out.alloc _, HS2.out.alloc _⟩ (fun hHeld => ?_)
          change wpAnyH _ _ _ _ _ _ _ _ (w2.alloc (.cells (CA fun _ => 0) 103))
          rw [hw3]
          simp only [hcb]
          clear hK K hw3
          simp only [List.setIfInBounds_toArray, List.set_cons_zero, List.set_cons_succ]
          refine one_ready 8 rfl (by kernel_rfl) (fun K hK => ?_)
          go_simp
          refine (own_read (plus1 (plus1 X sb) cb) mp (M.gone cc ll) w3 (sr : Int) (sa : Int) hO3 (by rw [gone_len]; omega)).mono ?_
          rintro e w4 ⟨rfl, ho, hk⟩
          rw [gone_read hr ha] at ho
          rw [gone_cell hr ha, HCELL.out]
          have hO4 := ho
          have hB4 := hk.box hB3 (.inl (.inl hX1))
          have hs4 := hk.box hs3 (.inl (.inr rfl))
          have hV4 := hV3.kept hk (.inl (.inl hX2))
          have hC4 := hC3.kept hk (.inr rfl)
          have hK4 := hK3.trans (hk.mono (fun i hi => .inl (.inl hi.1)))
          refine hK.out _ _ ⟨hB4, hs4⟩ (fun hHeld => ?_)
          clear hK K hk hB3 hs3 hV3 hC3 hK3 hO3 ho
          simp only [List.setIfInBounds_toArray, List.set_cons_zero, List.set_cons_succ]
          refine one_ready 10 rfl (by kernel_rfl) (fun K hK => ?_)
          refine step_store_cell rfl (.tmp 10) (.tmp 27) rfl cb 0 rfl F rfl hC4.there ?_
          have hoc : Only (just cb) w4 (w4.setCells cb 0 (CA F).toList) := only_setCells _ 0 _ (Only.refl _ _) (.inl (just_self cb))
          have hO5 := hO4.setCells cb (CA F).toList (.inr rfl)
          have hB5 := hB4.only hoc (just_ne (by omega))
          have hs5 := hs4.only hoc (just_ne (by omega))
          have hV5 := hV4.far (c := cb) (by omega) (CA F).toList
          have hC5 := hC4.set F
          have hK5 := hK4.setCells cb (CA F).toList hcn.2.2.2
          refine hK.out _ _ ⟨hB5, hs5⟩ (fun hHeld => ?_)
          clear hK K hoc hO4 hB4 hs4 hV4 hC4 hK4
          simp only [List.setIfInBounds_toArray, List.set_cons_zero, List.set_cons_succ]
          clear hs5
          generalize w4.setCells cb 0 (CA F).toList = w5 at hO5 hB5 hV5 hC5 hK5 ⊢
          exact key w5 cb ⟨hO5, hB5, hV5, hC5, hK5, hcn⟩
      intro w5 cb hkey
      obtain ⟨hO5, hB5, hV5, hC5, hK5, hcn⟩ := hkey
      refine wpAnyH_done (by kernel_rfl) ?_ _
      have HO5 := Lib.hid hO5
      have HB5 := Lib.hid hB5
      have HV5 := Lib.hid hV5
      have HK5 := Lib.hid hK5
      have HC5 := Lib.hid hC5
      clear hO5 hB5 hV5 hK5 hC5
      go_upto_region 4 with fail
      refine held_s (S := fun w' => Var w' cb F) 9 rfl (by kernel_rfl) HC5.out.drew (fun hHeld => ?_)
      simp only [Array.replicate_succ, Array.replicate_zero, List.push_toArray, List.nil_append, List.cons_append]
      have HO6 : Hid (Own w5.drew (plus1 (plus1 X sb) cb) mp (M.gone cc (ll ++ [(sr, sa, false)]))) := Lib.hid (HO5.out.drewN 1)
      have HB6 : Hid (Box w5.drew lp 80 (LvA mp f N S T ov mb)) := Lib.hid (HB5.out.drewN 1)
      have HV6 : Hid (Var w5.drew bw U) := Lib.hid HV5.out.drew
      have HK6 : Hid (Kept (fun j => X j ∧ j ≠ bw) w w5.drew) := Lib.hid (HK5.out.drewN 1)
      have hand := and_mk b1 b2
      clear HO5 HB5 HV5 HK5 HC5
      generalize w5.drew = w6 at *
      refine wpAnyH_take (i := 0) (oi := ⟨some 28, _, _, _, _, _⟩) (v := (.pointer (some ⟨cb, 0, none⟩))) rfl (by kernel_rfl) (by kernel_rfl) (by kernel_rfl) (fun _ _ _ h => h) (Or.inl ⟨by rfl, fun w' hw => by go_simp⟩) hHeld ?_
      try simp only [Act.put, List.setIfInBounds_toArray, List.set_cons_zero]
      refine wpAnyH_take (i := 1) (oi := ⟨some 29, _, _, _, _, _⟩) (v := (.int .u64 (F 0))) rfl (by kernel_rfl) (by kernel_rfl) (by kernel_rfl) (fun _ _ _ h => h) (Or.inl ⟨by rfl, fun w' hw => by (have k0 := hw.cell (κ := 0) (by decide); have k1 := hw.cell (κ := 1) (by decide); go_simp)⟩) hHeld ?_
      try simp only [Act.put, List.setIfInBounds_toArray, List.set_cons_zero, List.set_cons_succ]
      refine wpAnyH_take (i := 3) (oi := ⟨some 31, _, _, _, _, _⟩) (v := (.pointer (some ⟨cb, 1, none⟩))) rfl (by kernel_rfl) (by kernel_rfl) (by kernel_rfl) (fun _ _ _ h => h) (Or.inl ⟨by rfl, fun w' hw => by go_simp⟩) hHeld ?_
      try simp only [Act.put, List.setIfInBounds_toArray, List.set_cons_zero, List.set_cons_succ]
      refine wpAnyH_take (i := 4) (oi := ⟨some 32, _, _, _, _, _⟩) (v := (.int .u64 (F 1))) rfl (by kernel_rfl) (by kernel_rfl) (by kernel_rfl) (fun _ _ _ h => h) (Or.inl ⟨by rfl, fun w' hw => by (have k0 := hw.cell (κ := 0) (by decide); have k1 := hw.cell (κ := 1) (by decide); go_simp)⟩) hHeld ?_
      try simp only [Act.put, List.setIfInBounds_toArray, List.set_cons_zero, List.set_cons_succ]
      refine wpAnyH_take (i := 5) (oi := ⟨some 33, _, _, _, _, _⟩) (v := (.int .u64 id)) rfl (by kernel_rfl) (by kernel_rfl) (by kernel_rfl) (fun _ _ _ h => h) (Or.inl ⟨by rfl, fun w' hw => by go_simp⟩) hHeld ?_
      try simp only [Act.put, List.setIfInBounds_toArray, List.set_cons_zero, List.set_cons_succ]
      refine one_ready 2 rfl (by kernel_rfl) (fun K hK => ?_)
      go_simp
      refine (equal_any (F 0) 1 _ (HWD.out 0).1 (HWD.out 0).2 (by decide) (by decide)).mono ?_
      rintro e wx ⟨rfl, rfl⟩
      rw [HE1.out]
      refine hK.out _ _ hHeld (fun hHeld => ?_)
      clear hK K
      simp only [List.setIfInBounds_toArray, List.set_cons_zero, List.set_cons_succ]
      refine one_ready 6 rfl (by kernel_rfl) (fun K hK => ?_)
      go_simp
      refine (equal_any (F 1) id _ (HWD.out 1).1 (HWD.out 1).2 hid.1 hid.2).mono ?_
      rintro e wx ⟨rfl, rfl⟩
      rw [HE2.out]
      refine hK.out _ _ hHeld (fun hHeld => ?_)
      clear hK K
      simp only [List.setIfInBounds_toArray, List.set_cons_zero, List.set_cons_succ]
      refine wpAnyH_take (i := 7) (oi := ⟨some 35, _, _, _, _, _⟩) (v := (.int .u64 (msk (b1 && b2)))) rfl (by kernel_rfl) (by kernel_rfl) (by kernel_rfl) (fun _ _ _ h => h) (Or.inl ⟨by rfl, fun w' hw => by go_simp⟩) hHeld ?_
      try simp only [Act.put, List.setIfInBounds_toArray, List.set_cons_zero, List.set_cons_succ]
      refine wpAnyH_take (i := 8) (oi := ⟨some 11, _, _, _, _, _⟩) (v := (.int .u64 (msk (b1 && b2)))) rfl (by kernel_rfl) (by kernel_rfl) (by kernel_rfl) (fun _ _ _ h => h) (Or.inl ⟨by rfl, fun w' hw => by go_simp⟩) hHeld ?_
      try simp only [Act.put, List.setIfInBounds_toArray, List.set_cons_zero, List.set_cons_succ]
      refine wpAnyH_done (by kernel_rfl) ?_ _
      have HC6 := Lib.hid hHeld
      clear hHeld hand
      generalize (b1 && b2) = mine at *
      go_wp2_with (with_reducible refine wpList_load_cell rfl (.tmp 10) rfl cb 0 rfl F HC6.out.rng ?_)
      refine (tell_any mine F U bw _ HWD.out HUW.out HV6.out).mono ?_
      rintro e w7 ⟨rfl, hV7, ho7⟩
      have hO7 := HO6.out.only ho7 (fun i hi => by have e : i = bw := hi; subst e; exact .inl (.inl hX2))
      have hB7 := HB6.out.only ho7 (just_ne hne.1)
      have hC7 := HC6.out.only ho7 (just_ne (by omega))
      have hK7 : Kept (fun j => X j ∧ j ≠ bw) w w7 := HK6.out.trans (Only.mono ho7 (fun i _ (hi : i = bw) h => h.2 hi))
      have HO7 := Lib.hid hO7
      have HB7 := Lib.hid hB7
      have HV7 := Lib.hid hV7
      have HK7 := Lib.hid hK7
      have HC7 := Lib.hid hC7
      clear hO7 hB7 hV7 hK7 hC7 ho7 HO6 HB6 HV6 HK6 HC6
      go_upto_region 6 with fail
      refine held_s (S := fun w' => Box w' lp 80 (LvA mp f N S T ov mb) ∧ Var w' cb F) 15 rfl (by kernel_rfl) ⟨HB7.out.drewN 1, HC7.out.drew⟩ (fun hHeld => ?_)
      simp only [Array.replicate_succ, Array.replicate_zero, List.push_toArray, List.nil_append, List.cons_append]
      have hO7 : Own w7.drew (plus1 (plus1 X sb) cb) mp (M.gone cc (ll ++ [(sr, sa, false)])) := HO7.out.drewN 1
      have hB7 : Box w7.drew lp 80 (LvA mp f N S T ov mb) := HB7.out.drewN 1
      have hC7 : Var w7.drew cb F := HC7.out.drew
      have hV7 : Var w7.drew bw (if mine = true then F else U) := HV7.out.drew
      have hK7 : Kept (fun j => X j ∧ j ≠ bw) w w7.drew := HK7.out.drewN 1
      clear HO7 HB7 HC7 HV7 HK7
      generalize w7.drew = w8' at *
      refine wpAnyH_take (i := 0) (oi := ⟨some 40, _, _, _, _, _⟩) (v := (.pointer (some ⟨lp, 0, none⟩))) rfl (by kernel_rfl) (by kernel_rfl) (by kernel_rfl) (fun _ _ _ h => h) (Or.inl ⟨by rfl, fun w' hw => by go_simp⟩) hHeld ?_
      try simp only [Act.put, List.setIfInBounds_toArray, List.set_cons_zero, List.set_cons_succ]
      refine wpAnyH_take (i := 1) (oi := ⟨some 41, _, _, _, _, _⟩) (v := (.pointer (some ⟨lp, 0, none⟩))) rfl (by kernel_rfl) (by kernel_rfl) (by kernel_rfl) (fun _ _ _ h => h) (Or.inl ⟨by rfl, fun w' hw => by go_simp⟩) hHeld ?_
      try simp only [Act.put, List.setIfInBounds_toArray, List.set_cons_zero, List.set_cons_succ]
      refine wpAnyH_take (i := 2) (oi := ⟨some 42, _, _, _, _, _⟩) (v := (.pointer (some ⟨lp, 0, none⟩))) rfl (by kernel_rfl) (by kernel_rfl) (by kernel_rfl) (fun _ _ _ h => h) (Or.inl ⟨by rfl, fun w' hw => by go_simp⟩) hHeld ?_
      try simp only [Act.put, List.setIfInBounds_toArray, List.set_cons_zero, List.set_cons_succ]
      refine wpAnyH_take (i := 3) (oi := ⟨some 43, _, _, _, _, _⟩) (v := (.pointer (some ⟨mp, 0, none⟩))) rfl (by kernel_rfl) (by kernel_rfl) (by kernel_rfl) (fun _ _ _ h => h) (Or.inl ⟨by rfl, fun w' hw => by (have k0 := lv0 hw.1; have k1 := lv1 hw.1; have k2 := lv2 hw.1; have k3 := lv3 hw.1; have k4 := lv4 hw.1; skip; go_simp)⟩) hHeld ?_
      try simp only [Act.put, List.setIfInBounds_toArray, List.set_cons_zero, List.set_cons_succ]
      refine wpAnyH_take (i := 4) (oi := ⟨some 44, _, _, _, _, _⟩) (v := (.pointer (some ⟨lp, 0, none⟩))) rfl (by kernel_rfl) (by kernel_rfl) (by kernel_rfl) (fun _ _ _ h => h) (Or.inl ⟨by rfl, fun w' hw => by go_simp⟩) hHeld ?_
      try simp only [Act.put, List.setIfInBounds_toArray, List.set_cons_zero, List.set_cons_succ]
      refine wpAnyH_take (i := 5) (oi := ⟨some 45, _, _, _, _, _⟩) (v := (.pointer (some ⟨lp, 0, none⟩))) rfl (by kernel_rfl) (by kernel_rfl) (by kernel_rfl) (fun _ _ _ h => h) (Or.inl ⟨by rfl, fun w' hw => by go_simp⟩) hHeld ?_
      try simp only [Act.put, List.setIfInBounds_toArray, List.set_cons_zero, List.set_cons_succ]
      refine wpAnyH_take (i := 6) (oi := ⟨some 46, _, _, _, _, _⟩) (v := (.pointer (some ⟨lp, 1, none⟩))) rfl (by kernel_rfl) (by kernel_rfl) (by kernel_rfl) (fun _ _ _ h => h) (Or.inl ⟨by rfl, fun w' hw => by go_simp⟩) hHeld ?_
      try simp only [Act.put, List.setIfInBounds_toArray, List.set_cons_zero, List.set_cons_succ]
      refine wpAnyH_take (i := 7) (oi := ⟨some 47, _, _, _, _, _⟩) (v := (.agg #[.int .i64 (f : Int), .int .i64 (N : Int), .int .i64 (S : Int), .int .i64 (T : Int)])) rfl (by kernel_rfl) (by kernel_rfl) (by kernel_rfl) (fun _ _ _ h => h) (Or.inl ⟨by rfl, fun w' hw => by (have k0 := lv0 hw.1; have k1 := lv1 hw.1; have k2 := lv2 hw.1; have k3 := lv3 hw.1; have k4 := lv4 hw.1; skip; go_simp)⟩) hHeld ?_
      try simp only [Act.put, List.setIfInBounds_toArray, List.set_cons_zero, List.set_cons_succ]
      refine wpAnyH_take (i := 9) (oi := ⟨some 49, _, _, _, _, _⟩) (v := (.int .i64 (i : Int))) rfl (by kernel_rfl) (by kernel_rfl) (by kernel_rfl) (fun _ _ _ h => h) (Or.inl ⟨by rfl, fun w' hw => by go_simp⟩) hHeld ?_
      try simp only [Act.put, List.setIfInBounds_toArray, List.set_cons_zero, List.set_cons_succ]
      refine wpAnyH_take (i := 10) (oi := ⟨some 50, _, _, _, _, _⟩) (v := (.int .u64 (msk mine))) rfl (by kernel_rfl) (by kernel_rfl) (by kernel_rfl) (fun _ _ _ h => h) (Or.inl ⟨by rfl, fun w' hw => by go_simp⟩) hHeld ?_
      try simp only [Act.put, List.setIfInBounds_toArray, List.set_cons_zero, List.set_cons_succ]
      refine wpAnyH_take (i := 11) (oi := ⟨some 51, _, _, _, _, _⟩) (v := (.agg (CA nul))) rfl (by kernel_rfl) (by kernel_rfl) (by kernel_rfl) (fun _ _ _ h => h) (Or.inl ⟨by rfl, fun w' hw => by (go_simp; rfl)⟩) hHeld ?_
      try simp only [Act.put, List.setIfInBounds_toArray, List.set_cons_zero, List.set_cons_succ]
      refine take_row 12 (oi := ⟨some 52, _, _, _, _, _⟩) (CA F).toList rfl (by kernel_rfl) (by kernel_rfl) (by kernel_rfl) (fun _ _ _ h => h) (by rfl) _ _ rfl _ _ rfl _ (fun w' hw => hw.2.rng) Tryz.underlying103 rfl (infoCellL F) hHeld ?_
      try simp only [Act.put, List.setIfInBounds_toArray, List.set_cons_zero, List.set_cons_succ]
      refine one_ready 8 rfl (by kernel_rfl) (fun K hK => ?_)
      go_simp
      refine (HT.out _).mono ?_
      rintro e w8 ⟨rfl, hb8⟩
      have ho8 : Only nobody w8' w8 := Only.of_below hb8
      have hO8 := hO7.none ho8
      have hB8 := hB7.only ho8 (not_nobody _)
      have hC8 := hC7.nob ho8
      have hV8 := hV7.nob ho8
      have hK8 := hK7.trans (Kept.of_none ho8)
      refine hK.out _ _ ⟨hB8, hC8⟩ (fun hHeld => ?_)
      clear hK K hb8 ho8 hO7 hB7 hC7 hV7 hK7
      simp only [List.setIfInBounds_toArray, List.set_cons_zero, List.set_cons_succ]
      refine one_ready 13 rfl (by kernel_rfl) (fun K hK => ?_)
      go_simp
      refine (pickCell_mask mine nul F _ wd_zero HWD.out).mono ?_
      rintro e w10 ⟨rfl, hx⟩
      rw [← HLY.out]
      have ho10 := none_of_ext hx
      have hO10 := hO8.none ho10
      have hB10 := hB8.only ho10 (not_nobody _)
      have hC10 := hC8.nob ho10
      have hV10 := hV8.nob ho10
      have hK10 := hK8.trans (Kept.of_none ho10)
      refine hK.out _ _ ⟨hB10, hC10⟩ (fun hHeld => ?_)
      clear hK K hx ho10 hO8 hB8 hC8 hV8 hK8
      simp only [List.setIfInBounds_toArray, List.set_cons_zero, List.set_cons_succ]
      refine one_ready 14 rfl (by kernel_rfl) (fun K hK => ?_)
      go_simp
      refine (own_write _ mp (M.gone cc (ll ++ [(sr, sa, false)])) _ ((f + 2 : Nat) : Int) (i : Int) (LX i) hO10 (by rw [gone_len, List.length_append]; simp only [List.length_cons, List.length_nil]; omega)).mono ?_
      rintro e w11 ⟨rfl, ho, hk⟩
      rw [gone_write (by show f + 2 < M.k; omega) (by show i < M.sz (f + 2); omega), HSUC.out] at ho
      have hB11 := hk.box hB10 (.inl (.inl hX1))
      have hC11 := hC10.kept hk (.inr rfl)
      have hV11 := hV10.kept hk (.inl (.inl hX2))
      have hK11 := hK10.trans (hk.mono (fun i hi => .inl (.inl hi.1)))
      have hO11 := ho.weak (fun j (hj : X j) => .inl (.inl hj))
      refine hK.out _ _ ⟨hB11, hC11⟩ (fun hHeld => ?_)
      clear hK K hk ho hO10 hB10 hC10 hV10 hK10
      simp only [List.setIfInBounds_toArray, List.set_cons_zero, List.set_cons_succ]
      refine wpAnyH_done (by kernel_rfl) ?_ _
      have HE : Hid (FeAt w X mp f S D T lf bw id nb M (i + 1) w11) := Lib.hid ⟨by rw [HLx.out, HEV.out]; exact hO11, hK11, by rw [HWAS.out]; exact hV11⟩
      clear hO11 hK11 hV11 hB11 hC11 hHeld
      go_wp2_with fail
      go_roundw
      case rel => exact ⟨i + 1, by go_num, by omega, HE.out⟩
      case measure => simp [intOf]; omega
    · obtain rfl : i = L + T := by omega
      clear hS
      go_wp2_with fail
      go_end0
      exact ⟨rfl, HS.out⟩
end Go.Proofs.YtmageeohnfomnaaGreat


namespace Go.Proofs.YtmageeohnfomnaaGreat
set_option maxRecDepth 100000
open Go.RowKit Go.ChangeShapes Go.WideShapes Go.ChangeAt Go.Maps

theorem turned_only {w w' : World} {b : Nat} (h : w.mapTurned w' b) : Only (just b) w w' := (Only.refl _ w).grown h.grown (fun k e => by injection e with e; exact .inl e.symm)
theorem keyed64 : Keyed Tryz.prog 54 := int_keyed Tryz.underlying54
section
variable {H : Type} {w w' : World} {P : Program} {k : TypeId} {R : Value → Option (DataW H × List MemPlace)} {b n : Nat} {D : DataW H}
theorem map_lt (h : w.ownsMap P k R b n D) : b < w.heap.size := by
  obtain ⟨es, clock, hb, _⟩ := h
  exact (Array.getElem?_eq_some_iff.1 hb).1
theorem map_only {S : Nat → Prop} (h : w.ownsMap P k R b n D) (ho : Only S w w') (hs : ¬ S b) : w'.ownsMap P k R b n D := by
  have hl := map_lt h
  obtain ⟨es, clock, hb, F, hn, hd⟩ := h
  exact ⟨es, clock, (ho.block b hl hs).trans hb, F, hn, hd⟩
theorem map_ne {p : Nat} {t : TypeId} {cs : Array Value} (h : w.ownsMap P k R b n D) (hB : Box w p t cs) : p ≠ b := by
  rintro rfl
  obtain ⟨es, clock, hb, _⟩ := h
  unfold Box at hB
  rw [hB] at hb
  cases hb
end
end Go.Proofs.YtmageeohnfomnaaGreat

