/- Texts of ours put together: LevelAcs, LevelSee, LevelEvents, LevelNewAny. -/
import Derived.Below
import Derived.BigQuiet
import Derived.BigRegion
import Derived.ChangeArms
import Derived.ChangeKeysEq
import Derived.ChangeSlices
import Derived.Deep.Cut
import Derived.Deep.Draws
import Derived.Deep.MidRow
import Derived.Deep.OwnRows
import Derived.Deep.Quiet
import Derived.Deep.QuietTactic
import Derived.Deep.RegionHeld
import Derived.Deep.RegionHeld3
import Derived.Deep.Slices
import Derived.Deep.WholeRow
import Derived.Laws.AppendOwn
import Derived.Laws.BitsAllLaws
import Derived.Laws.CopyOwn
import Derived.Laws.StructEq
import Derived.Lib.BitFns
import Derived.Lib.Hide
import Derived.LoopIn
import Derived.LoopNIn
import Derived.Maps.AppendAt
import Derived.Maps.OwnSet
import Derived.OpenShut
import Derived.OwnWalk
import Derived.OwnWalkIn
import Derived.ProofKit
import Derived.RangeFuncBound
import Derived.RangeFuncCalls
import Derived.RangeFuncLeaves
import Derived.RangeFuncNested
import Derived.RegionTactic
import Derived.RowKit3
import Derived.Shelf.Abstract
import Derived.Shelf.Bits.Mul64
import Derived.Shelf.RegionOpen
import Derived.Shelf.SlSortCmp.WholeK
import Derived.Shelf.Spec.BitsCarry
import Derived.Shelf.Strconv.Itoa0
import Derived.SizedLaws
import Derived.Sort.Grow
import Derived.StillTailTactics
import Derived.TacticsInMore
import Derived.WalkKit
import Derived.WideShapes
import Derived.Test.YtmageeohnfomnaaGreatProg
import Derived.Carry
import Derived.OrdersIn
import Derived.Test.YtmageeohnfomnaaGreatG0
import Derived.Test.YtmageeohnfomnaaGreatG16
import Derived.Test.YtmageeohnfomnaaGreatG37
import Derived.Test.YtmageeohnfomnaaGreatG20
import Derived.Test.YtmageeohnfomnaaGreatG3
import Derived.Test.YtmageeohnfomnaaGreatG1
import Derived.Test.YtmageeohnfomnaaGreatG21
import Derived.Test.YtmageeohnfomnaaGreatG5
import Derived.Test.YtmageeohnfomnaaGreatG2
import Derived.Test.YtmageeohnfomnaaGreatG27
import Derived.Test.YtmageeohnfomnaaGreatG29
import Derived.Test.YtmageeohnfomnaaGreatG32
import Derived.Test.YtmageeohnfomnaaGreatG30
import Derived.Test.YtmageeohnfomnaaGreatG42
import Derived.Test.YtmageeohnfomnaaGreatG15
import Derived.Test.YtmageeohnfomnaaGreatG6
import Derived.Test.YtmageeohnfomnaaGreatG31
import Derived.Test.YtmageeohnfomnaaGreatG9
import Derived.Test.YtmageeohnfomnaaGreatG10
import Derived.Test.YtmageeohnfomnaaGreatG22
import Derived.Test.YtmageeohnfomnaaGreatG24
import Derived.Test.YtmageeohnfomnaaGreatG23
import Derived.Test.YtmageeohnfomnaaGreatG25
import Derived.Test.YtmageeohnfomnaaGreatG26
import Derived.Test.YtmageeohnfomnaaGreatG11
import Derived.Test.YtmageeohnfomnaaGreatG40
import Derived.Test.YtmageeohnfomnaaGreatG39
import Derived.Test.YtmageeohnfomnaaGreatG14
import Derived.Test.YtmageeohnfomnaaGreatG17
import Derived.Test.YtmageeohnfomnaaGreatG19
import Derived.Test.YtmageeohnfomnaaGreatG46
import Derived.Test.YtmageeohnfomnaaGreatG43
namespace Go.Proofs.YtmageeohnfomnaaGreat
set_option maxRecDepth 100000
open Go.RowKit Go.ChangeShapes Go.WideShapes Go.ChangeAt Go.Maps

theorem Own.wide {S : Nat → Prop} {w w' : World} {X : Nat → Prop} {p : Nat} {M : MS} (h : Own w X p M) (ho : Only S w w') (hs : ∀ i, S i → X i) : Own w' (fun i => X i ∨ (w.heap.size ≤ i ∧ i < w'.heap.size)) p M := by
  obtain ⟨F, hm, hF, hX⟩ := h
  refine ⟨F, hm.only ho (fun i hi k => hF i hi (hs i k)), fun i hi k => ?_, fun i hi => ?_⟩
  · rcases k with k | k
    · exact hF i hi k
    · have := hm.lt i hi; omega
  · rcases hi with hi | hi
    · exact Nat.lt_of_lt_of_le (hX i hi) ho.size
    · exact hi.2
structure AcMid {H : Type} (w : World) (lp mp f N S T : Nat) (ov : Bool) (bm nm ab b : Nat) (op id at' : Int) (d : Nat → Int) (lf to : Int) (D0 : DataW H) (w' : World) : Prop where
  only : Only (just bm) w w'
  lv : Box w' lp 80 (LvA mp f N S T ov (some bm))
  ask : Box w' ab 100 (askA op id at' d lf to)
  res : Box w' (b + 1) 56 (DA fun _ => 0)
  ids : ∃ n', n' ≤ nm + 1 ∧ w'.ownsMap Tryz.prog 54 unitElem bm n' (if (op == 1 || op == 2) = true then D0.put (.int .u64 id) (.agg []) else D0)
def wasA (S D T f lf : Nat) (id : Int) (M : MS) : Cl := wasC (fun j => M.c (spot S D f lf j).1 (spot S D f lf j).2) id ((D + 1) * S + T)
def nbA (S D T f lf : Nat) (op id at' to : Int) (d : Nat → Int) (M : MS) : Cl := newB op id at' to d (wasA S D T f lf id M)
def laidA (S D T f lf : Nat) (op id at' to : Int) (d : Nat → Int) (M : MS) : Nat → Cl := laidX S D T lf (cellsE f M.c) id (nbA S D T f lf op id at' to d M)
def AcsPost {H : Type} (w : World) (X : Nat → Prop) (lp mp f N S T D n P lf to bm nm : Nat) (ov : Bool) (op id at' : Int) (d : Nat → Int) (D0 : DataW H) (M : MS) (e : Ending) (w' : World) : Prop :=
  e = .returned (.tuple #[.agg (DA fun i => wasA S D T f lf id M (3 + i)), .bool (wasA S D T f lf id M 0 == 1)]) ∧
  ∃ o, IsOrd (tabI D n P (dpW D lf) (laidA S D T f lf op id at' to d M)) n o ∧
    Own w' X mp (M.gone (accC S D T f P lf id (nbA S D T f lf op id at' to d M) o M.c) (evA S D T f P lf)) ∧
    Box w' lp 80 (LvA mp f N S T (ov || !(lostO (tabI D n P (dpW D lf) (laidA S D T f lf op id at' to d M)) S D T o).isEmpty) (some bm)) ∧
    (∃ n', n' ≤ nm + 1 ∧ w'.ownsMap Tryz.prog 54 unitElem bm n' (if (op == 1 || op == 2) = true then D0.put (.int .u64 id) (.agg []) else D0)) ∧
    Kept (fun j => X j ∧ j ≠ lp ∧ j ≠ bm) w w'
theorem acc_done {N S T D L n Q P : Nat} (h : Conf N S T D L n Q P) (f lf : Nat) (op id at' to : Int) (d : Nat → Int) (M : MS) (o : List Nat) :
    (arrM (M.gone (cT (f + 2) (laidA S D T f lf op id at' to d M) M.c Q) (evF S D T f lf Q)) f Q n S D T P lf (laidA S D T f lf op id at' to d M) o).gone
      (cG (spot S D f lf) (fun i => setw (tab3 S D T n P (dpW D lf) (laidA S D T f lf op id at' to d M) o i) 11 0) (arrM (M.gone (cT (f + 2) (laidA S D T f lf op id at' to d M) M.c Q) (evF S D T f lf Q)) f Q n S D T P lf (laidA S D T f lf op id at' to d M) o).c (L + T)) (evG S D f lf (L + T)) =
    M.gone (accC S D T f P lf id (nbA S D T f lf op id at' to d M) o M.c) (evA S D T f P lf) := by
  have h1 := h.hL
  have h2 := h.hn
  have h3 := h.hQ
  subst h1
  subst h2
  subst h3
  unfold arrM
  rw [gone_gone, gone_gone]
  show M.gone (cG _ _ (cT (f + 2) _ (cT (f + 2) _ M.c _) _) _) _ = _
  rw [cT_over rfl]
  unfold evA accC
  simp only [List.append_assoc]
  rfl
structure AcEnd {H : Type} (w : World) (X X2 : Nat → Prop) (lp mp f N S T b bm nm : Nat) (ov : Bool) (D1 : DataW H) (M : MS) (wr : World) : Prop where
  own : Own wr X2 mp M
  box : Box wr lp 80 (LvA mp f N S T ov (some bm))
  ids : ∃ n', n' ≤ nm + 1 ∧ wr.ownsMap Tryz.prog 54 unitElem bm n' D1
  res : Box wr (b + 1) 56 (DA fun _ => 0)
  kept : Kept (fun j => X j ∧ j ≠ lp ∧ j ≠ bm) w wr
theorem AcEnd.nob {H : Type} {w : World} {X X2 : Nat → Prop} {lp mp f N S T b bm nm : Nat} {ov : Bool} {D1 : DataW H} {M : MS} {wr wr' : World} (h : AcEnd w X X2 lp mp f N S T b bm nm ov D1 M wr) (ho : Only nobody wr wr') : AcEnd w X X2 lp mp f N S T b bm nm ov D1 M wr' := by
  obtain ⟨n', h1, h2⟩ := h.ids
  exact ⟨h.own.none ho, h.box.only ho (not_nobody _), ⟨n', h1, map_only h2 ho (not_nobody _)⟩, h.res.only ho (not_nobody _), h.kept.trans (Kept.of_none ho)⟩
theorem AcEnd.put {H : Type} {w : World} {X X2 : Nat → Prop} {lp mp f N S T b bm nm : Nat} {ov : Bool} {D1 : DataW H} {M : MS} {wr : World} (h : AcEnd w X X2 lp mp f N S T b bm nm ov D1 M wr) (vs : List Value) (hb : w.heap.size ≤ b) (hX : ∀ i, X i → X2 i) (hX2 : X2 (b + 1)) (hlb : lp < b) (hmb : bm < b) :
    Own (wr.setCells (b + 1) 0 vs) X mp M ∧ Box (wr.setCells (b + 1) 0 vs) lp 80 (LvA mp f N S T ov (some bm)) ∧ (∃ n', n' ≤ nm + 1 ∧ (wr.setCells (b + 1) 0 vs).ownsMap Tryz.prog 54 unitElem bm n' D1) ∧ Kept (fun j => X j ∧ j ≠ lp ∧ j ≠ bm) w (wr.setCells (b + 1) 0 vs) := by
  have ho : Only (just (b + 1)) wr (wr.setCells (b + 1) 0 vs) := only_setCells vs 0 wr (Only.refl _ _) (.inl (just_self _))
  obtain ⟨n', h1, h2⟩ := h.ids
  exact ⟨(h.own.setCells (b + 1) vs hX2).weak hX, h.box.only ho (just_ne (by omega)), ⟨n', h1, map_only h2 ho (just_ne (by omega))⟩, h.kept.setCells (b + 1) vs (by omega)⟩
theorem step_store_data {ops : Array Oper} {o : Oper} {a : Act} {w : World} {K : Act → World → Prop} {Q : Exit → Act → World → Prop} {E : Prop} (hgd : o.guard = none) (x y : Operand) (ho : o.op = .store 56 x y)
    (b i : Nat) (hx : a.eval x = .pointer (some ⟨b, i, none⟩)) (f : Nat → Int) (hy : a.eval y = .agg (DA f)) (ht : w.there b i 8)
    (h : K (a.put o.dst undef) (w.setCells b i (DA f).toList)) : if Region.wanted o (yielded ops a.tmps) = true then Oper.wp Tryz.prog o a w K Q else E := by
  have hw : Region.wanted o (yielded ops a.tmps) = true := by simp [Region.wanted, hgd]
  rw [if_pos hw]
  exact wp_store_mid 56 x y ho b i (DA f) hx hy ht (infoData f) (by simp [DA, Value.oneCell']) h
set_option maxRecDepth 100000 in
set_option maxHeartbeats 4000000 in
theorem access_any {H : Type} {N S T D L n Q P : Nat} (h : Conf N S T D L n Q P) (X : Nat → Prop) (lp mp f bm nm lf to : Nat) (ov : Bool) (D0 : DataW H) (op id at' : Int) (d : Nat → Int) (M : MS) (w : World) (hI : isAsk N op id at' lf to = true) (hi : 0 ≤ id) (hn : nm < maxLen)
    (hM : LvM M f S D T Q) (hf : f ≤ 100) (hlf : lf < N) (hto : to ≤ 1024) (hO : Own w X mp M) (hX1 : X lp) (hX2 : X bm)
    (hB : Box w lp 80 (LvA mp f N S T ov (some bm))) (hmp : w.ownsMap Tryz.prog 54 unitElem bm nm D0)
    (hl : M.es.length < 898000000) (hCg : ∀ i, i < Q → GoodC N (laidA S D T f lf op id at' to d M i)) (hT : TabOk D n P (dpW D lf) (laidA S D T f lf op id at' to d M)) :
    Calls Tryz.prog 19 #[.pointer (some ⟨lp, 0, none⟩), .int .i64 op, .int .u64 id, .int .i64 at', .agg (DA d), .int .i64 (lf : Int), .int .i64 (to : Int)] w (AcsPost w X lp mp f N S T D n P lf to bm nm ov op id at' d D0 M) := by
  have HSp := Lib.hid (fun W => way_spots h f lf hf hlf W)
  have HFe := Lib.hid (fun X' bw g cap nb W => fetch_any h X' lp mp f lf bw g cap ov (some bm) id nb M W hM hlf hf)
  have HO0 := Lib.hid hO
  have hask : (0 ≤ op ∧ op ≤ 3) ∧ (op = 2 → 0 ≤ at' ∧ at' ≤ 6) := by
    have hI' := hI
    unfold isAsk at hI'
    simp only [Bool.and_eq_true, Bool.or_eq_true, decide_eq_true_eq] at hI'
    exact ⟨⟨hI'.1.1.1.1.1, hI'.1.1.1.1.2⟩, fun e => hI'.2.resolve_left (fun k => k e)⟩
  have HBk := Lib.hid (fun g W => block_any op id at' d lf to g W hask.1 hask.2 ⟨by omega, by omega⟩)
  have HAd := Lib.hid (fun X' B Z W => add_any h X' lp mp f lf ov (some bm) M B Z W hM hf)
  clear hask
  have HAr := Lib.hid (fun X' W Mf (hMf : LvM Mf f S D T Q) (hl' : Mf.es.length < 899000000) hC hO' hx hb => arrange_any h X' lp mp f lf ov (some bm) Mf (laidA S D T f lf op id at' to d M) W hMf hl' hf hlf hC hCg hT hO' hx hb)
  have HBa := Lib.hid (fun X' g cap ov' Mf C W (hMf : LvM Mf f S D T Q) hC hO' hx hg hb hs => back_any h X' lp mp f lf g cap ov' (some bm) Mf C W hMf hlf hf hC hO' hx hg hb hs)
  have HDa := Lib.hid (fun W => data_any (wasA S D T f lf id M) W)
  have HHa := Lib.hid (fun W => has_any (wasA S D T f lf id M) W)
  have HDn := Lib.hid (fun o => acc_done h f lf op id at' to d M o)
  have hQP := h.hQ
  have hQ := h.big.2.2.2
  have hQ2 : 2 ^ P ≤ 256 := by rw [hQP]; exact hQ
  have hnet : 4 * (netL P).length ≤ 8 * 9 * 256 := by
    rw [netL_len P]
    exact Nat.mul_le_mul (Nat.mul_le_mul h.hP (by have := h.hP; omega)) hQ2
  have hlk := looks_len (f + 2) (netL P)
  have hevE := evE_len (f + 2) Q
  have hevF := evF_len S D T f lf Q
  have hwl : ∀ i, i < 2 ^ P → Wd (laidA S D T f lf op id at' to d M i) := fun i hi => (hCg i (by rw [← hQP]; exact hi)).1
  have hMf := hM.gone (cT (f + 2) (laidA S D T f lf op id at' to d M) M.c Q) (evF S D T f lf Q) (cT_wd9 (fun a ha => hwl a (by rw [hQP]; exact ha)) hM.wd) (by omega)
  have HMf := Lib.hid hMf
  have HlMf : Hid ((M.gone (cT (f + 2) (laidA S D T f lf op id at' to d M) M.c Q) (evF S D T f lf Q)).es.length < 899000000) := Lib.hid (by rw [gone_len]; omega)
  have HMa := Lib.hid (fun o (ho : IsOrd (tabI D n P (dpW D lf) (laidA S D T f lf op id at' to d M)) n o) => hMf.gone (cT (f + 2) (tab3 S D T n P (dpW D lf) (laidA S D T f lf op id at' to d M) o) (cT (f + 2) (laidA S D T f lf op id at' to d M) M.c Q) Q) (evE (f + 2) Q ++ looks (f + 2) (netL P) ++ evE (f + 2) Q ++ looks (f + 2) (netL P))
    (cT_wd9 (fun a ha => tab3_wd h.hD hQ2 hT hwl h.s1 (by have := h.hL; have := h.hn; omega) ho (by rw [hQP]; exact ha)) (cT_wd9 (fun a ha => hwl a (by rw [hQP]; exact ha)) hM.wd)) (by
      rw [gone_len, List.length_append, List.length_append, List.length_append]
      omega))
  have HZL := Lib.hid (show laidA S D T f lf op id at' to d M (L + T) = nbA S D T f lf op id at' to d M by
    unfold laidA laidX
    rw [h.hL, if_neg (by omega), if_pos rfl])
  have HZn := Lib.hid (show ∀ j, L + T < j → laidA S D T f lf op id at' to d M j = nul from fun j hj => by
    unfold laidA laidX
    rw [h.hL, if_neg (by omega), if_neg (by omega)])
  have hL := h.hL
  clear hMf hwl hT hCg hevF hevE hlk hnet hQ2 hQ hQP
  clear hM hO h
  have HA := Lib.hid (fun W => ask_right (N : Int) (S : Int) (T : Int) op id at' d lf to W)
  rw [hI] at HA
  obtain ⟨b, hb⟩ : ∃ b, w.heap.size = b := ⟨_, rfl⟩
  have HBb := Lib.hid hb
  have HB := Lib.hid hB
  have HM := Lib.hid hmp
  have hid : id ≤ 2147483648 := by
    unfold isAsk at hI
    simp only [Bool.and_eq_true, decide_eq_true_eq] at hI
    exact hI.1.2
  clear hb hB hI hmp
  go_enter Tryz.func19, Tryz.ntmps19
  go_upto_region 1 with fail
  rw [HBb.out]
  obtain ⟨w2, hw2⟩ : ∃ x, (w.alloc (.cells (DA d) 56)).alloc (.cells #[.int .u64 0, .int .u64 0, .int .u64 0, .int .u64 0, .int .u64 0, .int .u64 0, .int .u64 0, .int .u64 0] 56) = x := ⟨_, rfl⟩
  have hd : Box w2 b 56 (DA d) := by rw [← hw2, ← HBb.out]; exact (Box.new w _ _).alloc _
  have hr : Box w2 (b + 1) 56 (DA fun _ => 0) := by
    rw [← hw2]
    have := Box.new (w.alloc (.cells (DA d) 56)) 56 (DA fun _ => 0)
    have e : (w.alloc (.cells (DA d) 56)).heap.size = b + 1 := by simp [HBb.out]
    rw [e] at this
    exact this
  have ho2 : Only nobody w w2 := by rw [← hw2]; exact ((Only.refl nobody w).alloc _).alloc _
  have HD := Lib.hid hd
  have HR := Lib.hid hr
  have HO2 := Lib.hid ho2
  have HB2 := Lib.hid (HB.out.only ho2 (not_nobody _))
  have HM2 := Lib.hid (map_only HM.out ho2 (not_nobody _))
  clear hd hr ho2
  rw [show (w.alloc (.cells (DA d) 56)).alloc (.cells #[.int .u64 0, .int .u64 0, .int .u64 0, .int .u64 0, .int .u64 0, .int .u64 0, .int .u64 0, .int .u64 0] 56) = w2 from hw2]
  clear hw2
  have d0 := HD.out.cell 0
  have d1 := HD.out.cell 1
  have d2 := HD.out.cell 2
  have d3 := HD.out.cell 3
  have d4 := HD.out.cell 4
  have d5 := HD.out.cell 5
  have d6 := HD.out.cell 6
  have d7 := HD.out.cell 7
  simp only [DA, List.getElem?_toArray, List.getElem?_cons_succ, List.getElem?_cons_zero] at d0 d1 d2 d3 d4 d5 d6 d7
  simp only [DA]
  go_upto_region 2 with fail
  clear d0 d1 d2 d3 d4 d5 d6 d7
  obtain ⟨ab, hab⟩ : ∃ x, w2.heap.size = x := ⟨_, rfl⟩
  have HAb : Hid (w.heap.size ≤ ab) := Lib.hid (by have := HO2.out.size; omega)
  obtain ⟨w3, hw3⟩ : ∃ x, w2.alloc (.cells (askA op id at' d lf to) 100) = x := ⟨_, rfl⟩
  have ha : Box w3 ab 100 (askA op id at' d lf to) := by rw [← hw3, ← hab]; exact Box.new w2 _ _
  have ho3 : Only nobody w2 w3 := by rw [← hw3]; exact (Only.refl nobody _).alloc _
  have hB3 := HB2.out.only ho3 (not_nobody _)
  have hR3 := HR.out.only ho3 (not_nobody _)
  have hO3 := HO2.out.trans ho3
  have hM3 := map_only HM2.out ho3 (not_nobody _)
  simp only [hab]
  change Code.wp _ _ _ _ (w2.alloc (.cells (askA op id at' d lf to) 100))
  rw [hw3]
  clear ho3 hw3 HB2 HR HO2 HD
  refine held_s (S := fun w' => Box w' lp 80 (LvA mp f N S T ov (some bm)) ∧ Box w' ab 100 (askA op id at' d lf to)) 8 rfl (by kernel_rfl) ⟨hB3.drewN 1, ha.drewN 1⟩ (fun hHeld => ?_)
  simp only [Array.replicate_succ, Array.replicate_zero, List.push_toArray, List.nil_append, List.cons_append]
  have hR4 : Box w3.drew (b + 1) 56 (DA fun _ => 0) := hR3.drewN 1
  have hO4 : Only nobody w w3.drew := hO3.drew
  have hM4 : w3.drew.ownsMap Tryz.prog 54 unitElem bm nm D0 := hM3
  clear hR3 hO3 hB3 ha hM3 HM2 HB HM
  generalize w3.drew = w4 at *
  refine wpAnyH_take (i := 0) (oi := ⟨some 26, _, _, _, _, _⟩) (v := ((.agg (askA op id at' d lf to)))) rfl (by kernel_rfl) (by kernel_rfl) (by kernel_rfl) (fun _ _ _ h => h) (Or.inl ⟨by rfl, fun w' hw => by (have k0 := hw.2.cell 0; have k1 := hw.2.cell 1; have k2 := hw.2.cell 2; have k3 := hw.2.cell 3; have k4 := hw.2.cell 4; have k5 := hw.2.cell 5; have k6 := hw.2.cell 6; have k7 := hw.2.cell 7; have k8 := hw.2.cell 8; have k9 := hw.2.cell 9; have k10 := hw.2.cell 10; have k11 := hw.2.cell 11; have k12 := hw.2.cell 12; simp only [askA, List.getElem?_toArray, List.getElem?_cons_succ, List.getElem?_cons_zero] at k0 k1 k2 k3 k4 k5 k6 k7 k8 k9 k10 k11 k12 ⊢; go_simp)⟩) hHeld ?_
  try simp only [Act.put, List.setIfInBounds_toArray, List.set_cons_zero, List.set_cons_succ]
  refine wpAnyH_take (i := 1) (oi := ⟨some 27, _, _, _, _, _⟩) (v := (.pointer (some ⟨lp, 0, none⟩))) rfl (by kernel_rfl) (by kernel_rfl) (by kernel_rfl) (fun _ _ _ h => h) (Or.inl ⟨by rfl, fun w' hw => by go_simp⟩) hHeld ?_
  try simp only [Act.put, List.setIfInBounds_toArray, List.set_cons_zero, List.set_cons_succ]
  refine wpAnyH_take (i := 2) (oi := ⟨some 28, _, _, _, _, _⟩) (v := (.pointer (some ⟨lp, 0, none⟩))) rfl (by kernel_rfl) (by kernel_rfl) (by kernel_rfl) (fun _ _ _ h => h) (Or.inl ⟨by rfl, fun w' hw => by go_simp⟩) hHeld ?_
  try simp only [Act.put, List.setIfInBounds_toArray, List.set_cons_zero, List.set_cons_succ]
  refine wpAnyH_take (i := 3) (oi := ⟨some 29, _, _, _, _, _⟩) (v := (.pointer (some ⟨lp, 1, none⟩))) rfl (by kernel_rfl) (by kernel_rfl) (by kernel_rfl) (fun _ _ _ h => h) (Or.inl ⟨by rfl, fun w' hw => by go_simp⟩) hHeld ?_
  try simp only [Act.put, List.setIfInBounds_toArray, List.set_cons_zero, List.set_cons_succ]
  refine wpAnyH_take (i := 4) (oi := ⟨some 30, _, _, _, _, _⟩) (v := (.pointer (some ⟨lp, 2, none⟩))) rfl (by kernel_rfl) (by kernel_rfl) (by kernel_rfl) (fun _ _ _ h => h) (Or.inl ⟨by rfl, fun w' hw => by go_simp⟩) hHeld ?_
  try simp only [Act.put, List.setIfInBounds_toArray, List.set_cons_zero, List.set_cons_succ]
  refine wpAnyH_take (i := 5) (oi := ⟨some 31, _, _, _, _, _⟩) (v := (.agg #[.int .i64 (N : Int), .int .i64 (S : Int), .int .i64 (T : Int)])) rfl (by kernel_rfl) (by kernel_rfl) (by kernel_rfl) (fun _ _ _ h => h) (Or.inl ⟨by rfl, fun w' hw => by (have k2 := lv2 hw.1; have k3 := lv3 hw.1; have k4 := lv4 hw.1; go_simp)⟩) hHeld ?_
  try simp only [Act.put, List.setIfInBounds_toArray, List.set_cons_zero, List.set_cons_succ]
  refine one_ready 6 rfl (by kernel_rfl) (fun K hK => ?_)
  go_simp
  refine (HA.out _).mono ?_
  rintro e w5 ⟨rfl, hb5⟩
  have ho : Only nobody w4 w5 := Only.of_below hb5
  have hR5 := hR4.only ho (not_nobody _)
  have hO5 := hO4.trans ho
  have hM5 := map_only hM4 ho (not_nobody _)
  refine hK.out _ _ ⟨hHeld.1.only ho (not_nobody _), hHeld.2.only ho (not_nobody _)⟩ (fun hHeld => ?_)
  clear hK K ho hb5 hR4 hO4 hM4
  simp only [List.setIfInBounds_toArray, List.set_cons_zero, List.set_cons_succ]
  refine wpAnyH_take (i := 7) (oi := ⟨some 33, _, _, _, _, _⟩) (v := (.bool false)) rfl (by kernel_rfl) (by kernel_rfl) (by kernel_rfl) (fun _ _ _ h => h) (Or.inl ⟨by rfl, fun w' hw => by go_simp⟩) hHeld ?_
  try simp only [Act.put, List.setIfInBounds_toArray, List.set_cons_zero, List.set_cons_succ]
  refine wpAnyH_done (by kernel_rfl) ?_ _
  have HBx := Lib.hid hHeld.1
  have HAx := Lib.hid hHeld.2
  have HR5 := Lib.hid hR5
  have HO5 := Lib.hid hO5
  have HM5 := Lib.hid hM5
  have HPu := Lib.hid (fun W => puts_any op id at' d lf to W)
  clear hHeld hR5 hO5 hM5
  go_upto_region 4 with fail
  have k0 := HAx.out.cell 0
  have k1 := HAx.out.cell 1
  have k2 := HAx.out.cell 2
  have k3 := HAx.out.cell 3
  have k4 := HAx.out.cell 4
  have k5 := HAx.out.cell 5
  have k6 := HAx.out.cell 6
  have k7 := HAx.out.cell 7
  have k8 := HAx.out.cell 8
  have k9 := HAx.out.cell 9
  have k10 := HAx.out.cell 10
  have k11 := HAx.out.cell 11
  have k12 := HAx.out.cell 12
  simp only [askA, List.getElem?_toArray, List.getElem?_cons_succ, List.getElem?_cons_zero] at k0 k1 k2 k3 k4 k5 k6 k7 k8 k9 k10 k11 k12
  go_wp2_with fail
  refine (HPu.out _).mono ?_
  rintro e w6 ⟨rfl, hb6⟩
  have ho : Only nobody w5 w6 := Only.of_below hb6
  clear k0 k1 k2 k3 k4 k5 k6 k7 k8 k9 k10 k11 k12
  have HB6 := Lib.hid (HBx.out.only ho (not_nobody _))
  have HA6 := Lib.hid (HAx.out.only ho (not_nobody _))
  have HR6 := Lib.hid (HR5.out.only ho (not_nobody _))
  have HM6 := Lib.hid (map_only HM5.out ho (not_nobody _))
  have HO6 := Lib.hid (HO5.out.trans ho)
  have c6 : w6.cell? ⟨lp, 6, none⟩ = some (.map (some bm)) := HB6.out.cell 6
  clear ho hb6 HBx HAx HR5 HM5 HO5
  go_upto_if 36 with fail
  generalize hp : (op == 1 || op == 2) = pb
  go_cut [] from 37 (fun w' => AcMid w lp mp f N S T ov bm nm ab b op id at' d lf to D0 w')
  case first =>
    cases pb with
    | true =>
      go_wp2_with (at_mapUpdate; refine wpList_mapUpdate_in _ rfl (.tmp 40) (.tmp 41) (.tmp 42) 78 rfl 54 101 keyed64 Tryz.underlying78 unitElem bm nm D0 rfl HM6.out hn _ _ (.int .u64 id) rfl rfl (keyOf_int_mk Tryz.underlying54 (WalkArith.wf_u64 (by omega))) (.agg []) [] unitElem_mk ?_; intro w7 hm7 ht7)
      have ht := turned_only ht7
      have HE : Hid (AcMid w lp mp f N S T ov bm nm ab b op id at' d lf to D0 w7) := Lib.hid ⟨(HO6.out.mono (fun _ _ h => absurd h (not_nobody _))).trans ht, HB6.out.only ht (just_ne (map_ne HM6.out HB6.out)), HA6.out.only ht (just_ne (map_ne HM6.out HA6.out)), HR6.out.only ht (just_ne (map_ne HM6.out HR6.out)), nm + 1, Nat.le_refl _, by rw [hp]; exact hm7⟩
      clear hm7 ht7 ht
      go_meet
      case rel => exact HE.out
    | false =>
      have HE : Hid (AcMid w lp mp f N S T ov bm nm ab b op id at' d lf to D0 w6) := Lib.hid ⟨HO6.out.mono (fun _ _ h => absurd h (not_nobody _)), HB6.out, HA6.out, HR6.out, nm, Nat.le_succ _, by rw [hp]; exact HM6.out⟩
      go_wp2_with fail
      go_meet
      case rel => exact HE.out
  case rest =>
    have HC := Lib.hid hcut
    clear hcut HM6 HB6 HA6 HR6 HO6 c6
    obtain ⟨bw, hbw⟩ : ∃ x, wc.heap.size = x := ⟨_, rfl⟩
    obtain ⟨w8, hw8⟩ : ∃ x, wc.alloc (.cells #[.int .u64 0, .int .u64 0, .int .u64 0, .int .u64 0, .int .u64 0, .int .u64 0, .int .u64 0, .int .u64 0, .int .u64 0, .int .u64 0, .int .u64 0, .int .u64 0] 103) = x := ⟨_, rfl⟩
    have hV8 : Var w8 bw nul := by rw [← hw8, ← hbw]; exact Var.new wc nul 103
    have ho8 : Only nobody wc w8 := by rw [← hw8]; exact (Only.refl nobody _).alloc _
    have HB8 := Lib.hid (HC.out.lv.only ho8 (not_nobody _))
    have HV8 := Lib.hid hV8
    have HO8 := Lib.hid ho8
    have HBw := Lib.hid hbw
    clear hV8 ho8
    go_upto_region 7 with fail
    try simp only [hbw]
    try rw [hw8]
    clear hw8 hbw
    have p1 := lv1 HB8.out
    have p2 := lv2 HB8.out
    have p3 := lv3 HB8.out
    have p4 := lv4 HB8.out
    go_wp2_with fail
    refine (HSp.out _).mono ?_
    rintro e w9 ⟨g, cap, rfl, hsp, hb9⟩
    clear p1 p2 p3 p4
    have ho9 : Only nobody w8 w9 := Only.of_below hb9
    have hog : Only (just bm) w w9 := (HC.out.only.trans (HO8.out.mono (fun _ _ h => absurd h (not_nobody _)))).trans (ho9.mono (fun _ _ h => absurd h (not_nobody _)))
    have hwb : w.heap.size ≤ bw := by have := HBw.out; have := HC.out.only.size; omega
    have hw98 : w8.heap.size ≤ w9.heap.size := hb9.size
    have HO9 : Hid (Own w9 (fun i => X i ∨ (w.heap.size ≤ i ∧ i < w9.heap.size)) mp M) := Lib.hid (HO0.out.wide hog (fun i hi => by have hi : i = bm := hi; rw [hi]; exact hX2))
    have HB9 := Lib.hid (HB8.out.only ho9 (not_nobody _))
    have HV9 := Lib.hid (HV8.out.nob ho9)
    have HG9 := Lib.hid hsp
    have HXg : Hid (w.heap.size ≤ g ∧ g < w9.heap.size ∧ bw < g ∧ lp < bw) := Lib.hid (by
      have h1 := hsp.old
      have h2 := hsp.lt
      have h3 := HV8.out.lt
      have h4 := HC.out.lv.lt
      have h5 := HBw.out
      exact ⟨by omega, h2, by omega, by omega⟩)
    have HAsk9 := Lib.hid ((HC.out.ask.only HO8.out (not_nobody _)).only ho9 (not_nobody _))
    have HN9 := Lib.hid ho9
    clear hsp hb9 ho9 HB8 HV8
    go_upto_region 8 with fail
    go_wp2_with fail
    refine (HFe.out (fun i => X i ∨ (w.heap.size ≤ i ∧ i < w9.heap.size)) bw g cap (newB op id at' to d (wasC (fun j => M.c (spot S D f lf j).1 (spot S D f lf j).2) id (L + T))) w9 ⟨hi, by omega⟩ HO9.out (.inl hX1) (.inr ⟨hwb, by have := HXg.out; omega⟩) (.inr ⟨HXg.out.1, HXg.out.2.1⟩) ⟨by have := HXg.out; omega, by have := HXg.out; omega⟩ HB9.out HV9.out ?_).mono ?_
    · exact ⟨Nat.zero_le _, HG9.out.lt, HG9.out.cell⟩
    rintro e w10 ⟨rfl, hfe⟩
    have HB10 := Lib.hid (hfe.kept.box HB9.out ⟨.inl hX1, by have := HXg.out; omega⟩)
    have HO10 := Lib.hid hfe.own
    have HV10 := Lib.hid hfe.was
    have HK10 := Lib.hid hfe.kept
    have HA10 : Hid (Box w10 ab 100 (askA op id at' d lf to)) := Lib.hid (by
      have h1 := (HC.out.ask.only HO8.out (not_nobody _)).lt
      have h2 := HBw.out
      have h3 := HC.out.ask.lt
      exact hfe.kept.box (HAsk9.out) ⟨.inr ⟨HAb.out, by omega⟩, by omega⟩)
    clear hfe HB9 HV9 HO9
    have k0 := HA10.out.cell 0
    have k1 := HA10.out.cell 1
    have k2 := HA10.out.cell 2
    have k3 := HA10.out.cell 3
    have k4 := HA10.out.cell 4
    have k5 := HA10.out.cell 5
    have k6 := HA10.out.cell 6
    have k7 := HA10.out.cell 7
    have k8 := HA10.out.cell 8
    have k9 := HA10.out.cell 9
    have k10 := HA10.out.cell 10
    have k11 := HA10.out.cell 11
    have k12 := HA10.out.cell 12
    simp only [askA, List.getElem?_toArray, List.getElem?_cons_succ, List.getElem?_cons_zero] at k0 k1 k2 k3 k4 k5 k6 k7 k8 k9 k10 k11 k12
    have hwas : wasC (fun j => M.c (spot S D f lf j).1 (spot S D f lf j).2) id (L + T) = wasA S D T f lf id M := by unfold wasA; rw [hL]
    have HOa : Hid (Own w10 (fun i => X i ∨ (w.heap.size ≤ i ∧ i < w9.heap.size)) mp (M.gone (cT (f + 2) (laidA S D T f lf op id at' to d M) M.c (L + T)) (evF S D T f lf (L + T)))) := Lib.hid (by
      have := HO10.out
      rw [hwas] at this
      exact this)
    have HVa : Hid (Var w10 bw (wasA S D T f lf id M)) := Lib.hid (by rw [← hwas]; exact HV10.out)
    clear HO10 HV10 hwas hL
    go_upto_region 9 with fail
    go_wp2_with (with_reducible refine wpList_load_cell rfl (.tmp 17) rfl bw 0 rfl (wasA S D T f lf id M) HVa.out.rng ?_)
    refine (HBk.out _ _).mono ?_
    rintro e w11 ⟨rfl, hb11⟩
    have ho11 : Only nobody w10 w11 := Only.of_below hb11
    have HOb := Lib.hid (HOa.out.none ho11)
    have HVb := Lib.hid (HVa.out.nob ho11)
    have HBb11 := Lib.hid (HB10.out.only ho11 (not_nobody _))
    have HK11 : Hid (Kept (fun j => (X j ∨ (w.heap.size ≤ j ∧ j < w9.heap.size)) ∧ j ≠ bw) w9 w11) := Lib.hid (HK10.out.trans (Kept.of_none ho11))
    clear k0 k1 k2 k3 k4 k5 k6 k7 k8 k9 k10 k11 k12 hb11 ho11 HOa HVa HB10 HK10 HA10
    go_wp2_with fail
    rw [show (L : Int) + (T : Int) = ((L + T : Nat) : Int) from rfl]
    refine (HAd.out (fun i => X i ∨ (w.heap.size ≤ i ∧ i < w9.heap.size)) _ (laidA S D T f lf op id at' to d M) w11 HZL.out HZn.out HOb.out (.inl hX1) HBb11.out).mono ?_
    rintro e w12 ⟨rfl, hO12, hK12⟩
    have HO12 := Lib.hid hO12
    have HB12 := Lib.hid (hK12.box HBb11.out (.inl hX1))
    have HK12 := Lib.hid (HK11.out.trans (hK12.mono (fun j hj => hj.1)))
    have HV12 := Lib.hid (HVb.out.kept hK12 (.inr ⟨hwb, by have := HXg.out; omega⟩))
    clear hO12 hK12 HOb HVb HBb11 HK11 HAd
    go_wp2_with fail
    refine (HAr.out (fun i => X i ∨ (w.heap.size ≤ i ∧ i < w9.heap.size)) w12 _ HMf.out HlMf.out (fun a ha => cT_at ha) HO12.out (.inl hX1) HB12.out).mono ?_
    rintro e w13 ⟨rfl, o, hor, hO13, hK13, hB13⟩
    have HO13 := Lib.hid hO13
    have HB13 := Lib.hid hB13
    have HOr := Lib.hid hor
    have HK13 := Lib.hid ((HK12.out.mono (Y := fun j => (X j ∨ (w.heap.size ≤ j ∧ j < w9.heap.size)) ∧ j ≠ bw ∧ j ≠ lp) (fun j hj => ⟨hj.1, hj.2.1⟩)).trans (hK13.mono (fun j hj => ⟨hj.1, hj.2.2⟩)))
    have HV13 := Lib.hid (HV12.out.kept hK13 ⟨.inr ⟨hwb, by have := HXg.out; omega⟩, by have := HXg.out; omega⟩)
    clear hO13 hB13 hor hK13 HO12 HB12 HK12 HV12 HAr
    have HS13 := Lib.hid (Sps.kept (show Sps w9 0 g (L + T) (spot S D f lf) from ⟨Nat.zero_le _, HG9.out.lt, HG9.out.cell⟩) HK13.out ⟨.inr ⟨HXg.out.1, HXg.out.2.1⟩, by have := HXg.out; omega, by have := HXg.out; omega⟩)
    go_wp2_with fail
    refine (HBa.out (fun i => X i ∨ (w.heap.size ≤ i ∧ i < w9.heap.size)) g cap _ _ (tab3 S D T n P (dpW D lf) (laidA S D T f lf op id at' to d M) o) w13 (HMa.out o HOr.out) (fun a ha => cT_at ha) HO13.out (.inl hX1) (.inr ⟨HXg.out.1, HXg.out.2.1⟩) HB13.out HS13.out).mono ?_
    rintro e w14 ⟨rfl, hG14⟩
    have hO14 : Own w14 (fun i => X i ∨ (w.heap.size ≤ i ∧ i < w9.heap.size)) mp (M.gone (accC S D T f P lf id (nbA S D T f lf op id at' to d M) o M.c) (evA S D T f P lf)) := by
      rw [← HDn.out o]
      exact hG14.own
    have hK14 := hG14.kept
    clear hG14
    have HO14 := Lib.hid hO14
    have HB14 := Lib.hid (hK14.box HB13.out (.inl hX1))
    have HK14 := Lib.hid (HK13.out.trans (hK14.mono (fun j hj => hj.1)))
    have HV14 := Lib.hid (HV13.out.kept hK14 (.inr ⟨hwb, by have := HXg.out; omega⟩))
    clear hO14 hK14 HO13 HB13 HK13 HV13 HS13 HBa HDn
    have HE : Hid (AcEnd w X (fun i => X i ∨ (w.heap.size ≤ i ∧ i < w9.heap.size)) lp mp f N S T b bm nm (ov || !(lostO (tabI D n P (dpW D lf) (laidA S D T f lf op id at' to d M)) S D T o).isEmpty) (if (op == 1 || op == 2) = true then D0.put (.int .u64 id) (.agg []) else D0) (M.gone (accC S D T f P lf id (nbA S D T f lf op id at' to d M) o M.c) (evA S D T f P lf)) w14) := Lib.hid (by
      obtain ⟨F, _, _, hXlt⟩ := HO0.out
      have q1 := HBw.out
      have q2 := HC.out.res.lt
      have q3 := HBb.out
      have q4 := HO8.out.size
      have q5 := hXlt lp hX1
      have q6 := hXlt bm hX2
      have q7 := HXg.out
      obtain ⟨n', m1, m2⟩ := HC.out.ids
      have m3 := map_ne m2 HC.out.lv
      have ho9 := HN9.out
      refine ⟨HO14.out, HB14.out, ⟨n', m1, ?_⟩, ?_, ?_⟩
      · exact map_only (map_only (map_only m2 HO8.out (not_nobody _)) ho9 (not_nobody _)) HK14.out (fun k => k ⟨.inl hX2, by omega, fun e => m3 e.symm⟩)
      · exact HK14.out.box ((HC.out.res.only HO8.out (not_nobody _)).only ho9 (not_nobody _)) ⟨.inr ⟨by omega, by omega⟩, by omega, by omega⟩
      · exact (hog.mono (fun k _ hk h => h.2.2 hk)).trans (HK14.out.mono (fun j hj => ⟨.inl hj.1, by have := hXlt j hj.1; omega, hj.2.1⟩)))
    have HNb : Hid (w.heap.size ≤ b ∧ lp < b ∧ bm < b ∧ b + 1 < w9.heap.size ∧ b + 1 < bw) := Lib.hid (by
      obtain ⟨F, _, _, hXlt⟩ := HO0.out
      have q3 := HBb.out
      have q5 := hXlt lp hX1
      have q6 := hXlt bm hX2
      have q2 := HC.out.res.lt
      have q1 := HBw.out
      have q7 := HXg.out
      exact ⟨by omega, by omega, by omega, by omega, by omega⟩)
    clear HO14 HB14 HK14 hog HC HO8 HN9 HO0
    go_upto_region 12 with fail
    refine held_s (S := fun w' => Var w' bw (wasA S D T f lf id M)) 6 rfl (by kernel_rfl) (HV14.out.drewN 1) (fun hHeld => ?_)
    simp only [Array.replicate_succ, Array.replicate_zero, List.push_toArray, List.nil_append, List.cons_append]
    have hE := HE.out.nob (show Only nobody w14 w14.drew from (Only.refl _ _).drew)
    clear HE HV14
    generalize w14.drew = w15 at *
    refine take_row 0 (oi := ⟨some 67, _, _, _, _, _⟩) (CA (wasA S D T f lf id M)).toList rfl (by kernel_rfl) (by kernel_rfl) (by kernel_rfl) (fun _ _ _ h => h) (by rfl) _ _ rfl _ _ rfl _ (fun w' hw => hw.rng) Tryz.underlying103 rfl (infoCellL (wasA S D T f lf id M)) hHeld ?_
    try simp only [Act.put, List.setIfInBounds_toArray, List.set_cons_zero, List.set_cons_succ]
    refine take_row 2 (oi := ⟨some 69, _, _, _, _, _⟩) (CA (wasA S D T f lf id M)).toList rfl (by kernel_rfl) (by kernel_rfl) (by kernel_rfl) (fun _ _ _ h => h) (by rfl) _ _ rfl _ _ rfl _ (fun w' hw => hw.rng) Tryz.underlying103 rfl (infoCellL (wasA S D T f lf id M)) hHeld ?_
    try simp only [Act.put, List.setIfInBounds_toArray, List.set_cons_zero, List.set_cons_succ]
    refine one_ready 1 rfl (by kernel_rfl) (fun K hK => ?_)
    go_simp
    refine (HDa.out _).mono ?_
    rintro e w16 ⟨rfl, hb⟩
    have ho : Only nobody w15 w16 := Only.of_below hb
    have hE := hE.nob ho
    refine hK.out _ _ (hHeld.nob ho) (fun hHeld => ?_)
    clear hK K hb ho
    simp only [List.setIfInBounds_toArray, List.set_cons_zero, List.set_cons_succ]
    refine one_ready 3 rfl (by kernel_rfl) (fun K hK => ?_)
    go_simp
    refine (HHa.out _).mono ?_
    rintro e w17 ⟨rfl, hb⟩
    have ho : Only nobody w16 w17 := Only.of_below hb
    have hE := hE.nob ho
    refine hK.out _ _ (hHeld.nob ho) (fun hHeld => ?_)
    clear hK K hb ho
    simp only [List.setIfInBounds_toArray, List.set_cons_zero, List.set_cons_succ]
    refine one_ready 4 (o := ⟨none, _, _, _, _, _⟩) rfl (by kernel_rfl) (fun K hK => ?_)
    refine step_store_data rfl (.tmp 14) (.tmp 68) rfl (b + 1) 0 rfl (fun i => wasA S D T f lf id M (3 + i)) rfl (hE.res.there 8 (by decide)) ?_
    have hV2 := hHeld.far (c := b + 1) (by have := HNb.out; omega) (DA (fun i => wasA S D T f lf id M (3 + i))).toList
    refine hK.out _ _ hV2 (fun hHeld => ?_)
    clear hK K hV2
    simp only [List.setIfInBounds_toArray, List.set_cons_zero, List.set_cons_succ]
    refine wpAnyH_take (i := 5) (oi := ⟨some 15, _, _, _, _, _⟩) (v := (.bool (wasA S D T f lf id M 0 == 1))) rfl (by kernel_rfl) (by kernel_rfl) (by kernel_rfl) (fun _ _ _ h => h) (Or.inl ⟨by rfl, fun w' hw => by go_simp⟩) hHeld ?_
    try simp only [Act.put, List.setIfInBounds_toArray, List.set_cons_zero, List.set_cons_succ]
    refine wpAnyH_done (by kernel_rfl) ?_ _
    have HT := Lib.hid (hE.res.there 8 (by decide))
    have HE := Lib.hid (hE.put (DA (fun i => wasA S D T f lf id M (3 + i))).toList HNb.out.1 (fun _ h => .inl h) (.inr ⟨by have := HNb.out; omega, HNb.out.2.2.2.1⟩) HNb.out.2.1 HNb.out.2.2.1)
    clear hHeld hE
    go_wp2_with fail
    exact bodyPost_ret (v := .tuple #[.agg (DA (fun i => wasA S D T f lf id M (3 + i))), .bool (wasA S D T f lf id M 0 == 1)]) (results_ct Tryz.results19 rfl rfl (load_range (World.rangeAt_setCells_same _ (b + 1) 0 (DA (fun i => wasA S D T f lf id M (3 + i))).toList HT.out) Tryz.underlying56 rfl (infoData (fun i => wasA S D T f lf id M (3 + i))))) rfl ⟨rfl, o, HOr.out, HE.out.1, HE.out.2.1, HE.out.2.2.1, HE.out.2.2.2⟩
end Go.Proofs.YtmageeohnfomnaaGreat


namespace Go.Proofs.YtmageeohnfomnaaGreat
set_option maxRecDepth 100000
open Go.RowKit Go.ChangeShapes Go.WideShapes Go.ChangeAt

theorem spot_read (r a : Int) (w : World) : Calls Tryz.prog 43 #[.agg #[.int .i64 r, .int .i64 a]] w fun e w' => e = .returned (.agg #[.int .i64 r, .int .i64 a, .bool false]) ∧ Below w.heap.size w w' := by
  go_enter Tryz.func43, Tryz.ntmps43
  go_wp2_with fail
  exact bodyPost_ret (v := .agg #[.int .i64 r, .int .i64 a, .bool false]) (by simp [results, Tryz.results43, go_sem]) rfl ⟨rfl, ((Below.refl _ w).alloc (Nat.le_refl _) _).alloc (by simp) _⟩
theorem spot_written (r a : Int) (w : World) : Calls Tryz.prog 44 #[.agg #[.int .i64 r, .int .i64 a]] w fun e w' => e = .returned (.agg #[.int .i64 r, .int .i64 a, .bool true]) ∧ Below w.heap.size w w' := by
  go_enter Tryz.func44, Tryz.ntmps44
  go_wp2_with fail
  exact bodyPost_ret (v := .agg #[.int .i64 r, .int .i64 a, .bool true]) (by simp [results, Tryz.results44, go_sem]) rfl ⟨rfl, ((Below.refl _ w).alloc (Nat.le_refl _) _).alloc (by simp) _⟩
end Go.Proofs.YtmageeohnfomnaaGreat


namespace Go.Proofs.YtmageeohnfomnaaGreat
set_option maxRecDepth 100000
open Go.RowKit Go.ChangeShapes Go.WideShapes Go.ChangeAt

section
variable {w : World} {b f N S T : Nat}
end
theorem sp_0 {u : World} {b : Nat} {x y : Int} (h : Box u b 92 #[.int .i64 x, .int .i64 y]) : u.cell? ⟨b, 0, none⟩ = some (.int .i64 x) := h.cell 0
theorem sp_1 {u : World} {b : Nat} {x y : Int} (h : Box u b 92 #[.int .i64 x, .int .i64 y]) : u.cell? ⟨b, 1, none⟩ = some (.int .i64 y) := h.cell 1
structure EvsIn (w : World) (pb g g2 : Nat) (f N S T L Q D lf : Nat) (wr : World) : Prop where
  box : Box wr pb 77 (plA f N S T)
  way : Sps wr w.heap.size g (L + T) (spot S D f lf)
  tab : Sps wr w.heap.size g2 Q (fun i => (f + 2, i))
  bel : Below w.heap.size w wr
section
variable {w wr wx : World} {pb g g2 f N S T L Q D lf : Nat}
end
theorem EvAt.stay {w1 wr wx : World} {v : Value} {l : List IEv} (h : EvAt w1 v l wr) (hx : Below wr.heap.size wr wx) : EvAt w1 v l wx :=
  ⟨row_stay h.own (fun g _ hg => hx.block g hg), h.below.trans (hx.mono h.below.size)⟩
theorem box_grown {wx w7 : World} {row : Option Nat} {xb : Nat} {t : TypeId} {cs : Array Value} (hg : wx.grownBy w7 row) (hb : Box wx xb t cs) (hne : ∀ k, row = some k → k ≠ xb) : Box w7 xb t cs :=
  hb.only ((Only.refl (fun k => row = some k) wx).grown hg (fun _ e => .inl e)) (fun e => hne _ e rfl)
theorem EvAt.one {w1 : World} {v : Value} {l : List IEv} {n : Nat} {e : IEv} {A : Option Addr} {cap : Nat} {t : TypeId} {wr w7 : World} (h : EvAt w1 v l wr) (hn : l.length = n)
    (ho : w7.ownsRow w1.heap.size 87 3 (.slice A (n + 1) cap) (n + 1) (ievs l ++ ievs [e])) (hg : (wr.alloc (.cells (ievs [e]).toArray t)).grownBy w7 v.ownBlock) : EvAt w1 (.slice A (n + 1) cap) (l ++ [e]) w7 := by
  subst hn
  exact h.next (m := [e]) (Below.refl _ wr) ho hg
theorem EvAt.two {w1 : World} {v : Value} {l : List IEv} {n : Nat} {e e' : IEv} {A : Option Addr} {cap : Nat} {t : TypeId} {wr w7 : World} (h : EvAt w1 v l wr) (hn : l.length = n)
    (ho : w7.ownsRow w1.heap.size 87 3 (.slice A (n + 2) cap) (n + 2) (ievs l ++ ievs [e, e'])) (hg : (wr.alloc (.cells (ievs [e, e']).toArray t)).grownBy w7 v.ownBlock) : EvAt w1 (.slice A (n + 2) cap) (l ++ [e, e']) w7 := by
  subst hn
  exact h.next (m := [e, e']) (Below.refl _ wr) ho hg
theorem EvAt.all {w1 : World} {v : Value} {l m : List IEv} {A : Option Addr} {cap : Nat} {wr w7 : World} (h : EvAt w1 v l wr)
    (ho : w7.ownsRow w1.heap.size 87 3 (.slice A (l.length + m.length) cap) (l.length + m.length) (ievs l ++ ievs m)) (hg : wr.grownBy w7 v.ownBlock) : EvAt w1 (.slice A (l.length + m.length) cap) (l ++ m) w7 := by
  constructor
  · rw [List.length_append, ievs_append]
    exact ho
  · exact h.below.grown hg h.below.size (fun b e => (h.own.lt b e).1)
end Go.Proofs.YtmageeohnfomnaaGreat


namespace Go.Proofs.YtmageeohnfomnaaGreat
set_option maxRecDepth 100000
open Go.RowKit Go.ChangeShapes Go.WideShapes Go.ChangeAt Go.Maps

def lnOk (M : MS) (f : Int) (R : Bool) (a b d : Int) : Bool := R && (!decide ((M.size f : Int) < a) && (!decide ((M.size (wrap64 (f + 1)) : Int) < b) && !decide ((M.size (wrap64 (f + 2)) : Int) < d)))
def lnE (M : MS) (f N S T : Int) : Int := if lnOk M f (lvR N S T) (lvA N S T) (lvB N S T) (lvD N S T) then 0 else 1
set_option maxHeartbeats 1000000 in
theorem tree_all (f N S T : Int) (w : World) : Calls Tryz.prog 36 #[.agg #[.int .i64 f, .int .i64 N, .int .i64 S, .int .i64 T]] w fun e w' => e = .returned (.int .i64 (f)) ∧ Below w.heap.size w w' := by
  go_enter Tryz.func36, Tryz.ntmps36
  go_wp2_with fail
  go_ret
  exact ⟨rfl, (Below.refl _ w).alloc (Nat.le_refl _) _⟩
set_option maxHeartbeats 1000000 in
theorem stash_all (f N S T : Int) (w : World) : Calls Tryz.prog 37 #[.agg #[.int .i64 f, .int .i64 N, .int .i64 S, .int .i64 T]] w fun e w' => e = .returned (.int .i64 (wrap64 (f + 1))) ∧ Below w.heap.size w w' := by
  go_enter Tryz.func37, Tryz.ntmps37
  go_wp2_with fail
  go_ret
  exact ⟨rfl, (Below.refl _ w).alloc (Nat.le_refl _) _⟩
set_option maxHeartbeats 1000000 in
theorem table_all (f N S T : Int) (w : World) : Calls Tryz.prog 38 #[.agg #[.int .i64 f, .int .i64 N, .int .i64 S, .int .i64 T]] w fun e w' => e = .returned (.int .i64 (wrap64 (f + 2))) ∧ Below w.heap.size w w' := by
  go_enter Tryz.func38, Tryz.ntmps38
  go_wp2_with fail
  go_ret
  exact ⟨rfl, (Below.refl _ w).alloc (Nat.le_refl _) _⟩
set_option maxHeartbeats 2000000 in
theorem lnew_all (X : Nat → Prop) (p : Nat) (f N S T : Int) (M : MS) (w : World) (hN : Rg N) (hO : Own w X p M) :
    Calls Tryz.prog 11 #[.pointer (some ⟨p, 0, none⟩), .int .i64 f, .agg #[.int .i64 N, .int .i64 S, .int .i64 T]] w fun e w' => ∃ v, e = .returned (.tuple #[v, .int .i64 (lnE M f N S T)]) ∧ Only nobody w w' := by
  have HR := Lib.hid (fun W => lright_all N S T W hN)
  have HZ := Lib.hid (fun W => lsizes_all N S T W hN)
  have HT0 := Lib.hid (fun W => tree_all f N S T W)
  have HT1 := Lib.hid (fun W => stash_all f N S T W)
  have HT2 := Lib.hid (fun W => table_all f N S T W)
  have HO := Lib.hid hO
  clear hO hN
  unfold lnE
  generalize lvR N S T = R at *
  generalize lvA N S T = za at *
  generalize lvB N S T = zb at *
  generalize lvD N S T = zd at *
  obtain ⟨f1, hf1⟩ : ∃ x, x = wrap64 (f + 1) := ⟨_, rfl⟩
  obtain ⟨f2, hf2⟩ : ∃ x, x = wrap64 (f + 2) := ⟨_, rfl⟩
  unfold lnOk
  rw [← hf1] at HT1 ⊢
  rw [← hf2] at HT2 ⊢
  clear hf1 hf2
  obtain ⟨q, hq⟩ : ∃ q : Int, q = if (R && (!decide ((M.size f : Int) < za) && (!decide ((M.size f1 : Int) < zb) && !decide ((M.size f2 : Int) < zd)))) = true then 0 else 1 := ⟨_, rfl⟩
  rw [← hq]
  have HQ := Lib.hid hq
  clear hq
  obtain ⟨b, hb⟩ : ∃ b, w.heap.size = b := ⟨_, rfl⟩
  obtain ⟨w2, hw2⟩ : ∃ w2, ((w.alloc (.cells #[.int .i64 N, .int .i64 S, .int .i64 T] 23)).alloc (.cells #[.int .i64 f, .int .i64 N, .int .i64 S, .int .i64 T] 77)) = w2 := ⟨_, rfl⟩
  have hx : Box w2 b 23 #[.int .i64 N, .int .i64 S, .int .i64 T] := by rw [← hw2, ← hb]; exact (Box.new w _ _).alloc _
  have hy : Box w2 (b + 1) 77 #[.int .i64 f, .int .i64 N, .int .i64 S, .int .i64 T] := by
    rw [← hw2, ← hb]
    have := Box.new (w.alloc (.cells #[.int .i64 N, .int .i64 S, .int .i64 T] 23)) 77 #[.int .i64 f, .int .i64 N, .int .i64 S, .int .i64 T]
    simpa using this
  have hbl : Below w.heap.size w w2 := by rw [← hw2]; exact ((Below.refl _ w).alloc (Nat.le_refl _) _).alloc (by simp) _
  have HA : Hid ((Box w2 b 23 #[.int .i64 N, .int .i64 S, .int .i64 T] ∧ Box w2 (b + 1) 77 #[.int .i64 f, .int .i64 N, .int .i64 S, .int .i64 T]) ∧ Below w.heap.size w w2) := Lib.hid ⟨⟨hx, hy⟩, hbl⟩
  have HNx : ∀ (wa wb : World), ((Box wa b 23 #[.int .i64 N, .int .i64 S, .int .i64 T] ∧ Box wa (b + 1) 77 #[.int .i64 f, .int .i64 N, .int .i64 S, .int .i64 T]) ∧ Below w.heap.size w wa) → Below wa.heap.size wa wb →
      ((Box wb b 23 #[.int .i64 N, .int .i64 S, .int .i64 T] ∧ Box wb (b + 1) 77 #[.int .i64 f, .int .i64 N, .int .i64 S, .int .i64 T]) ∧ Below w.heap.size w wb) := fun wa wb h hb => ⟨⟨h.1.1.of (hb.block _ h.1.1.lt), h.1.2.of (hb.block _ h.1.2.lt)⟩, h.2.trans (hb.mono h.2.size)⟩
  have HN := Lib.hid HNx
  have HW2 := Lib.hid hw2
  have HBb := Lib.hid hb
  have k0 : w2.cell? ⟨b, 0, none⟩ = some (.int .i64 N) := hx.cell 0
  have k1 : w2.cell? ⟨b, 1, none⟩ = some (.int .i64 S) := hx.cell 1
  have k2 : w2.cell? ⟨b, 2, none⟩ = some (.int .i64 T) := hx.cell 2
  clear HNx hx hy hbl hw2 hb
  go_enter Tryz.func11, Tryz.ntmps11
  go_upto_region 2 with fail
  simp only [HBb.out]
  rw [HW2.out]
  go_wp2_with fail
  refine (HZ.out _).mono ?_
  rintro e w3 ⟨rfl, hb3⟩
  have HA3 := Lib.hid (HN.out _ _ HA.out hb3)
  have k0 : w3.cell? ⟨b, 0, none⟩ = some (.int .i64 N) := HA3.out.1.1.cell 0
  have k1 : w3.cell? ⟨b, 1, none⟩ = some (.int .i64 S) := HA3.out.1.1.cell 1
  have k2 : w3.cell? ⟨b, 2, none⟩ = some (.int .i64 T) := HA3.out.1.1.cell 2
  clear hb3 HA
  go_wp2_with fail
  refine (HR.out _).mono ?_
  rintro e w4 ⟨rfl, hb4⟩
  have HA4 := Lib.hid (HN.out _ _ HA3.out hb4)
  have p0 : w4.cell? ⟨b + 1, 0, none⟩ = some (.int .i64 f) := HA4.out.1.2.cell 0
  have p1 : w4.cell? ⟨b + 1, 1, none⟩ = some (.int .i64 N) := HA4.out.1.2.cell 1
  have p2 : w4.cell? ⟨b + 1, 2, none⟩ = some (.int .i64 S) := HA4.out.1.2.cell 2
  have p3 : w4.cell? ⟨b + 1, 3, none⟩ = some (.int .i64 T) := HA4.out.1.2.cell 3
  clear hb4 HA3 k0 k1 k2
  cases R
  · have hq : q = 1 := by rw [HQ.out]; rfl
    clear HQ
    subst hq
    go_wp2_with fail
    go_ret2
    exact ⟨_, rfl, Only.of_below HA4.out.2⟩
  go_wp2_with fail
  refine (HT0.out _).mono ?_
  rintro e w5 ⟨rfl, hb5⟩
  have HA5 := Lib.hid (HN.out _ _ HA4.out hb5)
  clear hb5 HA4 p0 p1 p2 p3
  go_wp2_with fail
  refine (own_size _ _ _ _ _ (HO.out.none (Only.of_below HA5.out.2))).mono ?_
  rintro e wq5 ⟨rfl, rfl⟩
  have p0 : w5.cell? ⟨b + 1, 0, none⟩ = some (.int .i64 f) := HA5.out.1.2.cell 0
  have p1 : w5.cell? ⟨b + 1, 1, none⟩ = some (.int .i64 N) := HA5.out.1.2.cell 1
  have p2 : w5.cell? ⟨b + 1, 2, none⟩ = some (.int .i64 S) := HA5.out.1.2.cell 2
  have p3 : w5.cell? ⟨b + 1, 3, none⟩ = some (.int .i64 T) := HA5.out.1.2.cell 3
  cases g0 : decide ((M.size f : Int) < za)
  case true =>
    have hq : q = 1 := by rw [HQ.out, g0]; rfl
    clear HQ
    subst hq
    go_wp2_with fail
    go_ret2
    exact ⟨_, rfl, Only.of_below HA5.out.2⟩
  go_wp2_with fail
  refine (HT1.out _).mono ?_
  rintro e w7 ⟨rfl, hb7⟩
  have HA7 := Lib.hid (HN.out _ _ HA5.out hb7)
  clear hb7 HA5 p0 p1 p2 p3
  go_wp2_with fail
  refine (own_size _ _ _ _ _ (HO.out.none (Only.of_below HA7.out.2))).mono ?_
  rintro e wq7 ⟨rfl, rfl⟩
  have p0 : w7.cell? ⟨b + 1, 0, none⟩ = some (.int .i64 f) := HA7.out.1.2.cell 0
  have p1 : w7.cell? ⟨b + 1, 1, none⟩ = some (.int .i64 N) := HA7.out.1.2.cell 1
  have p2 : w7.cell? ⟨b + 1, 2, none⟩ = some (.int .i64 S) := HA7.out.1.2.cell 2
  have p3 : w7.cell? ⟨b + 1, 3, none⟩ = some (.int .i64 T) := HA7.out.1.2.cell 3
  cases g1 : decide ((M.size f1 : Int) < zb)
  case true =>
    have hq : q = 1 := by rw [HQ.out, g0, g1]; rfl
    clear HQ
    subst hq
    go_wp2_with fail
    go_ret2
    exact ⟨_, rfl, Only.of_below HA7.out.2⟩
  go_wp2_with fail
  refine (HT2.out _).mono ?_
  rintro e w9 ⟨rfl, hb9⟩
  have HA9 := Lib.hid (HN.out _ _ HA7.out hb9)
  clear hb9 HA7 p0 p1 p2 p3
  go_wp2_with fail
  refine (own_size _ _ _ _ _ (HO.out.none (Only.of_below HA9.out.2))).mono ?_
  rintro e wq9 ⟨rfl, rfl⟩
  have p0 : w9.cell? ⟨b + 1, 0, none⟩ = some (.int .i64 f) := HA9.out.1.2.cell 0
  have p1 : w9.cell? ⟨b + 1, 1, none⟩ = some (.int .i64 N) := HA9.out.1.2.cell 1
  have p2 : w9.cell? ⟨b + 1, 2, none⟩ = some (.int .i64 S) := HA9.out.1.2.cell 2
  have p3 : w9.cell? ⟨b + 1, 3, none⟩ = some (.int .i64 T) := HA9.out.1.2.cell 3
  cases g2 : decide ((M.size f2 : Int) < zd)
  case true =>
    have hq : q = 1 := by rw [HQ.out, g0, g1, g2]; rfl
    clear HQ
    subst hq
    go_wp2_with fail
    go_ret2
    exact ⟨_, rfl, Only.of_below HA9.out.2⟩
  have hq : q = 0 := by rw [HQ.out, g0, g1, g2]; rfl
  clear HQ
  subst hq
  have hmm := @run_makeMap Tryz.prog
  go_wp2_with fail
  go_ret2
  exact ⟨_, rfl, ((Only.of_below (S := nobody) HA9.out.2).alloc _).alloc _⟩
end Go.Proofs.YtmageeohnfomnaaGreat

