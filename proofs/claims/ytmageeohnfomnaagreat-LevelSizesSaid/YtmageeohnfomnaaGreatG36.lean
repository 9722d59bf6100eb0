/- Texts of ours put together: LevelMade, LevelStep, LevelShown, RLevelNew. -/
import Derived.Below
import Derived.BigQuiet
import Derived.BigRegion
import Derived.Carry
import Derived.ChangeArms
import Derived.ChangeKeysEq
import Derived.ChangeSlices
import Derived.Deep.Cut
import Derived.Deep.Draws
import Derived.Deep.MidRow
import Derived.Deep.OwnRows
import Derived.Deep.Quiet
import Derived.Deep.QuietTactic
import Derived.Deep.RegionHeld
import Derived.Deep.RegionHeld3
import Derived.Deep.Slices
import Derived.Deep.WholeRow
import Derived.Laws.AppendOwn
import Derived.Laws.BitsAllLaws
import Derived.Laws.CopyOwn
import Derived.Laws.StructEq
import Derived.Lib.BitFns
import Derived.Lib.Hide
import Derived.LoopIn
import Derived.LoopNIn
import Derived.Maps.AppendAt
import Derived.Maps.OwnSet
import Derived.OpenShut
import Derived.OwnWalk
import Derived.OwnWalkIn
import Derived.ProofKit
import Derived.RangeFuncBound
import Derived.RangeFuncCalls
import Derived.RangeFuncLeaves
import Derived.RangeFuncNested
import Derived.RegionTactic
import Derived.RowKit3
import Derived.Shelf.Abstract
import Derived.Shelf.Bits.Mul64
import Derived.Shelf.RegionOpen
import Derived.Shelf.SlSortCmp.WholeK
import Derived.Shelf.Spec.BitsCarry
import Derived.Shelf.Strconv.Itoa0
import Derived.SizedLaws
import Derived.Sort.Grow
import Derived.StillTailTactics
import Derived.TacticsInMore
import Derived.WalkKit
import Derived.WideShapes
import Derived.Test.YtmageeohnfomnaaGreatProg
import Derived.OrdersIn
import Derived.Test.YtmageeohnfomnaaGreatG0
import Derived.Test.YtmageeohnfomnaaGreatG16
import Derived.Test.YtmageeohnfomnaaGreatG20
import Derived.Test.YtmageeohnfomnaaGreatG1
import Derived.Test.YtmageeohnfomnaaGreatG19
import Derived.Test.YtmageeohnfomnaaGreatG21
import Derived.Test.YtmageeohnfomnaaGreatG5
import Derived.Test.YtmageeohnfomnaaGreatG2
import Derived.Test.YtmageeohnfomnaaGreatG27
import Derived.Test.YtmageeohnfomnaaGreatG29
import Derived.Test.YtmageeohnfomnaaGreatG15
import Derived.Test.YtmageeohnfomnaaGreatG6
import Derived.Test.YtmageeohnfomnaaGreatG35
import Derived.Test.YtmageeohnfomnaaGreatG32
import Derived.Test.YtmageeohnfomnaaGreatG10
import Derived.Test.YtmageeohnfomnaaGreatG24
import Derived.Test.YtmageeohnfomnaaGreatG23
import Derived.Test.YtmageeohnfomnaaGreatG25
import Derived.Test.YtmageeohnfomnaaGreatG26
import Derived.Test.YtmageeohnfomnaaGreatG39
import Derived.Test.YtmageeohnfomnaaGreatG37
import Derived.Test.YtmageeohnfomnaaGreatG17
import Derived.Test.YtmageeohnfomnaaGreatG3
import Derived.Test.YtmageeohnfomnaaGreatG33
import Derived.Test.YtmageeohnfomnaaGreatG30
import Derived.Test.YtmageeohnfomnaaGreatG31
import Derived.Test.YtmageeohnfomnaaGreatG14
import Derived.Test.YtmageeohnfomnaaGreatG42
import Derived.Test.YtmageeohnfomnaaGreatG11
import Derived.Test.YtmageeohnfomnaaGreatG46
import Derived.Test.YtmageeohnfomnaaGreatG43
import Derived.Test.YtmageeohnfomnaaGreatG47
namespace Go.Proofs.YtmageeohnfomnaaGreat
set_option maxRecDepth 100000
open Go.RowKit Go.ChangeShapes Go.WideShapes Go.ChangeAt Go.Maps

def mdL (S D T Q : Nat) : List Nat := [1, S * (2 * 2 ^ D - 1), T, Q]
def mdM (S D T Q : Nat) : MS := MS.new 4 (fun i => (mdL S D T Q).getD i 0)
theorem mdM_lvm (S D T Q : Nat) : LvM (mdM S D T Q) 1 S D T Q := ⟨by show 1 + 2 < 4; decide, Nat.le_refl _, Nat.le_refl _, Nat.le_refl _, fun _ _ => wd_zero, by show ([] : List Ev).length < 900000000; decide⟩
theorem mdM_wk (S D T Q : Nat) : Wk S D T (cellsE 1 (mdM S D T Q).c) := fun _ _ => .inl rfl
theorem mdM_inv (S D T Q : Nat) : LvInv S D T (cellsE 1 (mdM S D T Q).c) (fun _ => none) := LvInv.new S D T
def old2 (w : World) (lp bm : Nat) : Nat → Prop := fun i => old w i ∨ i = lp ∨ i = bm
set_option maxHeartbeats 2000000 in
theorem made_of {H : Type} {N S T D L n Q P : Nat} (h : Conf N S T D L n Q P) (w : World) (hsz : S * (2 * 2 ^ D - 1) ≤ 4096) :
    Calls Tryz.prog 18 #[.agg #[.int .i64 (N : Int), .int .i64 (S : Int), .int .i64 (T : Int)]] w fun e w' =>
      ∃ mp lp bm, e = .returned (.tuple #[.pointer (some ⟨mp, 0, none⟩), .pointer (some ⟨lp, 0, none⟩)]) ∧ Only nobody w w' ∧ w.heap.size ≤ lp ∧ w.heap.size ≤ bm ∧
        Lv H N S D T Q (old2 w lp bm) mp lp bm 1 false [] (mdM S D T Q) 0 w' := by
  have HZ := Lib.hid (fun W => sizes_of h W)
  have HNw := Lib.hid (fun X p W (ho : Own W X p (mdM S D T Q)) => lnew_of (H := H) h X p 1 (mdM S D T Q) W (mdM_lvm S D T Q) (by decide) ho)
  have hL : (decide (1 ≤ (mdL S D T Q).length) && decide ((mdL S D T Q).length ≤ 16) && (mdL S D T Q).all fun s => decide (1 ≤ s) && decide (s ≤ 4096)) = true := by
    have h1 := h.s1
    have h2 := h.t1
    have h3 := h.t64
    have h4 := h.big
    have h6 := h.le
    have h5 : 1 ≤ S * (2 * 2 ^ D - 1) := Nat.mul_pos h1 (by have := Nat.two_pow_pos D; omega)
    unfold mdL
    simp only [List.length_cons, List.length_nil, List.all_cons, List.all_nil, Bool.and_true, Bool.and_eq_true, decide_eq_true_eq]
    omega
  have HNm := Lib.hid (fun W cs t hc => new_list (mdL S D T Q) hL W cs t hc)
  obtain ⟨b, hb⟩ : ∃ b, w.heap.size = b := ⟨_, rfl⟩
  obtain ⟨w2, hw2⟩ : ∃ w2, w.alloc (.cells #[.int .i64 (N : Int), .int .i64 (S : Int), .int .i64 (T : Int)] 23) = w2 := ⟨_, rfl⟩
  have hx : Box w2 b 23 #[.int .i64 (N : Int), .int .i64 (S : Int), .int .i64 (T : Int)] := by rw [← hw2, ← hb]; exact Box.new w _ _
  have ho2 : Only nobody w w2 := by rw [← hw2]; exact (Only.refl _ w).alloc _
  have HX := Lib.hid hx
  have HO := Lib.hid ho2
  have HW2 := Lib.hid hw2
  have HBb := Lib.hid hb
  have k0 : w2.cell? ⟨b, 0, none⟩ = some (.int .i64 (N : Int)) := hx.cell 0
  have k1 : w2.cell? ⟨b, 1, none⟩ = some (.int .i64 (S : Int)) := hx.cell 1
  have k2 : w2.cell? ⟨b, 2, none⟩ = some (.int .i64 (T : Int)) := hx.cell 2
  clear hx ho2 hw2 hb hL hsz h
  go_enter Tryz.func18, Tryz.ntmps18
  go_upto_region 1 with fail
  simp only [HBb.out]
  rw [HW2.out]
  go_wp2_with fail
  refine (HZ.out _).mono ?_
  rintro e w3 ⟨rfl, hb3⟩
  have HO3 := Lib.hid (HO.out.trans (Only.of_below hb3))
  have HX3 := Lib.hid (HX.out.of (hb3.block _ HX.out.lt))
  clear hb3 k0 k1 k2 HX HO
  go_wp2_with fail
  refine (HNm.out w3 _ _ rfl).mono ?_
  rintro e w4 ⟨p, rfl, hO4, ho4⟩
  have HX4 := Lib.hid ((HX3.out.alloc (.cells _ _)).only ho4 (not_nobody _))
  have HO4 := Lib.hid ((HO3.out.alloc (.cells _ _)).trans ho4)
  have HOw := Lib.hid hO4
  have hs34 := ho4.size
  clear hO4 ho4 HX3
  have k0 : w4.cell? ⟨b, 0, none⟩ = some (.int .i64 (N : Int)) := HX4.out.cell 0
  have k1 : w4.cell? ⟨b, 1, none⟩ = some (.int .i64 (S : Int)) := HX4.out.cell 1
  have k2 : w4.cell? ⟨b, 2, none⟩ = some (.int .i64 (T : Int)) := HX4.out.cell 2
  go_wp2_with fail
  refine (HNw.out _ p w4 HOw.out).mono ?_
  rintro e w5 ⟨lp, bm, rfl, ho5, hlp, hbm, hB, hm⟩
  have hown := (HOw.out.grow ho5)
  have hs5 := HO4.out.size
  have hs3 := HO3.out.size
  have HE : Hid (Only nobody w w5 ∧ w.heap.size ≤ lp ∧ w.heap.size ≤ bm ∧ Lv H N S D T Q (old2 w lp bm) p lp bm 1 false [] (mdM S D T Q) 0 w5) := Lib.hid ⟨HO4.out.trans ho5, by omega, by omega,
    hown.weak (fun i hi => by
      rcases hi with hi | rfl | rfl
      · exact .inl (by show i < _; have hi : i < w.heap.size := hi; simp; omega)
      · exact .inr ⟨hlp, hB.lt⟩
      · exact .inr ⟨hbm, map_lt hm⟩), .inr (.inl rfl), .inr (.inr rfl), hB, ⟨0, Nat.le_refl _, hm⟩, mdM_lvm S D T Q, Nat.zero_le _, mdM_wk S D T Q⟩
  clear ho5 hlp hbm hB hm hown hs5 hs3 hs34 k0 k1 k2 HOw HO4 HX4
  go_wp2_with fail
  go_ret2
  exact ⟨p, lp, bm, rfl, HE.out⟩
end Go.Proofs.YtmageeohnfomnaaGreat


namespace Go.Proofs.YtmageeohnfomnaaGreat
set_option maxRecDepth 100000
open Go.RowKit Go.ChangeShapes Go.WideShapes Go.ChangeAt Go.Maps

theorem DA_congr {d e : Nat → Int} (h : ∀ i, i < 8 → d i = e i) : DA d = DA e := by
  unfold DA
  rw [h 0 (by decide), h 1 (by decide), h 2 (by decide), h 3 (by decide), h 4 (by decide), h 5 (by decide), h 6 (by decide), h 7 (by decide)]
theorem cellB_data (id : Int) (b : Option (Nat × (Nat → Int))) : DA (fun i => cellB id b (3 + i)) = DA (dat b) := by
  cases b with
  | none => rfl
  | some b =>
    refine DA_congr fun i hi => ?_
    show blk id b.1 b.2 (3 + i) = b.2 i
    unfold blk
    rw [if_neg (by omega), if_neg (by omega), if_neg (by omega), if_pos (by omega), show 3 + i - 3 = i by omega]
theorem cellB_has (id : Int) (b : Option (Nat × (Nat → Int))) : (cellB id b 0 == 1) = b.isSome := by
  cases b <;> rfl
def nextB (m : Bm) (a : Ask) : Bm := setB m a.id (newM a.op a.at' a.to.toNat a.d (m a.id))
section
variable {N S T D L n Q P : Nat} {f : Nat} {M : MS} {m : Bm} {a : Ask} {o : List Nat}
theorem ask_was (h : Conf N S T D L n Q P) (hI : LvInv S D T (cellsE f M.c) m) (ha : a.ok N = true) (hat : ∀ l d, m a.id = some (l, d) → (l : Int) = a.lf) : wasA S D T f a.lf.toNat a.id M = cellB a.id (m a.id) := by
  obtain ⟨h1, h2, h3, h4, h5⟩ := ask_of ha
  have hN := h.hN
  exact hI.told h.s1 (lf := a.lf.toNat) (by omega) (fun l d e => by have := hat l d e; omega)
theorem ask_put (h : Conf N S T D L n Q P) (hI : LvInv S D T (cellsE f M.c) m) (ha : a.ok N = true) (hat : ∀ l d, m a.id = some (l, d) → (l : Int) = a.lf) : nbA S D T f a.lf.toNat a.op a.id a.at' a.to a.d M = cellB a.id (newM a.op a.at' a.to.toNat a.d (m a.id)) := by
  obtain ⟨h1, h2, h3, h4, h5⟩ := ask_of ha
  unfold nbA
  rw [ask_was h hI ha hat]
  obtain ⟨to, hto⟩ : ∃ to : Nat, a.to = (to : Int) := ⟨a.to.toNat, by omega⟩
  rw [hto]
  exact newB_cell _ h1 h5
theorem newM_leaf {op at' : Int} {to : Nat} {d : Nat → Int} {b : Option (Nat × (Nat → Int))} {l : Nat} {e : Nat → Int} (h : newM op at' to d b = some (l, e)) : l = to := by
  unfold newM at h
  split at h
  · cases h
  · split at h
    · cases b with
      | none => cases h
      | some b => injection h with h; injection h with h _; exact h.symm
    · split at h
      · injection h with h; injection h with h _; exact h.symm
      · injection h with h; injection h with h _; exact h.symm
theorem ask_next (h : Conf N S T D L n Q P) (hI : LvInv S D T (cellsE f M.c) m) (ha : a.ok N = true) (hi : 0 ≤ a.id) (hat : ∀ l d, m a.id = some (l, d) → (l : Int) = a.lf) (ho : IsOrd (acT S D T f n P a M) n o) (hov : acO N S D T f n P a M o = false) :
    LvInv S D T (cellsE f (acM N S D T f P a M o).c) (nextB m a) := by
  obtain ⟨h1, h2, h3, h4, h5⟩ := ask_of ha
  have hN := h.hN
  have hlf : a.lf.toNat < 2 ^ D := by omega
  have hn : n = (D + 1) * S + T + 1 := by have := h.hL; have := h.hn; omega
  have hP : n ≤ 2 ^ P := by have := h.le; have := h.hQ; omega
  have hp := ask_put h hI ha hat
  have hlost : lostO (acT S D T f n P a M) S D T o = [] := by
    unfold acO at hov
    rw [ha, Bool.true_and] at hov
    cases e : lostO (acT S D T f n P a M) S D T o with
    | nil => rfl
    | cons x l => rw [e] at hov; cases hov
  have e1 : acM N S D T f P a M o = M.gone (accC S D T f P a.lf.toNat a.id (nbA S D T f a.lf.toNat a.op a.id a.at' a.to a.d M) o M.c) (evA S D T f P a.lf.toNat) := by unfold acM; rw [ha]; rfl
  rw [e1]
  have ho' : IsOrd (tabI D n P (dpW D a.lf.toNat) (laidX S D T a.lf.toNat (cellsE f M.c) a.id (cellB a.id (newM a.op a.at' a.to.toNat a.d (m a.id))))) n o := by rw [← hp]; exact ho
  have hl' : lostO (tabI D n P (dpW D a.lf.toNat) (laidX S D T a.lf.toNat (cellsE f M.c) a.id (cellB a.id (newM a.op a.at' a.to.toNat a.d (m a.id))))) S D T o = [] := by rw [← hp]; exact hlost
  unfold nextB
  refine hI.next h.s1 h.hD hlf (fun l d e => by have := hat l d e; omega) ⟨hi, h4⟩ (newM a.op a.at' a.to.toNat a.d (m a.id)) (fun l e he => ?_) hn hP ho' hl' (fun i hi => ?_) (fun q hq hf => ?_)
  · have := newM_leaf he
    omega
  · subst hn
    rw [← hp]
    exact acc_at h.s1 hlf hi
  · exact acc_way (by rcases hq with e | e <;> omega) hf
theorem ask_room (h : Conf N S T D L n Q P) (hI : LvInv S D T (cellsE f M.c) m) (ha : a.ok N = true) (hat : ∀ l d, m a.id = some (l, d) → (l : Int) = a.lf) (ho : IsOrd (acT S D T f n P a M) n o)
    (J : List Int) (hJ : ∀ id' b, nextB m a id' = some b → id' ∈ J) (hlen : J.length ≤ T) : acO N S D T f n P a M o = false := by
  obtain ⟨h1, h2, h3, h4, h5⟩ := ask_of ha
  have hN := h.hN
  have hlf : a.lf.toNat < 2 ^ D := by omega
  have hn : n = (D + 1) * S + T + 1 := by have := h.hL; have := h.hn; omega
  have hP : n ≤ 2 ^ P := by have := h.le; have := h.hQ; omega
  have hp := ask_put h hI ha hat
  have ho' : IsOrd (tabI D n P (dpW D a.lf.toNat) (laidX S D T a.lf.toNat (cellsE f M.c) a.id (cellB a.id (newM a.op a.at' a.to.toNat a.d (m a.id))))) n o := by rw [← hp]; exact ho
  have := hI.room h.s1 hlf (newM a.op a.at' a.to.toNat a.d (m a.id)) hn hP ho' J hJ hlen
  rw [← hp] at this
  unfold acO
  rw [show lostO (acT S D T f n P a M) S D T o = [] from this]
  cases a.ok N <;> rfl
end
theorem Lv.step {H : Type} {N S T D L n Q P : Nat} (h : Conf N S T D L n Q P) {X : Nat → Prop} {mp lp bm f : Nat} {I : List Int} {M : MS} {k : Nat} {w : World} {m : Bm} (hL : Lv H N S D T Q X mp lp bm f false I M k w) (hI : LvInv S D T (cellsE f M.c) m) (a : Ask) (hf : f ≤ 100) (hk : k < 20000) (hi : 0 ≤ a.id)
    (hd : ∀ j, 0 ≤ a.d j ∧ a.d j ≤ 18446744073709551615) (ha : a.ok N = true) (hat : ∀ l d, m a.id = some (l, d) → (l : Int) = a.lf) :
    Calls Tryz.prog 19 #[.pointer (some ⟨lp, 0, none⟩), .int .i64 a.op, .int .u64 a.id, .int .i64 a.at', .agg (DA a.d), .int .i64 a.lf, .int .i64 a.to] w fun e w' =>
      e = .returned (.tuple #[.agg (DA (dat (m a.id))), .bool (m a.id).isSome]) ∧
      ∃ ov M', Lv H N S D T Q X mp lp bm f ov (acI N a I) M' (k + 1) w' ∧ (ov = false → LvInv S D T (cellsE f M'.c) (nextB m a)) ∧ (∀ J : List Int, (∀ id' b, nextB m a id' = some b → id' ∈ J) → J.length ≤ T → ov = false) ∧ Kept (fun j => X j ∧ j ≠ lp ∧ j ≠ bm) w w' := by
  refine (hL.access h a hf hk hi hd).mono ?_
  rintro e w' ⟨rfl, o, ho, hL', hK⟩
  have ho := ho ha
  have hw : acW N S D T f a M = cellB a.id (m a.id) := by unfold acW; rw [if_pos ha]; exact ask_was h hI ha hat
  rw [hw, cellB_has, cellB_data]
  rw [Bool.false_or] at hL'
  exact ⟨rfl, _, _, hL', fun e => ask_next h hI ha hi hat ho e, fun J hJ hl => ask_room h hI ha hat ho J hJ hl, hK⟩
def Sav (X : Nat → Prop) (lp bm : Nat) (i : Nat) : Prop := X i ∧ i ≠ lp ∧ i ≠ bm
section
variable {H : Type} {N S D T Q : Nat} {X : Nat → Prop} {mp lp bm f : Nat} {ov : Bool} {I : List Int} {M : MS} {k : Nat} {w w' : World}
theorem Lv.more (h : Lv H N S D T Q X mp lp bm f ov I M k w) (ho : Only nobody w w') : ∃ X', Lv H N S D T Q X' mp lp bm f ov I M k w' ∧ (∀ i, Sav X lp bm i → Sav X' lp bm i) ∧ ∀ i, w.heap.size ≤ i → i < w'.heap.size → Sav X' lp bm i :=
  ⟨_, h.grow ho, fun i hi => ⟨.inl hi.1, hi.2⟩, fun i h1 h2 => ⟨.inr ⟨h1, h2⟩, by have := h.lt h.x1; omega, by have := h.lt h.x2; omega⟩⟩
theorem Lv.one (h : Lv H N S D T Q X mp lp bm f ov I M k w) (o : Obj) : ∃ X', Lv H N S D T Q X' mp lp bm f ov I M k (w.alloc o) ∧ (∀ i, Sav X lp bm i → Sav X' lp bm i) ∧ Sav X' lp bm w.heap.size := by
  obtain ⟨X', h1, h2, h3⟩ := h.more ((Only.refl nobody w).alloc o)
  exact ⟨X', h1, h2, h3 _ (Nat.le_refl _) (by simp)⟩
end
end Go.Proofs.YtmageeohnfomnaaGreat


namespace Go.Proofs.YtmageeohnfomnaaGreat
set_option maxRecDepth 100000
open Go.RowKit Go.ChangeShapes Go.WideShapes Go.ChangeAt Go.Maps

theorem setB_two (m : Bm) (i : Int) (b c : Option (Nat × (Nat → Int))) : setB (setB m i b) i c = setB m i c := by
  funext j
  unfold setB
  by_cases h : j = i
  · rw [if_pos h, if_pos h]
  · rw [if_neg h, if_neg h, if_neg h]
theorem setB_at (m : Bm) (i : Int) (b : Option (Nat × (Nat → Int))) : setB m i b i = b := by unfold setB; rw [if_pos rfl]
def shM (b : Option (Nat × (Nat → Int))) : Bm := setB (fun _ => none) 7 b
theorem shM_next (b : Option (Nat × (Nat → Int))) (op at' : Int) (d : Nat → Int) (lf to : Int) : nextB (shM b) ⟨op, 7, at', d, lf, to⟩ = shM (newM op at' to.toNat d b) := by
  show setB (shM b) 7 (newM op at' to.toNat d (shM b 7)) = _
  unfold shM
  rw [setB_two, setB_at]
theorem shM_none : shM none = fun _ => none := by
  funext j
  unfold shM setB
  split <;> rfl
theorem shM_one (b : Option (Nat × (Nat → Int))) (id : Int) (x : Nat × (Nat → Int)) (h : shM b id = some x) : id ∈ [(7 : Int)] := by
  unfold shM setB at h
  by_cases e : id = 7
  · simp [e]
  · rw [if_neg e] at h; cases h
theorem shM_leaf {b : Option (Nat × (Nat → Int))} (hb : ∀ l d, b = some (l, d) → l = 0) (l : Nat) (d : Nat → Int) (h : shM b 7 = some (l, d)) : (l : Int) = 0 := by
  rw [shM, setB_at] at h
  rw [hb l d h]
  rfl
theorem shown_step {H : Type} {n Q P : Nat} (h : Conf 1 1 2 0 1 n Q P) {X : Nat → Prop} {mp lp bm : Nat} {I : List Int} {M : MS} {k : Nat} {w : World} {b : Option (Nat × (Nat → Int))} (hL : Lv H 1 1 0 2 Q X mp lp bm 1 false I M k w) (hI : LvInv 1 0 2 (cellsE 1 M.c) (shM b)) (op : Int) (d : Nat → Int)
    (hk : k < 20000) (hop : op = 0 ∨ op = 1 ∨ op = 3) (hd : ∀ j, 0 ≤ d j ∧ d j ≤ 18446744073709551615) (hb : ∀ l d, b = some (l, d) → l = 0) :
    Calls Tryz.prog 19 #[.pointer (some ⟨lp, 0, none⟩), .int .i64 op, .int .u64 7, .int .i64 0, .agg (DA d), .int .i64 0, .int .i64 0] w fun e w' =>
      e = .returned (.tuple #[.agg (DA (dat b)), .bool b.isSome]) ∧ ∃ M', Lv H 1 1 0 2 Q X mp lp bm 1 false (if op = 1 then I ++ [7] else I) M' (k + 1) w' ∧ LvInv 1 0 2 (cellsE 1 M'.c) (shM (newM op 0 0 d b)) ∧ Kept (fun j => X j ∧ j ≠ lp ∧ j ≠ bm) w w' := by
  have hok : (⟨op, 7, 0, d, 0, 0⟩ : Ask).ok 1 = true := by
    rcases hop with rfl | rfl | rfl
    · show isAsk 1 0 7 0 0 0 = true; decide
    · show isAsk 1 1 7 0 0 0 = true; decide
    · show isAsk 1 3 7 0 0 0 = true; decide
  refine (hL.step h hI ⟨op, 7, 0, d, 0, 0⟩ (by decide) hk (by show (0 : Int) ≤ 7; decide) hd hok (fun l e he => shM_leaf hb l e he)).mono ?_
  rintro e w' ⟨rfl, ov, M', hl, h1, h2, hK⟩
  have e7 : shM b 7 = b := by unfold shM; exact setB_at _ _ _
  have hov : ov = false := h2 [7] (fun id' x hx => by rw [shM_next] at hx; exact shM_one _ _ _ hx) (by decide)
  subst hov
  have hi := h1 rfl
  rw [shM_next] at hi
  refine ⟨by show _ = Ending.returned (.tuple #[.agg (DA (dat b)), .bool b.isSome]); rw [← e7]; rfl, M', ?_, hi, hK⟩
  have ei : acI 1 ⟨op, 7, 0, d, 0, 0⟩ I = if op = 1 then I ++ [7] else I := by
    unfold acI
    rw [hok, Bool.true_and]
    rcases hop with rfl | rfl | rfl <;> rfl
  rw [ei] at hl
  exact hl
set_option maxRecDepth 100000 in
set_option maxHeartbeats 2000000 in
theorem shown_of (w : World) : Calls Tryz.prog 4 #[] w fun e w' => e = .returned (.bool true) ∧ Below w.heap.size w w' := by
  obtain ⟨Q, P, hC⟩ := Conf.mk' (D := 0) (N := 1) (S := 1) (T := 2) (by decide) (by decide) (by decide) (by decide) (by decide) (by decide)
  have HMd := Lib.hid (fun W => made_of (H := Unit) hC W (by decide))
  have HDt := Lib.hid (fun W => data_of 1 W)
  have HC := Lib.hid hC
  have HI0 : Hid (LvInv 1 0 2 (cellsE 1 (mdM 1 0 2 Q).c) (shM none)) := Lib.hid (by rw [shM_none]; exact mdM_inv 1 0 2 Q)
  go_enter Tryz.func4, Tryz.ntmps4
  go_wp2_with fail
  refine (HMd.out _).mono ?_
  rintro e w1 ⟨mp, lp, bm, rfl, ho1, hlp, hbm, hL1⟩
  have HS1 : Hid (∀ i, old w i → Sav (old2 w lp bm) lp bm i) := Lib.hid fun i hi => ⟨.inl hi, by have hi : i < w.heap.size := hi; omega, by have hi : i < w.heap.size := hi; omega⟩
  have HK1 : Hid (Kept (old w) w w1) := Lib.hid (Kept.of_none ho1)
  generalize old2 w lp bm = X1 at *
  have HL1 := Lib.hid hL1
  clear ho1 hL1 hlp hbm hC HMd
  go_upto_region 5 with fail
  obtain ⟨X2, hL2, hs2, hn2⟩ := HL1.out.one (.cells #[.int .u64 0, .int .u64 0, .int .u64 0, .int .u64 0, .int .u64 0, .int .u64 0, .int .u64 0, .int .u64 0] 56)
  have hb2 : Box (w1.alloc (.cells #[.int .u64 0, .int .u64 0, .int .u64 0, .int .u64 0, .int .u64 0, .int .u64 0, .int .u64 0, .int .u64 0] 56)) w1.heap.size 56 (DA fun _ => 0) := Box.new w1 _ _
  have HK2 := Lib.hid (HK1.out.alloc (.cells #[.int .u64 0, .int .u64 0, .int .u64 0, .int .u64 0, .int .u64 0, .int .u64 0, .int .u64 0, .int .u64 0] 56))
  have HS2 : Hid (∀ i, old w i → Sav X2 lp bm i) := Lib.hid fun i hi => hs2 i (HS1.out i hi)
  obtain ⟨nb, hnb⟩ : ∃ b, w1.heap.size = b := ⟨_, rfl⟩
  rw [hnb] at hn2 hb2 ⊢
  have HN2 := Lib.hid hn2
  have HB2 := Lib.hid hb2
  have HL2 := Lib.hid hL2
  generalize w1.alloc (.cells #[.int .u64 0, .int .u64 0, .int .u64 0, .int .u64 0, .int .u64 0, .int .u64 0, .int .u64 0, .int .u64 0] 56) = w2 at *
  clear hnb hn2 hs2 hb2 hL2 HL1 HS1 HK1
  go_wp2_with fail
  refine (HDt.out _).mono ?_
  rintro e w3 ⟨rfl, hb⟩
  have ho3 : Only nobody w2 w3 := Only.of_below hb
  have HL3 := Lib.hid (HL2.out.nob ho3)
  have HB3 := Lib.hid (HB2.out.only ho3 (not_nobody _))
  have HK3 := Lib.hid (HK2.out.trans (Kept.of_none ho3))
  clear hb ho3 HL2 HB2 HK2
  go_wp2_with fail
  refine (shown_step HC.out (b := none) HL3.out HI0.out 1 (dw 1) (by decide) (.inr (.inl rfl)) (fun j => dw_rng 1 j) (fun _ _ h => by cases h)).mono ?_
  rintro e w4 ⟨rfl, M4, hL4, hI4, hK4⟩
  rw [if_pos rfl, List.nil_append] at hL4
  have hK4 : Kept (Sav X2 lp bm) w3 w4 := hK4
  have HB4 := Lib.hid (hK4.box HB3.out HN2.out)
  have HN4 := HN2
  have HS4 := HS2
  have HK4 := Lib.hid (HK3.out.trans (hK4.mono HS2.out))
  have HI4 : Hid (LvInv 1 0 2 (cellsE 1 M4.c) (shM (some (0, dw 1)))) := Lib.hid hI4
  have HL4 := Lib.hid hL4
  clear hL4 hI4 hK4 HI0 HL3 HB3 HK3
  go_upto_region 6 with (refine wpList_store_newD rfl (.tmp 4) (.tmp 23) rfl rfl _ rfl rfl ?_)
  obtain ⟨X3, hL5, hs5, hn5⟩ := HL4.out.one (.cells (DA (dat none)) 56)
  have hb5 : Box (w4.alloc (.cells (DA (dat none)) 56)) w4.heap.size 56 (DA (dat none)) := Box.new w4 _ _
  have HK5 := Lib.hid (HK4.out.alloc (.cells (DA (dat none)) 56))
  have HB5 := Lib.hid (HB4.out.alloc (.cells (DA (dat none)) 56))
  have HS5 : Hid (∀ i, old w i → Sav X3 lp bm i) := Lib.hid fun i hi => hs5 i (HS4.out i hi)
  have HN5 := Lib.hid (hs5 _ HN4.out)
  generalize w4.heap.size = nz at hn5 hb5 ⊢
  have HL5 := Lib.hid hL5
  clear hn5 hs5 hb5 hL5 HL4 HS4 HK4 HB4 HN4 
  generalize w4.alloc (.cells (DA (dat none)) 56) = w5 at *
  have z0 : w5.cell? ⟨nb, 0, none⟩ = some (.int .u64 0) := HB5.out.cell 0
  have z1 : w5.cell? ⟨nb, 1, none⟩ = some (.int .u64 0) := HB5.out.cell 1
  have z2 : w5.cell? ⟨nb, 2, none⟩ = some (.int .u64 0) := HB5.out.cell 2
  have z3 : w5.cell? ⟨nb, 3, none⟩ = some (.int .u64 0) := HB5.out.cell 3
  have z4 : w5.cell? ⟨nb, 4, none⟩ = some (.int .u64 0) := HB5.out.cell 4
  have z5 : w5.cell? ⟨nb, 5, none⟩ = some (.int .u64 0) := HB5.out.cell 5
  have z6 : w5.cell? ⟨nb, 6, none⟩ = some (.int .u64 0) := HB5.out.cell 6
  have z7 : w5.cell? ⟨nb, 7, none⟩ = some (.int .u64 0) := HB5.out.cell 7
  go_wp2_with fail
  refine (shown_step HC.out (b := some (0, dw 1)) HL5.out HI4.out 0 (fun _ => 0) (by decide) (.inl rfl) (fun _ => ⟨Int.le_refl 0, by show (0 : Int) ≤ 18446744073709551615; decide⟩) (fun _ _ h => by injection h with h; injection h with h _; exact h.symm)).mono ?_
  clear z0 z1 z2 z3 z4 z5 z6 z7
  rintro e w6 ⟨rfl, M6, hL6, hI6, hK6⟩
  rw [if_neg (by decide)] at hL6
  have hK6 : Kept (Sav X3 lp bm) w5 w6 := hK6
  have HB6 := Lib.hid (hK6.box HB5.out HN5.out)
  have HN6 := HN5
  have HS6 := HS5
  have HK6 := Lib.hid (HK5.out.trans (hK6.mono HS5.out))
  have HI6 : Hid (LvInv 1 0 2 (cellsE 1 M6.c) (shM (some (0, dw 1)))) := Lib.hid hI6
  have HL6 := Lib.hid hL6
  clear hL6 hI6 hK6 HI4 HL5 HB5 HK5 HN5 HS5 
  go_upto_region 7 with (refine wpList_store_newD rfl (.tmp 6) (.tmp 29) rfl rfl _ rfl rfl ?_)
  obtain ⟨X4, hL7, hs7, hn7⟩ := HL6.out.one (.cells (DA (dat (some (0, dw 1)))) 56)
  have hb7 : Box (w6.alloc (.cells (DA (dat (some (0, dw 1)))) 56)) w6.heap.size 56 (DA (dat (some (0, dw 1)))) := Box.new w6 _ _
  have HK7 := Lib.hid (HK6.out.alloc (.cells (DA (dat (some (0, dw 1)))) 56))
  have HB7 := Lib.hid (HB6.out.alloc (.cells (DA (dat (some (0, dw 1)))) 56))
  have HS7 : Hid (∀ i, old w i → Sav X4 lp bm i) := Lib.hid fun i hi => hs7 i (HS6.out i hi)
  have HN7 := Lib.hid (hs7 _ HN6.out)
  obtain ⟨nx, hx⟩ : ∃ b, w6.heap.size = b := ⟨_, rfl⟩
  rw [hx] at hn7 hb7 ⊢
  have HNx7 := Lib.hid hn7
  have HBx7 := Lib.hid hb7
  clear hx
  have HL7 := Lib.hid hL7
  clear hn7 hs7 hb7 hL7 HL6 HS6 HK6 HB6 HN6 
  generalize w6.alloc (.cells (DA (dat (some (0, dw 1)))) 56) = w7 at *
  have z0 : w7.cell? ⟨nb, 0, none⟩ = some (.int .u64 0) := HB7.out.cell 0
  have z1 : w7.cell? ⟨nb, 1, none⟩ = some (.int .u64 0) := HB7.out.cell 1
  have z2 : w7.cell? ⟨nb, 2, none⟩ = some (.int .u64 0) := HB7.out.cell 2
  have z3 : w7.cell? ⟨nb, 3, none⟩ = some (.int .u64 0) := HB7.out.cell 3
  have z4 : w7.cell? ⟨nb, 4, none⟩ = some (.int .u64 0) := HB7.out.cell 4
  have z5 : w7.cell? ⟨nb, 5, none⟩ = some (.int .u64 0) := HB7.out.cell 5
  have z6 : w7.cell? ⟨nb, 6, none⟩ = some (.int .u64 0) := HB7.out.cell 6
  have z7 : w7.cell? ⟨nb, 7, none⟩ = some (.int .u64 0) := HB7.out.cell 7
  go_wp2_with fail
  refine (shown_step HC.out (b := some (0, dw 1)) HL7.out HI6.out 3 (fun _ => 0) (by decide) (.inr (.inr rfl)) (fun _ => ⟨Int.le_refl 0, by show (0 : Int) ≤ 18446744073709551615; decide⟩) (fun _ _ h => by injection h with h; injection h with h _; exact h.symm)).mono ?_
  clear z0 z1 z2 z3 z4 z5 z6 z7
  rintro e w8 ⟨rfl, M8, hL8, hI8, hK8⟩
  rw [if_neg (by decide)] at hL8
  have hK8 : Kept (Sav X4 lp bm) w7 w8 := hK8
  have HB8 := Lib.hid (hK8.box HB7.out HN7.out)
  have HN8 := HN7
  have HS8 := HS7
  have HK8 := Lib.hid (HK7.out.trans (hK8.mono HS7.out))
  have HI8 : Hid (LvInv 1 0 2 (cellsE 1 M8.c) (shM none)) := Lib.hid hI8
  have HL8 := Lib.hid hL8
  have HBx8 := Lib.hid (hK8.box HBx7.out HNx7.out)
  have HNx8 := HNx7
  clear hL8 hI8 hK8 HI6 HL7 HB7 HK7 HN7 HS7 HBx7 HNx7
  go_upto_region 8 with (refine wpList_store_newD rfl (.tmp 8) (.tmp 35) rfl rfl _ rfl rfl ?_)
  obtain ⟨X5, hL9, hs9, hn9⟩ := HL8.out.one (.cells (DA (dat (some (0, dw 1)))) 56)
  have hb9 : Box (w8.alloc (.cells (DA (dat (some (0, dw 1)))) 56)) w8.heap.size 56 (DA (dat (some (0, dw 1)))) := Box.new w8 _ _
  have HK9 := Lib.hid (HK8.out.alloc (.cells (DA (dat (some (0, dw 1)))) 56))
  have HB9 := Lib.hid (HB8.out.alloc (.cells (DA (dat (some (0, dw 1)))) 56))
  have HS9 : Hid (∀ i, old w i → Sav X5 lp bm i) := Lib.hid fun i hi => hs9 i (HS8.out i hi)
  have HN9 := Lib.hid (hs9 _ HN8.out)
  have HBx9 := Lib.hid (HBx8.out.alloc (.cells (DA (dat (some (0, dw 1)))) 56))
  have HNx9 := Lib.hid (hs9 _ HNx8.out)
  obtain ⟨ny, hy⟩ : ∃ b, w8.heap.size = b := ⟨_, rfl⟩
  rw [hy] at hn9 hb9 ⊢
  have HNy9 := Lib.hid hn9
  have HBy9 := Lib.hid hb9
  clear hy
  have HL9 := Lib.hid hL9
  clear hn9 hs9 hb9 hL9 HL8 HS8 HK8 HB8 HN8 HBx8 HNx8
  generalize w8.alloc (.cells (DA (dat (some (0, dw 1)))) 56) = w9 at *
  have z0 : w9.cell? ⟨nb, 0, none⟩ = some (.int .u64 0) := HB9.out.cell 0
  have z1 : w9.cell? ⟨nb, 1, none⟩ = some (.int .u64 0) := HB9.out.cell 1
  have z2 : w9.cell? ⟨nb, 2, none⟩ = some (.int .u64 0) := HB9.out.cell 2
  have z3 : w9.cell? ⟨nb, 3, none⟩ = some (.int .u64 0) := HB9.out.cell 3
  have z4 : w9.cell? ⟨nb, 4, none⟩ = some (.int .u64 0) := HB9.out.cell 4
  have z5 : w9.cell? ⟨nb, 5, none⟩ = some (.int .u64 0) := HB9.out.cell 5
  have z6 : w9.cell? ⟨nb, 6, none⟩ = some (.int .u64 0) := HB9.out.cell 6
  have z7 : w9.cell? ⟨nb, 7, none⟩ = some (.int .u64 0) := HB9.out.cell 7
  go_wp2_with fail
  refine (shown_step HC.out (b := none) HL9.out HI8.out 0 (fun _ => 0) (by decide) (.inl rfl) (fun _ => ⟨Int.le_refl 0, by show (0 : Int) ≤ 18446744073709551615; decide⟩) (fun _ _ h => by cases h)).mono ?_
  clear z0 z1 z2 z3 z4 z5 z6 z7
  rintro e w10 ⟨rfl, M10, hL10, hI10, hK10⟩
  rw [if_neg (by decide)] at hL10
  have hK10 : Kept (Sav X5 lp bm) w9 w10 := hK10
  have HB10 := Lib.hid (hK10.box HB9.out HN9.out)
  have HN10 := HN9
  have HS10 := HS9
  have HK10 := Lib.hid (HK9.out.trans (hK10.mono HS9.out))
  have HI10 : Hid (LvInv 1 0 2 (cellsE 1 M10.c) (shM none)) := Lib.hid hI10
  have HL10 := Lib.hid hL10
  have HBx10 := Lib.hid (hK10.box HBx9.out HNx9.out)
  have HNx10 := HNx9
  have HBy10 := Lib.hid (hK10.box HBy9.out HNy9.out)
  have HNy10 := HNy9
  clear hL10 hI10 hK10 HI8 HL9 HB9 HK9 HN9 HS9 HBx9 HNx9 HBy9 HNy9
  go_upto_region 9 with (refine wpList_store_newD rfl (.tmp 10) (.tmp 41) rfl rfl _ rfl rfl ?_)
  have hE : Lv Unit 1 1 0 2 Q X5 mp lp bm 1 false [7] M10 4 (w10.alloc (.cells (DA (dat none)) 56)).drew ∧ Kept (old w) w (w10.alloc (.cells (DA (dat none)) 56)).drew := ⟨HL10.out.nob (((Only.refl nobody w10).alloc _).drew), HK10.out.trans (Kept.of_none (((Only.refl nobody w10).alloc _).drew))⟩
  refine held_s (S := fun w' => Box w' nx 56 (DA (dw 1)) ∧ Box w' ny 56 (DA (dw 1))) 33 rfl (by kernel_rfl) ⟨(HBx10.out.alloc _).drewN 1, (HBy10.out.alloc _).drewN 1⟩ (fun hHeld => ?_)
  simp only [Array.replicate_succ, Array.replicate_zero, List.push_toArray, List.nil_append, List.cons_append]
  generalize (w10.alloc (.cells (DA (dat none)) 56)).drew = w11 at *
  clear HL10 HK10 HB10 HN10 HS10 HI10 HBx10 HBy10 HNx10 HNy10 HC
  refine wpAnyH_take (i := 0) (oi := ⟨some 43, _, _, _, _, _⟩) (v := (.bool false)) rfl (by kernel_rfl) (by kernel_rfl) (by kernel_rfl) (fun _ _ _ h => h) (Or.inl ⟨by rfl, fun w' hw => by go_simp⟩) hHeld ?_
  try simp only [Act.put, List.setIfInBounds_toArray, List.set_cons_zero, List.set_cons_succ]
  refine wpAnyH_take (i := 1) (oi := ⟨some 44, _, _, _, _, _⟩) (v := (.bool true)) rfl (by kernel_rfl) (by kernel_rfl) (by kernel_rfl) (fun _ _ _ h => h) (Or.inl ⟨by rfl, fun w' hw => by go_simp⟩) hHeld ?_
  try simp only [Act.put, List.setIfInBounds_toArray, List.set_cons_zero, List.set_cons_succ]
  refine wpAnyH_take (i := 2) (oi := ⟨some 45, _, _, _, _, _⟩) (v := (.bool true)) rfl (by kernel_rfl) (by kernel_rfl) (by kernel_rfl) (fun _ _ _ h => h) (Or.inl ⟨by rfl, fun w' hw => by go_simp⟩) hHeld ?_
  try simp only [Act.put, List.setIfInBounds_toArray, List.set_cons_zero, List.set_cons_succ]
  refine wpAnyH_take (i := 3) (oi := ⟨some 46, _, _, _, _, _⟩) (v := (.bool true)) rfl (by kernel_rfl) (by kernel_rfl) (by kernel_rfl) (fun _ _ _ h => h) (Or.inl ⟨by rfl, fun w' hw => by go_simp⟩) hHeld ?_
  try simp only [Act.put, List.setIfInBounds_toArray, List.set_cons_zero, List.set_cons_succ]
  refine wpAnyH_take (i := 4) (oi := ⟨some 47, _, _, _, _, _⟩) (v := (.bool true)) rfl (by kernel_rfl) (by kernel_rfl) (by kernel_rfl) (fun _ _ _ h => h) (Or.inl ⟨by rfl, fun w' hw => by go_simp⟩) hHeld ?_
  try simp only [Act.put, List.setIfInBounds_toArray, List.set_cons_zero, List.set_cons_succ]
  refine wpAnyH_take (i := 5) (oi := ⟨some 48, _, _, _, _, _⟩) (v := (.bool true)) rfl (by kernel_rfl) (by kernel_rfl) (by kernel_rfl) (fun _ _ _ h => h) (Or.inl ⟨by rfl, fun w' hw => by go_simp⟩) hHeld ?_
  try simp only [Act.put, List.setIfInBounds_toArray, List.set_cons_zero, List.set_cons_succ]
  refine take_row 6 (oi := ⟨some 49, _, _, _, _, _⟩) (DA (dw 1)).toList rfl (by kernel_rfl) (by kernel_rfl) (by kernel_rfl) (fun _ _ _ h => h) (by rfl) _ _ rfl _ _ rfl _ (fun w' hw => hw.1.range) Tryz.underlying56 rfl (infoData (dw 1)) hHeld ?_
  try simp only [Act.put, List.setIfInBounds_toArray, List.set_cons_zero, List.set_cons_succ]
  refine one_ready 7 rfl (by kernel_rfl) (fun K hK => ?_)
  go_simp
  refine (HDt.out _).mono ?_
  rintro e w13 ⟨rfl, hb⟩
  have ho : Only nobody _ w13 := Only.of_below hb
  have hE := And.intro (hE.1.nob ho) (hE.2.trans (Kept.of_none ho))
  refine hK.out _ _ ⟨hHeld.1.only ho (not_nobody _), hHeld.2.only ho (not_nobody _)⟩ (fun hHeld => ?_)
  clear hK K ho hb
  simp only [List.setIfInBounds_toArray, List.set_cons_zero, List.set_cons_succ]
  refine wpAnyH_take (i := 8) (oi := ⟨some 51, _, _, _, _, _⟩) (v := (.bool true)) rfl (by kernel_rfl) (by kernel_rfl) (by kernel_rfl) (fun _ _ _ h => h) (Or.inl ⟨by rfl, fun w' hw => by (have q1 := eql_data (dw 1) (dw 1); rw [deq_self] at q1; go_simp)⟩) hHeld ?_
  try simp only [Act.put, List.setIfInBounds_toArray, List.set_cons_zero, List.set_cons_succ]
  refine wpAnyH_take (i := 9) (oi := ⟨some 52, _, _, _, _, _⟩) (v := (.bool true)) rfl (by kernel_rfl) (by kernel_rfl) (by kernel_rfl) (fun _ _ _ h => h) (Or.inl ⟨by rfl, fun w' hw => by go_simp⟩) hHeld ?_
  try simp only [Act.put, List.setIfInBounds_toArray, List.set_cons_zero, List.set_cons_succ]
  refine wpAnyH_take (i := 10) (oi := ⟨some 53, _, _, _, _, _⟩) (v := (.bool true)) rfl (by kernel_rfl) (by kernel_rfl) (by kernel_rfl) (fun _ _ _ h => h) (Or.inl ⟨by rfl, fun w' hw => by go_simp⟩) hHeld ?_
  try simp only [Act.put, List.setIfInBounds_toArray, List.set_cons_zero, List.set_cons_succ]
  refine wpAnyH_take (i := 11) (oi := ⟨some 54, _, _, _, _, _⟩) (v := (.bool true)) rfl (by kernel_rfl) (by kernel_rfl) (by kernel_rfl) (fun _ _ _ h => h) (Or.inl ⟨by rfl, fun w' hw => by go_simp⟩) hHeld ?_
  try simp only [Act.put, List.setIfInBounds_toArray, List.set_cons_zero, List.set_cons_succ]
  refine wpAnyH_take (i := 12) (oi := ⟨some 55, _, _, _, _, _⟩) (v := (.bool true)) rfl (by kernel_rfl) (by kernel_rfl) (by kernel_rfl) (fun _ _ _ h => h) (Or.inl ⟨by rfl, fun w' hw => by go_simp⟩) hHeld ?_
  try simp only [Act.put, List.setIfInBounds_toArray, List.set_cons_zero, List.set_cons_succ]
  refine wpAnyH_take (i := 13) (oi := ⟨some 56, _, _, _, _, _⟩) (v := (.bool true)) rfl (by kernel_rfl) (by kernel_rfl) (by kernel_rfl) (fun _ _ _ h => h) (Or.inl ⟨by rfl, fun w' hw => by go_simp⟩) hHeld ?_
  try simp only [Act.put, List.setIfInBounds_toArray, List.set_cons_zero, List.set_cons_succ]
  refine take_row 14 (oi := ⟨some 57, _, _, _, _, _⟩) (DA (dw 1)).toList rfl (by kernel_rfl) (by kernel_rfl) (by kernel_rfl) (fun _ _ _ h => h) (by rfl) _ _ rfl _ _ rfl _ (fun w' hw => hw.2.range) Tryz.underlying56 rfl (infoData (dw 1)) hHeld ?_
  try simp only [Act.put, List.setIfInBounds_toArray, List.set_cons_zero, List.set_cons_succ]
  refine one_ready 15 rfl (by kernel_rfl) (fun K hK => ?_)
  go_simp
  refine (HDt.out _).mono ?_
  rintro e w13 ⟨rfl, hb⟩
  have ho : Only nobody _ w13 := Only.of_below hb
  have hE := And.intro (hE.1.nob ho) (hE.2.trans (Kept.of_none ho))
  refine hK.out _ _ ⟨hHeld.1.only ho (not_nobody _), hHeld.2.only ho (not_nobody _)⟩ (fun hHeld => ?_)
  clear hK K ho hb
  simp only [List.setIfInBounds_toArray, List.set_cons_zero, List.set_cons_succ]
  refine wpAnyH_take (i := 16) (oi := ⟨some 59, _, _, _, _, _⟩) (v := (.bool true)) rfl (by kernel_rfl) (by kernel_rfl) (by kernel_rfl) (fun _ _ _ h => h) (Or.inl ⟨by rfl, fun w' hw => by (have q1 := eql_data (dw 1) (dw 1); rw [deq_self] at q1; go_simp)⟩) hHeld ?_
  try simp only [Act.put, List.setIfInBounds_toArray, List.set_cons_zero, List.set_cons_succ]
  refine wpAnyH_take (i := 17) (oi := ⟨some 60, _, _, _, _, _⟩) (v := (.bool true)) rfl (by kernel_rfl) (by kernel_rfl) (by kernel_rfl) (fun _ _ _ h => h) (Or.inl ⟨by rfl, fun w' hw => by go_simp⟩) hHeld ?_
  try simp only [Act.put, List.setIfInBounds_toArray, List.set_cons_zero, List.set_cons_succ]
  refine wpAnyH_take (i := 18) (oi := ⟨some 61, _, _, _, _, _⟩) (v := (.bool true)) rfl (by kernel_rfl) (by kernel_rfl) (by kernel_rfl) (fun _ _ _ h => h) (Or.inl ⟨by rfl, fun w' hw => by go_simp⟩) hHeld ?_
  try simp only [Act.put, List.setIfInBounds_toArray, List.set_cons_zero, List.set_cons_succ]
  refine wpAnyH_take (i := 19) (oi := ⟨some 62, _, _, _, _, _⟩) (v := (.bool false)) rfl (by kernel_rfl) (by kernel_rfl) (by kernel_rfl) (fun _ _ _ h => h) (Or.inl ⟨by rfl, fun w' hw => by go_simp⟩) hHeld ?_
  try simp only [Act.put, List.setIfInBounds_toArray, List.set_cons_zero, List.set_cons_succ]
  refine wpAnyH_take (i := 20) (oi := ⟨some 63, _, _, _, _, _⟩) (v := (.bool true)) rfl (by kernel_rfl) (by kernel_rfl) (by kernel_rfl) (fun _ _ _ h => h) (Or.inl ⟨by rfl, fun w' hw => by go_simp⟩) hHeld ?_
  try simp only [Act.put, List.setIfInBounds_toArray, List.set_cons_zero, List.set_cons_succ]
  refine wpAnyH_take (i := 21) (oi := ⟨some 64, _, _, _, _, _⟩) (v := (.bool true)) rfl (by kernel_rfl) (by kernel_rfl) (by kernel_rfl) (fun _ _ _ h => h) (Or.inl ⟨by rfl, fun w' hw => by go_simp⟩) hHeld ?_
  try simp only [Act.put, List.setIfInBounds_toArray, List.set_cons_zero, List.set_cons_succ]
  refine wpAnyH_take (i := 22) (oi := ⟨some 65, _, _, _, _, _⟩) (v := (.bool true)) rfl (by kernel_rfl) (by kernel_rfl) (by kernel_rfl) (fun _ _ _ h => h) (Or.inl ⟨by rfl, fun w' hw => by go_simp⟩) hHeld ?_
  try simp only [Act.put, List.setIfInBounds_toArray, List.set_cons_zero, List.set_cons_succ]
  refine wpAnyH_take (i := 23) (oi := ⟨some 66, _, _, _, _, _⟩) (v := (.pointer (some ⟨lp, 0, none⟩))) rfl (by kernel_rfl) (by kernel_rfl) (by kernel_rfl) (fun _ _ _ h => h) (Or.inl ⟨by rfl, fun w' hw => by go_simp⟩) hHeld ?_
  try simp only [Act.put, List.setIfInBounds_toArray, List.set_cons_zero, List.set_cons_succ]
  refine one_ready 24 rfl (by kernel_rfl) (fun K hK => ?_)
  go_simp
  refine (hE.1.over).mono ?_
  rintro e w13 ⟨rfl, he⟩
  rw [he]
  refine hK.out _ _ hHeld (fun hHeld => ?_)
  clear hK K he w13
  simp only [List.setIfInBounds_toArray, List.set_cons_zero, List.set_cons_succ]
  refine wpAnyH_take (i := 25) (oi := ⟨some 68, _, _, _, _, _⟩) (v := (.bool true)) rfl (by kernel_rfl) (by kernel_rfl) (by kernel_rfl) (fun _ _ _ h => h) (Or.inl ⟨by rfl, fun w' hw => by go_simp⟩) hHeld ?_
  try simp only [Act.put, List.setIfInBounds_toArray, List.set_cons_zero, List.set_cons_succ]
  refine wpAnyH_take (i := 26) (oi := ⟨some 69, _, _, _, _, _⟩) (v := (.bool true)) rfl (by kernel_rfl) (by kernel_rfl) (by kernel_rfl) (fun _ _ _ h => h) (Or.inl ⟨by rfl, fun w' hw => by go_simp⟩) hHeld ?_
  try simp only [Act.put, List.setIfInBounds_toArray, List.set_cons_zero, List.set_cons_succ]
  refine wpAnyH_take (i := 27) (oi := ⟨some 70, _, _, _, _, _⟩) (v := (.bool true)) rfl (by kernel_rfl) (by kernel_rfl) (by kernel_rfl) (fun _ _ _ h => h) (Or.inl ⟨by rfl, fun w' hw => by go_simp⟩) hHeld ?_
  try simp only [Act.put, List.setIfInBounds_toArray, List.set_cons_zero, List.set_cons_succ]
  refine wpAnyH_take (i := 28) (oi := ⟨some 71, _, _, _, _, _⟩) (v := (.pointer (some ⟨lp, 0, none⟩))) rfl (by kernel_rfl) (by kernel_rfl) (by kernel_rfl) (fun _ _ _ h => h) (Or.inl ⟨by rfl, fun w' hw => by go_simp⟩) hHeld ?_
  try simp only [Act.put, List.setIfInBounds_toArray, List.set_cons_zero, List.set_cons_succ]
  refine one_ready 29 rfl (by kernel_rfl) (fun K hK => ?_)
  go_simp
  refine (hE.1.blocks).mono ?_
  rintro e w13 ⟨rfl, he⟩
  rw [he]
  refine hK.out _ _ hHeld (fun hHeld => ?_)
  clear hK K he w13
  simp only [List.setIfInBounds_toArray, List.set_cons_zero, List.set_cons_succ]
  refine wpAnyH_take (i := 30) (oi := ⟨some 73, _, _, _, _, _⟩) (v := (.bool true)) rfl (by kernel_rfl) (by kernel_rfl) (by kernel_rfl) (fun _ _ _ h => h) (Or.inl ⟨by rfl, fun w' hw => by (go_simp; rfl)⟩) hHeld ?_
  try simp only [Act.put, List.setIfInBounds_toArray, List.set_cons_zero, List.set_cons_succ]
  refine wpAnyH_take (i := 31) (oi := ⟨some 74, _, _, _, _, _⟩) (v := (.bool true)) rfl (by kernel_rfl) (by kernel_rfl) (by kernel_rfl) (fun _ _ _ h => h) (Or.inl ⟨by rfl, fun w' hw => by go_simp⟩) hHeld ?_
  try simp only [Act.put, List.setIfInBounds_toArray, List.set_cons_zero, List.set_cons_succ]
  refine wpAnyH_take (i := 32) (oi := ⟨some 0, _, _, _, _, _⟩) (v := (.bool true)) rfl (by kernel_rfl) (by kernel_rfl) (by kernel_rfl) (fun _ _ _ h => h) (Or.inl ⟨by rfl, fun w' hw => by go_simp⟩) hHeld ?_
  try simp only [Act.put, List.setIfInBounds_toArray, List.set_cons_zero, List.set_cons_succ]
  refine wpAnyH_done (by kernel_rfl) ?_ _
  go_wp2_with fail
  go_ret
  exact ⟨rfl, Kept.below hE.2 (Nat.le_refl _) (fun i hi => hi)⟩
end Go.Proofs.YtmageeohnfomnaaGreat


namespace Go.Proofs.YtmageeohnfomnaaGreat
set_option maxRecDepth 100000
open Go.RowKit Go.ChangeShapes Go.WideShapes Go.ChangeAt Go.Maps

set_option maxHeartbeats 2000000 in
theorem rlnew_all (p : Nat) (F : Nat → Prop) (f N S T : Int) (M : MS) (w : World) (hO : Rm w p F M) :
    Calls Tryz.prog 14 #[.pointer (some ⟨p, 0, none⟩), .int .i64 f, .agg #[.int .i64 N, .int .i64 S, .int .i64 T]] w fun e w' => ∃ v, e = .returned (.tuple #[v, .int .i64 (lnE M f N S T)]) ∧ Below w.heap.size w w' := by
  have HR := Lib.hid (fun W => rlright_all N S T W)
  have HZ := Lib.hid (fun W => rlsizes_all N S T W)
  have HM := Lib.hid (fun W r (h : Below w.heap.size w W) => rsize_any p F M r W (hO.only (Only.of_below (S := nobody) h) (fun _ _ => not_nobody _)))
  clear hO
  unfold lnE
  generalize lvR N S T = R at *
  generalize lvA N S T = za at *
  generalize lvB N S T = zb at *
  generalize lvD N S T = zd at *
  obtain ⟨f1, hf1⟩ : ∃ x, x = wrap64 (f + 1) := ⟨_, rfl⟩
  obtain ⟨f2, hf2⟩ : ∃ x, x = wrap64 (f + 2) := ⟨_, rfl⟩
  unfold lnOk
  rw [← hf1, ← hf2]
  have HF1 := Lib.hid hf1
  have HF2 := Lib.hid hf2
  clear hf1 hf2
  obtain ⟨q, hq⟩ : ∃ q : Int, q = if (R && (!decide ((M.size f : Int) < za) && (!decide ((M.size f1 : Int) < zb) && !decide ((M.size f2 : Int) < zd)))) = true then 0 else 1 := ⟨_, rfl⟩
  rw [← hq]
  have HQ := Lib.hid hq
  clear hq
  obtain ⟨b, hb⟩ : ∃ b, w.heap.size = b := ⟨_, rfl⟩
  obtain ⟨w2, hw2⟩ : ∃ w2, w.alloc (.cells #[.int .i64 N, .int .i64 S, .int .i64 T] 28) = w2 := ⟨_, rfl⟩
  have hx : Box w2 b 28 #[.int .i64 N, .int .i64 S, .int .i64 T] := by rw [← hw2, ← hb]; exact Box.new w _ _
  have hbl : Below w.heap.size w w2 := by rw [← hw2]; exact (Below.refl _ w).alloc (Nat.le_refl _) _
  have HX := Lib.hid hx
  have HB := Lib.hid hbl
  have HW2 := Lib.hid hw2
  have HBb := Lib.hid hb
  have k0 : w2.cell? ⟨b, 0, none⟩ = some (.int .i64 N) := HX.out.cell 0
  have k1 : w2.cell? ⟨b, 1, none⟩ = some (.int .i64 S) := HX.out.cell 1
  have k2 : w2.cell? ⟨b, 2, none⟩ = some (.int .i64 T) := HX.out.cell 2
  clear hx hbl hw2 hb
  go_enter Tryz.func14, Tryz.ntmps14
  go_upto_region 1 with fail
  simp only [HBb.out]
  rw [HW2.out]
  go_wp2_with fail
  refine (HZ.out _).mono ?_
  rintro e w3 ⟨rfl, hb3⟩
  have HB3 := Lib.hid (HB.out.trans (hb3.mono HB.out.size))
  have HX3 := Lib.hid (HX.out.of (hb3.block _ HX.out.lt))
  clear hb3 HB HX k0 k1 k2
  have k0 : w3.cell? ⟨b, 0, none⟩ = some (.int .i64 N) := HX3.out.cell 0
  have k1 : w3.cell? ⟨b, 1, none⟩ = some (.int .i64 S) := HX3.out.cell 1
  have k2 : w3.cell? ⟨b, 2, none⟩ = some (.int .i64 T) := HX3.out.cell 2
  go_wp2_with fail
  refine (HR.out _).mono ?_
  rintro e w4 ⟨rfl, hb4⟩
  have HB4 := Lib.hid (HB3.out.trans (hb4.mono HB3.out.size))
  have HX4 := Lib.hid (HX3.out.of (hb4.block _ HX3.out.lt))
  clear hb4 HB3 HX3 k0 k1 k2
  cases R
  · have hq : q = 1 := by rw [HQ.out]; rfl
    clear HQ
    subst hq
    go_wp2_with fail
    go_ret2
    exact ⟨_, rfl, HB4.out⟩
  go_wp2_with fail
  refine (HM.out _ _ HB4.out).mono ?_
  rintro e wq0 ⟨rfl, rfl⟩
  cases g0 : decide ((M.size f : Int) < za)
  case true =>
    have hq : q = 1 := by rw [HQ.out, g0]; rfl
    clear HQ
    subst hq
    go_wp2_with fail
    go_ret2
    exact ⟨_, rfl, HB4.out⟩
  go_wp2_with fail
  rw [← HF1.out]
  refine (HM.out _ _ HB4.out).mono ?_
  rintro e wq1 ⟨rfl, rfl⟩
  cases g1 : decide ((M.size f1 : Int) < zb)
  case true =>
    have hq : q = 1 := by rw [HQ.out, g0, g1]; rfl
    clear HQ
    subst hq
    go_wp2_with fail
    go_ret2
    exact ⟨_, rfl, HB4.out⟩
  go_wp2_with fail
  rw [← HF2.out]
  refine (HM.out _ _ HB4.out).mono ?_
  rintro e wq2 ⟨rfl, rfl⟩
  cases g2 : decide ((M.size f2 : Int) < zd)
  case true =>
    have hq : q = 1 := by rw [HQ.out, g0, g1, g2]; rfl
    clear HQ
    subst hq
    go_wp2_with fail
    go_ret2
    exact ⟨_, rfl, HB4.out⟩
  have hq : q = 0 := by rw [HQ.out, g0, g1, g2]; rfl
  clear HQ
  subst hq
  have k0 : w4.cell? ⟨b, 0, none⟩ = some (.int .i64 N) := HX4.out.cell 0
  have k1 : w4.cell? ⟨b, 1, none⟩ = some (.int .i64 S) := HX4.out.cell 1
  have k2 : w4.cell? ⟨b, 2, none⟩ = some (.int .i64 T) := HX4.out.cell 2
  go_wp2_with fail
  go_ret2
  exact ⟨_, rfl, HB4.out.alloc HB4.out.size _⟩
end Go.Proofs.YtmageeohnfomnaaGreat

