/- Texts of ours put together: NetList, Prs, NetRef. -/
import Derived.Below
import Derived.ChangeSlices
import Derived.Deep.Draws
import Derived.Deep.OwnRows
import Derived.Laws.BitsAllLaws
import Derived.Lib.BitFns
import Derived.Lib.Hide
import Derived.LoopIn
import Derived.LoopNIn
import Derived.Maps.AppendAt
import Derived.OpenShut
import Derived.OwnWalkIn
import Derived.ProofKit
import Derived.RangeFuncBound
import Derived.RangeFuncCalls
import Derived.RangeFuncLeaves
import Derived.RangeFuncNested
import Derived.RowKit3
import Derived.Shelf.Abstract
import Derived.Shelf.RegionOpen
import Derived.SizedLaws
import Derived.TacticsInMore
import Derived.WalkKit
import Derived.Test.YtmageeohnfomnaaGreatProg
import Derived.Laws.AppendOwn
import Derived.Test.YtmageeohnfomnaaGreatG2
import Derived.Test.YtmageeohnfomnaaGreatG25
import Derived.Test.YtmageeohnfomnaaGreatG6
import Derived.Test.YtmageeohnfomnaaGreatG9
namespace Go.Proofs.YtmageeohnfomnaaGreat
set_option maxRecDepth 100000
open Go.RowKit Go.Shelf Go.ChangeShapes Go.WideShapes Go.ChangeAt
attribute [local go_sem] Oper.semAt_some

def cells3 (p : Pr) : List Value := [.int .i64 (p.1 : Nat), .int .i64 (p.2.1 : Nat), .bool p.2.2]
def cellsL (ps : List Pr) : List Value := ps.flatMap cells3
theorem cellsL_snoc (ps : List Pr) (p : Pr) : cellsL (ps ++ [p]) = cellsL ps ++ cells3 p := by simp [cellsL]
theorem infoPair : (Tryz.prog.info? 118).map (fun i => (i.zero, i.size, i.bytes)) = some (some (.agg #[.int .i64 0, .int .i64 0, .bool false]), 3, 24) := by kernel_rfl
theorem cells_new (W : World) (t : TypeId) (p : Pr) : ∀ j u, (cells3 p)[j]? = some u → (W.alloc (.cells #[.int .i64 (p.1 : Nat), .int .i64 (p.2.1 : Nat), .bool p.2.2] t)).cell? ((⟨W.heap.size, 0, none⟩ : Addr).add j) = some u := by
  intro j u h
  have hb := Box.new W t #[.int .i64 (p.1 : Nat), .int .i64 (p.2.1 : Nat), .bool p.2.2]
  have := hb.cell j
  rw [add_plain, Nat.zero_add, this]
  simpa [cells3] using h
theorem Box.kept {X Y : World} {row : Option Nat} {b : Nat} {t : TypeId} {cs : Array Value} (h : Box X b t cs) (hg : X.grownBy Y row) (hr : ∀ r, row = some r → ∃ o : Obj, X.heap[r]? = some o ∧ o.isCells = false) : Box Y b t cs :=
  h.of (hg.block b h.lt (fun e => by
    obtain ⟨o, ho, hc⟩ := hr b e.symm
    have := (show X.heap[b]? = _ from h).symm.trans ho
    cases this
    cases hc))
set_option maxRecDepth 100000 in
set_option maxHeartbeats 2000000 in
theorem pairs_any (n : Int) (k : Nat) (ps : List Pr) (hN : Net n k ps) (w : World) :
    Calls Tryz.prog 64 #[.int .i64 n] w fun e W' => ∃ v, e = .returned v ∧ W'.ownsRow w.heap.size 118 3 v ps.length (cellsL ps) ∧ Below w.heap.size w W' := by
  have hlen := hN.len
  obtain ⟨i0, hi, hz0, hz1, hz2⟩ := info_parts infoPair
  refine (callsIn_wide (n := 9)).1 ?_
  refine callsIn_of_wp_marks Tryz.func64 rfl trivial ?_ rfl
  simp only [Tryz.ntmps64, List.size_toArray, List.length_cons, List.length_nil, Nat.reduceAdd, Nat.reduceSub, Array.replicate_succ, Array.replicate_zero, List.push_toArray, List.append_toArray, List.nil_append, List.cons_append]
  gi_wp2_with (refine ⟨trivial, ?_⟩; gi_at_call 79; refine (callsIn_wide.2 (network_any n _)).mono ?_; rintro e w1 ⟨rfl, rfl⟩)
  have bM := Boxed.new w 115 (.slice none 0 0)
  have bN := Boxed.new (w.alloc (.cells #[.slice none 0 0] 115)) 3 (.int .i64 n)
  rw [World.size_alloc] at bN
  have hB0 : Below w.heap.size w ((w.alloc (.cells #[.slice none 0 0] 115)).alloc (.cells #[.int .i64 n] 3)) := ((Below.refl _ w).alloc (Nat.le_refl _) _).alloc (by simp) _
  refine wpIn_rangeFunc_ownH rfl (by decide) (gf := 90) (lb := #[.pointer (some ⟨w.heap.size + 1, 0, none⟩)]) rfl trivial (enters_of Tryz.func90 (by kernel_rfl) rfl)
    (net_stops _ (w.heap.size + 1) k n ps hN _ bN) (fun h k => KB.trans h k) KB.book (Below.refl _ _) (fun _ => rfl)
    (fun pre W => (∃ v, Boxed W w.heap.size 115 v ∧ W.ownsRow w.heap.size 118 3 v pre.length (cellsL (pre.map val)) ∧ True) ∧ Below w.heap.size w W)
    (fun _ _ _ => False)
    (OwnFrom.and (Own.from (holdsRow_own w.heap.size w.heap.size 115 118 3 (fun pre : List (Place k) => pre.length) (fun pre => cellsL (pre.map val)) (fun _ _ => True)) _) (ownFrom_below (Nat.le_refl _) (by simp; omega)))
    (fun _ _ _ _ _ hs _ _ => hs)
    ⟨⟨_, bM.alloc _, World.ownsRow_nil _ _ _ _, trivial⟩, hB0⟩
    (fun x a' W => ∃ Bx, Box W Bx 118 (cells3 (val x)).toArray ∧ a' = { tmps := #[.int .i64 n, undef, .slice none 0 0, .pointer (some ⟨w.heap.size, 0, none⟩), .pointer (some ⟨Bx, 0, none⟩), .int .i64 n, .func (.func 90) #[] #[.pointer (some ⟨w.heap.size + 1, 0, none⟩)], pairV (val x), undef, undef, undef, undef, undef], defers := [] })
    ?hAx ?assign ?body ?done ?stop
  case hAx =>
    rintro x a' _ X Y row ⟨Bx, hb, rfl⟩ hg hr
    exact ⟨Bx, hb.kept hg (fun r e => (hr r e).2), rfl⟩
  case assign =>
    rintro l pre x W K ⟨⟨v, hv, hrow, _⟩, hB⟩ hK
    simp only [encP, zip_one, pairV, List.set_cons_zero, List.set_cons_succ]
    gi_wp2
    refine hK _ _ ((KeepsOthers.alloc _ _).from _) (fun hb => hb.alloc _) ⟨⟨v, hv.alloc _, hrow.alloc _, trivial⟩, hB.alloc hB.size _⟩ ⟨W.heap.size, Box.new W _ _, rfl⟩
  case body =>
    rintro l pre x a' W hl ⟨r, hr⟩ ⟨⟨v, hv, hrow, _⟩, hB⟩ ⟨Bx, hbx, rfl⟩ hlt
    have hc := hv.cell
    have x0 := hbx.cell 0
    have x1 := hbx.cell 1
    have x2 := hbx.cell 2
    simp [cells3] at x0 x1 x2
    gi_wp2_with (gi_at_builtin; refine wpListIn_append_own _ rfl _ _ 115 rfl w.heap.size 118 i0 _ 3 24 Tryz.underlying115 hi hz0 hz1 hz2 rfl (by decide) _ _ _ rfl (hrow.alloc _) ⟨W.heap.size, 0, none⟩ 1 1 (cells3 (val x)) rfl rfl (cells_new _ _ _) (by simp [cells3, Value.oneCell']) (by simp only [maxLen]; omega) (by omega) (by have := hB.size; simp; omega) ?_; intro v' w1 hown' hgrow _; obtain ⟨g', cap', rfl⟩ := ownsRow_succ hown'; obtain ⟨hv1, hv2, hr2, hk2, hb2⟩ := hv.appended (by decide) hrow hB.size (Nat.le_refl _) hown' hgrow; have hc1 := hv1.cell; have hf1 := hv1.frozen)
    refine ⟨hk2.from _, ?_, ⟨_, hv2, ?_, trivial⟩, hB.trans hb2⟩
    · intro hb
      exact ((hb.alloc _).kept hgrow (hb.not_row (by decide) hrow)).other (by omega) _
    · rw [List.map_append, List.map_cons, List.map_nil, cellsL_snoc, List.length_append]
      exact hr2
  case done =>
    rintro D ys W hD hS ⟨⟨v, hv, hrow, _⟩, hB⟩ hK
    have hc := hv.cell
    gi_wp2
    refine ⟨by simp, .inl ⟨_, _, rfl, run_takeDeferred hK, ?_⟩⟩
    refine ⟨_, results_tmp rfl _ _ _, v, rfl, ?_, hB.trans (belowK_b (w := w) (Nat.le_refl _) W D _ _ (by simp at hD; omega) hK rfl rfl)⟩
    have := ownsRow_putObj hrow (.deferred none) hK rfl
    rw [← hS, List.length_map]
    exact this
  case stop =>
    rintro D c pre W _ _ h _
    exact h.elim
end Go.Proofs.YtmageeohnfomnaaGreat


namespace Go.Proofs.YtmageeohnfomnaaGreat
set_option maxRecDepth 100000
open Go.RowKit Go.Shelf Go.ChangeShapes Go.WideShapes Go.ChangeAt

theorem cellsL_at : ∀ (ps : List Pr) (i : Nat) (hi : i < ps.length), (cellsL ps)[i * 3]? = some (.int .i64 (ps[i].1 : Nat)) ∧ (cellsL ps)[i * 3 + 1]? = some (.int .i64 (ps[i].2.1 : Nat)) ∧ (cellsL ps)[i * 3 + 2]? = some (.bool ps[i].2.2)
  | [], _, hi => absurd hi (by simp)
  | p :: ps, 0, _ => by simp [cellsL, cells3]
  | p :: ps, i + 1, hi => by
    have ih := cellsL_at ps i (by simpa using hi)
    have e : ∀ k, (cellsL (p :: ps))[(i + 1) * 3 + k]? = (cellsL ps)[i * 3 + k]? := fun k => by
      rw [show cellsL (p :: ps) = cells3 p ++ cellsL ps by simp [cellsL], List.getElem?_append_right (by simp [cells3]; omega)]
      congr 1
      simp [cells3]; omega
    refine ⟨(e 0).trans ih.1, (e 1).trans ih.2.1, (e 2).trans ih.2.2⟩
structure Prs (w : World) (base : Nat) (A : Option Addr) (ps : List Pr) (g : Nat) : Prop where
  adr : 0 < ps.length → A = some ⟨g, 0, none⟩
  base : 0 < ps.length → base ≤ g ∧ g < w.heap.size
  fst : ∀ i, (hi : i < ps.length) → w.cell? ⟨g, i * 3, none⟩ = some (.int .i64 (ps[i].1 : Nat))
  snd : ∀ i, (hi : i < ps.length) → w.cell? ⟨g, i * 3 + 1, none⟩ = some (.int .i64 (ps[i].2.1 : Nat))
  up : ∀ i, (hi : i < ps.length) → w.cell? ⟨g, i * 3 + 2, none⟩ = some (.bool ps[i].2.2)
theorem Prs.of {t : TypeId} {w : World} {base : Nat} {v : Value} {ps : List Pr} (h : w.ownsRow base t 3 v ps.length (cellsL ps)) : ∃ A cap g, v = .slice A ps.length cap ∧ Prs w base A ps g := by
  have h' := h
  rcases h.2 with ⟨rfl, h1⟩ | ⟨g, cap, cur, rfl, hb, hg, _⟩
  · exact ⟨none, 0, 0, by rw [h1], fun h => by omega, fun h => by omega, fun i hi => by omega, fun i hi => by omega, fun i hi => by omega⟩
  · have hc := h'.cells (g := g) rfl
    have hc' : ∀ j u, (cellsL ps)[j]? = some u → w.cell? ⟨g, j, none⟩ = some u := fun j u hu => by
      have := hc j u hu
      rwa [add_plain, Nat.zero_add] at this
    exact ⟨_, cap, g, rfl, fun _ => rfl, fun _ => ⟨hb, (Array.getElem?_eq_some_iff.1 hg).1⟩, fun i hi => hc' _ _ (cellsL_at ps i hi).1, fun i hi => hc' _ _ (cellsL_at ps i hi).2.1, fun i hi => hc' _ _ (cellsL_at ps i hi).2.2⟩
theorem Prs.block {w w' : World} {base : Nat} {A : Option Addr} {ps : List Pr} {g : Nat} (h : Prs w base A ps g) (hs : w.heap.size ≤ w'.heap.size) (hb : 0 < ps.length → w'.heap[g]? = w.heap[g]?) : Prs w' base A ps g :=
  ⟨h.adr, fun h0 => ⟨(h.base h0).1, Nat.lt_of_lt_of_le (h.base h0).2 hs⟩, fun i hi => (World.cell?_of_block (w := w) (hb (by omega))).trans (h.fst i hi), fun i hi => (World.cell?_of_block (w := w) (hb (by omega))).trans (h.snd i hi), fun i hi => (World.cell?_of_block (w := w) (hb (by omega))).trans (h.up i hi)⟩
theorem Prs.below {w w' : World} {base B : Nat} {A : Option Addr} {ps : List Pr} {g : Nat} (h : Prs w base A ps g) (hb : Below B w w') (hB : w.heap.size ≤ B) : Prs w' base A ps g :=
  h.block hb.size (fun h0 => hb.block g (Nat.lt_of_lt_of_le (h.base h0).2 hB))
end Go.Proofs.YtmageeohnfomnaaGreat


namespace Go.Proofs.YtmageeohnfomnaaGreat
set_option maxRecDepth 100000
open Go.RowKit Go.Shelf Go.ChangeShapes Go.WideShapes Go.ChangeAt

def Rr (n : Int) (c : Nat) : Prop := c ≤ 10 ∧ ∀ d, d < c → ((2 ^ d : Nat) : Int) < n
theorem Rr.next {n : Int} {c : Nat} (h : Rr n c) (h1 : ((2 ^ c : Nat) : Int) < n) (h2 : 2 ^ c < 1024) : Rr n (c + 1) := by
  have hc : c < 10 := by
    rcases Nat.lt_or_ge c 10 with h3 | h3
    · exact h3
    · have : 2 ^ 10 ≤ 2 ^ c := Nat.pow_le_pow_right (by decide) h3
      omega
  refine ⟨hc, fun d hd => ?_⟩
  by_cases e : d = c
  · subst e; exact h1
  · exact h.2 d (by omega)
theorem Rr.done {n : Int} {c : Nat} (h : Rr n c) (he : ¬ (((2 ^ c : Nat) : Int) < n ∧ 2 ^ c < 1024)) : (((2 ^ c : Nat) : Int) == n) = isNet n := by
  cases hn : isNet n
  · rw [beq_eq_false_iff_ne]
    intro e
    have : isNet n = true := (isNet_iff n).2 ⟨c, h.1, e.symm⟩
    rw [hn] at this; cases this
  · obtain ⟨p, hp, rfl⟩ := (isNet_iff n).1 hn
    have hcp : c = p := by
      rcases Nat.lt_trichotomy c p with h1 | h1 | h1
      · exfalso
        have h2 : 2 ^ c < 2 ^ p := Nat.pow_lt_pow_right (by decide) h1
        have h3 := two_le p hp
        exact he ⟨by omega, by omega⟩
      · exact h1
      · have := h.2 p h1
        omega
    rw [hcp]; simp
set_option maxRecDepth 100000 in
set_option maxHeartbeats 1000000 in
theorem refRight_any (n : Int) (w : World) : Calls Tryz.prog 80 #[.int .i64 n] w fun e w' => e = .returned (.bool (isNet n)) ∧ w' = w := by
  go_enter Tryz.func80, Tryz.ntmps80
  go_wp2_with fail
  go_loopw [3] (fun v wr => ∃ c : Nat, v = .int .i64 (2 ^ c : Nat) ∧ Rr n c ∧ wr = w) (fun v _ => 4096 - (intOf v).toNat)
  case atStart => exact ⟨0, rfl, ⟨by omega, fun d hd => by omega⟩, rfl⟩
  case round =>
    obtain ⟨c, rfl, hR, rfl⟩ := hrel
    have hc2 := two_le c hR.1
    have hc0 := two_pos c
    have hnx := hR.next
    have hdn := hR.done
    have hps : 2 ^ (c + 1) = 2 * 2 ^ c := by rw [Nat.pow_succ, Nat.mul_comm]
    have HX := Lib.hid hnx
    have HD := Lib.hid hdn
    have HP := Lib.hid hps
    clear hR hnx hdn hps
    generalize 2 ^ c = k at *
    by_cases h1 : (k : Int) < n
    · by_cases h2 : k < 1024
      · go_wp2_with fail
        go_roundw
        case rel => exact ⟨c + 1, by rw [HP.out]; go_num, HX.out h1 h2, trivial⟩
        case measure => simp [intOf]; omega
      · have hd := HD.out (fun h => h2 h.2)
        go_wp2_with fail
        go_ret
        exact ⟨by rw [← hd]; rfl, rfl⟩
    · have hd := HD.out (fun h => h1 h.1)
      go_wp2_with fail
      go_ret
      exact ⟨by rw [← hd]; rfl, rfl⟩
theorem infoRefPair : (Tryz.prog.info? 121).map (fun i => (i.zero, i.size, i.bytes)) = some (some (.agg #[.int .i64 0, .int .i64 0, .bool false]), 3, 24) := by kernel_rfl
structure RpAt (w : World) (v : Value) (xs : List Pr) (wr : World) : Prop where
  own : wr.ownsRow w.heap.size 121 3 v xs.length (cellsL xs)
  below : Below w.heap.size w wr
theorem RpAt.next {w : World} {v : Value} {xs : List Pr} {k j i n A cap : Nat} {B : Option Addr} {wr w7 : World} (h : RpAt w v (xs ++ stageL i k j) wr) (hs : stageL (i + 1) k j = stageL i k j ++ if true = true then [mkP k j i] else []) (_hi : i < n)
    (ho : w7.ownsRow w.heap.size 121 3 (.slice B (xs.length + (stageL i k j).length + 1) cap) (xs.length + (stageL i k j).length + 1) (cellsL (xs ++ stageL i k j) ++ [.int .i64 (i : Int), .int .i64 ((i : Int) + (j : Int)), .bool (upOf k i)]))
    (hg : (wr.alloc (.cells #[.int .i64 (i : Int), .int .i64 ((i : Int) + (j : Int)), .bool (upOf k i)] A)).grownBy w7 v.ownBlock) : RpAt w (.slice B (xs.length + (stageL i k j).length + 1) cap) (xs ++ stageL (i + 1) k j) w7 := by
  constructor
  · rw [hs, if_pos rfl, ← List.append_assoc, cellsL_snoc]
    simp only [cells3, mkP, Int.natCast_add, List.length_append, List.length_cons, List.length_nil]
    exact ho
  · refine (h.below.alloc h.below.size _).grown hg (by have := h.below.size; simp; omega) (fun b e => ?_)
    rcases h.own.2 with ⟨rfl, _⟩ | ⟨g, cap, cur, rfl, hb, _⟩
    · simp [Value.ownBlock] at e
    · obtain rfl : g = b := by simpa [Value.ownBlock] using e
      exact hb
theorem refPairs_none (n : Int) (w : World) (h : isNet n = false) : Calls Tryz.prog 66 #[.int .i64 n] w fun e w' => e = .returned (.slice none 0 0) ∧ Below w.heap.size w w' := by
  go_enter Tryz.func66, Tryz.ntmps66
  go_wp2_with fail
  refine (refRight_any n _).mono ?_
  rintro e w1 ⟨rfl, rfl⟩
  rw [h]
  go_wp2_with fail
  go_ret
  exact ⟨rfl, Below.refl _ _⟩
theorem half_test (i j : Nat) (_hj : 0 < j) (hi : i < 4096) : ((wrap64 ((i : Int) / (j : Int))).tmod 2 == 0) = lowB j i := by
  have e : (i : Int) / (j : Int) = ((i / j : Nat) : Int) := by simp
  have h1 : i / j ≤ i := Nat.div_le_self i j
  unfold lowB
  rw [e]
  generalize i / j = q at *
  have e2 : wrap64 (q : Int) = (q : Int) := by unfold wrap64; omega
  have e3 : ((q : Int)).tmod 2 = ((q % 2 : Nat) : Int) := by rw [Int.tmod_eq_emod_of_nonneg (by omega)]; simp
  rw [e2, e3]
  show decide (_ = _) = decide (_ = _)
  rw [decide_eq_decide]
  constructor <;> (intro h; omega)
theorem cells_new3 (W : World) (t : TypeId) (a b c : Value) : ∀ j u, [a, b, c][j]? = some u → (W.alloc (.cells #[a, b, c] t)).cell? ((⟨W.heap.size, 0, none⟩ : Addr).add j) = some u := by
  intro j u h
  have hb := Box.new W t #[a, b, c]
  have := hb.cell j
  rw [add_plain, Nat.zero_add, this]
  simpa using h
set_option maxRecDepth 100000 in
set_option maxHeartbeats 1000000 in
theorem refPairs_in (P n : Nat) (hP : P ≤ 10) (hn : 2 ^ P = n) (w : World) : Calls Tryz.prog 66 #[.int .i64 (n : Int)] w fun e w' => ∃ v, e = .returned v ∧ w'.ownsRow w.heap.size 121 3 v (netL P).length (cellsL (netL P)) ∧ Below w.heap.size w w' := by
  have hR : isNet (n : Int) = true := (isNet_iff _).2 ⟨P, hP, by rw [hn]⟩
  have hn1 : n ≤ 1024 := by rw [← hn]; exact two_le P hP
  have hlen : (phasesL n P).length ≤ 28160 := by
    have := (Net.len ⟨.inl ⟨P, hP, rfl, rfl, rfl⟩⟩ : (netL P).length ≤ 28160)
    unfold netL at this; rwa [hn] at this
  have HN := Lib.hid hn
  clear hn
  go_enter Tryz.func66, Tryz.ntmps66
  go_wp2_with fail
  refine (refRight_any (n : Int) _).mono ?_
  rintro e w1 ⟨rfl, rfl⟩
  rw [hR]
  have H0 : RpAt w1 (.slice none 0 0) (phasesL n 0) w1 := ⟨World.ownsRow_nil _ _ _ _, Below.refl _ _⟩
  have H0 := Lib.hid H0
  go_wp2_with fail
  go_loopw [3, 4] (fun v3 v4 wr => ∃ c : Nat, v4 = .int .i64 (2 ^ (c + 1) : Nat) ∧ c ≤ P ∧ RpAt w1 v3 (phasesL n c) wr) (fun _ v4 _ => 4096 - (intOf v4).toNat)
  case atStart => exact ⟨0, rfl, by omega, H0.out⟩
  case round =>
    obtain ⟨c, rfl, hcP, hS⟩ := hrel
    clear H0
    obtain ⟨w9, h9⟩ : ∃ x, x = wr := ⟨_, rfl⟩
    subst h9
    have hk2 : 2 ^ (c + 1) ≤ 2048 := Nat.pow_le_pow_right (by decide) (show c + 1 ≤ 11 by omega)
    have hkh := half_two c
    have hks : 2 ^ (c + 1 + 1) = 2 ^ (c + 1) * 2 := Nat.pow_succ ..
    have hkp := two_pos (c + 1)
    have HS := Lib.hid hS
    by_cases hcl : c < P
    · have hkn : 2 ^ (c + 1) ≤ n := by rw [← HN.out]; exact Nat.pow_le_pow_right (by decide) hcl
      have hm := phasesL_mono n (c + 1) P (by omega)
      have hst : phasesL n c ++ mergeL n (2 ^ (c + 1)) (c + 1) = phasesL n (c + 1) := rfl
      have HST := Lib.hid hst
      have HKS := Lib.hid hks
      clear hS hst hks
      generalize hkc : 2 ^ (c + 1) = k at *
      have HKC := Lib.hid hkc
      clear hkc
      go_wp2_with fail
      go_loopw [3, 5] (fun v3 v5 wr => ∃ (d : Nat) (xs : List Pr), v5 = .int .i64 (hf d : Nat) ∧ d ≤ c + 1 ∧ xs ++ mergeL n k d = phasesL n (c + 1) ∧ RpAt w1 v3 xs wr) (fun _ v5 _ => (intOf v5).toNat)
      case atStart => exact ⟨c + 1, _, by rw [show hf (c + 1) = k / 2 by unfold hf; rw [HKC.out]]; go_num, Nat.le_refl _, HST.out, HS.out⟩
      case round =>
        obtain ⟨d, xs, rfl, hd, hxs, hX⟩ := hrel
        clear HS
        obtain ⟨w8, h8⟩ : ∃ x, x = wr := ⟨_, rfl⟩
        subst h8
        cases d with
        | zero =>
          have HX : RpAt w1 u3 (phasesL n (c + 1)) w8 := by
            have e : xs = phasesL n (c + 1) := by rw [← hxs]; simp [mergeL]
            rw [← e]; exact hX
          have HX := Lib.hid HX
          clear hX hxs
          rw [show hf 0 = 0 from rfl]
          go_wp2_with fail
          go_roundw
          case rel => exact ⟨c + 1, by rw [HKS.out]; go_num, by omega, HX.out⟩
          case measure => simp [intOf]; omega
        | succ d =>
          have hje : hf (d + 1) = 2 ^ d := half_two d
          have hjh : hf d = 2 ^ d / 2 := rfl
          have hj1 := two_pos d
          have hj2 : 2 ^ d ≤ 1024 := two_le d (by omega)
          have hsp : mergeL n k (d + 1) = stageL n k (2 ^ d) ++ mergeL n k d := rfl
          rw [hje]
          rw [hsp, ← List.append_assoc] at hxs
          have hl1 := congrArg List.length hxs
          have hl2 : (xs ++ stageL n k (2 ^ d)).length ≤ 28160 := by
            rw [List.length_append] at hl1; omega
          clear hl1
          have HJH := Lib.hid hjh
          have HXS := Lib.hid hxs
          have h0 : RpAt w1 u3 (xs ++ stageL 0 k (2 ^ d)) w8 := by simpa [stageL] using hX
          have H0 := Lib.hid h0
          clear hX h0 hxs hsp hjh hje
          generalize 2 ^ d = j at *
          have hj3 : decide (1 ≤ (j : Int)) = true := by simp; omega
          go_wp2_with fail
          go_loopw [3, 6] (fun v3 v6 wr => ∃ i : Nat, v6 = .int .i64 i ∧ i ≤ n ∧ RpAt w1 v3 (xs ++ stageL i k j) wr) (fun _ v6 _ => n - (intOf v6).toNat)
          case atStart => exact ⟨0, rfl, by omega, H0.out⟩
          case round =>
            obtain ⟨i, rfl, hi, hX⟩ := hrel
            clear H0
            have HX := Lib.hid hX
            clear hX
            by_cases hlt : i < n
            · have hlow := half_test i j hj1 (by omega)
              have hup := half_test i k hkp (by omega)
              have hsz := HX.out.below.size
              have hls := stageL_mono k j (i := i + 1) (n := n) hlt
              have hsu := stageL_succ i k j
              cases hb : lowB j i
              · rw [hb] at hlow hsu
                have HY : RpAt w1 u3 (xs ++ stageL (i + 1) k j) wr := by rw [hsu]; simpa using HX.out
                have HY := Lib.hid HY
                clear hsu hls
                go_wp2_with fail
                go_roundw
                case rel => exact ⟨i + 1, by go_num, by omega, HY.out⟩
                case measure => simp [intOf]; omega
              · rw [hb] at hlow hsu
                have hup2 : ((wrap64 ((i : Int) / (k : Int))).tmod 2 == 0) = upOf k i := hup
                have hroom : (xs ++ stageL i k j).length + 1 ≤ 28160 := by
                  rw [hsu] at hls
                  simp only [List.length_append, if_true, List.length_cons, List.length_nil] at hls hl2 ⊢
                  omega
                have HSU := Lib.hid hsu
                clear hsu hls hup
                go_wp2_with (with_reducible refine wpList_append_where _ rfl (.tmp 31) (.tmp 42) 119 rfl w1.heap.size 121 (.agg #[.int .i64 0, .int .i64 0, .bool false]) 3 24 Tryz.underlying119 infoRefPair rfl (by decide) u3 (xs ++ stageL i k j).length (cellsL (xs ++ stageL i k j)) rfl (HX.out.own.alloc _) ⟨wr.heap.size, 0, none⟩ 1 1 [.int .i64 (i : Int), .int .i64 ((i : Int) + (j : Int)), .bool (upOf k i)] rfl rfl (cells_new3 _ _ _ _ _) ?c1 ?c2 ?c3 ?c4 ?_)
                case c1 => simp [Value.oneCell']
                case c2 => simp only [List.length_append, maxLen] at hroom ⊢; omega
                case c3 => simp only [List.length_append] at hroom ⊢; omega
                case c4 => omega
                intro A cap1 w7 hown hgr _
                have HY := Lib.hid (HX.out.next HSU.out (show i < n from hlt) hown hgr)
                clear hown hgr
                go_wp2_with fail
                go_roundw
                case rel => exact ⟨i + 1, by go_num, by omega, HY.out⟩
                case measure => simp [intOf]; omega
            · obtain rfl : i = n := by omega
              go_wp2_with fail
              go_roundw
              case rel => exact ⟨d, _, by rw [HJH.out]; go_num, by omega, HXS.out, HX.out⟩
              case measure => simp [intOf]; omega
    · have hkn : ¬ 2 ^ (c + 1) ≤ n := by
        have : 2 ^ (c + 1) = n * 2 := by rw [← HN.out, show c = P by omega, Nat.pow_succ]
        omega
      have hend : RpAt w1 u3 (netL P) w9 := by
        rw [show c = P by omega] at hS
        unfold netL; rw [HN.out]; exact hS
      have HE := Lib.hid hend
      clear hend hS HS
      generalize 2 ^ (c + 1) = k at *
      go_wp2_with fail
      go_ret
      exact ⟨_, rfl, HE.out.own, HE.out.below⟩
theorem refPairs_any (n : Int) (k : Nat) (ps : List Pr) (hN : Net n k ps) (w : World) :
    Calls Tryz.prog 66 #[.int .i64 n] w fun e W' => ∃ v, e = .returned v ∧ W'.ownsRow w.heap.size 121 3 v ps.length (cellsL ps) ∧ Below w.heap.size w W' := by
  rcases hN.is with ⟨P, hP, rfl, _, rfl⟩ | ⟨hf, _, rfl⟩
  · exact refPairs_in P _ hP rfl w
  · exact (refPairs_none n w hf).mono fun e W' ⟨he, hb⟩ => ⟨_, he, World.ownsRow_nil _ _ _ _, hb⟩
end Go.Proofs.YtmageeohnfomnaaGreat

