import Derived.Maps.AppendAt
import Derived.Lib.Hide
import Derived.Test.YtknnebhjldfkhaaGreatG20
import Derived.Test.YtknnebhjldfkhaaGreatG2
namespace Go.Proofs.YtknnebhjldfkhaaGreat
set_option maxRecDepth 100000
open Go.RowKit Go.Shelf Go.ChangeShapes Go.WideShapes Go.ChangeAt
attribute [local go_sem] Oper.semAt_some

def cells3 (p : Pr) : List Value := [.int .i64 (p.1 : Nat), .int .i64 (p.2.1 : Nat), .bool p.2.2]
def cellsL (ps : List Pr) : List Value := ps.flatMap cells3
theorem cellsL_snoc (ps : List Pr) (p : Pr) : cellsL (ps ++ [p]) = cellsL ps ++ cells3 p := by simp [cellsL]
theorem infoPair : (Tryz.prog.info? 209).map (fun i => (i.zero, i.size, i.bytes)) = some (some (.agg #[.int .i64 0, .int .i64 0, .bool false]), 3, 24) := by kernel_rfl
theorem cells_new (W : World) (t : TypeId) (p : Pr) : ∀ j u, (cells3 p)[j]? = some u → (W.alloc (.cells #[.int .i64 (p.1 : Nat), .int .i64 (p.2.1 : Nat), .bool p.2.2] t)).cell? ((⟨W.heap.size, 0, none⟩ : Addr).add j) = some u := by
 intro j u h
 have hb := Box.new W t #[.int .i64 (p.1 : Nat), .int .i64 (p.2.1 : Nat), .bool p.2.2]
 have := hb.cell j
 rw [add_plain, Nat.zero_add, this]
 simpa [cells3] using h
theorem Box.kept {X Y : World} {row : Option Nat} {b : Nat} {t : TypeId} {cs : Array Value} (h : Box X b t cs) (hg : X.grownBy Y row) (hr : ∀ r, row = some r → ∃ o : Obj, X.heap[r]? = some o ∧ o.isCells = false) : Box Y b t cs :=
 h.of (hg.block b h.lt (fun e => by
  obtain ⟨o, ho, hc⟩ := hr b e.symm
  have := (show X.heap[b]? = _ from h).symm.trans ho
  cases this
  cases hc))
set_option maxRecDepth 100000 in
set_option maxHeartbeats 2000000 in
theorem pairs_any (n : Int) (k : Nat) (ps : List Pr) (hN : Net n k ps) (w : World) :
  Calls Tryz.prog 144 #[.int .i64 n] w fun e W' => ∃ v, e = .returned v ∧ W'.ownsRow w.heap.size 209 3 v ps.length (cellsL ps) ∧ Below w.heap.size w W' := by
 have hlen := hN.len
 obtain ⟨i0, hi, hz0, hz1, hz2⟩ := info_parts infoPair
 refine (callsIn_wide (n := 9)).1 ?_
 refine callsIn_of_wp_marks Tryz.func144 rfl trivial ?_ rfl
 simp only [Tryz.ntmps144, List.size_toArray, List.length_cons, List.length_nil, Nat.reduceAdd, Nat.reduceSub, qA0, qB0, qC0, List.append_toArray, List.nil_append, List.cons_append]
 gi_wp2_with (refine ⟨trivial, ?_⟩; gi_at_call 168; refine (callsIn_wide.2 (network_any n _)).mono ?_; rintro e w1 ⟨rfl, rfl⟩)
 have bM := Boxed.new w 206 (.slice none 0 0)
 have bN := Boxed.new (w.alloc (.cells #[.slice none 0 0] 206)) 3 (.int .i64 n)
 rw [World.size_alloc] at bN
 have hB0 : Below w.heap.size w ((w.alloc (.cells #[.slice none 0 0] 206)).alloc (.cells #[.int .i64 n] 3)) := ((Below.refl _ w).alloc (Nat.le_refl _) _).alloc (by simp) _
 refine wpIn_rangeFunc_ownH rfl (by decide) (gf := 183) (lb := #[.pointer (some ⟨w.heap.size + 1, 0, none⟩)]) rfl trivial (enters_of Tryz.func183 (by kernel_rfl) rfl)
  (net_stops _ (w.heap.size + 1) k n ps hN _ bN) (fun h k => KB.trans h k) KB.book (Below.refl _ _) (fun _ => rfl)
  (fun pre W => (∃ v, Boxed W w.heap.size 206 v ∧ W.ownsRow w.heap.size 209 3 v pre.length (cellsL (pre.map val)) ∧ True) ∧ Below w.heap.size w W)
  (fun _ _ _ => False)
  (OwnFrom.and (Own.from (holdsRow_own w.heap.size w.heap.size 206 209 3 (fun pre : List (Place k) => pre.length) (fun pre => cellsL (pre.map val)) (fun _ _ => True)) _) (ownFrom_below (Nat.le_refl _) (by simp; omega)))
  (fun _ _ _ _ _ hs _ _ => hs)
  ⟨⟨_, bM.alloc _, World.ownsRow_nil _ _ _ _, trivial⟩, hB0⟩
  (fun x a' W => ∃ Bx, Box W Bx 209 (cells3 (val x)).toArray ∧ a' = { tmps := #[.int .i64 n, undef, .slice none 0 0, .pointer (some ⟨w.heap.size, 0, none⟩), .pointer (some ⟨Bx, 0, none⟩), .int .i64 n, .func (.func 183) #[] #[.pointer (some ⟨w.heap.size + 1, 0, none⟩)], pairV (val x), undef, undef, undef, undef, undef], defers := [] })
  ?hAx ?assign ?body ?done ?stop
 case hAx =>
  rintro x a' _ X Y row ⟨Bx, hb, rfl⟩ hg hr
  exact ⟨Bx, hb.kept hg (fun r e => (hr r e).2), rfl⟩
 case assign =>
  rintro l pre x W K ⟨⟨v, hv, hrow, _⟩, hB⟩ hK
  simp only [encP, zip_one, pairV, List.set_cons_zero, List.set_cons_succ]
  gi_wp2
  refine hK _ _ ((KeepsOthers.alloc _ _).from _) (fun hb => hb.alloc _) ⟨⟨v, hv.alloc _, hrow.alloc _, trivial⟩, hB.alloc hB.size _⟩ ⟨W.heap.size, Box.new W _ _, rfl⟩
 case body =>
  rintro l pre x a' W hl ⟨r, hr⟩ ⟨⟨v, hv, hrow, _⟩, hB⟩ ⟨Bx, hbx, rfl⟩ hlt
  have hc := hv.cell
  have x0 := hbx.cell 0
  have x1 := hbx.cell 1
  have x2 := hbx.cell 2
  simp [cells3] at x0 x1 x2
  gi_wp2_with (gi_at_builtin; refine wpListIn_append_own _ rfl _ _ 206 rfl w.heap.size 209 i0 _ 3 24 Tryz.underlying206 hi hz0 hz1 hz2 rfl (by decide) _ _ _ rfl (hrow.alloc _) ⟨W.heap.size, 0, none⟩ 1 1 (cells3 (val x)) rfl rfl (cells_new _ _ _) (by simp [cells3, Value.oneCell']) (by simp only [maxLen]; omega) (by omega) (by have := hB.size; simp; omega) ?_; intro v' w1 hown' hgrow _; obtain ⟨g', cap', rfl⟩ := ownsRow_succ hown'; obtain ⟨hv1, hv2, hr2, hk2, hb2⟩ := hv.appended (by decide) hrow hB.size (Nat.le_refl _) hown' hgrow; have hc1 := hv1.cell; have hf1 := hv1.frozen)
  refine ⟨hk2.from _, ?_, ⟨_, hv2, ?_, trivial⟩, hB.trans hb2⟩
  ·intro hb
   exact ((hb.alloc _).kept hgrow (hb.not_row (by decide) hrow)).other (by omega) _
  ·rw [List.map_append, List.map_cons, List.map_nil, cellsL_snoc, List.length_append]
   exact hr2
 case done =>
  rintro D ys W hD hS ⟨⟨v, hv, hrow, _⟩, hB⟩ hK
  have hc := hv.cell
  gi_wp2
  refine ⟨by simp, .inl ⟨_, _, rfl, run_takeDeferred hK, ?_⟩⟩
  refine ⟨_, results_tmp rfl _ _ _, v, rfl, ?_, hB.trans (belowK_b (w := w) (Nat.le_refl _) W D _ _ (by simp at hD; omega) hK rfl rfl)⟩
  have := ownsRow_putObj hrow (.deferred none) hK rfl
  rw [← hS, List.length_map]
  exact this
 case stop =>
  rintro D c pre W _ _ h _
  exact h.elim
end Go.Proofs.YtknnebhjldfkhaaGreat


namespace Go.Proofs.YtknnebhjldfkhaaGreat
set_option maxRecDepth 100000
open Go.RowKit Go.Shelf Go.ChangeShapes Go.WideShapes Go.ChangeAt

theorem cellsL_at : ∀ (ps : List Pr) (i : Nat) (hi : i < ps.length), (cellsL ps)[i * 3]? = some (.int .i64 (ps[i].1 : Nat)) ∧ (cellsL ps)[i * 3 + 1]? = some (.int .i64 (ps[i].2.1 : Nat)) ∧ (cellsL ps)[i * 3 + 2]? = some (.bool ps[i].2.2)
 | [], _, hi => absurd hi (by simp)
 | p :: ps, 0, _ => by simp [cellsL, cells3]
 | p :: ps, i + 1, hi => by
  have ih := cellsL_at ps i (by simpa using hi)
  have e : ∀ k, (cellsL (p :: ps))[(i + 1) * 3 + k]? = (cellsL ps)[i * 3 + k]? := fun k => by
   rw [show cellsL (p :: ps) = cells3 p ++ cellsL ps by simp [cellsL], List.getElem?_append_right (by simp [cells3]; omega)]
   congr 1
   simp [cells3]; omega
  refine ⟨(e 0).trans ih.1, (e 1).trans ih.2.1, (e 2).trans ih.2.2⟩
structure Prs (w : World) (base : Nat) (A : Option Addr) (ps : List Pr) (g : Nat) : Prop where
 adr : 0 < ps.length → A = some ⟨g, 0, none⟩
 base : 0 < ps.length → base ≤ g ∧ g < w.heap.size
 fst : ∀ i, (hi : i < ps.length) → w.cell? ⟨g, i * 3, none⟩ = some (.int .i64 (ps[i].1 : Nat))
 snd : ∀ i, (hi : i < ps.length) → w.cell? ⟨g, i * 3 + 1, none⟩ = some (.int .i64 (ps[i].2.1 : Nat))
 up : ∀ i, (hi : i < ps.length) → w.cell? ⟨g, i * 3 + 2, none⟩ = some (.bool ps[i].2.2)
theorem Prs.of {t : TypeId} {w : World} {base : Nat} {v : Value} {ps : List Pr} (h : w.ownsRow base t 3 v ps.length (cellsL ps)) : ∃ A cap g, v = .slice A ps.length cap ∧ Prs w base A ps g := by
 have h' := h
 rcases h.2 with ⟨rfl, h1⟩ | ⟨g, cap, cur, rfl, hb, hg, _⟩
 ·exact ⟨none, 0, 0, by rw [h1], fun h => by omega, fun h => by omega, fun i hi => by omega, fun i hi => by omega, fun i hi => by omega⟩
 ·have hc := h'.cells (g := g) rfl
  have hc' : ∀ j u, (cellsL ps)[j]? = some u → w.cell? ⟨g, j, none⟩ = some u := fun j u hu => by
   have := hc j u hu
   rwa [add_plain, Nat.zero_add] at this
  exact ⟨_, cap, g, rfl, fun _ => rfl, fun _ => ⟨hb, (Array.getElem?_eq_some_iff.1 hg).1⟩, fun i hi => hc' _ _ (cellsL_at ps i hi).1, fun i hi => hc' _ _ (cellsL_at ps i hi).2.1, fun i hi => hc' _ _ (cellsL_at ps i hi).2.2⟩
theorem Prs.block {w w' : World} {base : Nat} {A : Option Addr} {ps : List Pr} {g : Nat} (h : Prs w base A ps g) (hs : w.heap.size ≤ w'.heap.size) (hb : 0 < ps.length → w'.heap[g]? = w.heap[g]?) : Prs w' base A ps g :=
 ⟨h.adr, fun h0 => ⟨(h.base h0).1, Nat.lt_of_lt_of_le (h.base h0).2 hs⟩, fun i hi => (World.cell?_of_block (w := w) (hb (by omega))).trans (h.fst i hi), fun i hi => (World.cell?_of_block (w := w) (hb (by omega))).trans (h.snd i hi), fun i hi => (World.cell?_of_block (w := w) (hb (by omega))).trans (h.up i hi)⟩
theorem Prs.below {w w' : World} {base B : Nat} {A : Option Addr} {ps : List Pr} {g : Nat} (h : Prs w base A ps g) (hb : Below B w w') (hB : w.heap.size ≤ B) : Prs w' base A ps g :=
 h.block hb.size (fun h0 => hb.block g (Nat.lt_of_lt_of_le (h.base h0).2 hB))
end Go.Proofs.YtknnebhjldfkhaaGreat


namespace Go.Proofs.YtknnebhjldfkhaaGreat
set_option maxRecDepth 100000
open Go.RowKit Go.Shelf Go.ChangeShapes Go.WideShapes Go.ChangeAt

structure RpAt (w : World) (v : Value) (xs : List Pr) (wr : World) : Prop where
 own : wr.ownsRow w.heap.size 213 3 v xs.length (cellsL xs)
 below : Below w.heap.size w wr
end Go.Proofs.YtknnebhjldfkhaaGreat

