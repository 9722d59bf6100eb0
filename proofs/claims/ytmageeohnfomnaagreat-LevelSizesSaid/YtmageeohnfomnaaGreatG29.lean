/- Texts of ours put together: LevelSpots, PairRow, EvInt, LevelAt, LevelAdd. -/
import Derived.Below
import Derived.BigQuiet
import Derived.BigRegion
import Derived.ChangeArms
import Derived.ChangeKeysEq
import Derived.ChangeSlices
import Derived.Deep.Cut
import Derived.Deep.Draws
import Derived.Deep.MidRow
import Derived.Deep.OwnRows
import Derived.Deep.Quiet
import Derived.Deep.QuietTactic
import Derived.Deep.RegionHeld
import Derived.Deep.RegionHeld3
import Derived.Deep.Slices
import Derived.Deep.WholeRow
import Derived.Laws.AppendOwn
import Derived.Laws.BitsAllLaws
import Derived.Laws.CopyOwn
import Derived.Laws.StructEq
import Derived.Lib.BitFns
import Derived.Lib.Hide
import Derived.LoopIn
import Derived.LoopNIn
import Derived.Maps.AppendAt
import Derived.OpenShut
import Derived.OwnWalk
import Derived.OwnWalkIn
import Derived.ProofKit
import Derived.RangeFuncBound
import Derived.RangeFuncCalls
import Derived.RangeFuncLeaves
import Derived.RangeFuncNested
import Derived.RegionTactic
import Derived.RowKit3
import Derived.Shelf.Abstract
import Derived.Shelf.Bits.Mul64
import Derived.Shelf.RegionOpen
import Derived.Shelf.SlSortCmp.WholeK
import Derived.Shelf.Spec.BitsCarry
import Derived.Shelf.Strconv.Itoa0
import Derived.SizedLaws
import Derived.Sort.Grow
import Derived.StillTailTactics
import Derived.TacticsInMore
import Derived.WalkKit
import Derived.WideShapes
import Derived.Test.YtmageeohnfomnaaGreatProg
import Derived.Test.YtmageeohnfomnaaGreatG2
import Derived.Test.YtmageeohnfomnaaGreatG0
import Derived.Test.YtmageeohnfomnaaGreatG16
import Derived.Test.YtmageeohnfomnaaGreatG20
import Derived.Test.YtmageeohnfomnaaGreatG17
import Derived.Test.YtmageeohnfomnaaGreatG3
import Derived.Test.YtmageeohnfomnaaGreatG1
import Derived.Test.YtmageeohnfomnaaGreatG19
import Derived.Test.YtmageeohnfomnaaGreatG21
import Derived.Test.YtmageeohnfomnaaGreatG5
import Derived.Test.YtmageeohnfomnaaGreatG27
import Derived.Test.YtmageeohnfomnaaGreatG15
import Derived.Test.YtmageeohnfomnaaGreatG6
import Derived.Test.YtmageeohnfomnaaGreatG10
import Derived.Test.YtmageeohnfomnaaGreatG23
import Derived.Test.YtmageeohnfomnaaGreatG25
import Derived.Test.YtmageeohnfomnaaGreatG26
import Derived.Test.YtmageeohnfomnaaGreatG11
import Derived.Test.YtmageeohnfomnaaGreatG28
import Derived.Test.YtmageeohnfomnaaGreatG24
import Derived.Test.YtmageeohnfomnaaGreatG37
import Derived.Test.YtmageeohnfomnaaGreatG22
import Derived.Test.YtmageeohnfomnaaGreatG39
import Derived.Test.YtmageeohnfomnaaGreatG14
import Derived.Test.YtmageeohnfomnaaGreatG8
import Derived.Test.YtmageeohnfomnaaGreatG9
namespace Go.Proofs.YtmageeohnfomnaaGreat
set_option maxRecDepth 100000
open Go.RowKit Go.ChangeShapes Go.WideShapes Go.ChangeAt

abbrev Sp := Nat × Nat
def spl (l : List Sp) : List Value := l.flatMap fun x => [.int .i64 (x.1 : Nat), .int .i64 (x.2 : Nat)]
theorem spl_snoc (l : List Sp) (x : Sp) : spl (l ++ [x]) = spl l ++ [.int .i64 (x.1 : Nat), .int .i64 (x.2 : Nat)] := by unfold spl; rw [List.flatMap_append]; simp
theorem spl_at : ∀ (l : List Sp) (j : Nat) (h : j < l.length), (spl l)[j * 2]? = some (.int .i64 (l[j].1 : Nat)) ∧ (spl l)[j * 2 + 1]? = some (.int .i64 (l[j].2 : Nat))
  | [], j, h => by simp at h
  | x :: l, 0, _ => by simp [spl]
  | x :: l, j + 1, h => by
    have ih := spl_at l j (by simpa using h)
    unfold spl at *
    rw [List.flatMap_cons]
    rw [show (j + 1) * 2 = j * 2 + 1 + 1 by omega]
    simpa using ih
theorem infoSpot : (Tryz.prog.info? 92).map (fun i => (i.zero, i.size, i.bytes)) = some (some (.agg #[.int .i64 0, .int .i64 0]), 2, 16) := by kernel_rfl
theorem new_pair (W : World) (t : TypeId) (a b : Value) {k : Nat} (hk : k = W.heap.size) : ∀ j u, [a, b][j]? = some u → (W.alloc (.cells #[a, b] t)).cell? ((⟨k, 0, none⟩ : Addr).add j) = some u := by
  subst hk
  intro j u h
  have hb := Box.new W t #[a, b]
  have := hb.cell j
  rw [add_plain, Nat.zero_add, this]
  simpa using h
structure SqAt (w1 : World) (v : Value) (l : List Sp) (wr : World) : Prop where
  own : wr.ownsRow w1.heap.size 92 2 v l.length (spl l)
  below : Below w1.heap.size w1 wr
theorem SqAt.nil (w : World) : SqAt w (.slice none 0 0) [] w := ⟨World.ownsRow_nil _ _ _ _, Below.refl _ _⟩
theorem SqAt.grow {w1 wr wx : World} {v : Value} {l : List Sp} (h : SqAt w1 v l wr) (hb : Below wr.heap.size wr wx) : SqAt w1 v l wx :=
  ⟨row_stay h.own (fun b _ hl => hb.block b hl), h.below.trans (hb.mono h.below.size)⟩
theorem SqAt.next {u : TypeId} {w1 : World} {v : Value} {l : List Sp} {x : Sp} {A : Option Addr} {cap : Nat} {wx w7 : World} (h : SqAt w1 v l wx)
    (ho : w7.ownsRow w1.heap.size 92 2 (.slice A (l.length + 1) cap) (l.length + 1) (spl l ++ [.int .i64 (x.1 : Nat), .int .i64 (x.2 : Nat)])) (hg : (wx.alloc (.cells #[.int .i64 (x.1 : Nat), .int .i64 (x.2 : Nat)] u)).grownBy w7 v.ownBlock) :
    SqAt w1 (.slice A (l.length + 1) cap) (l ++ [x]) w7 := by
  constructor
  · rw [List.length_append, spl_snoc]
    exact ho
  · exact (h.below.alloc h.below.size _).grown hg (by have := h.below.size; simp; omega) (fun b e => (own_lt h.own e).1)
theorem SqAt.keep {u : TypeId} {w1 : World} {v : Value} {l : List Sp} {x y : Value} {wx w7 : World} (h : SqAt w1 v l wx) (hg : (wx.alloc (.cells #[x, y] u)).grownBy w7 v.ownBlock) (b : Nat) (hb : b < w1.heap.size) : w7.heap[b]? = wx.heap[b]? :=
  (hg.block b (by have := h.below.size; simp; omega) (fun e => by have := (own_lt h.own e.symm).1; omega)).trans (Below.heap_alloc wx _ b (by have := h.below.size; omega))
structure Sps (w : World) (base g n : Nat) (z : Nat → Sp) : Prop where
  old : base ≤ g
  lt : g < w.heap.size
  cell : ∀ j, j < n → w.cell? ⟨g, j * 2, none⟩ = some (.int .i64 ((z j).1 : Nat)) ∧ w.cell? ⟨g, j * 2 + 1, none⟩ = some (.int .i64 ((z j).2 : Nat))
theorem Sps.block {w w' : World} {base g n : Nat} {z : Nat → Sp} (h : Sps w base g n z) (hs : w.heap.size ≤ w'.heap.size) (hb : w'.heap[g]? = w.heap[g]?) : Sps w' base g n z :=
  ⟨h.old, Nat.lt_of_lt_of_le h.lt hs, fun j hj => ⟨(World.cell?_of_block (w := w) hb).trans (h.cell j hj).1, (World.cell?_of_block (w := w) hb).trans (h.cell j hj).2⟩⟩
theorem Sps.kept {w w' : World} {base g n : Nat} {z : Nat → Sp} {X : Nat → Prop} (h : Sps w base g n z) (hk : Kept X w w') (hx : X g) : Sps w' base g n z :=
  h.block hk.size (hk.block g h.lt (fun k => k hx))
theorem SqAt.out {w wr : World} {v : Value} {l : List Sp} (h : SqAt w v l wr) (hl : 0 < l.length) (z : Nat → Sp) (hz : ∀ j, (hj : j < l.length) → l[j] = z j) :
    ∃ g cap, v = .slice (some ⟨g, 0, none⟩) l.length cap ∧ Sps wr w.heap.size g l.length z := by
  have h' := h.own
  rcases h.own.2 with ⟨rfl, h0⟩ | ⟨g, cap, cur, rfl, hb, hg, hn, _⟩
  · omega
  · refine ⟨g, cap, rfl, ⟨hb, (Array.getElem?_eq_some_iff.1 hg).1, fun j hj => ?_⟩⟩
    obtain ⟨a1, a2⟩ := spl_at l j hj
    rw [hz j hj] at a1 a2
    have c1 := h'.cells (g := g) rfl (j * 2) _ a1
    have c2 := h'.cells (g := g) rfl (j * 2 + 1) _ a2
    rw [add_plain, Nat.zero_add] at c1 c2
    exact ⟨c1, c2⟩
def SpPost (w : World) (n : Nat) (z : Nat → Sp) (e : Ending) (w' : World) : Prop :=
  ∃ g cap, e = .returned (.slice (some ⟨g, 0, none⟩) n cap) ∧ Sps w' w.heap.size g n z ∧ Below w.heap.size w w'
def spL (z : Nat → Sp) (m : Nat) : List Sp := (List.range m).map z
theorem spL_len (z : Nat → Sp) (m : Nat) : (spL z m).length = m := by simp [spL]
theorem spL_succ (z : Nat → Sp) (m : Nat) : spL z (m + 1) = spL z m ++ [z m] := by simp [spL, List.range_succ]
theorem sq_post {w w' : World} {v : Value} {n m : Nat} {z : Nat → Sp} (h : SqAt w v (spL z n) w') (hn : 0 < n) (hm : m = n) : SpPost w m z (.returned v) w' := by
  subst hm
  obtain ⟨g, cap, rfl, hs⟩ := h.out (by rw [spL_len]; exact hn) z (fun j hj => by simp [spL])
  rw [spL_len] at hs ⊢
  exact ⟨g, cap, rfl, hs, h.below⟩
def plA (f N S T : Nat) : Array Value := #[.int .i64 (f : Int), .int .i64 (N : Int), .int .i64 (S : Int), .int .i64 (T : Int)]
set_option maxRecDepth 100000 in
set_option maxHeartbeats 2000000 in
theorem table_spots {N S T D L n Q P : Nat} (h : Conf N S T D L n Q P) (f : Nat) (hf : f ≤ 100) (w : World) :
    Calls Tryz.prog 42 #[.agg (plA f N S T)] w (SpPost w Q (fun i => (f + 2, i))) := by
  have HR := Lib.hid (fun W => round_of h W)
  have HT := Lib.hid (fun W => table_at f (N : Int) (S : Int) (T : Int) W hf)
  have hQ := h.big.2.2.2
  have hQ0 := h.le
  have hQ1 := h.big.2.1
  clear h
  obtain ⟨b, hb⟩ : ∃ b, w.heap.size = b := ⟨_, rfl⟩
  obtain ⟨w2, hw2⟩ : ∃ w2, w.alloc (.cells (plA f N S T) 77) = w2 := ⟨_, rfl⟩
  have hx : Box w2 b 77 (plA f N S T) := by rw [← hw2, ← hb]; exact Box.new w _ _
  have hs2 : w2.heap.size = b + 1 := by rw [← hw2, ← hb]; simp
  have hbl : Below w.heap.size w w2 := by rw [← hw2]; exact (Below.refl _ w).alloc (Nat.le_refl _) _
  have HB := Lib.hid hbl
  have HX := Lib.hid hx
  have HS2 := Lib.hid hs2
  have HW2 := Lib.hid hw2
  have HBb := Lib.hid hb
  have p1 : w2.cell? ⟨b, 1, none⟩ = some (.int .i64 (N : Int)) := hx.cell 1
  have p2 : w2.cell? ⟨b, 2, none⟩ = some (.int .i64 (S : Int)) := hx.cell 2
  have p3 : w2.cell? ⟨b, 3, none⟩ = some (.int .i64 (T : Int)) := hx.cell 3
  clear hx hbl hw2 hb hs2
  go_enter Tryz.func42, Tryz.ntmps42
  go_upto_region 1 with fail
  rw [HBb.out, HW2.out]
  go_wp2_with fail
  refine (HR.out _).mono ?_
  rintro e w3 ⟨rfl, hb3⟩
  have HX3 := Lib.hid (HX.out.of (hb3.block _ HX.out.lt))
  have HA : Hid (SqAt w2 (.slice none 0 0) (spL (fun i => (f + 2, i)) 0) w3) := Lib.hid ((SqAt.nil w2).grow hb3)
  clear hb3 p1 p2 p3 HX
  go_wp2_with fail
  go_loopw [3, 8] (fun v3 v8 wr => ∃ i : Nat, v8 = .int .i64 i ∧ i ≤ Q ∧ SqAt w2 v3 (spL (fun i => (f + 2, i)) i) wr ∧ Box wr b 77 (plA f N S T)) (fun _ v _ => Q - (intOf v).toNat)
  case atStart => exact ⟨0, rfl, by omega, HA.out, HX3.out⟩
  case round =>
    obtain ⟨i, rfl, hi, hS, hX⟩ := hrel
    clear HA HX3
    have HS := Lib.hid hS
    have HX := Lib.hid hX
    have p0 : wr.cell? ⟨b, 0, none⟩ = some (.int .i64 (f : Int)) := hX.cell 0
    have p1 : wr.cell? ⟨b, 1, none⟩ = some (.int .i64 (N : Int)) := hX.cell 1
    have p2 : wr.cell? ⟨b, 2, none⟩ = some (.int .i64 (S : Int)) := hX.cell 2
    have p3 : wr.cell? ⟨b, 3, none⟩ = some (.int .i64 (T : Int)) := hX.cell 3
    clear hS hX
    by_cases hin : i < Q
    · go_wp2_with fail
      refine (HT.out _).mono ?_
      rintro e w4 ⟨rfl, hb4⟩
      have HS4 := Lib.hid (HS.out.grow hb4)
      have HX4 := Lib.hid (HX.out.of (hb4.block _ HX.out.lt))
      have hll := spL_len (fun i => (f + 2, i)) i
      have HSu := Lib.hid (spL_succ (fun i => (f + 2, i)) i)
      have hsz : w2.heap.size ≤ w4.heap.size := HS4.out.below.size
      clear hb4 p0 p1 p2 p3 HS HX
      generalize hlq : spL (fun i => (f + 2, i)) i = lq at *
      have HLq := Lib.hid hlq
      have hlb : lq.length ≤ 256 := by omega
      have HLl := Lib.hid hll
      clear hlq hll
      go_wp2_with (with_reducible refine wpList_append_where _ rfl (.tmp 11) (.tmp 16) 88 rfl w2.heap.size 92 (.agg #[.int .i64 0, .int .i64 0]) 2 16 Tryz.underlying88 infoSpot rfl (by decide) u3 lq.length (spl lq) rfl (row_stay HS4.out.own (fun b _ hb => Below.heap_alloc _ _ b hb)) ⟨w4.heap.size, 0, none⟩ 1 1 [.int .i64 ((f + 2 : Nat) : Int), .int .i64 (i : Int)] rfl rfl ?c0 ?c1 ?c2 ?c3 ?c4 ?_)
      case c0 => first | exact new_pair w4 _ _ _ rfl | exact fun j u hu => hu
      case c1 => simp [Value.oneCell']
      case c2 => simp only [maxLen]; omega
      case c3 => omega
      case c4 => first | omega | (simp; omega)
      intro A2 cap2 w7 hown hgr _
      have HS7 := Lib.hid (HS4.out.next (x := (f + 2, i)) hown hgr)
      have HX7 := Lib.hid (HX4.out.of (HS4.out.keep hgr b (by have := HS2.out; omega)))
      clear hown hgr HS4 HX4
      go_wp2_with fail
      go_roundw
      case rel => exact ⟨i + 1, by go_num, by omega, by rw [HSu.out]; exact HS7.out, HX7.out⟩
      case measure => simp [intOf]; omega
    · obtain rfl : i = Q := by omega
      have HE : Hid (SpPost w i (fun i => (f + 2, i)) (.returned u3) wr) := Lib.hid (by
        obtain ⟨g, cap, he, hs, hb⟩ := sq_post HS.out (by omega) rfl
        have h1 := HB.out.size
        exact ⟨g, cap, he, ⟨Nat.le_trans h1 hs.old, hs.lt, hs.cell⟩, HB.out.trans (hb.mono h1)⟩)
      clear HS HX p0 p1 p2 p3
      go_wp2_with fail
      go_ret
      exact HE.out

theorem spot_tree {S D L f lf k s : Nat} (hS : s < S) (hL : (D + 1) * S = L) (hk : k ≤ D) : spot S D f lf (k * S + s) = (f, nd D lf k * S + s) ∧ k * S + s < L := by
  have h1 : (k + 1) * S ≤ (D + 1) * S := Nat.mul_le_mul_right _ (by omega)
  rw [Nat.add_mul, Nat.one_mul] at h1
  have h2 : (k * S + s) / S = k := by
    rw [Nat.mul_comm, Nat.mul_add_div (by omega), Nat.div_eq_of_lt hS, Nat.add_zero]
  have h3 : (k * S + s) % S = s := by rw [Nat.mul_comm, Nat.mul_add_mod, Nat.mod_eq_of_lt hS]
  refine ⟨?_, by omega⟩
  unfold spot wayQ
  rw [if_pos (by omega), h2, h3]
  rfl
theorem spot_stash {S D L f lf i : Nat} (hL : (D + 1) * S = L) : spot S D f lf (L + i) = (f + 1, i) := by
  unfold spot wayQ
  rw [if_neg (by omega)]
  show (f + 1, L + i - (D + 1) * S) = _
  rw [hL]
  simp
set_option maxRecDepth 100000 in
set_option maxHeartbeats 4000000 in
theorem way_spots {N S T D L n Q P : Nat} (h : Conf N S T D L n Q P) (f lf : Nat) (hf : f ≤ 100) (hlf : lf < N) (w : World) :
    Calls Tryz.prog 41 #[.agg (plA f N S T), .int .i64 (lf : Int)] w (SpPost w (L + T) (spot S D f lf)) := by
  have HW := Lib.hid (fun W => way_in D N lf W h.hD h.hN hlf)
  have HTr := Lib.hid (fun W => tree_at f (N : Int) (S : Int) (T : Int) W)
  have HSt := Lib.hid (fun W => stash_at f (N : Int) (S : Int) (T : Int) W hf)
  have hD := h.hD
  have s8 := h.s8
  have t64 := h.t64
  have t1 := h.t1
  have hLb := h.big.1
  have HL := Lib.hid h.hL
  have HN := Lib.hid h.hN
  have hlf2 : lf < 2 ^ D := by rw [h.hN]; exact hlf
  have HLf := Lib.hid hlf2
  have hN1 := h.n1
  obtain ⟨E, hE⟩ : ∃ E, D + 1 = E := ⟨_, rfl⟩
  have HEe := Lib.hid hE
  have hE2 : E = D + 1 := hE.symm
  clear h hlf2 hlf hE
  obtain ⟨z, hz⟩ : ∃ z, spot S D f lf = z := ⟨_, rfl⟩
  have HZt : Hid (∀ k s, s < S → k ≤ D → z (k * S + s) = (f, nd D lf k * S + s) ∧ k * S + s < L) := Lib.hid (fun k s hs hk => by rw [← hz]; exact spot_tree hs HL.out hk)
  have HZs : Hid (∀ i, z (L + i) = (f + 1, i)) := Lib.hid (fun i => by rw [← hz]; exact spot_stash HL.out)
  rw [hz]
  clear hz
  obtain ⟨b, hb⟩ : ∃ b, w.heap.size = b := ⟨_, rfl⟩
  obtain ⟨w2, hw2⟩ : ∃ w2, w.alloc (.cells (plA f N S T) 77) = w2 := ⟨_, rfl⟩
  have hx : Box w2 b 77 (plA f N S T) := by rw [← hw2, ← hb]; exact Box.new w _ _
  have hs2 : w2.heap.size = b + 1 := by rw [← hw2, ← hb]; simp
  have hbl : Below w.heap.size w w2 := by rw [← hw2]; exact (Below.refl _ w).alloc (Nat.le_refl _) _
  have HB := Lib.hid hbl
  have HX := Lib.hid hx
  have HS2 := Lib.hid hs2
  have HW2 := Lib.hid hw2
  have HBb := Lib.hid hb
  have p1 : w2.cell? ⟨b, 1, none⟩ = some (.int .i64 (N : Int)) := hx.cell 1
  clear hx hbl hw2 hb hs2
  go_enter Tryz.func41, Tryz.ntmps41
  go_upto_region 1 with fail
  rw [HBb.out, HW2.out]
  go_wp2_with fail
  refine (HW.out _).mono ?_
  rintro e w3 ⟨gw, cw, rfl, hcw, hir, hb3⟩
  rw [HEe.out]
  have hgw : b + 1 ≤ gw ∧ gw < w3.heap.size := ⟨by have := hir.old; have := HS2.out; omega, hir.lt⟩
  have HX3 := Lib.hid (HX.out.of (hb3.block _ HX.out.lt))
  have HIr := Lib.hid hir.cell
  have HB3 := Lib.hid (HB.out.trans (hb3.mono HB.out.size))
  have HA : Hid (SqAt w3 (.slice none 0 0) (spL z 0) w3) := Lib.hid (SqAt.nil w3)
  have hbs : b < w3.heap.size := by omega
  clear hb3 hir p1 HX HW hcw
  have HE2 := Lib.hid hE2
  clear hE2
  go_wp2_with fail
  go_loopw [5, 16] (fun v5 v16 wr => ∃ k : Nat, v16 = .int .i64 k ∧ k ≤ E ∧ SqAt w3 v5 (spL z (k * S)) wr) (fun _ v _ => E - (intOf v).toNat)
  case atStart => exact ⟨0, rfl, by omega, by rw [Nat.zero_mul]; exact HA.out⟩
  case round =>
    obtain ⟨k, rfl, hk, hS⟩ := hrel
    clear HA
    have HS := Lib.hid hS
    have hXr := HX3.out.of (hS.below.block b hbs)
    have p2 : wr.cell? ⟨b, 2, none⟩ = some (.int .i64 (S : Int)) := hXr.cell 2
    have p3 : wr.cell? ⟨b, 3, none⟩ = some (.int .i64 (T : Int)) := hXr.cell 3
    have HXr := Lib.hid hXr
    clear hXr
    by_cases hkE : k < E
    · have hkD : k ≤ D := by have := HE2.out; omega
      have ck := (World.cell?_of_block (w := w3) (hS.below.block gw hgw.2)).trans (HIr.out k (by omega))
      have hnd := nd_in D lf k hkD HLf.out
      have hmul : (2 * 2 ^ D - 1) * S ≤ 2047 * 8 := Nat.mul_le_mul (by rw [HN.out]; omega) s8
      have hmul2 : (nd D lf k + 1) * S ≤ (2 * 2 ^ D - 1) * S := Nat.mul_le_mul_right _ hnd
      rw [Nat.add_mul, Nat.one_mul] at hmul2
      have HZk := Lib.hid (fun s (hs : s < S) => HZt.out k s hs hkD)
      generalize hndq : nd D lf k = nk at *
      have hms : (nk : Int) * (S : Int) = ((nk * S : Nat) : Int) := by simp
      have hwm : IntKind.i64.wrap ((nk : Int) * (S : Int)) = ((nk * S : Nat) : Int) := by rw [hms, IntKind.wrap_i64]; omega
      have hmb : nk * S ≤ 20000 := by omega
      have e1 : (k + 1) * S = k * S + S := by rw [Nat.add_mul, Nat.one_mul]
      have HE1 := Lib.hid e1
      clear hS hnd hmul hmul2 hndq hms e1
      generalize nk * S = m at *
      generalize k * S = ks at *
      go_wp2_with fail
      clear ck
      go_loopw [5, 23] (fun v5 v23 wr => ∃ s : Nat, v23 = .int .i64 s ∧ s ≤ S ∧ SqAt w3 v5 (spL z (ks + s)) wr) (fun _ v _ => S - (intOf v).toNat)
      case atStart => exact ⟨0, rfl, by omega, HS.out⟩
      case round =>
        obtain ⟨s, rfl, hs, hSs⟩ := hrel
        have HSs := Lib.hid hSs
        by_cases hsS : s < S
        · obtain ⟨q, hq⟩ : ∃ q, m + s = q := ⟨_, rfl⟩
          have hwa : IntKind.i64.wrap ((m : Int) + (s : Int)) = (q : Int) := by rw [IntKind.wrap_i64]; omega
          have hll := spL_len z (ks + s)
          have HSu := Lib.hid (spL_succ z (ks + s))
          have hzk := HZk.out s hsS
          rw [hzk.1, hq] at HSu
          have hksL := hzk.2
          clear hSs hzk hq
          generalize hlq : spL z (ks + s) = lq at *
          have hlb : lq.length ≤ 256 := by omega
          clear hlq hll hksL
          have HS5 := Lib.hid (HSs.out.grow ((Below.refl wr.heap.size wr).drew))
          have hXs := (HX3.out.of (HSs.out.below.block b hbs)).drewN 1
          have p2 := hXs.cell 2
          clear HSs p2
          go_upto_region 8 with fail
          refine held_s (S := fun w' => Box w' b 77 (plA f N S T)) 14 rfl (by kernel_rfl) hXs (fun hHeld => ?_)
          simp only [Array.replicate_succ, Array.replicate_zero, List.push_toArray, List.nil_append, List.cons_append]
          clear hXs
          generalize wr.drew = w5 at *
          refine wpAnyH_take (i := 0) (oi := ⟨some 26, _, _, _, _, _⟩) (v := (u5)) rfl (by kernel_rfl) (by kernel_rfl) (by kernel_rfl) (fun _ _ _ h => h) (Or.inl ⟨by rfl, fun w' hw => by go_simp⟩) hHeld ?_
          try simp only [Act.put, List.setIfInBounds_toArray, List.set_cons_zero, List.set_cons_succ]
          refine wpAnyH_take (i := 1) (oi := ⟨some 27, _, _, _, _, _⟩) (v := (.agg #[.int .i64 (f : Int), .int .i64 (N : Int), .int .i64 (S : Int), .int .i64 (T : Int)])) rfl (by kernel_rfl) (by kernel_rfl) (by kernel_rfl) (fun _ _ _ h => h) (Or.inl ⟨by rfl, fun w' hw => by (have k0 := hw.cell 0; have k1 := hw.cell 1; have k2 := hw.cell 2; have k3 := hw.cell 3; simp only [plA] at k0 k1 k2 k3; go_simp)⟩) hHeld ?_
          try simp only [Act.put, List.setIfInBounds_toArray, List.set_cons_zero, List.set_cons_succ]
          refine wpAnyH_take (i := 3) (oi := ⟨some 29, _, _, _, _, _⟩) (v := (.int .i64 (nk : Int))) rfl (by kernel_rfl) (by kernel_rfl) (by kernel_rfl) (fun _ _ _ h => h) (Or.inl ⟨by rfl, fun w' hw => by go_simp⟩) hHeld ?_
          try simp only [Act.put, List.setIfInBounds_toArray, List.set_cons_zero, List.set_cons_succ]
          refine wpAnyH_take (i := 4) (oi := ⟨some 30, _, _, _, _, _⟩) (v := (.pointer (some ⟨b, 1, none⟩))) rfl (by kernel_rfl) (by kernel_rfl) (by kernel_rfl) (fun _ _ _ h => h) (Or.inl ⟨by rfl, fun w' hw => by go_simp⟩) hHeld ?_
          try simp only [Act.put, List.setIfInBounds_toArray, List.set_cons_zero, List.set_cons_succ]
          refine wpAnyH_take (i := 5) (oi := ⟨some 31, _, _, _, _, _⟩) (v := (.pointer (some ⟨b, 2, none⟩))) rfl (by kernel_rfl) (by kernel_rfl) (by kernel_rfl) (fun _ _ _ h => h) (Or.inl ⟨by rfl, fun w' hw => by go_simp⟩) hHeld ?_
          try simp only [Act.put, List.setIfInBounds_toArray, List.set_cons_zero, List.set_cons_succ]
          refine wpAnyH_take (i := 6) (oi := ⟨some 32, _, _, _, _, _⟩) (v := (.int .i64 (S : Int))) rfl (by kernel_rfl) (by kernel_rfl) (by kernel_rfl) (fun _ _ _ h => h) (Or.inl ⟨by rfl, fun w' hw => by (have k0 := hw.cell 0; have k1 := hw.cell 1; have k2 := hw.cell 2; have k3 := hw.cell 3; simp only [plA] at k0 k1 k2 k3; go_simp)⟩) hHeld ?_
          try simp only [Act.put, List.setIfInBounds_toArray, List.set_cons_zero, List.set_cons_succ]
          refine wpAnyH_take (i := 7) (oi := ⟨some 33, _, _, _, _, _⟩) (v := (.int .i64 (m : Int))) rfl (by kernel_rfl) (by kernel_rfl) (by kernel_rfl) (fun _ _ _ h => h) (Or.inl ⟨by rfl, fun w' hw => by go_simp⟩) hHeld ?_
          try simp only [Act.put, List.setIfInBounds_toArray, List.set_cons_zero, List.set_cons_succ]
          refine wpAnyH_take (i := 8) (oi := ⟨some 34, _, _, _, _, _⟩) (v := (.int .i64 (s : Int))) rfl (by kernel_rfl) (by kernel_rfl) (by kernel_rfl) (fun _ _ _ h => h) (Or.inl ⟨by rfl, fun w' hw => by go_simp⟩) hHeld ?_
          try simp only [Act.put, List.setIfInBounds_toArray, List.set_cons_zero, List.set_cons_succ]
          refine wpAnyH_take (i := 9) (oi := ⟨some 35, _, _, _, _, _⟩) (v := (.int .i64 (q : Int))) rfl (by kernel_rfl) (by kernel_rfl) (by kernel_rfl) (fun _ _ _ h => h) (Or.inl ⟨by rfl, fun w' hw => by go_simp⟩) hHeld ?_
          try simp only [Act.put, List.setIfInBounds_toArray, List.set_cons_zero, List.set_cons_succ]
          refine one_ready 2 rfl (by kernel_rfl) (fun K hK => ?_)
          go_simp
          refine (HTr.out _).mono ?_
          rintro e w4 ⟨rfl, hb4⟩
          have HS4 := Lib.hid (HS5.out.grow hb4)
          have hX4 := hHeld.of (hb4.block b hHeld.lt)
          have hsz : w3.heap.size ≤ w4.heap.size := HS4.out.below.size
          refine hK.out _ _ hX4 (fun hHeld => ?_)
          clear hK K hb4
          simp only [List.setIfInBounds_toArray, List.set_cons_zero, List.set_cons_succ]
          refine wpAnyH_take (i := 10) (oi := ⟨some 36, _, _, _, _, _⟩) (v := (.agg #[.int .i64 (f : Int), .int .i64 (q : Int)])) rfl (by kernel_rfl) (by kernel_rfl) (by kernel_rfl) (fun _ _ _ h => h) (Or.inl ⟨by rfl, fun w' hw => by go_simp⟩) hHeld ?_
          try simp only [Act.put, List.setIfInBounds_toArray, List.set_cons_zero, List.set_cons_succ]
          refine one_ready 11 rfl (by kernel_rfl) (fun K hK => ?_)
          go_simp
          have hXa : Box (w4.alloc (.cells #[.int .i64 (f : Int), .int .i64 (q : Int)] 92)) b 77 (plA f N S T) := hX4.alloc _
          refine hK.out _ _ hXa (fun _ => ?_)
          clear hK K
          simp only [List.setIfInBounds_toArray, List.set_cons_zero, List.set_cons_succ]
          refine one_ready 12 rfl (by kernel_rfl) (fun K hK => ?_)
          refine step_append_where rfl (.tmp 26) (.tmp 37) 88 rfl w3.heap.size 92 (.agg #[.int .i64 0, .int .i64 0]) 2 16 Tryz.underlying88 infoSpot rfl (by decide) u5 lq.length (spl lq) rfl (row_stay HS4.out.own (fun b _ hb => Below.heap_alloc _ _ b hb)) ⟨w4.heap.size, 0, none⟩ 1 1 [.int .i64 (f : Int), .int .i64 (q : Int)] rfl rfl ?c0 ?c1 ?c2 ?c3 ?c4 ?_
          case c0 => exact new_pair w4 _ _ _ rfl
          case c1 => simp [Value.oneCell']
          case c2 => simp only [maxLen]; omega
          case c3 => omega
          case c4 => simp; omega
          intro A2 cap2 w7 hown hgr _
          have hX7 := hX4.of (HS4.out.keep hgr b hbs)
          have HS7 := Lib.hid (HS4.out.next (x := (f, q)) hown hgr)
          clear hown hgr HS4 hXa
          refine hK.out _ _ hX7 (fun hHeld => ?_)
          clear hK K
          simp only [List.setIfInBounds_toArray, List.set_cons_zero, List.set_cons_succ]
          refine wpAnyH_take (i := 13) (oi := ⟨some 5, _, _, _, _, _⟩) (v := (.slice A2 (lq.length + 1) cap2)) rfl (by kernel_rfl) (by kernel_rfl) (by kernel_rfl) (fun _ _ _ h => h) (Or.inl ⟨by rfl, fun w' hw => by go_simp⟩) hHeld ?_
          try simp only [Act.put, List.setIfInBounds_toArray, List.set_cons_zero, List.set_cons_succ]
          refine wpAnyH_done (by kernel_rfl) ?_ _
          go_wp2_with fail
          go_roundw
          case rel => exact ⟨s + 1, by go_num, by omega, by rw [← Nat.add_assoc, HSu.out]; exact HS7.out⟩
          case measure => simp [intOf]; omega
        · obtain rfl : s = S := by omega
          clear hSs
          go_wp2_with fail
          go_roundw
          case rel => exact ⟨k + 1, by go_num, by omega, by rw [HE1.out]; exact HSs.out⟩
          case measure => simp [intOf]; omega
    · obtain rfl : k = E := by omega
      have HS1 : Hid (SqAt w3 u5 (spL z (L + 0)) wr) := Lib.hid (by have := HS.out; rw [HE2.out, HL.out] at this; exact this)
      clear hS HS hkE hk
      go_wp2_with fail
      go_loopw [5, 44] (fun v5 v44 wr => ∃ i : Nat, v44 = .int .i64 i ∧ i ≤ T ∧ SqAt w3 v5 (spL z (L + i)) wr) (fun _ v _ => T - (intOf v).toNat)
      case atStart => exact ⟨0, rfl, by omega, HS1.out⟩
      case round =>
        obtain ⟨i, rfl, hi, hSi⟩ := hrel
        clear HS1 p2 p3 HXr
        have HSi := Lib.hid hSi
        have hXi := HX3.out.of (hSi.below.block b hbs)
        have p0 : wr.cell? ⟨b, 0, none⟩ = some (.int .i64 (f : Int)) := hXi.cell 0
        have p1 : wr.cell? ⟨b, 1, none⟩ = some (.int .i64 (N : Int)) := hXi.cell 1
        have p2 : wr.cell? ⟨b, 2, none⟩ = some (.int .i64 (S : Int)) := hXi.cell 2
        have p3 : wr.cell? ⟨b, 3, none⟩ = some (.int .i64 (T : Int)) := hXi.cell 3
        clear hSi hXi
        by_cases hiT : i < T
        · go_wp2_with fail
          refine (HSt.out _).mono ?_
          rintro e w4 ⟨rfl, hb4⟩
          have HS4 := Lib.hid (HSi.out.grow hb4)
          have hll := spL_len z (L + i)
          have HSu := Lib.hid (spL_succ z (L + i))
          rw [HZs.out i] at HSu
          have hsz : w3.heap.size ≤ w4.heap.size := HS4.out.below.size
          clear hb4 p0 p1 p2 p3 HSi
          generalize hlq : spL z (L + i) = lq at *
          have hlb : lq.length ≤ 256 := by omega
          clear hlq hll
          go_wp2_with (with_reducible refine wpList_append_where _ rfl (.tmp 47) (.tmp 52) 88 rfl w3.heap.size 92 (.agg #[.int .i64 0, .int .i64 0]) 2 16 Tryz.underlying88 infoSpot rfl (by decide) u5 lq.length (spl lq) rfl (row_stay HS4.out.own (fun b _ hb => Below.heap_alloc _ _ b hb)) ⟨w4.heap.size, 0, none⟩ 1 1 [.int .i64 ((f + 1 : Nat) : Int), .int .i64 (i : Int)] rfl rfl ?c0 ?c1 ?c2 ?c3 ?c4 ?_)
          case c0 => first | exact new_pair w4 _ _ _ rfl | exact fun j u hu => hu
          case c1 => simp [Value.oneCell']
          case c2 => simp only [maxLen]; omega
          case c3 => omega
          case c4 => first | omega | (simp; omega)
          intro A2 cap2 w7 hown hgr _
          have HS7 := Lib.hid (HS4.out.next (x := (f + 1, i)) hown hgr)
          clear hown hgr HS4
          go_wp2_with fail
          go_roundw
          case rel => exact ⟨i + 1, by go_num, by omega, by rw [← Nat.add_assoc, HSu.out]; exact HS7.out⟩
          case measure => simp [intOf]; omega
        · obtain rfl : i = T := by omega
          have HE : Hid (SpPost w (L + i) z (.returned u5) wr) := Lib.hid (by
            obtain ⟨g, cap, he, hs, hb⟩ := sq_post HSi.out (by omega) rfl
            have h1 := HB3.out.size
            exact ⟨g, cap, he, ⟨Nat.le_trans h1 hs.old, hs.lt, hs.cell⟩, HB3.out.trans (hb.mono h1)⟩)
          clear HSi p0 p1 p2 p3
          go_wp2_with fail
          go_ret
          exact HE.out
end Go.Proofs.YtmageeohnfomnaaGreat


namespace Go.Proofs.YtmageeohnfomnaaGreat
set_option maxRecDepth 100000
open Go.RowKit Go.ChangeShapes Go.WideShapes Go.ChangeAt

abbrev Ip := Int × Int
def ipl (l : List Ip) : List Value := l.flatMap fun x => [.int .i64 x.1, .int .i64 x.2]
theorem ipl_snoc (l : List Ip) (x : Ip) : ipl (l ++ [x]) = ipl l ++ [.int .i64 x.1, .int .i64 x.2] := by unfold ipl; rw [List.flatMap_append]; simp
theorem ipl_at : ∀ (l : List Ip) (j : Nat) (h : j < l.length), (ipl l)[j * 2]? = some (.int .i64 l[j].1) ∧ (ipl l)[j * 2 + 1]? = some (.int .i64 l[j].2)
  | [], j, h => by simp at h
  | x :: l, 0, _ => by simp [ipl]
  | x :: l, j + 1, h => by
    have ih := ipl_at l j (by simpa using h)
    unfold ipl at *
    rw [List.flatMap_cons]
    rw [show (j + 1) * 2 = j * 2 + 1 + 1 by omega]
    simpa using ih
structure IpAt (t : TypeId) (w1 : World) (v : Value) (l : List Ip) (wr : World) : Prop where
  own : wr.ownsRow w1.heap.size t 2 v l.length (ipl l)
  below : Below w1.heap.size w1 wr
theorem IpAt.nil (t : TypeId) (w : World) : IpAt t w (.slice none 0 0) [] w := ⟨World.ownsRow_nil _ _ _ _, Below.refl _ _⟩
theorem IpAt.grow {t : TypeId} {w1 wr wx : World} {v : Value} {l : List Ip} (h : IpAt t w1 v l wr) (hb : Below wr.heap.size wr wx) : IpAt t w1 v l wx :=
  ⟨row_stay h.own (fun b _ hl => hb.block b hl), h.below.trans (hb.mono h.below.size)⟩
theorem IpAt.next {t u : TypeId} {w1 : World} {v : Value} {l : List Ip} {x : Ip} {A : Option Addr} {cap : Nat} {wx w7 : World} (h : IpAt t w1 v l wx)
    (ho : w7.ownsRow w1.heap.size t 2 (.slice A (l.length + 1) cap) (l.length + 1) (ipl l ++ [.int .i64 x.1, .int .i64 x.2])) (hg : (wx.alloc (.cells #[.int .i64 x.1, .int .i64 x.2] u)).grownBy w7 v.ownBlock) :
    IpAt t w1 (.slice A (l.length + 1) cap) (l ++ [x]) w7 := by
  constructor
  · rw [List.length_append, ipl_snoc]
    exact ho
  · exact (h.below.alloc h.below.size _).grown hg (by have := h.below.size; simp; omega) (fun b e => (own_lt h.own e).1)
theorem IpAt.keep {t u : TypeId} {w1 : World} {v : Value} {l : List Ip} {x y : Value} {wx w7 : World} (h : IpAt t w1 v l wx) (hg : (wx.alloc (.cells #[x, y] u)).grownBy w7 v.ownBlock) (b : Nat) (hb : b < w1.heap.size) : w7.heap[b]? = wx.heap[b]? :=
  (hg.block b (by have := h.below.size; simp; omega) (fun e => by have := (own_lt h.own e.symm).1; omega)).trans (Below.heap_alloc wx _ b (by have := h.below.size; omega))
structure Ips (w : World) (base g n : Nat) (z : Nat → Ip) : Prop where
  old : base ≤ g
  lt : g < w.heap.size
  cell : ∀ j, j < n → w.cell? ⟨g, j * 2, none⟩ = some (.int .i64 (z j).1) ∧ w.cell? ⟨g, j * 2 + 1, none⟩ = some (.int .i64 (z j).2)
theorem Ips.block {w w' : World} {base g n : Nat} {z : Nat → Ip} (h : Ips w base g n z) (hs : w.heap.size ≤ w'.heap.size) (hb : w'.heap[g]? = w.heap[g]?) : Ips w' base g n z :=
  ⟨h.old, Nat.lt_of_lt_of_le h.lt hs, fun j hj => ⟨(World.cell?_of_block (w := w) hb).trans (h.cell j hj).1, (World.cell?_of_block (w := w) hb).trans (h.cell j hj).2⟩⟩
theorem IpAt.out {t : TypeId} {w wr : World} {v : Value} {l : List Ip} (h : IpAt t w v l wr) (hl : 0 < l.length) (z : Nat → Ip) (hz : ∀ j, (hj : j < l.length) → l[j] = z j) :
    ∃ g cap, v = .slice (some ⟨g, 0, none⟩) l.length cap ∧ Ips wr w.heap.size g l.length z := by
  have h' := h.own
  rcases h.own.2 with ⟨rfl, h0⟩ | ⟨g, cap, cur, rfl, hb, hg, hn, _⟩
  · omega
  · refine ⟨g, cap, rfl, ⟨hb, (Array.getElem?_eq_some_iff.1 hg).1, fun j hj => ?_⟩⟩
    obtain ⟨a1, a2⟩ := ipl_at l j hj
    rw [hz j hj] at a1 a2
    have c1 := h'.cells (g := g) rfl (j * 2) _ a1
    have c2 := h'.cells (g := g) rfl (j * 2 + 1) _ a2
    rw [add_plain, Nat.zero_add] at c1 c2
    exact ⟨c1, c2⟩
def IpPost (w : World) (n : Nat) (z : Nat → Ip) (e : Ending) (w' : World) : Prop :=
  ∃ g cap, e = .returned (.slice (some ⟨g, 0, none⟩) n cap) ∧ Ips w' w.heap.size g n z ∧ Below w.heap.size w w'
def ipL (z : Nat → Ip) (m : Nat) : List Ip := (List.range m).map z
theorem ipL_len (z : Nat → Ip) (m : Nat) : (ipL z m).length = m := by simp [ipL]
theorem ipL_succ (z : Nat → Ip) (m : Nat) : ipL z (m + 1) = ipL z m ++ [z m] := by simp [ipL, List.range_succ]
theorem ip_post {t : TypeId} {w w' : World} {v : Value} {n m : Nat} {z : Nat → Ip} (h : IpAt t w v (ipL z n) w') (hn : 0 < n) (hm : m = n) : IpPost w m z (.returned v) w' := by
  subst hm
  obtain ⟨g, cap, rfl, hs⟩ := h.out (by rw [ipL_len]; exact hn) z (fun j hj => by simp [ipL])
  rw [ipL_len] at hs ⊢
  exact ⟨g, cap, rfl, hs, h.below⟩
def plcI (S D : Nat) (f : Int) (lf j : Nat) : Ip := if j < (D + 1) * S then (f, ((nd D lf (j / S) * S + j % S : Nat) : Int)) else (wrap64 (f + 1), ((j - (D + 1) * S : Nat) : Int))
theorem plc_tree {S D L lf k s : Nat} {f : Int} (hS : s < S) (hL : (D + 1) * S = L) (hk : k ≤ D) : plcI S D f lf (k * S + s) = (f, ((nd D lf k * S + s : Nat) : Int)) ∧ k * S + s < L := by
  have h1 : (k + 1) * S ≤ (D + 1) * S := Nat.mul_le_mul_right _ (by omega)
  rw [Nat.add_mul, Nat.one_mul] at h1
  have h2 : (k * S + s) / S = k := by
    rw [Nat.mul_comm, Nat.mul_add_div (by omega), Nat.div_eq_of_lt hS, Nat.add_zero]
  have h3 : (k * S + s) % S = s := by rw [Nat.mul_comm, Nat.mul_add_mod, Nat.mod_eq_of_lt hS]
  refine ⟨?_, by omega⟩
  unfold plcI
  rw [if_pos (by omega), h2, h3]
theorem plc_stash {S D L lf i : Nat} {f : Int} (hL : (D + 1) * S = L) : plcI S D f lf (L + i) = (wrap64 (f + 1), (i : Int)) := by
  unfold plcI
  rw [if_neg (by omega), hL]
  simp
end Go.Proofs.YtmageeohnfomnaaGreat


namespace Go.Proofs.YtmageeohnfomnaaGreat
set_option maxRecDepth 100000
open Go.RowKit Go.ChangeShapes Go.WideShapes Go.ChangeAt

def xF (z : Nat → Ip) (t : Int) (m : Nat) : Nat → List IEv
  | 0 => []
  | i + 1 => (xF z t m i ++ (if i < m then [((z i).1, (z i).2, false)] else [])) ++ [(t, (i : Int), true)]
def xE (t : Int) : Nat → List IEv
  | 0 => []
  | j + 1 => xE t j ++ [(t, (j : Int), false), (t, (j : Int), true)]
def xR (z : Nat → Ip) (t : Int) (m Q P : Nat) : Nat → List IEv
  | 0 => xF z t m Q
  | r + 1 => xR z t m Q P r ++ xE t Q ++ ilooks t (netL P)
def xG (z : Nat → Ip) (t : Int) : Nat → List IEv
  | 0 => []
  | k + 1 => xG z t k ++ [(t, (k : Int), false), ((z k).1, (z k).2, true)]
def xA (z : Nat → Ip) (t : Int) (m Q P : Nat) : List IEv := xR z t m Q P 2 ++ xG z t m
theorem xF_len (z : Nat → Ip) (t : Int) (m : Nat) : ∀ i, (xF z t m i).length ≤ 2 * i
  | 0 => by simp [xF]
  | i + 1 => by
    have := xF_len z t m i
    unfold xF
    rw [List.length_append, List.length_append]
    split <;> simp <;> omega
theorem xE_len (t : Int) : ∀ i, (xE t i).length = 2 * i
  | 0 => rfl
  | i + 1 => by
    have := xE_len t i
    unfold xE
    rw [List.length_append, this]
    simp
    omega
theorem xG_len (z : Nat → Ip) (t : Int) : ∀ i, (xG z t i).length = 2 * i
  | 0 => rfl
  | i + 1 => by
    have := xG_len z t i
    unfold xG
    rw [List.length_append, this]
    simp
    omega
theorem xR_len (z : Nat → Ip) (t : Int) (m Q P : Nat) (hQ : Q ≤ 256) (hnet : (netL P).length * 4 ≤ 18432) : ∀ r, (xR z t m Q P r).length ≤ 512 + r * 18944
  | 0 => by have := xF_len z t m Q; unfold xR; omega
  | r + 1 => by
    have := xR_len z t m Q P hQ hnet r
    unfold xR
    rw [List.length_append, List.length_append, xE_len, ilooks_len]
    omega
end Go.Proofs.YtmageeohnfomnaaGreat


namespace Go.Proofs.YtmageeohnfomnaaGreat
set_option maxRecDepth 100000
open Go.RowKit Go.ChangeShapes Go.WideShapes Go.ChangeAt

def LvA (mp f N S T : Nat) (ov : Bool) (mb : Option Nat) : Array Value := #[.pointer (some ⟨mp, 0, none⟩), .int .i64 (f : Int), .int .i64 (N : Int), .int .i64 (S : Int), .int .i64 (T : Int), .bool ov, .map mb]
section
variable {w : World} {lp mp f N S T : Nat} {ov : Bool} {mb : Option Nat} {t : TypeId}
theorem lv0 (h : Box w lp t (LvA mp f N S T ov mb)) : w.cell? ⟨lp, 0, none⟩ = some (.pointer (some ⟨mp, 0, none⟩)) := h.cell 0
theorem lv1 (h : Box w lp t (LvA mp f N S T ov mb)) : w.cell? ⟨lp, 1, none⟩ = some (.int .i64 (f : Int)) := h.cell 1
theorem lv2 (h : Box w lp t (LvA mp f N S T ov mb)) : w.cell? ⟨lp, 2, none⟩ = some (.int .i64 (N : Int)) := h.cell 2
theorem lv3 (h : Box w lp t (LvA mp f N S T ov mb)) : w.cell? ⟨lp, 3, none⟩ = some (.int .i64 (S : Int)) := h.cell 3
theorem lv4 (h : Box w lp t (LvA mp f N S T ov mb)) : w.cell? ⟨lp, 4, none⟩ = some (.int .i64 (T : Int)) := h.cell 4
end
structure LvM (M : MS) (f S D T Q : Nat) : Prop where
  hk : f + 2 < M.k
  s0 : S * (2 * 2 ^ D - 1) ≤ M.sz f
  s1 : T ≤ M.sz (f + 1)
  s2 : Q ≤ M.sz (f + 2)
  wd : M.wd
  len : M.es.length < 900000000
section
variable {M : MS} {f S D T Q L lf : Nat}
theorem LvM.inM (h : LvM M f S D T Q) (hS : 0 < S) (hL : (D + 1) * S = L) (hf : lf < 2 ^ D) {i : Nat} (hi : i < L + T) : (spot S D f lf i).1 < M.k ∧ (spot S D f lf i).2 < M.sz (spot S D f lf i).1 := by
  have h1 := wayQ_is (S := S) (D := D) (T := T) hS hf (i := i) (by rw [hL]; exact hi)
  have hk := h.hk
  have s0 := h.s0
  have s1 := h.s1
  unfold spot
  rcases h1 with ⟨e, hlt⟩ | ⟨e, hlt⟩
  · rw [e]
    show f + 0 < M.k ∧ _ < M.sz (f + 0)
    rw [Nat.add_zero]
    omega
  · rw [e]
    show f + 1 < M.k ∧ _ < M.sz (f + 1)
    omega
theorem LvM.gone (h : LvM M f S D T Q) (c : Nat → Nat → Cl) (l : List Ev) (hc : ∀ r a, Wd (c r a)) (hl : M.es.length + l.length < 900000000) : LvM (M.gone c l) f S D T Q :=
  ⟨h.hk, h.s0, h.s1, h.s2, hc, by rw [gone_len]; exact hl⟩
end
def wasC (E : Nat → Cl) (id : Int) : Nat → Cl
  | 0 => nul
  | i + 1 => if decide (E i 0 = 1) && decide (E i 1 = id) then E i else wasC E id i
theorem wasC_wd {E : Nat → Cl} (h : ∀ i, Wd (E i)) (id : Int) : ∀ i, Wd (wasC E id i)
  | 0 => wd_zero
  | i + 1 => by unfold wasC; split; exact h i; exact wasC_wd h id i
theorem lay_at (S D T f lf : Nat) (c : Nat → Nat → Cl) (id : Int) (nb : Cl) (i : Nat) (hi : i < (D + 1) * S + T) :
    laidX S D T lf (cellsE f c) id nb i = if (decide (c (spot S D f lf i).1 (spot S D f lf i).2 0 = 1) && decide (c (spot S D f lf i).1 (spot S D f lf i).2 1 = id)) = true then nul else c (spot S D f lf i).1 (spot S D f lf i).2 := by
  unfold laidX
  rw [if_pos hi]
  show (if c (spot S D f lf i).1 (spot S D f lf i).2 0 = 1 ∧ c (spot S D f lf i).1 (spot S D f lf i).2 1 = id then nul else c (spot S D f lf i).1 (spot S D f lf i).2) = _
  by_cases h : c (spot S D f lf i).1 (spot S D f lf i).2 0 = 1 ∧ c (spot S D f lf i).1 (spot S D f lf i).2 1 = id
  · rw [if_pos h, if_pos (by simp [h])]
  · rw [if_neg h, if_neg (by simpa using h)]
set_option maxHeartbeats 1000000 in
theorem tell_any (mine : Bool) (g u : Nat → Int) (bw : Nat) (w : World) (hg : Wd g) (hu : Wd u) (hV : Var w bw u) :
    Calls Tryz.prog 51 #[.int .u64 (msk mine), .agg (CA g), .pointer (some ⟨bw, 0, none⟩)] w fun e w' => e = .returned (.tuple #[]) ∧ Var w' bw (if mine then g else u) ∧ Only (just bw) w w' := by
  have HP := Lib.hid (fun W => pickCell_mask mine g u W hg hu)
  obtain ⟨q, hq⟩ : ∃ q, (if mine = true then g else u) = q := ⟨_, rfl⟩
  simp only [hq] at HP ⊢
  have HN := Lib.hid (Var.new w g 103)
  have HV := Lib.hid (hV.alloc (.cells (CA g) 103))
  clear hV hq hg hu
  go_enter Tryz.func51, Tryz.ntmps51
  go_wp2_with (first | with_reducible refine wpList_load_cell rfl (.tmp 4) rfl w.heap.size 0 rfl g HN.out.rng ?_ | with_reducible refine wpList_load_cell rfl (.tmp 2) rfl bw 0 rfl u HV.out.rng ?_)
  refine (HP.out _).mono ?_
  rintro e w1 ⟨rfl, hx⟩
  have HV1 := Lib.hid (HV.out.ext hx)
  have HO1 : Hid (Only (just bw) w w1) := Lib.hid (Only.mono (((Only.refl nobody w).alloc (.cells (CA g) 103)).trans (none_of_ext hx)) (fun i _ h => absurd h (not_nobody i)))
  clear hx HN HV HP
  go_wp2_with (with_reducible refine wpList_store_cell rfl (.tmp 2) (.tmp 8) rfl bw 0 rfl q rfl HV1.out.there ?_)
  go_end0
  exact ⟨rfl, HV1.out.set q, only_setCells _ 0 _ HO1.out (.inl (just_self bw))⟩
theorem join_at {S G : World → Nat → Prop} {p : Prop} (h1 : (∀ w c, S w c → G w c) → p) (h2 : ∀ w c, S w c → G w c) : p := h1 h2
end Go.Proofs.YtmageeohnfomnaaGreat


namespace Go.Proofs.YtmageeohnfomnaaGreat
set_option maxRecDepth 100000
open Go.RowKit Go.ChangeShapes Go.WideShapes Go.ChangeAt

def GoodC (N : Nat) (g : Cl) : Prop := Wd g ∧ (g 0 = 1 → (g 1 ≤ 2147483648) ∧ ∃ l : Nat, g 2 = (l : Int) ∧ l < N)
def itA (y : It) : Array Value := #[.int .u64 y.1, .int .i64 y.2]
set_option maxRecDepth 100000 in
set_option maxHeartbeats 2000000 in
theorem item_any {N S T D L n Q P : Nat} (h : Conf N S T D L n Q P) (lf : Nat) (g : Nat → Int) (w : World) (hlf : lf < N) (hg : GoodC N g) :
    Calls Tryz.prog 85 #[.agg #[.int .i64 (N : Int), .int .i64 (S : Int), .int .i64 (T : Int)], .agg (CA g), .int .i64 (lf : Int)] w fun e w' => e = .returned (.agg (itA (itemOf (dpW D lf) g))) ∧ Only nobody w w' := by
  have HH := Lib.hid (fun W => has_any g W)
  obtain ⟨b, hb⟩ : ∃ b, w.heap.size = b := ⟨_, rfl⟩
  obtain ⟨w2, hw2⟩ : ∃ w2, ((w.alloc (.cells #[.int .i64 (N : Int), .int .i64 (S : Int), .int .i64 (T : Int)] 23)).alloc (.cells (CA g) 103)).alloc (.cells #[.int .u64 0, .int .i64 0] 139) = w2 := ⟨_, rfl⟩
  have hx : Box w2 b 23 #[.int .i64 (N : Int), .int .i64 (S : Int), .int .i64 (T : Int)] := by rw [← hw2, ← hb]; exact ((Box.new w _ _).alloc _).alloc _
  have hy : Var w2 (b + 1) g := by
    rw [← hw2, ← hb]
    have := (Var.new (w.alloc (.cells #[.int .i64 (N : Int), .int .i64 (S : Int), .int .i64 (T : Int)] 23)) g 103).alloc (.cells #[.int .u64 0, .int .i64 0] 139)
    have e : (w.alloc (.cells #[.int .i64 (N : Int), .int .i64 (S : Int), .int .i64 (T : Int)] 23)).heap.size = w.heap.size + 1 := by simp
    rw [e] at this
    exact this
  have hz : Box w2 (b + 2) 139 #[.int .u64 0, .int .i64 0] := by
    rw [← hw2, ← hb]
    have := Box.new ((w.alloc (.cells #[.int .i64 (N : Int), .int .i64 (S : Int), .int .i64 (T : Int)] 23)).alloc (.cells (CA g) 103)) 139 #[.int .u64 0, .int .i64 0]
    have e : ((w.alloc (.cells #[.int .i64 (N : Int), .int .i64 (S : Int), .int .i64 (T : Int)] 23)).alloc (.cells (CA g) 103)).heap.size = w.heap.size + 2 := by simp
    rw [e] at this
    exact this
  have ho2 : Only nobody w w2 := by rw [← hw2]; exact (((Only.refl nobody w).alloc _).alloc _).alloc _
  have HX := Lib.hid hx
  have HY := Lib.hid hy
  have HZ := Lib.hid hz
  have HO := Lib.hid ho2
  have HW2 := Lib.hid hw2
  have HBb := Lib.hid hb
  clear hx hy hz ho2 hw2 hb
  have e2 : b + 1 + 1 = b + 2 := rfl
  go_enter Tryz.func85, Tryz.ntmps85
  go_upto_region 1 with fail
  rw [HBb.out]
  simp only [HW2.out, e2]
  go_wp2_with (with_reducible refine wpList_load_cell rfl (.tmp 4) rfl (b + 1) 0 rfl g HY.out.rng ?_)
  refine (HH.out _).mono ?_
  rintro e w3 ⟨rfl, hb3⟩
  have ho3 : Only nobody w2 w3 := Only.of_below hb3
  have HX3 := Lib.hid (HX.out.only ho3 (not_nobody _))
  have HY3 := Lib.hid (HY.out.nob ho3)
  have HZ3 := Lib.hid (HZ.out.only ho3 (not_nobody _))
  have HO3 := Lib.hid (HO.out.trans ho3)
  have hbw : b + 2 < w3.heap.size := HZ3.out.lt
  clear hb3 ho3 HX HY HZ HO
  by_cases h0 : g 0 = 1
  · have e0 : (g 0 == 1) = true := by rw [beq_iff_eq]; exact h0
    obtain ⟨h1, l, hl, hlN⟩ := hg.2 h0
    have hn1 := h.n1
    have hDp := deep_turn D lf l (by rw [h.hN]; exact hlf) (by rw [h.hN]; exact hlN)
    have HDp := Lib.hid (fun W => deep_in D N l lf W h.hD h.hN hlN hlf)
    have hit : itemOf (dpW D lf) g = (g 1, ((deep D l lf D : Nat) : Int)) := by
      unfold itemOf dpW
      rw [if_pos h0, hl, Int.toNat_natCast, hDp]
    have hc : IntKind.i64.wrap (l : Int) = (l : Int) := by rw [IntKind.wrap_i64]; omega
    have HIt := Lib.hid hit
    have hg1 := HY3.out.cell (κ := 1) (by decide)
    generalize hq : deep D l lf D = q at *
    clear hDp hit hq hg
    rw [e0]
    go_wp2_with fail
    refine held_s (S := fun w' => Box w' b 23 #[.int .i64 (N : Int), .int .i64 (S : Int), .int .i64 (T : Int)] ∧ Var w' (b + 1) g) 11 rfl (by kernel_rfl) ⟨HX3.out.drewN 1, HY3.out.drew⟩ (fun hHeld => ?_)
    simp only [Array.replicate_succ, Array.replicate_zero, List.push_toArray, List.nil_append, List.cons_append]
    have z0 := (HZ3.out.drewN 1).cell 0
    have z1 := (HZ3.out.drewN 1).cell 1
    have f0 := (HZ3.out.drewN 1).frozen 0
    have f1 := (HZ3.out.drewN 1).frozen 1
    have HZ4 : Hid (Box w3.drew (b + 2) 139 #[.int .u64 0, .int .i64 0]) := Lib.hid (HZ3.out.drewN 1)
    have HO4 : Hid (Only nobody w w3.drew) := Lib.hid HO3.out.drew
    change w3.drew.cell? _ = _ at z0
    change w3.drew.cell? _ = _ at z1
    change w3.drew.frozen? _ = _ at f0
    change w3.drew.frozen? _ = _ at f1
    clear HX3 HY3 HZ3 HO3 hg1
    generalize w3.drew = w4 at *
    refine wpAnyH_take (i := 0) (oi := ⟨some 11, _, _, _, _, _⟩) (v := (.pointer (some ⟨b + 1, 1, none⟩))) rfl (by kernel_rfl) (by kernel_rfl) (by kernel_rfl) (fun _ _ _ h => h) (Or.inl ⟨by rfl, fun w' hw => by go_simp⟩) hHeld ?_
    try simp only [Act.put, List.setIfInBounds_toArray, List.set_cons_zero, List.set_cons_succ]
    refine wpAnyH_take (i := 1) (oi := ⟨some 12, _, _, _, _, _⟩) (v := (.int .u64 (g 1))) rfl (by kernel_rfl) (by kernel_rfl) (by kernel_rfl) (fun _ _ _ h => h) (Or.inl ⟨by rfl, fun w' hw => by (have k0 := hw.1.cell 0; have k1 := hw.2.cell (κ := 1) (by decide); have k2 := hw.2.cell (κ := 2) (by decide); rw [hl] at k2; go_simp)⟩) hHeld ?_
    try simp only [Act.put, List.setIfInBounds_toArray, List.set_cons_zero, List.set_cons_succ]
    refine wpAnyH_take (i := 2) (oi := ⟨some 13, _, _, _, _, _⟩) (v := (.pointer (some ⟨b, 0, none⟩))) rfl (by kernel_rfl) (by kernel_rfl) (by kernel_rfl) (fun _ _ _ h => h) (Or.inl ⟨by rfl, fun w' hw => by go_simp⟩) hHeld ?_
    try simp only [Act.put, List.setIfInBounds_toArray, List.set_cons_zero, List.set_cons_succ]
    refine wpAnyH_take (i := 3) (oi := ⟨some 14, _, _, _, _, _⟩) (v := (.int .i64 (N : Int))) rfl (by kernel_rfl) (by kernel_rfl) (by kernel_rfl) (fun _ _ _ h => h) (Or.inl ⟨by rfl, fun w' hw => by (have k0 := hw.1.cell 0; have k1 := hw.2.cell (κ := 1) (by decide); have k2 := hw.2.cell (κ := 2) (by decide); rw [hl] at k2; go_simp)⟩) hHeld ?_
    try simp only [Act.put, List.setIfInBounds_toArray, List.set_cons_zero, List.set_cons_succ]
    refine wpAnyH_take (i := 4) (oi := ⟨some 15, _, _, _, _, _⟩) (v := (.pointer (some ⟨b + 1, 2, none⟩))) rfl (by kernel_rfl) (by kernel_rfl) (by kernel_rfl) (fun _ _ _ h => h) (Or.inl ⟨by rfl, fun w' hw => by go_simp⟩) hHeld ?_
    try simp only [Act.put, List.setIfInBounds_toArray, List.set_cons_zero, List.set_cons_succ]
    refine wpAnyH_take (i := 5) (oi := ⟨some 16, _, _, _, _, _⟩) (v := (.int .u64 (l : Int))) rfl (by kernel_rfl) (by kernel_rfl) (by kernel_rfl) (fun _ _ _ h => h) (Or.inl ⟨by rfl, fun w' hw => by (have k0 := hw.1.cell 0; have k1 := hw.2.cell (κ := 1) (by decide); have k2 := hw.2.cell (κ := 2) (by decide); rw [hl] at k2; go_simp)⟩) hHeld ?_
    try simp only [Act.put, List.setIfInBounds_toArray, List.set_cons_zero, List.set_cons_succ]
    refine wpAnyH_take (i := 6) (oi := ⟨some 17, _, _, _, _, _⟩) (v := (.int .i64 (l : Int))) rfl (by kernel_rfl) (by kernel_rfl) (by kernel_rfl) (fun _ _ _ h => h) (Or.inl ⟨by rfl, fun w' hw => by go_simp⟩) hHeld ?_
    try simp only [Act.put, List.setIfInBounds_toArray, List.set_cons_zero, List.set_cons_succ]
    refine wpAnyH_take (i := 7) (oi := ⟨some 18, _, _, _, _, _⟩) (v := (.int .i64 (lf : Int))) rfl (by kernel_rfl) (by kernel_rfl) (by kernel_rfl) (fun _ _ _ h => h) (Or.inl ⟨by rfl, fun w' hw => by go_simp⟩) hHeld ?_
    try simp only [Act.put, List.setIfInBounds_toArray, List.set_cons_zero, List.set_cons_succ]
    refine one_ready 8 rfl (by kernel_rfl) (fun K hK => ?_)
    go_simp
    refine (HDp.out _).mono ?_
    rintro e w5 ⟨rfl, hw5⟩
    obtain rfl : w4 = w5 := hw5.symm
    refine hK.out _ _ hHeld (fun hHeld => ?_)
    clear hK K
    simp only [List.setIfInBounds_toArray, List.set_cons_zero, List.set_cons_succ]
    refine wpAnyH_take (i := 9) (oi := ⟨some 20, _, _, _, _, _⟩) (v := (.agg #[.int .u64 (g 1), .int .i64 (q : Int)])) rfl (by kernel_rfl) (by kernel_rfl) (by kernel_rfl) (fun _ _ _ h => h) (Or.inl ⟨by rfl, fun w' hw => by go_simp⟩) hHeld ?_
    try simp only [Act.put, List.setIfInBounds_toArray, List.set_cons_zero, List.set_cons_succ]
    refine one_ready 10 (o := ⟨none, _, _, _, _, _⟩) rfl (by kernel_rfl) (fun K hK => ?_)
    go_simp
    have hbb := HBb.out
    have hZf : Box ((w4.setCell ⟨b + 2, 0, none⟩ (.int .u64 (g 1))).setCell ⟨b + 2, 1, none⟩ (.int .i64 (q : Int))) (b + 2) 139 #[.int .u64 (g 1), .int .i64 (q : Int)] := (HZ4.out.put 0 _).put 1 _
    have hOf : Only nobody w ((w4.setCell ⟨b + 2, 0, none⟩ (.int .u64 (g 1))).setCell ⟨b + 2, 1, none⟩ (.int .i64 (q : Int))) := (HO4.out.setCell (p := ⟨b + 2, 0, none⟩) (.inr (by show w.heap.size ≤ b + 2; omega)) _).setCell (p := ⟨b + 2, 1, none⟩) (.inr (by show w.heap.size ≤ b + 2; omega)) _
    have hoj : Only (just (b + 2)) w4 ((w4.setCell ⟨b + 2, 0, none⟩ (.int .u64 (g 1))).setCell ⟨b + 2, 1, none⟩ (.int .i64 (q : Int))) := ((Only.refl _ w4).setCell (p := ⟨b + 2, 0, none⟩) (.inl (just_self _)) _).setCell (p := ⟨b + 2, 1, none⟩) (.inl (just_self _)) _
    refine hK.out _ _ ⟨hHeld.1.only hoj (just_ne (by omega)), hHeld.2.only hoj (just_ne (by omega))⟩ (fun _ => ?_)
    clear hK K
    have HZf := Lib.hid hZf
    have HOf := Lib.hid hOf
    clear hZf hOf hoj z0 z1 f0 f1 hHeld
    refine wpAnyH_done (by kernel_rfl) ?_ _
    go_wp2_with fail
    exact bodyPost_ret (v := .agg #[.int .u64 (g 1), .int .i64 (q : Int)]) (results_one Tryz.results85 rfl (load_box HZf.out Tryz.underlying139 rfl (by kernel_rfl))) rfl ⟨by rw [HIt.out]; rfl, HOf.out⟩
  · have e0 : (g 0 == 1) = false := by rw [beq_eq_false_iff_ne]; exact h0
    have hit : itemOf (dpW D lf) g = (0, -1) := by unfold itemOf; rw [if_neg h0]
    have HIt := Lib.hid hit
    have z0 := HZ3.out.cell 0
    have z1 := HZ3.out.cell 1
    have f0 := HZ3.out.frozen 0
    have f1 := HZ3.out.frozen 1
    have HZf : Hid (Box ((w3.setCell ⟨b + 2, 0, none⟩ (.int .u64 0)).setCell ⟨b + 2, 1, none⟩ (.int .i64 (-1))) (b + 2) 139 #[.int .u64 0, .int .i64 (-1)]) := Lib.hid ((HZ3.out.put 0 _).put 1 _)
    have HE : Hid (Only nobody w ((w3.setCell ⟨b + 2, 0, none⟩ (.int .u64 0)).setCell ⟨b + 2, 1, none⟩ (.int .i64 (-1)))) := Lib.hid ((HO3.out.setCell (p := ⟨b + 2, 0, none⟩) (.inr (by have := HBb.out; show w.heap.size ≤ b + 2; omega)) _).setCell (p := ⟨b + 2, 1, none⟩) (.inr (by have := HBb.out; show w.heap.size ≤ b + 2; omega)) _)
    clear hit HX3 HY3 HZ3 HO3
    rw [e0]
    go_wp2_with fail
    exact bodyPost_ret (v := .agg #[.int .u64 0, .int .i64 (-1)]) (results_one Tryz.results85 rfl (load_box HZf.out Tryz.underlying139 rfl (by kernel_rfl))) rfl ⟨by rw [HIt.out]; rfl, HE.out⟩
theorem evF_past (S D T f lf i : Nat) (hi : (D + 1) * S + T ≤ i) : evF S D T f lf (i + 1) = evF S D T f lf i ++ [(f + 2, i, true)] := by
  show evF S D T f lf i ++ (if i < (D + 1) * S + T then _ else _) ++ _ = _
  rw [if_neg (by omega), List.append_nil]
set_option maxRecDepth 100000 in
set_option maxHeartbeats 4000000 in
theorem add_any {N S T D L n Q P : Nat} (h : Conf N S T D L n Q P) (X : Nat → Prop) (lp mp f lf : Nat) (ov : Bool) (mb : Option Nat) (M : MS) (B : Nat → Int) (Z : Nat → Cl) (w : World) (hM : LvM M f S D T Q) (hf : f ≤ 100)
    (hZ : Z (L + T) = B) (hZn : ∀ j, L + T < j → Z j = nul) (hO : Own w X mp (M.gone (cT (f + 2) Z M.c (L + T)) (evF S D T f lf (L + T)))) (hX1 : X lp) (hB : Box w lp 80 (LvA mp f N S T ov mb)) :
    Calls Tryz.prog 53 #[.pointer (some ⟨lp, 0, none⟩), .int .i64 ((L + T : Nat) : Int), .agg (CA B)] w (OwnPost w X mp (M.gone (cT (f + 2) Z M.c Q) (evF S D T f lf Q)) (.tuple #[])) := by
  have HT := Lib.hid (fun W => table_at f (N : Int) (S : Int) (T : Int) W hf)
  have HR := Lib.hid (fun W => round_of h W)
  have HEv := Lib.hid (fun i hi => evF_past S D T f lf i (by rw [h.hL]; exact hi))
  have hLn := h.hn
  have hnQ := h.le
  have hQ := h.big.2.2.2
  have hLb := h.big.1
  have ht := h.t64
  have hM2 := hM.hk
  have hs2 := hM.s2
  have hml := hM.len
  have HZn := Lib.hid hZn
  have hev0 := HEv.out (L + T) (Nat.le_refl _)
  have hel0 := evF_len S D T f lf (L + T)
  have hsuc0 := cT_succ (t := f + 2) (X := Z) (c := M.c) (i := L + T)
  rw [hZ] at hsuc0
  have HSUC0 := Lib.hid hsuc0
  have HEV0 := Lib.hid hev0
  obtain ⟨m, hm⟩ : ∃ m, L + T = m := ⟨_, rfl⟩
  rw [hm] at hO HSUC0 HEV0 HZn hel0 HEv
  rw [hm]
  have hmQ : m + 1 ≤ Q := by omega
  have hmb : m ≤ 152 := by omega
  generalize hcc : cT (f + 2) Z M.c m = cc at hO HSUC0
  generalize hll : evF S D T f lf m = ll at hO HEV0 hel0
  have hel2 : ll.length ≤ 400 := by omega
  clear h hM hZ hZn hev0 hsuc0 hel0 hcc hll hLn hnQ hm
  obtain ⟨b, hb⟩ : ∃ b, w.heap.size = b := ⟨_, rfl⟩
  obtain ⟨w1, hw1⟩ : ∃ x, w.alloc (.cells (CA B) 103) = x := ⟨_, rfl⟩
  have hO1 : Own w1 (plus1 X b) mp (M.gone cc ll) := by rw [← hw1, ← hb]; exact hO.one _
  have hB1 : Box w1 lp 80 (LvA mp f N S T ov mb) := by rw [← hw1]; exact hB.alloc _
  have hV1 : Var w1 b B := by rw [← hw1, ← hb]; exact Var.new w _ _
  have hK1 : Kept X w w1 := by rw [← hw1]; exact (Kept.refl _ _).alloc _
  have HW1 := Lib.hid hw1
  have HBb := Lib.hid hb
  clear hO hB hw1 hb
  go_enter Tryz.func53, Tryz.ntmps53
  go_upto_region 1 with fail
  rw [HBb.out, HW1.out]
  refine held_s (S := fun w' => Box w' lp 80 (LvA mp f N S T ov mb) ∧ Var w' b B) 12 rfl (by kernel_rfl) ⟨hB1.drewN 1, hV1.drew⟩ (fun hHeld => ?_)
  simp only [Array.replicate_succ, Array.replicate_zero, List.push_toArray, List.nil_append, List.cons_append]
  have hO2 : Own w1.drew (plus1 X b) mp (M.gone cc ll) := hO1.drewN 1
  have hB2 : Box w1.drew lp 80 (LvA mp f N S T ov mb) := hB1.drewN 1
  have hV2 : Var w1.drew b B := hV1.drew
  have hK2 : Kept X w w1.drew := hK1.drewN 1
  clear hO1 hB1 hV1 hK1 HW1
  generalize w1.drew = w2 at *
  refine wpAnyH_take (i := 0) (oi := ⟨some 7, _, _, _, _, _⟩) (v := (.pointer (some ⟨lp, 0, none⟩))) rfl (by kernel_rfl) (by kernel_rfl) (by kernel_rfl) (fun _ _ _ h => h) (Or.inl ⟨by rfl, fun w' hw => by go_simp⟩) hHeld ?_
  try simp only [Act.put, List.setIfInBounds_toArray, List.set_cons_zero, List.set_cons_succ]
  refine wpAnyH_take (i := 1) (oi := ⟨some 8, _, _, _, _, _⟩) (v := (.pointer (some ⟨lp, 0, none⟩))) rfl (by kernel_rfl) (by kernel_rfl) (by kernel_rfl) (fun _ _ _ h => h) (Or.inl ⟨by rfl, fun w' hw => by go_simp⟩) hHeld ?_
  try simp only [Act.put, List.setIfInBounds_toArray, List.set_cons_zero, List.set_cons_succ]
  refine wpAnyH_take (i := 2) (oi := ⟨some 9, _, _, _, _, _⟩) (v := (.pointer (some ⟨lp, 0, none⟩))) rfl (by kernel_rfl) (by kernel_rfl) (by kernel_rfl) (fun _ _ _ h => h) (Or.inl ⟨by rfl, fun w' hw => by go_simp⟩) hHeld ?_
  try simp only [Act.put, List.setIfInBounds_toArray, List.set_cons_zero, List.set_cons_succ]
  refine wpAnyH_take (i := 3) (oi := ⟨some 10, _, _, _, _, _⟩) (v := (.pointer (some ⟨mp, 0, none⟩))) rfl (by kernel_rfl) (by kernel_rfl) (by kernel_rfl) (fun _ _ _ h => h) (Or.inl ⟨by rfl, fun w' hw => by (have k0 := lv0 hw.1; have k1 := lv1 hw.1; have k2 := lv2 hw.1; have k3 := lv3 hw.1; have k4 := lv4 hw.1; skip; go_simp)⟩) hHeld ?_
  try simp only [Act.put, List.setIfInBounds_toArray, List.set_cons_zero, List.set_cons_succ]
  refine wpAnyH_take (i := 4) (oi := ⟨some 11, _, _, _, _, _⟩) (v := (.pointer (some ⟨lp, 0, none⟩))) rfl (by kernel_rfl) (by kernel_rfl) (by kernel_rfl) (fun _ _ _ h => h) (Or.inl ⟨by rfl, fun w' hw => by go_simp⟩) hHeld ?_
  try simp only [Act.put, List.setIfInBounds_toArray, List.set_cons_zero, List.set_cons_succ]
  refine wpAnyH_take (i := 5) (oi := ⟨some 12, _, _, _, _, _⟩) (v := (.pointer (some ⟨lp, 0, none⟩))) rfl (by kernel_rfl) (by kernel_rfl) (by kernel_rfl) (fun _ _ _ h => h) (Or.inl ⟨by rfl, fun w' hw => by go_simp⟩) hHeld ?_
  try simp only [Act.put, List.setIfInBounds_toArray, List.set_cons_zero, List.set_cons_succ]
  refine wpAnyH_take (i := 6) (oi := ⟨some 13, _, _, _, _, _⟩) (v := (.pointer (some ⟨lp, 1, none⟩))) rfl (by kernel_rfl) (by kernel_rfl) (by kernel_rfl) (fun _ _ _ h => h) (Or.inl ⟨by rfl, fun w' hw => by go_simp⟩) hHeld ?_
  try simp only [Act.put, List.setIfInBounds_toArray, List.set_cons_zero, List.set_cons_succ]
  refine wpAnyH_take (i := 7) (oi := ⟨some 14, _, _, _, _, _⟩) (v := (.agg #[.int .i64 (f : Int), .int .i64 (N : Int), .int .i64 (S : Int), .int .i64 (T : Int)])) rfl (by kernel_rfl) (by kernel_rfl) (by kernel_rfl) (fun _ _ _ h => h) (Or.inl ⟨by rfl, fun w' hw => by (have k0 := lv0 hw.1; have k1 := lv1 hw.1; have k2 := lv2 hw.1; have k3 := lv3 hw.1; have k4 := lv4 hw.1; skip; go_simp)⟩) hHeld ?_
  try simp only [Act.put, List.setIfInBounds_toArray, List.set_cons_zero, List.set_cons_succ]
  refine wpAnyH_take (i := 9) (oi := ⟨some 16, _, _, _, _, _⟩) (v := (.int .i64 (m : Int))) rfl (by kernel_rfl) (by kernel_rfl) (by kernel_rfl) (fun _ _ _ h => h) (Or.inl ⟨by rfl, fun w' hw => by go_simp⟩) hHeld ?_
  try simp only [Act.put, List.setIfInBounds_toArray, List.set_cons_zero, List.set_cons_succ]
  refine take_row 10 (oi := ⟨some 17, _, _, _, _, _⟩) (CA B).toList rfl (by kernel_rfl) (by kernel_rfl) (by kernel_rfl) (fun _ _ _ h => h) (by rfl) _ _ rfl _ _ rfl _ (fun w' hw => hw.2.rng) Tryz.underlying103 rfl (infoCellL B) hHeld ?_
  try simp only [Act.put, List.setIfInBounds_toArray, List.set_cons_zero, List.set_cons_succ]
  refine one_ready 8 rfl (by kernel_rfl) (fun K hK => ?_)
  go_simp
  refine (HT.out _).mono ?_
  rintro e w3 ⟨rfl, hb3⟩
  have ho3 : Only nobody w2 w3 := Only.of_below hb3
  have hO3 := hO2.none ho3
  have hB3 := hB2.only ho3 (not_nobody _)
  have hV3 := hV2.nob ho3
  have hK3 := hK2.trans (Kept.of_none ho3)
  refine hK.out _ _ ⟨hB3, hV3⟩ (fun hHeld => ?_)
  clear hK K hb3 ho3 hO2 hB2 hV2 hK2
  simp only [List.setIfInBounds_toArray, List.set_cons_zero, List.set_cons_succ]
  refine one_ready 11 rfl (by kernel_rfl) (fun K hK => ?_)
  go_simp
  refine (own_write _ mp (M.gone cc ll) w3 ((f + 2 : Nat) : Int) (m : Int) B hO3 (by rw [gone_len]; omega)).mono ?_
  rintro e w5 ⟨rfl, ho, hk⟩
  rw [gone_write (by omega) (by omega), HSUC0.out, ← HEV0.out] at ho
  have hB5 := hk.box hB3 (.inl hX1)
  have hV5 := hV3.kept hk (.inr rfl)
  have hA := And.intro (ho.weak (fun j (hj : X j) => .inl hj)) (hK3.trans (hk.mono (fun j hj => .inl hj)))
  refine hK.out _ _ ⟨hB5, hV5⟩ (fun hHeld => ?_)
  clear hK K hk ho hO3 hB3 hV3 hK3 hV5
  simp only [List.setIfInBounds_toArray, List.set_cons_zero, List.set_cons_succ]
  refine wpAnyH_done (by kernel_rfl) ?_ _
  have HA := Lib.hid hA
  have HB5 := Lib.hid hB5
  clear hA hB5
  go_wp2_with fail
  go_loopw [6] (fun v wr => ∃ i : Nat, v = .int .i64 i ∧ m + 1 ≤ i ∧ i ≤ Q ∧ Own wr X mp (M.gone (cT (f + 2) Z M.c i) (evF S D T f lf i)) ∧ Kept X w wr ∧ Box wr lp 80 (LvA mp f N S T ov mb)) (fun v _ => Q - (intOf v).toNat)
  case atStart => exact ⟨m + 1, by go_num, by omega, by omega, HA.out.1, HA.out.2, HB5.out⟩
  case round =>
    obtain ⟨i, rfl, hi0, hi, hOw, hKp, hBx⟩ := hrel
    clear HA HB5
    have HOw := Lib.hid hOw
    have HKp := Lib.hid hKp
    have HBx := Lib.hid hBx
    have p2 := lv2 hBx
    have p3 := lv3 hBx
    have p4 := lv4 hBx
    clear hOw hKp hBx
    go_wp2_with fail
    refine (HR.out _).mono ?_
    rintro e w6 ⟨rfl, hb6⟩
    have ho6 : Only nobody wr w6 := Only.of_below hb6
    have HO6 := Lib.hid (HOw.out.none ho6)
    have HB6 := Lib.hid (HBx.out.only ho6 (not_nobody _))
    have HK6 := Lib.hid (HKp.out.trans (Kept.of_none ho6))
    clear hb6 ho6 p2 p3 p4 HOw HKp HBx
    by_cases hin : i < Q
    · have hsuc := cT_succ (t := f + 2) (X := Z) (c := M.c) (i := i)
      rw [HZn.out i (by omega)] at hsuc
      have HSUC := Lib.hid hsuc
      have HEV := Lib.hid (HEv.out i (by omega))
      have hel := evF_len S D T f lf i
      generalize hcc : cT (f + 2) Z M.c i = cc' at HO6 HSUC
      generalize hll : evF S D T f lf i = ll' at HO6 HEV hel
      have hel2 : ll'.length ≤ 600 := by omega
      clear hsuc hel hcc hll
      go_upto_region 5 with fail
      refine held_s (S := fun w' => Box w' lp 80 (LvA mp f N S T ov mb)) 12 rfl (by kernel_rfl) (HB6.out.drewN 1) (fun hHeld => ?_)
      simp only [Array.replicate_succ, Array.replicate_zero, List.push_toArray, List.nil_append, List.cons_append]
      have hO7 : Own w6.drew X mp (M.gone cc' ll') := HO6.out.drewN 1
      have hK7 : Kept X w w6.drew := HK6.out.drewN 1
      have hB7 : Box w6.drew lp 80 (LvA mp f N S T ov mb) := HB6.out.drewN 1
      clear HO6 HK6 HB6
      generalize w6.drew = w7 at *
      refine wpAnyH_take (i := 0) (oi := ⟨some 31, _, _, _, _, _⟩) (v := (.pointer (some ⟨lp, 0, none⟩))) rfl (by kernel_rfl) (by kernel_rfl) (by kernel_rfl) (fun _ _ _ h => h) (Or.inl ⟨by rfl, fun w' hw => by go_simp⟩) hHeld ?_
      try simp only [Act.put, List.setIfInBounds_toArray, List.set_cons_zero, List.set_cons_succ]
      refine wpAnyH_take (i := 1) (oi := ⟨some 32, _, _, _, _, _⟩) (v := (.pointer (some ⟨lp, 0, none⟩))) rfl (by kernel_rfl) (by kernel_rfl) (by kernel_rfl) (fun _ _ _ h => h) (Or.inl ⟨by rfl, fun w' hw => by go_simp⟩) hHeld ?_
      try simp only [Act.put, List.setIfInBounds_toArray, List.set_cons_zero, List.set_cons_succ]
      refine wpAnyH_take (i := 2) (oi := ⟨some 33, _, _, _, _, _⟩) (v := (.pointer (some ⟨lp, 0, none⟩))) rfl (by kernel_rfl) (by kernel_rfl) (by kernel_rfl) (fun _ _ _ h => h) (Or.inl ⟨by rfl, fun w' hw => by go_simp⟩) hHeld ?_
      try simp only [Act.put, List.setIfInBounds_toArray, List.set_cons_zero, List.set_cons_succ]
      refine wpAnyH_take (i := 3) (oi := ⟨some 34, _, _, _, _, _⟩) (v := (.pointer (some ⟨mp, 0, none⟩))) rfl (by kernel_rfl) (by kernel_rfl) (by kernel_rfl) (fun _ _ _ h => h) (Or.inl ⟨by rfl, fun w' hw => by (have k0 := lv0 hw; have k1 := lv1 hw; have k2 := lv2 hw; have k3 := lv3 hw; have k4 := lv4 hw; skip; go_simp)⟩) hHeld ?_
      try simp only [Act.put, List.setIfInBounds_toArray, List.set_cons_zero, List.set_cons_succ]
      refine wpAnyH_take (i := 4) (oi := ⟨some 35, _, _, _, _, _⟩) (v := (.pointer (some ⟨lp, 0, none⟩))) rfl (by kernel_rfl) (by kernel_rfl) (by kernel_rfl) (fun _ _ _ h => h) (Or.inl ⟨by rfl, fun w' hw => by go_simp⟩) hHeld ?_
      try simp only [Act.put, List.setIfInBounds_toArray, List.set_cons_zero, List.set_cons_succ]
      refine wpAnyH_take (i := 5) (oi := ⟨some 36, _, _, _, _, _⟩) (v := (.pointer (some ⟨lp, 0, none⟩))) rfl (by kernel_rfl) (by kernel_rfl) (by kernel_rfl) (fun _ _ _ h => h) (Or.inl ⟨by rfl, fun w' hw => by go_simp⟩) hHeld ?_
      try simp only [Act.put, List.setIfInBounds_toArray, List.set_cons_zero, List.set_cons_succ]
      refine wpAnyH_take (i := 6) (oi := ⟨some 37, _, _, _, _, _⟩) (v := (.pointer (some ⟨lp, 1, none⟩))) rfl (by kernel_rfl) (by kernel_rfl) (by kernel_rfl) (fun _ _ _ h => h) (Or.inl ⟨by rfl, fun w' hw => by go_simp⟩) hHeld ?_
      try simp only [Act.put, List.setIfInBounds_toArray, List.set_cons_zero, List.set_cons_succ]
      refine wpAnyH_take (i := 7) (oi := ⟨some 38, _, _, _, _, _⟩) (v := (.agg #[.int .i64 (f : Int), .int .i64 (N : Int), .int .i64 (S : Int), .int .i64 (T : Int)])) rfl (by kernel_rfl) (by kernel_rfl) (by kernel_rfl) (fun _ _ _ h => h) (Or.inl ⟨by rfl, fun w' hw => by (have k0 := lv0 hw; have k1 := lv1 hw; have k2 := lv2 hw; have k3 := lv3 hw; have k4 := lv4 hw; skip; go_simp)⟩) hHeld ?_
      try simp only [Act.put, List.setIfInBounds_toArray, List.set_cons_zero, List.set_cons_succ]
      refine wpAnyH_take (i := 9) (oi := ⟨some 40, _, _, _, _, _⟩) (v := (.int .i64 (i : Int))) rfl (by kernel_rfl) (by kernel_rfl) (by kernel_rfl) (fun _ _ _ h => h) (Or.inl ⟨by rfl, fun w' hw => by go_simp⟩) hHeld ?_
      try simp only [Act.put, List.setIfInBounds_toArray, List.set_cons_zero, List.set_cons_succ]
      refine wpAnyH_take (i := 10) (oi := ⟨some 41, _, _, _, _, _⟩) (v := (.agg (CA nul))) rfl (by kernel_rfl) (by kernel_rfl) (by kernel_rfl) (fun _ _ _ h => h) (Or.inl ⟨by rfl, fun w' hw => by (go_simp; rfl)⟩) hHeld ?_
      try simp only [Act.put, List.setIfInBounds_toArray, List.set_cons_zero, List.set_cons_succ]
      refine one_ready 8 rfl (by kernel_rfl) (fun K hK => ?_)
      go_simp
      refine (HT.out _).mono ?_
      rintro e w8 ⟨rfl, hb8⟩
      have ho8 : Only nobody w7 w8 := Only.of_below hb8
      have hO8 := hO7.none ho8
      have hB8 := hB7.only ho8 (not_nobody _)
      have hK8 := hK7.trans (Kept.of_none ho8)
      refine hK.out _ _ hB8 (fun hHeld => ?_)
      clear hK K hb8 ho8 hO7 hB7 hK7
      simp only [List.setIfInBounds_toArray, List.set_cons_zero, List.set_cons_succ]
      refine one_ready 11 rfl (by kernel_rfl) (fun K hK => ?_)
      go_simp
      refine (own_write _ mp (M.gone cc' ll') w8 ((f + 2 : Nat) : Int) (i : Int) nul hO8 (by rw [gone_len]; omega)).mono ?_
      rintro e w9 ⟨rfl, ho, hk⟩
      rw [gone_write (by omega) (by omega), HSUC.out, ← HEV.out] at ho
      have hO9 := ho
      have hB9 := hk.box hB8 hX1
      have hK9 := hK8.trans hk
      refine hK.out _ _ hB9 (fun hHeld => ?_)
      clear hK K hk ho hO8 hB8 hK8
      simp only [List.setIfInBounds_toArray, List.set_cons_zero, List.set_cons_succ]
      refine wpAnyH_done (by kernel_rfl) ?_ _
      have HE := Lib.hid (And.intro hO9 (And.intro hK9 hB9))
      clear hO9 hK9 hB9 hHeld
      go_wp2_with fail
      go_roundw
      case rel => exact ⟨i + 1, by go_num, by omega, by omega, HE.out.1, HE.out.2.1, HE.out.2.2⟩
      case measure => simp [intOf]; omega
    · obtain rfl : i = Q := by omega
      go_wp2_with fail
      go_end0
      exact ⟨rfl, HO6.out, HK6.out⟩
end Go.Proofs.YtmageeohnfomnaaGreat

