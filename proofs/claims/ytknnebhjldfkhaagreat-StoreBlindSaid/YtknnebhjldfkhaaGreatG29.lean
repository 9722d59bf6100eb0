import Derived.Test.YtknnebhjldfkhaaGreatG14
import Derived.Test.YtknnebhjldfkhaaGreatG22
import Derived.Test.YtknnebhjldfkhaaGreatG28
import Derived.Test.YtknnebhjldfkhaaGreatG23
import Derived.Test.YtknnebhjldfkhaaGreatG34
namespace Go.Proofs.YtknnebhjldfkhaaGreat
set_option maxRecDepth 100000
open Go.RowKit Go.ChangeShapes Go.WideShapes Go.ChangeAt

abbrev Sp := Nat × Nat
def spl (l : List Sp) : List Value := l.flatMap fun x => [.int .i64 (x.1 : Nat), .int .i64 (x.2 : Nat)]
theorem spl_snoc (l : List Sp) (x : Sp) : spl (l ++ [x]) = spl l ++ [.int .i64 (x.1 : Nat), .int .i64 (x.2 : Nat)] := by unfold spl; rw [List.flatMap_append]; simp
theorem spl_at : ∀ (l : List Sp) (j : Nat) (h : j < l.length), (spl l)[j * 2]? = some (.int .i64 (l[j].1 : Nat)) ∧ (spl l)[j * 2 + 1]? = some (.int .i64 (l[j].2 : Nat))
 | [], j, h => by simp at h
 | x :: l, 0, _ => by simp [spl]
 | x :: l, j + 1, h => by
  have ih := spl_at l j (by simpa using h)
  unfold spl at *
  rw [List.flatMap_cons]
  rw [show (j + 1) * 2 = j * 2 + 1 + 1 by omega]
  simpa using ih
theorem infoSpot : (Tryz.prog.info? 153).map (fun i => (i.zero, i.size, i.bytes)) = some (some (.agg #[.int .i64 0, .int .i64 0]), 2, 16) := by kernel_rfl
theorem new_pair (W : World) (t : TypeId) (a b : Value) {k : Nat} (hk : k = W.heap.size) : ∀ j u, [a, b][j]? = some u → (W.alloc (.cells #[a, b] t)).cell? ((⟨k, 0, none⟩ : Addr).add j) = some u := by
 subst hk
 intro j u h
 have hb := Box.new W t #[a, b]
 have := hb.cell j
 rw [add_plain, Nat.zero_add, this]
 simpa using h
structure SqAt (w1 : World) (v : Value) (l : List Sp) (wr : World) : Prop where
 own : wr.ownsRow w1.heap.size 153 2 v l.length (spl l)
 below : Below w1.heap.size w1 wr
theorem SqAt.nil (w : World) : SqAt w (.slice none 0 0) [] w := ⟨World.ownsRow_nil _ _ _ _, Below.refl _ _⟩
theorem SqAt.grow {w1 wr wx : World} {v : Value} {l : List Sp} (h : SqAt w1 v l wr) (hb : Below wr.heap.size wr wx) : SqAt w1 v l wx :=
 ⟨row_stay h.own (fun b _ hl => hb.block b hl), h.below.trans (hb.mono h.below.size)⟩
theorem SqAt.next {u : TypeId} {w1 : World} {v : Value} {l : List Sp} {x : Sp} {A : Option Addr} {cap : Nat} {wx w7 : World} (h : SqAt w1 v l wx)
  (ho : w7.ownsRow w1.heap.size 153 2 (.slice A (l.length + 1) cap) (l.length + 1) (spl l ++ [.int .i64 (x.1 : Nat), .int .i64 (x.2 : Nat)])) (hg : (wx.alloc (.cells #[.int .i64 (x.1 : Nat), .int .i64 (x.2 : Nat)] u)).grownBy w7 v.ownBlock) :
  SqAt w1 (.slice A (l.length + 1) cap) (l ++ [x]) w7 := by
 constructor
 ·rw [List.length_append, spl_snoc]
  exact ho
 ·exact (h.below.alloc h.below.size _).grown hg (by have := h.below.size; simp; omega) (fun b e => (own_lt h.own e).1)
theorem SqAt.keep {u : TypeId} {w1 : World} {v : Value} {l : List Sp} {x y : Value} {wx w7 : World} (h : SqAt w1 v l wx) (hg : (wx.alloc (.cells #[x, y] u)).grownBy w7 v.ownBlock) (b : Nat) (hb : b < w1.heap.size) : w7.heap[b]? = wx.heap[b]? :=
 (hg.block b (by have := h.below.size; simp; omega) (fun e => by have := (own_lt h.own e.symm).1; omega)).trans (Below.heap_alloc wx _ b (by have := h.below.size; omega))
structure Sps (w : World) (base g n : Nat) (z : Nat → Sp) : Prop where
 old : base ≤ g
 lt : g < w.heap.size
 cell : ∀ j, j < n → w.cell? ⟨g, j * 2, none⟩ = some (.int .i64 ((z j).1 : Nat)) ∧ w.cell? ⟨g, j * 2 + 1, none⟩ = some (.int .i64 ((z j).2 : Nat))
theorem Sps.block {w w' : World} {base g n : Nat} {z : Nat → Sp} (h : Sps w base g n z) (hs : w.heap.size ≤ w'.heap.size) (hb : w'.heap[g]? = w.heap[g]?) : Sps w' base g n z :=
 ⟨h.old, Nat.lt_of_lt_of_le h.lt hs, fun j hj => ⟨(World.cell?_of_block (w := w) hb).trans (h.cell j hj).1, (World.cell?_of_block (w := w) hb).trans (h.cell j hj).2⟩⟩
theorem Sps.kept {w w' : World} {base g n : Nat} {z : Nat → Sp} {X : Nat → Prop} (h : Sps w base g n z) (hk : Kept X w w') (hx : X g) : Sps w' base g n z :=
 h.block hk.size (hk.block g h.lt (fun k => k hx))
theorem SqAt.out {w wr : World} {v : Value} {l : List Sp} (h : SqAt w v l wr) (hl : 0 < l.length) (z : Nat → Sp) (hz : ∀ j, (hj : j < l.length) → l[j] = z j) :
  ∃ g cap, v = .slice (some ⟨g, 0, none⟩) l.length cap ∧ Sps wr w.heap.size g l.length z := by
 have h' := h.own
 rcases h.own.2 with ⟨rfl, h0⟩ | ⟨g, cap, cur, rfl, hb, hg, hn, _⟩
 ·omega
 ·refine ⟨g, cap, rfl, ⟨hb, (Array.getElem?_eq_some_iff.1 hg).1, fun j hj => ?_⟩⟩
  obtain ⟨a1, a2⟩ := spl_at l j hj
  rw [hz j hj] at a1 a2
  have c1 := h'.cells (g := g) rfl (j * 2) _ a1
  have c2 := h'.cells (g := g) rfl (j * 2 + 1) _ a2
  rw [add_plain, Nat.zero_add] at c1 c2
  exact ⟨c1, c2⟩
def SpPost (w : World) (n : Nat) (z : Nat → Sp) (e : Ending) (w' : World) : Prop :=
 ∃ g cap, e = .returned (.slice (some ⟨g, 0, none⟩) n cap) ∧ Sps w' w.heap.size g n z ∧ Below w.heap.size w w'
def spL (z : Nat → Sp) (m : Nat) : List Sp := (List.range m).map z
theorem spL_len (z : Nat → Sp) (m : Nat) : (spL z m).length = m := by simp [spL]
theorem spL_succ (z : Nat → Sp) (m : Nat) : spL z (m + 1) = spL z m ++ [z m] := by simp [spL, List.range_succ]
theorem sq_post {w w' : World} {v : Value} {n m : Nat} {z : Nat → Sp} (h : SqAt w v (spL z n) w') (hn : 0 < n) (hm : m = n) : SpPost w m z (.returned v) w' := by
 subst hm
 obtain ⟨g, cap, rfl, hs⟩ := h.out (by rw [spL_len]; exact hn) z (fun j hj => by simp [spL])
 rw [spL_len] at hs ⊢
 exact ⟨g, cap, rfl, hs, h.below⟩
def plA (f N S T : Nat) : Array Value := #[.int .i64 (f : Int), .int .i64 (N : Int), .int .i64 (S : Int), .int .i64 (T : Int)]
set_option maxRecDepth 100000 in
set_option maxHeartbeats 2000000 in
theorem table_spots {N S T D L n Q P : Nat} (h : Conf N S T D L n Q P) (f : Nat) (hf : f ≤ 100) (w : World) :
  Calls Tryz.prog 89 #[.agg (plA f N S T)] w (SpPost w Q (fun i => (f + 2, i))) := by
 have HR := Lib.hid (fun W => round_of h W)
 have HT := Lib.hid (fun W => table_at f (N : Int) (S : Int) (T : Int) W hf)
 have hQ := h.big.2.2.2
 have hQ0 := h.le
 have hQ1 := h.big.2.1
 clear h
 obtain ⟨b, hb⟩ : ∃ b, w.heap.size = b := ⟨_, rfl⟩
 obtain ⟨w2, hw2⟩ : ∃ w2, w.alloc (.cells (plA f N S T) 124) = w2 := ⟨_, rfl⟩
 have hx : Box w2 b 124 (plA f N S T) := by rw [← hw2, ← hb]; exact Box.new w _ _
 have hs2 : w2.heap.size = b + 1 := by rw [← hw2, ← hb]; simp
 have hbl : Below w.heap.size w w2 := by rw [← hw2]; exact (Below.refl _ w).alloc (Nat.le_refl _) _
 have HB := Lib.hid hbl
 have HX := Lib.hid hx
 have HS2 := Lib.hid hs2
 have HW2 := Lib.hid hw2
 have HBb := Lib.hid hb
 have p1 : w2.cell? ⟨b, 1, none⟩ = some (.int .i64 (N : Int)) := hx.cell 1
 have p2 : w2.cell? ⟨b, 2, none⟩ = some (.int .i64 (S : Int)) := hx.cell 2
 have p3 : w2.cell? ⟨b, 3, none⟩ = some (.int .i64 (T : Int)) := hx.cell 3
 clear hx hbl hw2 hb hs2
 go_enter Tryz.func89, Tryz.ntmps89
 go_upto_region 1 with fail
 rw [HBb.out, HW2.out]
 go_wp2_with fail
 refine (HR.out _).mono ?_
 rintro e w3 ⟨rfl, hb3⟩
 have HX3 := Lib.hid (HX.out.of (hb3.block _ HX.out.lt))
 have HA : Hid (SqAt w2 (.slice none 0 0) (spL (fun i => (f + 2, i)) 0) w3) := Lib.hid ((SqAt.nil w2).grow hb3)
 clear hb3 p1 p2 p3 HX
 go_wp2_with fail
 go_loopw [3, 8] (fun v3 v8 wr => ∃ i : Nat, v8 = .int .i64 i ∧ i ≤ Q ∧ SqAt w2 v3 (spL (fun i => (f + 2, i)) i) wr ∧ Box wr b 124 (plA f N S T)) (fun _ v _ => Q - (intOf v).toNat)
 case atStart => exact ⟨0, rfl, by omega, HA.out, HX3.out⟩
 case round =>
  obtain ⟨i, rfl, hi, hS, hX⟩ := hrel
  clear HA HX3
  have HS := Lib.hid hS
  have HX := Lib.hid hX
  have p0 : wr.cell? ⟨b, 0, none⟩ = some (.int .i64 (f : Int)) := hX.cell 0
  have p1 : wr.cell? ⟨b, 1, none⟩ = some (.int .i64 (N : Int)) := hX.cell 1
  have p2 : wr.cell? ⟨b, 2, none⟩ = some (.int .i64 (S : Int)) := hX.cell 2
  have p3 : wr.cell? ⟨b, 3, none⟩ = some (.int .i64 (T : Int)) := hX.cell 3
  clear hS hX
  by_cases hin : i < Q
  ·go_wp2_with fail
   refine (HT.out _).mono ?_
   rintro e w4 ⟨rfl, hb4⟩
   have HS4 := Lib.hid (HS.out.grow hb4)
   have HX4 := Lib.hid (HX.out.of (hb4.block _ HX.out.lt))
   have hll := spL_len (fun i => (f + 2, i)) i
   have HSu := Lib.hid (spL_succ (fun i => (f + 2, i)) i)
   have hsz : w2.heap.size ≤ w4.heap.size := HS4.out.below.size
   clear hb4 p0 p1 p2 p3 HS HX
   generalize hlq : spL (fun i => (f + 2, i)) i = lq at *
   have HLq := Lib.hid hlq
   have hlb : lq.length ≤ 256 := by omega
   have HLl := Lib.hid hll
   clear hlq hll
   go_wp2_with (with_reducible refine wpList_append_where _ rfl (.tmp 11) (.tmp 16) 129 rfl w2.heap.size 153 (.agg #[.int .i64 0, .int .i64 0]) 2 16 Tryz.underlying129 infoSpot rfl (by decide) u3 lq.length (spl lq) rfl (row_stay HS4.out.own (fun b _ hb => Below.heap_alloc _ _ b hb)) ⟨w4.heap.size, 0, none⟩ 1 1 [.int .i64 ((f + 2 : Nat) : Int), .int .i64 (i : Int)] rfl rfl ?c0 ?c1 ?c2 ?c3 ?c4 ?_)
   case c0 => first | exact new_pair w4 _ _ _ rfl | exact fun j u hu => hu
   case c1 => simp [Value.oneCell']
   case c2 => simp only [maxLen]; omega
   case c3 => omega
   case c4 => first | omega | (simp; omega)
   intro A2 cap2 w7 hown hgr _
   have HS7 := Lib.hid (HS4.out.next (x := (f + 2, i)) hown hgr)
   have HX7 := Lib.hid (HX4.out.of (HS4.out.keep hgr b (by have := HS2.out; omega)))
   clear hown hgr HS4 HX4
   go_wp2_with fail
   go_roundw
   case rel => exact ⟨i + 1, by go_num, by omega, by rw [HSu.out]; exact HS7.out, HX7.out⟩
   case measure => simp [intOf]; omega
  ·obtain rfl : i = Q := by omega
   have HE : Hid (SpPost w i (fun i => (f + 2, i)) (.returned u3) wr) := Lib.hid (by
    obtain ⟨g, cap, he, hs, hb⟩ := sq_post HS.out (by omega) rfl
    have h1 := HB.out.size
    exact ⟨g, cap, he, ⟨Nat.le_trans h1 hs.old, hs.lt, hs.cell⟩, HB.out.trans (hb.mono h1)⟩)
   clear HS HX p0 p1 p2 p3
   go_wp2_with fail
   go_ret
   exact HE.out

theorem spot_tree {S D L f lf k s : Nat} (hS : s < S) (hL : (D + 1) * S = L) (hk : k ≤ D) : spot S D f lf (k * S + s) = (f, nd D lf k * S + s) ∧ k * S + s < L := by
 have h1 : (k + 1) * S ≤ (D + 1) * S := Nat.mul_le_mul_right _ (by omega)
 rw [Nat.add_mul, Nat.one_mul] at h1
 have h2 : (k * S + s) / S = k := by
  rw [Nat.mul_comm, Nat.mul_add_div (by omega), Nat.div_eq_of_lt hS, Nat.add_zero]
 have h3 : (k * S + s) % S = s := by rw [Nat.mul_comm, Nat.mul_add_mod, Nat.mod_eq_of_lt hS]
 refine ⟨?_, by omega⟩
 unfold spot wayQ
 rw [if_pos (by omega), h2, h3]
 rfl
theorem spot_stash {S D L f lf i : Nat} (hL : (D + 1) * S = L) : spot S D f lf (L + i) = (f + 1, i) := by
 unfold spot wayQ
 rw [if_neg (by omega)]
 show (f + 1, L + i - (D + 1) * S) = _
 rw [hL]
 simp
set_option maxRecDepth 100000 in
set_option maxHeartbeats 4000000 in
theorem way_spots {N S T D L n Q P : Nat} (h : Conf N S T D L n Q P) (f lf : Nat) (hf : f ≤ 100) (hlf : lf < N) (w : World) :
  Calls Tryz.prog 72 #[.agg (plA f N S T), .int .i64 (lf : Int)] w (SpPost w (L + T) (spot S D f lf)) := by
 have HW := Lib.hid (fun W => way_in D N lf W h.hD h.hN hlf)
 have HTr := Lib.hid (fun W => tree_at f (N : Int) (S : Int) (T : Int) W)
 have HSt := Lib.hid (fun W => stash_at f (N : Int) (S : Int) (T : Int) W hf)
 have hD := h.hD
 have s8 := h.s8
 have t64 := h.t64
 have t1 := h.t1
 have hLb := h.big.1
 have HL := Lib.hid h.hL
 have HN := Lib.hid h.hN
 have hlf2 : lf < 2 ^ D := by rw [h.hN]; exact hlf
 have HLf := Lib.hid hlf2
 have hN1 := h.n1
 obtain ⟨E, hE⟩ : ∃ E, D + 1 = E := ⟨_, rfl⟩
 have HEe := Lib.hid hE
 have hE2 : E = D + 1 := hE.symm
 clear h hlf2 hlf hE
 obtain ⟨z, hz⟩ : ∃ z, spot S D f lf = z := ⟨_, rfl⟩
 have HZt : Hid (∀ k s, s < S → k ≤ D → z (k * S + s) = (f, nd D lf k * S + s) ∧ k * S + s < L) := Lib.hid (fun k s hs hk => by rw [← hz]; exact spot_tree hs HL.out hk)
 have HZs : Hid (∀ i, z (L + i) = (f + 1, i)) := Lib.hid (fun i => by rw [← hz]; exact spot_stash HL.out)
 rw [hz]
 clear hz
 obtain ⟨b, hb⟩ : ∃ b, w.heap.size = b := ⟨_, rfl⟩
 obtain ⟨w2, hw2⟩ : ∃ w2, w.alloc (.cells (plA f N S T) 124) = w2 := ⟨_, rfl⟩
 have hx : Box w2 b 124 (plA f N S T) := by rw [← hw2, ← hb]; exact Box.new w _ _
 have hs2 : w2.heap.size = b + 1 := by rw [← hw2, ← hb]; simp
 have hbl : Below w.heap.size w w2 := by rw [← hw2]; exact (Below.refl _ w).alloc (Nat.le_refl _) _
 have HB := Lib.hid hbl
 have HX := Lib.hid hx
 have HS2 := Lib.hid hs2
 have HW2 := Lib.hid hw2
 have HBb := Lib.hid hb
 have p1 : w2.cell? ⟨b, 1, none⟩ = some (.int .i64 (N : Int)) := hx.cell 1
 clear hx hbl hw2 hb hs2
 go_enter Tryz.func72, Tryz.ntmps72
 go_upto_region 1 with fail
 rw [HBb.out, HW2.out]
 go_wp2_with fail
 refine (HW.out _).mono ?_
 rintro e w3 ⟨gw, cw, rfl, hcw, hir, hb3⟩
 rw [HEe.out]
 have hgw : b + 1 ≤ gw ∧ gw < w3.heap.size := ⟨by have := hir.old; have := HS2.out; omega, hir.lt⟩
 have HX3 := Lib.hid (HX.out.of (hb3.block _ HX.out.lt))
 have HIr := Lib.hid hir.cell
 have HB3 := Lib.hid (HB.out.trans (hb3.mono HB.out.size))
 have HA : Hid (SqAt w3 (.slice none 0 0) (spL z 0) w3) := Lib.hid (SqAt.nil w3)
 have hbs : b < w3.heap.size := by omega
 clear hb3 hir p1 HX HW hcw
 have HE2 := Lib.hid hE2
 clear hE2
 go_wp2_with fail
 go_loopw [5, 16] (fun v5 v16 wr => ∃ k : Nat, v16 = .int .i64 k ∧ k ≤ E ∧ SqAt w3 v5 (spL z (k * S)) wr) (fun _ v _ => E - (intOf v).toNat)
 case atStart => exact ⟨0, rfl, by omega, by rw [Nat.zero_mul]; exact HA.out⟩
 case round =>
  obtain ⟨k, rfl, hk, hS⟩ := hrel
  clear HA
  have HS := Lib.hid hS
  have hXr := HX3.out.of (hS.below.block b hbs)
  have p2 : wr.cell? ⟨b, 2, none⟩ = some (.int .i64 (S : Int)) := hXr.cell 2
  have p3 : wr.cell? ⟨b, 3, none⟩ = some (.int .i64 (T : Int)) := hXr.cell 3
  have HXr := Lib.hid hXr
  clear hXr
  by_cases hkE : k < E
  ·have hkD : k ≤ D := by have := HE2.out; omega
   have ck := (World.cell?_of_block (w := w3) (hS.below.block gw hgw.2)).trans (HIr.out k (by omega))
   have hnd := nd_in D lf k hkD HLf.out
   have hmul : (2 * 2 ^ D - 1) * S ≤ 2047 * 8 := Nat.mul_le_mul (by rw [HN.out]; omega) s8
   have hmul2 : (nd D lf k + 1) * S ≤ (2 * 2 ^ D - 1) * S := Nat.mul_le_mul_right _ hnd
   rw [Nat.add_mul, Nat.one_mul] at hmul2
   have HZk := Lib.hid (fun s (hs : s < S) => HZt.out k s hs hkD)
   generalize hndq : nd D lf k = nk at *
   have hms : (nk : Int) * (S : Int) = ((nk * S : Nat) : Int) := by simp
   have hwm : IntKind.i64.wrap ((nk : Int) * (S : Int)) = ((nk * S : Nat) : Int) := by rw [hms, IntKind.wrap_i64]; omega
   have hmb : nk * S ≤ 20000 := by omega
   have e1 : (k + 1) * S = k * S + S := by rw [Nat.add_mul, Nat.one_mul]
   have HE1 := Lib.hid e1
   clear hS hnd hmul hmul2 hndq hms e1
   generalize nk * S = m at *
   generalize k * S = ks at *
   go_wp2_with fail
   clear ck
   go_loopw [5, 23] (fun v5 v23 wr => ∃ s : Nat, v23 = .int .i64 s ∧ s ≤ S ∧ SqAt w3 v5 (spL z (ks + s)) wr) (fun _ v _ => S - (intOf v).toNat)
   case atStart => exact ⟨0, rfl, by omega, HS.out⟩
   case round =>
    obtain ⟨s, rfl, hs, hSs⟩ := hrel
    have HSs := Lib.hid hSs
    by_cases hsS : s < S
    ·obtain ⟨q, hq⟩ : ∃ q, m + s = q := ⟨_, rfl⟩
     have hwa : IntKind.i64.wrap ((m : Int) + (s : Int)) = (q : Int) := by rw [IntKind.wrap_i64]; omega
     have hll := spL_len z (ks + s)
     have HSu := Lib.hid (spL_succ z (ks + s))
     have hzk := HZk.out s hsS
     rw [hzk.1, hq] at HSu
     have hksL := hzk.2
     clear hSs hzk hq
     generalize hlq : spL z (ks + s) = lq at *
     have hlb : lq.length ≤ 256 := by omega
     clear hlq hll hksL
     have HS5 := Lib.hid (HSs.out.grow ((Below.refl wr.heap.size wr).drew))
     have hXs := (HX3.out.of (HSs.out.below.block b hbs)).drewN 1
     have p2 := hXs.cell 2
     clear HSs p2
     go_upto_region 8 with fail
     refine held_s (S := fun w' => Box w' b 124 (plA f N S T)) 14 rfl (by kernel_rfl) hXs (fun hHeld => ?_)
     simp only [qA0, qB0, qC0, List.nil_append, List.cons_append]
     clear hXs
     generalize wr.drew = w5 at *
     refine tk1 0 26 (u5) rfl (Or.inl ⟨by rfl, fun w' hw => by go_simp⟩) hHeld ?_
     try simp only [Act.put, sA0, sB0, sC0]
     refine tk1 1 27 (.agg #[.int .i64 (f : Int), .int .i64 (N : Int), .int .i64 (S : Int), .int .i64 (T : Int)]) rfl (Or.inl ⟨by rfl, fun w' hw => by (have k0 := hw.cell 0; have k1 := hw.cell 1; have k2 := hw.cell 2; have k3 := hw.cell 3; simp only [plA] at k0 k1 k2 k3; go_simp)⟩) hHeld ?_
     try simp only [Act.put, sA0, sB0, sC0]
     refine tk1 3 29 (.int .i64 (nk : Int)) rfl (Or.inl ⟨by rfl, fun w' hw => by go_simp⟩) hHeld ?_
     try simp only [Act.put, sA0, sB0, sC0]
     refine tk1 4 30 (.pointer (some ⟨b, 1, none⟩)) rfl (Or.inl ⟨by rfl, fun w' hw => by go_simp⟩) hHeld ?_
     try simp only [Act.put, sA0, sB0, sC0]
     refine tk1 5 31 (.pointer (some ⟨b, 2, none⟩)) rfl (Or.inl ⟨by rfl, fun w' hw => by go_simp⟩) hHeld ?_
     try simp only [Act.put, sA0, sB0, sC0]
     refine tk1 6 32 (.int .i64 (S : Int)) rfl (Or.inl ⟨by rfl, fun w' hw => by (have k0 := hw.cell 0; have k1 := hw.cell 1; have k2 := hw.cell 2; have k3 := hw.cell 3; simp only [plA] at k0 k1 k2 k3; go_simp)⟩) hHeld ?_
     try simp only [Act.put, sA0, sB0, sC0]
     refine tk1 7 33 (.int .i64 (m : Int)) rfl (Or.inl ⟨by rfl, fun w' hw => by go_simp⟩) hHeld ?_
     try simp only [Act.put, sA0, sB0, sC0]
     refine tk1 8 34 (.int .i64 (s : Int)) rfl (Or.inl ⟨by rfl, fun w' hw => by go_simp⟩) hHeld ?_
     try simp only [Act.put, sA0, sB0, sC0]
     refine tk1 9 35 (.int .i64 (q : Int)) rfl (Or.inl ⟨by rfl, fun w' hw => by go_simp⟩) hHeld ?_
     try simp only [Act.put, sA0, sB0, sC0]
     refine one_ready 2 rfl (by kernel_rfl) (fun K hK => ?_)
     go_simp
     refine (HTr.out _).mono ?_
     rintro e w4 ⟨rfl, hb4⟩
     have HS4 := Lib.hid (HS5.out.grow hb4)
     have hX4 := hHeld.of (hb4.block b hHeld.lt)
     have hsz : w3.heap.size ≤ w4.heap.size := HS4.out.below.size
     refine hK.out _ _ hX4 (fun hHeld => ?_)
     clear hK K hb4
     simp only [sA0, sB0, sC0]
     refine tk1 10 36 (.agg #[.int .i64 (f : Int), .int .i64 (q : Int)]) rfl (Or.inl ⟨by rfl, fun w' hw => by go_simp⟩) hHeld ?_
     try simp only [Act.put, sA0, sB0, sC0]
     refine one_ready 11 rfl (by kernel_rfl) (fun K hK => ?_)
     go_simp
     have hXa : Box (w4.alloc (.cells #[.int .i64 (f : Int), .int .i64 (q : Int)] 153)) b 124 (plA f N S T) := hX4.alloc _
     refine hK.out _ _ hXa (fun _ => ?_)
     clear hK K
     simp only [sA0, sB0, sC0]
     refine one_ready 12 rfl (by kernel_rfl) (fun K hK => ?_)
     refine step_append_where rfl (.tmp 26) (.tmp 37) 129 rfl w3.heap.size 153 (.agg #[.int .i64 0, .int .i64 0]) 2 16 Tryz.underlying129 infoSpot rfl (by decide) u5 lq.length (spl lq) rfl (row_stay HS4.out.own (fun b _ hb => Below.heap_alloc _ _ b hb)) ⟨w4.heap.size, 0, none⟩ 1 1 [.int .i64 (f : Int), .int .i64 (q : Int)] rfl rfl ?c0 ?c1 ?c2 ?c3 ?c4 ?_
     case c0 => exact new_pair w4 _ _ _ rfl
     case c1 => simp [Value.oneCell']
     case c2 => simp only [maxLen]; omega
     case c3 => omega
     case c4 => simp; omega
     intro A2 cap2 w7 hown hgr _
     have hX7 := hX4.of (HS4.out.keep hgr b hbs)
     have HS7 := Lib.hid (HS4.out.next (x := (f, q)) hown hgr)
     clear hown hgr HS4 hXa
     refine hK.out _ _ hX7 (fun hHeld => ?_)
     clear hK K
     simp only [sA0, sB0, sC0]
     refine tk1 13 5 (.slice A2 (lq.length + 1) cap2) rfl (Or.inl ⟨by rfl, fun w' hw => by go_simp⟩) hHeld ?_
     try simp only [Act.put, sA0, sB0, sC0]
     refine wpAnyH_done (by kernel_rfl) ?_ _
     go_wp2_with fail
     go_roundw
     case rel => exact ⟨s + 1, by go_num, by omega, by rw [← Nat.add_assoc, HSu.out]; exact HS7.out⟩
     case measure => simp [intOf]; omega
    ·obtain rfl : s = S := by omega
     clear hSs
     go_wp2_with fail
     go_roundw
     case rel => exact ⟨k + 1, by go_num, by omega, by rw [HE1.out]; exact HSs.out⟩
     case measure => simp [intOf]; omega
  ·obtain rfl : k = E := by omega
   have HS1 : Hid (SqAt w3 u5 (spL z (L + 0)) wr) := Lib.hid (by have := HS.out; rw [HE2.out, HL.out] at this; exact this)
   clear hS HS hkE hk
   go_wp2_with fail
   go_loopw [5, 44] (fun v5 v44 wr => ∃ i : Nat, v44 = .int .i64 i ∧ i ≤ T ∧ SqAt w3 v5 (spL z (L + i)) wr) (fun _ v _ => T - (intOf v).toNat)
   case atStart => exact ⟨0, rfl, by omega, HS1.out⟩
   case round =>
    obtain ⟨i, rfl, hi, hSi⟩ := hrel
    clear HS1 p2 p3 HXr
    have HSi := Lib.hid hSi
    have hXi := HX3.out.of (hSi.below.block b hbs)
    have p0 : wr.cell? ⟨b, 0, none⟩ = some (.int .i64 (f : Int)) := hXi.cell 0
    have p1 : wr.cell? ⟨b, 1, none⟩ = some (.int .i64 (N : Int)) := hXi.cell 1
    have p2 : wr.cell? ⟨b, 2, none⟩ = some (.int .i64 (S : Int)) := hXi.cell 2
    have p3 : wr.cell? ⟨b, 3, none⟩ = some (.int .i64 (T : Int)) := hXi.cell 3
    clear hSi hXi
    by_cases hiT : i < T
    ·go_wp2_with fail
     refine (HSt.out _).mono ?_
     rintro e w4 ⟨rfl, hb4⟩
     have HS4 := Lib.hid (HSi.out.grow hb4)
     have hll := spL_len z (L + i)
     have HSu := Lib.hid (spL_succ z (L + i))
     rw [HZs.out i] at HSu
     have hsz : w3.heap.size ≤ w4.heap.size := HS4.out.below.size
     clear hb4 p0 p1 p2 p3 HSi
     generalize hlq : spL z (L + i) = lq at *
     have hlb : lq.length ≤ 256 := by omega
     clear hlq hll
     go_wp2_with (with_reducible refine wpList_append_where _ rfl (.tmp 47) (.tmp 52) 129 rfl w3.heap.size 153 (.agg #[.int .i64 0, .int .i64 0]) 2 16 Tryz.underlying129 infoSpot rfl (by decide) u5 lq.length (spl lq) rfl (row_stay HS4.out.own (fun b _ hb => Below.heap_alloc _ _ b hb)) ⟨w4.heap.size, 0, none⟩ 1 1 [.int .i64 ((f + 1 : Nat) : Int), .int .i64 (i : Int)] rfl rfl ?c0 ?c1 ?c2 ?c3 ?c4 ?_)
     case c0 => first | exact new_pair w4 _ _ _ rfl | exact fun j u hu => hu
     case c1 => simp [Value.oneCell']
     case c2 => simp only [maxLen]; omega
     case c3 => omega
     case c4 => first | omega | (simp; omega)
     intro A2 cap2 w7 hown hgr _
     have HS7 := Lib.hid (HS4.out.next (x := (f + 1, i)) hown hgr)
     clear hown hgr HS4
     go_wp2_with fail
     go_roundw
     case rel => exact ⟨i + 1, by go_num, by omega, by rw [← Nat.add_assoc, HSu.out]; exact HS7.out⟩
     case measure => simp [intOf]; omega
    ·obtain rfl : i = T := by omega
     have HE : Hid (SpPost w (L + i) z (.returned u5) wr) := Lib.hid (by
      obtain ⟨g, cap, he, hs, hb⟩ := sq_post HSi.out (by omega) rfl
      have h1 := HB3.out.size
      exact ⟨g, cap, he, ⟨Nat.le_trans h1 hs.old, hs.lt, hs.cell⟩, HB3.out.trans (hb.mono h1)⟩)
     clear HSi p0 p1 p2 p3
     go_wp2_with fail
     go_ret
     exact HE.out
end Go.Proofs.YtknnebhjldfkhaaGreat


namespace Go.Proofs.YtknnebhjldfkhaaGreat
set_option maxRecDepth 100000
open Go.RowKit Go.ChangeShapes Go.WideShapes Go.ChangeAt

def LvA (mp f N S T : Nat) (ov : Bool) (mb : Option Nat) : Array Value := #[.pointer (some ⟨mp, 0, none⟩), .int .i64 (f : Int), .int .i64 (N : Int), .int .i64 (S : Int), .int .i64 (T : Int), .bool ov, .map mb]
section
variable {w : World} {lp mp f N S T : Nat} {ov : Bool} {mb : Option Nat} {t : TypeId}
theorem lv0 (h : Box w lp t (LvA mp f N S T ov mb)) : w.cell? ⟨lp, 0, none⟩ = some (.pointer (some ⟨mp, 0, none⟩)) := h.cell 0
theorem lv1 (h : Box w lp t (LvA mp f N S T ov mb)) : w.cell? ⟨lp, 1, none⟩ = some (.int .i64 (f : Int)) := h.cell 1
theorem lv2 (h : Box w lp t (LvA mp f N S T ov mb)) : w.cell? ⟨lp, 2, none⟩ = some (.int .i64 (N : Int)) := h.cell 2
theorem lv3 (h : Box w lp t (LvA mp f N S T ov mb)) : w.cell? ⟨lp, 3, none⟩ = some (.int .i64 (S : Int)) := h.cell 3
theorem lv4 (h : Box w lp t (LvA mp f N S T ov mb)) : w.cell? ⟨lp, 4, none⟩ = some (.int .i64 (T : Int)) := h.cell 4
end
structure LvM (M : MS) (f S D T Q : Nat) : Prop where
 hk : f + 2 < M.k
 s0 : S * (2 * 2 ^ D - 1) ≤ M.sz f
 s1 : T ≤ M.sz (f + 1)
 s2 : Q ≤ M.sz (f + 2)
 wd : M.wd
 len : M.es.length < 900000000
section
variable {M : MS} {f S D T Q L lf : Nat}
theorem LvM.inM (h : LvM M f S D T Q) (hS : 0 < S) (hL : (D + 1) * S = L) (hf : lf < 2 ^ D) {i : Nat} (hi : i < L + T) : (spot S D f lf i).1 < M.k ∧ (spot S D f lf i).2 < M.sz (spot S D f lf i).1 := by
 have h1 := wayQ_is (S := S) (D := D) (T := T) hS hf (i := i) (by rw [hL]; exact hi)
 have hk := h.hk
 have s0 := h.s0
 have s1 := h.s1
 unfold spot
 rcases h1 with ⟨e, hlt⟩ | ⟨e, hlt⟩
 ·rw [e]
  show f + 0 < M.k ∧ _ < M.sz (f + 0)
  rw [Nat.add_zero]
  omega
 ·rw [e]
  show f + 1 < M.k ∧ _ < M.sz (f + 1)
  omega
theorem LvM.gone (h : LvM M f S D T Q) (c : Nat → Nat → Cl) (l : List Ev) (hc : ∀ r a, Wd (c r a)) (hl : M.es.length + l.length < 900000000) : LvM (M.gone c l) f S D T Q :=
 ⟨h.hk, h.s0, h.s1, h.s2, hc, by rw [gone_len]; exact hl⟩
end
def wasC (E : Nat → Cl) (id : Int) : Nat → Cl
 | 0 => nul
 | i + 1 => if decide (E i 0 = 1) && decide (E i 1 = id) then E i else wasC E id i
theorem wasC_wd {E : Nat → Cl} (h : ∀ i, Wd (E i)) (id : Int) : ∀ i, Wd (wasC E id i)
 | 0 => wd_zero
 | i + 1 => by unfold wasC; split; exact h i; exact wasC_wd h id i
theorem lay_at (S D T f lf : Nat) (c : Nat → Nat → Cl) (id : Int) (nb : Cl) (i : Nat) (hi : i < (D + 1) * S + T) :
  laidX S D T lf (cellsE f c) id nb i = if (decide (c (spot S D f lf i).1 (spot S D f lf i).2 0 = 1) && decide (c (spot S D f lf i).1 (spot S D f lf i).2 1 = id)) = true then nul else c (spot S D f lf i).1 (spot S D f lf i).2 := by
 unfold laidX
 rw [if_pos hi]
 show (if c (spot S D f lf i).1 (spot S D f lf i).2 0 = 1 ∧ c (spot S D f lf i).1 (spot S D f lf i).2 1 = id then nul else c (spot S D f lf i).1 (spot S D f lf i).2) = _
 by_cases h : c (spot S D f lf i).1 (spot S D f lf i).2 0 = 1 ∧ c (spot S D f lf i).1 (spot S D f lf i).2 1 = id
 ·rw [if_pos h, if_pos (by simp [h])]
 ·rw [if_neg h, if_neg (by simpa using h)]
set_option maxHeartbeats 1000000 in
theorem tell_any (mine : Bool) (g u : Nat → Int) (bw : Nat) (w : World) (hg : Wd g) (hu : Wd u) (hV : Var w bw u) :
  Calls Tryz.prog 74 #[.int .u64 (msk mine), .agg (CA g), .pointer (some ⟨bw, 0, none⟩)] w fun e w' => e = .returned (.tuple #[]) ∧ Var w' bw (if mine then g else u) ∧ Only (just bw) w w' := by
 have HP := Lib.hid (fun W => pickCell_mask mine g u W hg hu)
 obtain ⟨q, hq⟩ : ∃ q, (if mine = true then g else u) = q := ⟨_, rfl⟩
 simp only [hq] at HP ⊢
 have HN := Lib.hid (Var.new w g 64)
 have HV := Lib.hid (hV.alloc (.cells (CA g) 64))
 clear hV hq hg hu
 go_enter Tryz.func74, Tryz.ntmps74
 go_wp2_with (first | with_reducible refine wpList_load_cell rfl (.tmp 4) rfl w.heap.size 0 rfl g HN.out.rng ?_ | with_reducible refine wpList_load_cell rfl (.tmp 2) rfl bw 0 rfl u HV.out.rng ?_)
 refine (HP.out _).mono ?_
 rintro e w1 ⟨rfl, hx⟩
 have HV1 := Lib.hid (HV.out.ext hx)
 have HO1 : Hid (Only (just bw) w w1) := Lib.hid (Only.mono (((Only.refl nobody w).alloc (.cells (CA g) 64)).trans (none_of_ext hx)) (fun i _ h => absurd h (not_nobody i)))
 clear hx HN HV HP
 go_wp2_with (with_reducible refine wpList_store_cell rfl (.tmp 2) (.tmp 8) rfl bw 0 rfl q rfl HV1.out.there ?_)
 go_end0
 exact ⟨rfl, HV1.out.set q, only_setCells _ 0 _ HO1.out (.inl (just_self bw))⟩
theorem join_at {S G : World → Nat → Prop} {p : Prop} (h1 : (∀ w c, S w c → G w c) → p) (h2 : ∀ w c, S w c → G w c) : p := h1 h2
end Go.Proofs.YtknnebhjldfkhaaGreat


namespace Go.Proofs.YtknnebhjldfkhaaGreat
set_option maxRecDepth 100000
open Go.RowKit Go.ChangeShapes Go.WideShapes Go.ChangeAt

def GoodC (N : Nat) (g : Cl) : Prop := Wd g ∧ (g 0 = 1 → (g 1 ≤ 2147483648) ∧ ∃ l : Nat, g 2 = (l : Int) ∧ l < N)
def itA (y : It) : Array Value := #[.int .u64 y.1, .int .i64 y.2]
set_option maxRecDepth 100000 in
set_option maxHeartbeats 2000000 in
theorem item_any {N S T D L n Q P : Nat} (h : Conf N S T D L n Q P) (lf : Nat) (g : Nat → Int) (w : World) (hlf : lf < N) (hg : GoodC N g) :
  Calls Tryz.prog 161 #[.agg #[.int .i64 (N : Int), .int .i64 (S : Int), .int .i64 (T : Int)], .agg (CA g), .int .i64 (lf : Int)] w fun e w' => e = .returned (.agg (itA (itemOf (dpW D lf) g))) ∧ Only nobody w w' := by
 have HH := Lib.hid (fun W => has_any g W)
 obtain ⟨b, hb⟩ : ∃ b, w.heap.size = b := ⟨_, rfl⟩
 obtain ⟨w2, hw2⟩ : ∃ w2, ((w.alloc (.cells #[.int .i64 (N : Int), .int .i64 (S : Int), .int .i64 (T : Int)] 25)).alloc (.cells (CA g) 64)).alloc (.cells #[.int .u64 0, .int .i64 0] 222) = w2 := ⟨_, rfl⟩
 have hx : Box w2 b 25 #[.int .i64 (N : Int), .int .i64 (S : Int), .int .i64 (T : Int)] := by rw [← hw2, ← hb]; exact ((Box.new w _ _).alloc _).alloc _
 have hy : Var w2 (b + 1) g := by
  rw [← hw2, ← hb]
  have := (Var.new (w.alloc (.cells #[.int .i64 (N : Int), .int .i64 (S : Int), .int .i64 (T : Int)] 25)) g 64).alloc (.cells #[.int .u64 0, .int .i64 0] 222)
  have e : (w.alloc (.cells #[.int .i64 (N : Int), .int .i64 (S : Int), .int .i64 (T : Int)] 25)).heap.size = w.heap.size + 1 := by simp
  rw [e] at this
  exact this
 have hz : Box w2 (b + 2) 222 #[.int .u64 0, .int .i64 0] := by
  rw [← hw2, ← hb]
  have := Box.new ((w.alloc (.cells #[.int .i64 (N : Int), .int .i64 (S : Int), .int .i64 (T : Int)] 25)).alloc (.cells (CA g) 64)) 222 #[.int .u64 0, .int .i64 0]
  have e : ((w.alloc (.cells #[.int .i64 (N : Int), .int .i64 (S : Int), .int .i64 (T : Int)] 25)).alloc (.cells (CA g) 64)).heap.size = w.heap.size + 2 := by simp
  rw [e] at this
  exact this
 have ho2 : Only nobody w w2 := by rw [← hw2]; exact (((Only.refl nobody w).alloc _).alloc _).alloc _
 have HX := Lib.hid hx
 have HY := Lib.hid hy
 have HZ := Lib.hid hz
 have HO := Lib.hid ho2
 have HW2 := Lib.hid hw2
 have HBb := Lib.hid hb
 clear hx hy hz ho2 hw2 hb
 have e2 : b + 1 + 1 = b + 2 := rfl
 go_enter Tryz.func161, Tryz.ntmps161
 go_upto_region 1 with fail
 rw [HBb.out]
 simp only [HW2.out, e2]
 go_wp2_with (with_reducible refine wpList_load_cell rfl (.tmp 4) rfl (b + 1) 0 rfl g HY.out.rng ?_)
 refine (HH.out _).mono ?_
 rintro e w3 ⟨rfl, hb3⟩
 have ho3 : Only nobody w2 w3 := Only.of_below hb3
 have HX3 := Lib.hid (HX.out.only ho3 (not_nobody _))
 have HY3 := Lib.hid (HY.out.nob ho3)
 have HZ3 := Lib.hid (HZ.out.only ho3 (not_nobody _))
 have HO3 := Lib.hid (HO.out.trans ho3)
 have hbw : b + 2 < w3.heap.size := HZ3.out.lt
 clear hb3 ho3 HX HY HZ HO
 by_cases h0 : g 0 = 1
 ·have e0 : (g 0 == 1) = true := by rw [beq_iff_eq]; exact h0
  obtain ⟨h1, l, hl, hlN⟩ := hg.2 h0
  have hn1 := h.n1
  have hDp := deep_turn D lf l (by rw [h.hN]; exact hlf) (by rw [h.hN]; exact hlN)
  have HDp := Lib.hid (fun W => deep_in D N l lf W h.hD h.hN hlN hlf)
  have hit : itemOf (dpW D lf) g = (g 1, ((deep D l lf D : Nat) : Int)) := by
   unfold itemOf dpW
   rw [if_pos h0, hl, Int.toNat_natCast, hDp]
  have hc : IntKind.i64.wrap (l : Int) = (l : Int) := by rw [IntKind.wrap_i64]; omega
  have HIt := Lib.hid hit
  have hg1 := HY3.out.cell (κ := 1) (by decide)
  generalize hq : deep D l lf D = q at *
  clear hDp hit hq hg
  rw [e0]
  go_wp2_with fail
  refine held_s (S := fun w' => Box w' b 25 #[.int .i64 (N : Int), .int .i64 (S : Int), .int .i64 (T : Int)] ∧ Var w' (b + 1) g) 11 rfl (by kernel_rfl) ⟨HX3.out.drewN 1, HY3.out.drew⟩ (fun hHeld => ?_)
  simp only [qA0, qB0, qC0, List.nil_append, List.cons_append]
  have z0 := (HZ3.out.drewN 1).cell 0
  have z1 := (HZ3.out.drewN 1).cell 1
  have f0 := (HZ3.out.drewN 1).frozen 0
  have f1 := (HZ3.out.drewN 1).frozen 1
  have HZ4 : Hid (Box w3.drew (b + 2) 222 #[.int .u64 0, .int .i64 0]) := Lib.hid (HZ3.out.drewN 1)
  have HO4 : Hid (Only nobody w w3.drew) := Lib.hid HO3.out.drew
  change w3.drew.cell? _ = _ at z0
  change w3.drew.cell? _ = _ at z1
  change w3.drew.frozen? _ = _ at f0
  change w3.drew.frozen? _ = _ at f1
  clear HX3 HY3 HZ3 HO3 hg1
  generalize w3.drew = w4 at *
  refine tk1 0 11 (.pointer (some ⟨b + 1, 1, none⟩)) rfl (Or.inl ⟨by rfl, fun w' hw => by go_simp⟩) hHeld ?_
  try simp only [Act.put, sA0, sB0, sC0]
  refine tk1 1 12 (.int .u64 (g 1)) rfl (Or.inl ⟨by rfl, fun w' hw => by (have k0 := hw.1.cell 0; have k1 := hw.2.cell (κ := 1) (by decide); have k2 := hw.2.cell (κ := 2) (by decide); rw [hl] at k2; go_simp)⟩) hHeld ?_
  try simp only [Act.put, sA0, sB0, sC0]
  refine tk1 2 13 (.pointer (some ⟨b, 0, none⟩)) rfl (Or.inl ⟨by rfl, fun w' hw => by go_simp⟩) hHeld ?_
  try simp only [Act.put, sA0, sB0, sC0]
  refine tk1 3 14 (.int .i64 (N : Int)) rfl (Or.inl ⟨by rfl, fun w' hw => by (have k0 := hw.1.cell 0; have k1 := hw.2.cell (κ := 1) (by decide); have k2 := hw.2.cell (κ := 2) (by decide); rw [hl] at k2; go_simp)⟩) hHeld ?_
  try simp only [Act.put, sA0, sB0, sC0]
  refine tk1 4 15 (.pointer (some ⟨b + 1, 2, none⟩)) rfl (Or.inl ⟨by rfl, fun w' hw => by go_simp⟩) hHeld ?_
  try simp only [Act.put, sA0, sB0, sC0]
  refine tk1 5 16 (.int .u64 (l : Int)) rfl (Or.inl ⟨by rfl, fun w' hw => by (have k0 := hw.1.cell 0; have k1 := hw.2.cell (κ := 1) (by decide); have k2 := hw.2.cell (κ := 2) (by decide); rw [hl] at k2; go_simp)⟩) hHeld ?_
  try simp only [Act.put, sA0, sB0, sC0]
  refine tk1 6 17 (.int .i64 (l : Int)) rfl (Or.inl ⟨by rfl, fun w' hw => by go_simp⟩) hHeld ?_
  try simp only [Act.put, sA0, sB0, sC0]
  refine tk1 7 18 (.int .i64 (lf : Int)) rfl (Or.inl ⟨by rfl, fun w' hw => by go_simp⟩) hHeld ?_
  try simp only [Act.put, sA0, sB0, sC0]
  refine one_ready 8 rfl (by kernel_rfl) (fun K hK => ?_)
  go_simp
  refine (HDp.out _).mono ?_
  rintro e w5 ⟨rfl, hw5⟩
  obtain rfl : w4 = w5 := hw5.symm
  refine hK.out _ _ hHeld (fun hHeld => ?_)
  clear hK K
  simp only [sA0, sB0, sC0]
  refine tk1 9 20 (.agg #[.int .u64 (g 1), .int .i64 (q : Int)]) rfl (Or.inl ⟨by rfl, fun w' hw => by go_simp⟩) hHeld ?_
  try simp only [Act.put, sA0, sB0, sC0]
  refine one_ready 10 (o := ⟨none, _, _, _, _, _⟩) rfl (by kernel_rfl) (fun K hK => ?_)
  go_simp
  have hbb := HBb.out
  have hZf : Box ((w4.setCell ⟨b + 2, 0, none⟩ (.int .u64 (g 1))).setCell ⟨b + 2, 1, none⟩ (.int .i64 (q : Int))) (b + 2) 222 #[.int .u64 (g 1), .int .i64 (q : Int)] := (HZ4.out.put 0 _).put 1 _
  have hOf : Only nobody w ((w4.setCell ⟨b + 2, 0, none⟩ (.int .u64 (g 1))).setCell ⟨b + 2, 1, none⟩ (.int .i64 (q : Int))) := (HO4.out.setCell (p := ⟨b + 2, 0, none⟩) (.inr (by show w.heap.size ≤ b + 2; omega)) _).setCell (p := ⟨b + 2, 1, none⟩) (.inr (by show w.heap.size ≤ b + 2; omega)) _
  have hoj : Only (just (b + 2)) w4 ((w4.setCell ⟨b + 2, 0, none⟩ (.int .u64 (g 1))).setCell ⟨b + 2, 1, none⟩ (.int .i64 (q : Int))) := ((Only.refl _ w4).setCell (p := ⟨b + 2, 0, none⟩) (.inl (just_self _)) _).setCell (p := ⟨b + 2, 1, none⟩) (.inl (just_self _)) _
  refine hK.out _ _ ⟨hHeld.1.only hoj (just_ne (by omega)), hHeld.2.only hoj (just_ne (by omega))⟩ (fun _ => ?_)
  clear hK K
  have HZf := Lib.hid hZf
  have HOf := Lib.hid hOf
  clear hZf hOf hoj z0 z1 f0 f1 hHeld
  refine wpAnyH_done (by kernel_rfl) ?_ _
  go_wp2_with fail
  exact bodyPost_ret (v := .agg #[.int .u64 (g 1), .int .i64 (q : Int)]) (results_one Tryz.results161 rfl (load_box HZf.out Tryz.underlying222 rfl (by kernel_rfl))) rfl ⟨by rw [HIt.out]; rfl, HOf.out⟩
 ·have e0 : (g 0 == 1) = false := by rw [beq_eq_false_iff_ne]; exact h0
  have hit : itemOf (dpW D lf) g = (0, -1) := by unfold itemOf; rw [if_neg h0]
  have HIt := Lib.hid hit
  have z0 := HZ3.out.cell 0
  have z1 := HZ3.out.cell 1
  have f0 := HZ3.out.frozen 0
  have f1 := HZ3.out.frozen 1
  have HZf : Hid (Box ((w3.setCell ⟨b + 2, 0, none⟩ (.int .u64 0)).setCell ⟨b + 2, 1, none⟩ (.int .i64 (-1))) (b + 2) 222 #[.int .u64 0, .int .i64 (-1)]) := Lib.hid ((HZ3.out.put 0 _).put 1 _)
  have HE : Hid (Only nobody w ((w3.setCell ⟨b + 2, 0, none⟩ (.int .u64 0)).setCell ⟨b + 2, 1, none⟩ (.int .i64 (-1)))) := Lib.hid ((HO3.out.setCell (p := ⟨b + 2, 0, none⟩) (.inr (by have := HBb.out; show w.heap.size ≤ b + 2; omega)) _).setCell (p := ⟨b + 2, 1, none⟩) (.inr (by have := HBb.out; show w.heap.size ≤ b + 2; omega)) _)
  clear hit HX3 HY3 HZ3 HO3
  rw [e0]
  go_wp2_with fail
  exact bodyPost_ret (v := .agg #[.int .u64 0, .int .i64 (-1)]) (results_one Tryz.results161 rfl (load_box HZf.out Tryz.underlying222 rfl (by kernel_rfl))) rfl ⟨by rw [HIt.out]; rfl, HE.out⟩
theorem evF_past (S D T f lf i : Nat) (hi : (D + 1) * S + T ≤ i) : evF S D T f lf (i + 1) = evF S D T f lf i ++ [(f + 2, i, true)] := by
 show evF S D T f lf i ++ (if i < (D + 1) * S + T then _ else _) ++ _ = _
 rw [if_neg (by omega), List.append_nil]
set_option maxRecDepth 100000 in
set_option maxHeartbeats 4000000 in
theorem add_any {N S T D L n Q P : Nat} (h : Conf N S T D L n Q P) (X : Nat → Prop) (lp mp f lf : Nat) (ov : Bool) (mb : Option Nat) (M : MS) (B : Nat → Int) (Z : Nat → Cl) (w : World) (hM : LvM M f S D T Q) (hf : f ≤ 100)
  (hZ : Z (L + T) = B) (hZn : ∀ j, L + T < j → Z j = nul) (hO : Own w X mp (M.gone (cT (f + 2) Z M.c (L + T)) (evF S D T f lf (L + T)))) (hX1 : X lp) (hB : Box w lp 127 (LvA mp f N S T ov mb)) :
  Calls Tryz.prog 76 #[.pointer (some ⟨lp, 0, none⟩), .int .i64 ((L + T : Nat) : Int), .agg (CA B)] w (OwnPost w X mp (M.gone (cT (f + 2) Z M.c Q) (evF S D T f lf Q)) (.tuple #[])) := by
 have HT := Lib.hid (fun W => table_at f (N : Int) (S : Int) (T : Int) W hf)
 have HR := Lib.hid (fun W => round_of h W)
 have HEv := Lib.hid (fun i hi => evF_past S D T f lf i (by rw [h.hL]; exact hi))
 have hLn := h.hn
 have hnQ := h.le
 have hQ := h.big.2.2.2
 have hLb := h.big.1
 have ht := h.t64
 have hM2 := hM.hk
 have hs2 := hM.s2
 have hml := hM.len
 have HZn := Lib.hid hZn
 have hev0 := HEv.out (L + T) (Nat.le_refl _)
 have hel0 := evF_len S D T f lf (L + T)
 have hsuc0 := cT_succ (t := f + 2) (X := Z) (c := M.c) (i := L + T)
 rw [hZ] at hsuc0
 have HSUC0 := Lib.hid hsuc0
 have HEV0 := Lib.hid hev0
 obtain ⟨m, hm⟩ : ∃ m, L + T = m := ⟨_, rfl⟩
 rw [hm] at hO HSUC0 HEV0 HZn hel0 HEv
 rw [hm]
 have hmQ : m + 1 ≤ Q := by omega
 have hmb : m ≤ 152 := by omega
 generalize hcc : cT (f + 2) Z M.c m = cc at hO HSUC0
 generalize hll : evF S D T f lf m = ll at hO HEV0 hel0
 have hel2 : ll.length ≤ 400 := by omega
 clear h hM hZ hZn hev0 hsuc0 hel0 hcc hll hLn hnQ hm
 obtain ⟨b, hb⟩ : ∃ b, w.heap.size = b := ⟨_, rfl⟩
 obtain ⟨w1, hw1⟩ : ∃ x, w.alloc (.cells (CA B) 64) = x := ⟨_, rfl⟩
 have hO1 : Own w1 (plus1 X b) mp (M.gone cc ll) := by rw [← hw1, ← hb]; exact hO.one _
 have hB1 : Box w1 lp 127 (LvA mp f N S T ov mb) := by rw [← hw1]; exact hB.alloc _
 have hV1 : Var w1 b B := by rw [← hw1, ← hb]; exact Var.new w _ _
 have hK1 : Kept X w w1 := by rw [← hw1]; exact (Kept.refl _ _).alloc _
 have HW1 := Lib.hid hw1
 have HBb := Lib.hid hb
 clear hO hB hw1 hb
 go_enter Tryz.func76, Tryz.ntmps76
 go_upto_region 1 with fail
 rw [HBb.out, HW1.out]
 refine held_s (S := fun w' => Box w' lp 127 (LvA mp f N S T ov mb) ∧ Var w' b B) 12 rfl (by kernel_rfl) ⟨hB1.drewN 1, hV1.drew⟩ (fun hHeld => ?_)
 simp only [qA0, qB0, qC0, List.nil_append, List.cons_append]
 have hO2 : Own w1.drew (plus1 X b) mp (M.gone cc ll) := hO1.drewN 1
 have hB2 : Box w1.drew lp 127 (LvA mp f N S T ov mb) := hB1.drewN 1
 have hV2 : Var w1.drew b B := hV1.drew
 have hK2 : Kept X w w1.drew := hK1.drewN 1
 clear hO1 hB1 hV1 hK1 HW1
 generalize w1.drew = w2 at *
 refine tk1 0 7 (.pointer (some ⟨lp, 0, none⟩)) rfl (Or.inl ⟨by rfl, fun w' hw => by go_simp⟩) hHeld ?_
 try simp only [Act.put, sA0, sB0, sC0]
 refine tk1 1 8 (.pointer (some ⟨lp, 0, none⟩)) rfl (Or.inl ⟨by rfl, fun w' hw => by go_simp⟩) hHeld ?_
 try simp only [Act.put, sA0, sB0, sC0]
 refine tk1 2 9 (.pointer (some ⟨lp, 0, none⟩)) rfl (Or.inl ⟨by rfl, fun w' hw => by go_simp⟩) hHeld ?_
 try simp only [Act.put, sA0, sB0, sC0]
 refine tk1 3 10 (.pointer (some ⟨mp, 0, none⟩)) rfl (Or.inl ⟨by rfl, fun w' hw => by (have k0 := lv0 hw.1; have k1 := lv1 hw.1; have k2 := lv2 hw.1; have k3 := lv3 hw.1; have k4 := lv4 hw.1; skip; go_simp)⟩) hHeld ?_
 try simp only [Act.put, sA0, sB0, sC0]
 refine tk1 4 11 (.pointer (some ⟨lp, 0, none⟩)) rfl (Or.inl ⟨by rfl, fun w' hw => by go_simp⟩) hHeld ?_
 try simp only [Act.put, sA0, sB0, sC0]
 refine tk1 5 12 (.pointer (some ⟨lp, 0, none⟩)) rfl (Or.inl ⟨by rfl, fun w' hw => by go_simp⟩) hHeld ?_
 try simp only [Act.put, sA0, sB0, sC0]
 refine tk1 6 13 (.pointer (some ⟨lp, 1, none⟩)) rfl (Or.inl ⟨by rfl, fun w' hw => by go_simp⟩) hHeld ?_
 try simp only [Act.put, sA0, sB0, sC0]
 refine tk1 7 14 (.agg #[.int .i64 (f : Int), .int .i64 (N : Int), .int .i64 (S : Int), .int .i64 (T : Int)]) rfl (Or.inl ⟨by rfl, fun w' hw => by (have k0 := lv0 hw.1; have k1 := lv1 hw.1; have k2 := lv2 hw.1; have k3 := lv3 hw.1; have k4 := lv4 hw.1; skip; go_simp)⟩) hHeld ?_
 try simp only [Act.put, sA0, sB0, sC0]
 refine tk1 9 16 (.int .i64 (m : Int)) rfl (Or.inl ⟨by rfl, fun w' hw => by go_simp⟩) hHeld ?_
 try simp only [Act.put, sA0, sB0, sC0]
 refine take_row 10 (oi := ⟨some 17, _, _, _, _, _⟩) (CA B).toList rfl (by kernel_rfl) (by kernel_rfl) (by kernel_rfl) (fun _ _ _ h => h) (by rfl) _ _ rfl _ _ rfl _ (fun w' hw => hw.2.rng) Tryz.underlying64 rfl (infoCellL B) hHeld ?_
 try simp only [Act.put, sA0, sB0, sC0]
 refine one_ready 8 rfl (by kernel_rfl) (fun K hK => ?_)
 go_simp
 refine (HT.out _).mono ?_
 rintro e w3 ⟨rfl, hb3⟩
 have ho3 : Only nobody w2 w3 := Only.of_below hb3
 have hO3 := hO2.none ho3
 have hB3 := hB2.only ho3 (not_nobody _)
 have hV3 := hV2.nob ho3
 have hK3 := hK2.trans (Kept.of_none ho3)
 refine hK.out _ _ ⟨hB3, hV3⟩ (fun hHeld => ?_)
 clear hK K hb3 ho3 hO2 hB2 hV2 hK2
 simp only [sA0, sB0, sC0]
 refine one_ready 11 rfl (by kernel_rfl) (fun K hK => ?_)
 go_simp
 refine (own_write _ mp (M.gone cc ll) w3 ((f + 2 : Nat) : Int) (m : Int) B hO3 (by rw [gone_len]; omega)).mono ?_
 rintro e w5 ⟨rfl, ho, hk⟩
 rw [gone_write (by omega) (by omega), HSUC0.out, ← HEV0.out] at ho
 have hB5 := hk.box hB3 (.inl hX1)
 have hV5 := hV3.kept hk (.inr rfl)
 have hA := And.intro (ho.weak (fun j (hj : X j) => .inl hj)) (hK3.trans (hk.mono (fun j hj => .inl hj)))
 refine hK.out _ _ ⟨hB5, hV5⟩ (fun hHeld => ?_)
 clear hK K hk ho hO3 hB3 hV3 hK3 hV5
 simp only [sA0, sB0, sC0]
 refine wpAnyH_done (by kernel_rfl) ?_ _
 have HA := Lib.hid hA
 have HB5 := Lib.hid hB5
 clear hA hB5
 go_wp2_with fail
 go_loopw [6] (fun v wr => ∃ i : Nat, v = .int .i64 i ∧ m + 1 ≤ i ∧ i ≤ Q ∧ Own wr X mp (M.gone (cT (f + 2) Z M.c i) (evF S D T f lf i)) ∧ Kept X w wr ∧ Box wr lp 127 (LvA mp f N S T ov mb)) (fun v _ => Q - (intOf v).toNat)
 case atStart => exact ⟨m + 1, by go_num, by omega, by omega, HA.out.1, HA.out.2, HB5.out⟩
 case round =>
  obtain ⟨i, rfl, hi0, hi, hOw, hKp, hBx⟩ := hrel
  clear HA HB5
  have HOw := Lib.hid hOw
  have HKp := Lib.hid hKp
  have HBx := Lib.hid hBx
  have p2 := lv2 hBx
  have p3 := lv3 hBx
  have p4 := lv4 hBx
  clear hOw hKp hBx
  go_wp2_with fail
  refine (HR.out _).mono ?_
  rintro e w6 ⟨rfl, hb6⟩
  have ho6 : Only nobody wr w6 := Only.of_below hb6
  have HO6 := Lib.hid (HOw.out.none ho6)
  have HB6 := Lib.hid (HBx.out.only ho6 (not_nobody _))
  have HK6 := Lib.hid (HKp.out.trans (Kept.of_none ho6))
  clear hb6 ho6 p2 p3 p4 HOw HKp HBx
  by_cases hin : i < Q
  ·have hsuc := cT_succ (t := f + 2) (X := Z) (c := M.c) (i := i)
   rw [HZn.out i (by omega)] at hsuc
   have HSUC := Lib.hid hsuc
   have HEV := Lib.hid (HEv.out i (by omega))
   have hel := evF_len S D T f lf i
   generalize hcc : cT (f + 2) Z M.c i = cc' at HO6 HSUC
   generalize hll : evF S D T f lf i = ll' at HO6 HEV hel
   have hel2 : ll'.length ≤ 600 := by omega
   clear hsuc hel hcc hll
   go_upto_region 5 with fail
   refine held_s (S := fun w' => Box w' lp 127 (LvA mp f N S T ov mb)) 12 rfl (by kernel_rfl) (HB6.out.drewN 1) (fun hHeld => ?_)
   simp only [qA0, qB0, qC0, List.nil_append, List.cons_append]
   have hO7 : Own w6.drew X mp (M.gone cc' ll') := HO6.out.drewN 1
   have hK7 : Kept X w w6.drew := HK6.out.drewN 1
   have hB7 : Box w6.drew lp 127 (LvA mp f N S T ov mb) := HB6.out.drewN 1
   clear HO6 HK6 HB6
   generalize w6.drew = w7 at *
   refine tk1 0 31 (.pointer (some ⟨lp, 0, none⟩)) rfl (Or.inl ⟨by rfl, fun w' hw => by go_simp⟩) hHeld ?_
   try simp only [Act.put, sA0, sB0, sC0]
   refine tk1 1 32 (.pointer (some ⟨lp, 0, none⟩)) rfl (Or.inl ⟨by rfl, fun w' hw => by go_simp⟩) hHeld ?_
   try simp only [Act.put, sA0, sB0, sC0]
   refine tk1 2 33 (.pointer (some ⟨lp, 0, none⟩)) rfl (Or.inl ⟨by rfl, fun w' hw => by go_simp⟩) hHeld ?_
   try simp only [Act.put, sA0, sB0, sC0]
   refine tk1 3 34 (.pointer (some ⟨mp, 0, none⟩)) rfl (Or.inl ⟨by rfl, fun w' hw => by (have k0 := lv0 hw; have k1 := lv1 hw; have k2 := lv2 hw; have k3 := lv3 hw; have k4 := lv4 hw; skip; go_simp)⟩) hHeld ?_
   try simp only [Act.put, sA0, sB0, sC0]
   refine tk1 4 35 (.pointer (some ⟨lp, 0, none⟩)) rfl (Or.inl ⟨by rfl, fun w' hw => by go_simp⟩) hHeld ?_
   try simp only [Act.put, sA0, sB0, sC0]
   refine tk1 5 36 (.pointer (some ⟨lp, 0, none⟩)) rfl (Or.inl ⟨by rfl, fun w' hw => by go_simp⟩) hHeld ?_
   try simp only [Act.put, sA0, sB0, sC0]
   refine tk1 6 37 (.pointer (some ⟨lp, 1, none⟩)) rfl (Or.inl ⟨by rfl, fun w' hw => by go_simp⟩) hHeld ?_
   try simp only [Act.put, sA0, sB0, sC0]
   refine tk1 7 38 (.agg #[.int .i64 (f : Int), .int .i64 (N : Int), .int .i64 (S : Int), .int .i64 (T : Int)]) rfl (Or.inl ⟨by rfl, fun w' hw => by (have k0 := lv0 hw; have k1 := lv1 hw; have k2 := lv2 hw; have k3 := lv3 hw; have k4 := lv4 hw; skip; go_simp)⟩) hHeld ?_
   try simp only [Act.put, sA0, sB0, sC0]
   refine tk1 9 40 (.int .i64 (i : Int)) rfl (Or.inl ⟨by rfl, fun w' hw => by go_simp⟩) hHeld ?_
   try simp only [Act.put, sA0, sB0, sC0]
   refine tk1 10 41 (.agg (CA nul)) rfl (Or.inl ⟨by rfl, fun w' hw => by (go_simp; rfl)⟩) hHeld ?_
   try simp only [Act.put, sA0, sB0, sC0]
   refine one_ready 8 rfl (by kernel_rfl) (fun K hK => ?_)
   go_simp
   refine (HT.out _).mono ?_
   rintro e w8 ⟨rfl, hb8⟩
   have ho8 : Only nobody w7 w8 := Only.of_below hb8
   have hO8 := hO7.none ho8
   have hB8 := hB7.only ho8 (not_nobody _)
   have hK8 := hK7.trans (Kept.of_none ho8)
   refine hK.out _ _ hB8 (fun hHeld => ?_)
   clear hK K hb8 ho8 hO7 hB7 hK7
   simp only [sA0, sB0, sC0]
   refine one_ready 11 rfl (by kernel_rfl) (fun K hK => ?_)
   go_simp
   refine (own_write _ mp (M.gone cc' ll') w8 ((f + 2 : Nat) : Int) (i : Int) nul hO8 (by rw [gone_len]; omega)).mono ?_
   rintro e w9 ⟨rfl, ho, hk⟩
   rw [gone_write (by omega) (by omega), HSUC.out, ← HEV.out] at ho
   have hO9 := ho
   have hB9 := hk.box hB8 hX1
   have hK9 := hK8.trans hk
   refine hK.out _ _ hB9 (fun hHeld => ?_)
   clear hK K hk ho hO8 hB8 hK8
   simp only [sA0, sB0, sC0]
   refine wpAnyH_done (by kernel_rfl) ?_ _
   have HE := Lib.hid (And.intro hO9 (And.intro hK9 hB9))
   clear hO9 hK9 hB9 hHeld
   go_wp2_with fail
   go_roundw
   case rel => exact ⟨i + 1, by go_num, by omega, by omega, HE.out.1, HE.out.2.1, HE.out.2.2⟩
   case measure => simp [intOf]; omega
  ·obtain rfl : i = Q := by omega
   go_wp2_with fail
   go_end0
   exact ⟨rfl, HO6.out, HK6.out⟩
end Go.Proofs.YtknnebhjldfkhaaGreat


namespace Go.Proofs.YtknnebhjldfkhaaGreat
set_option maxRecDepth 100000
open Go.RowKit Go.ChangeShapes Go.WideShapes Go.ChangeAt

theorem Var.put {w : World} {b : Nat} {g : Nat → Int} (h : Var w b g) (k : Nat) (v : Int) : Var (w.setCell ⟨b, k, none⟩ (.int .u64 v)) b (setw g k v) := by
 refine ⟨fun j u hu => ?_, fun j hj => ?_⟩
 ·have hj : j < 12 := by have := (List.getElem?_eq_some_iff.1 hu).1; simpa [CA] using this
  rw [Array.getElem?_toList, CA_at _ j hj] at hu
  injection hu with hu
  subst hu
  rw [Nat.zero_add]
  by_cases e : j = k
  ·subst e
   rw [World.cell?_setCell_same _ _ _ (h.cell hj), setw_at]
  ·rw [World.cell?_setCell_other _ _ _ _ (fun h => e (by injection h with _ h _; exact h.symm)), h.cell hj, setw_far _ _ _ _ e]
 ·obtain ⟨h1, h2⟩ := h.there j hj
  refine ⟨?_, by rw [World.frozen?_setCell]; exact h2⟩
  rw [Nat.zero_add] at h1 ⊢
  by_cases e : j = k
  ·subst e
   rw [World.cell?_setCell_same _ _ _ (h.cell hj)]; rfl
  ·rw [World.cell?_setCell_other _ _ _ _ (fun h => e (by injection h with _ h _; exact h.symm))]; exact h1
theorem Var.free {w : World} {b : Nat} {g : Nat → Int} (h : Var w b g) (k : Nat) (hk : k < 12) : w.frozen? ⟨b, k, none⟩ = false := by
 have := (h.there k hk).2
 rwa [Nat.zero_add] at this
set_option maxRecDepth 100000 in
set_option maxHeartbeats 2000000 in
theorem sort_any {N S T D L n Q P : Nat} (h : Conf N S T D L n Q P) (X : Nat → Prop) (lp mp f : Nat) (ov : Bool) (mb : Option Nat) (M : MS) (w : World) (hM : LvM M f S D T Q) (hf : f ≤ 100) (hO : Own w X mp M) (hX1 : X lp)
  (hB : Box w lp 127 (LvA mp f N S T ov mb)) :
  Calls Tryz.prog 138 #[.pointer (some ⟨lp, 0, none⟩)] w (OwnPost w X mp (M.sorted (f + 2) 11 (netL P)) (.tuple #[])) := by
 have HT := Lib.hid (fun W => table_at f (N : Int) (S : Int) (T : Int) W hf)
 have HR := Lib.hid (fun W => round_of h W)
 have hQP := h.hQ
 have hP := h.hP
 have HRun := Lib.hid (fun W (ho : Own W X mp M) => run_net X mp M (f + 2) 11 P W ho (by omega) hM.hk (by rw [hQP]; exact hM.s2) (by decide) hM.wd hM.len)
 rw [hQP] at HRun
 clear h hM hQP
 go_enter Tryz.func138, Tryz.ntmps138
 refine held_s (S := fun w' => Box w' lp 127 (LvA mp f N S T ov mb)) 16 rfl (by kernel_rfl) (hB.drewN 1) (fun hHeld => ?_)
 simp only [qA0, qB0, qC0, List.nil_append, List.cons_append]
 have hO2 : Own w.drew X mp M := hO.drewN 1
 have hK2 : Kept X w w.drew := (Kept.refl X w).drewN 1
 clear hO hB
 generalize w.drew = w2 at *
 refine tk1 0 2 (.pointer (some ⟨lp, 0, none⟩)) rfl (Or.inl ⟨by rfl, fun w' hw => by go_simp⟩) hHeld ?_
 try simp only [Act.put, sA0, sB0, sC0]
 refine tk1 1 3 (.pointer (some ⟨lp, 0, none⟩)) rfl (Or.inl ⟨by rfl, fun w' hw => by go_simp⟩) hHeld ?_
 try simp only [Act.put, sA0, sB0, sC0]
 refine tk1 2 4 (.pointer (some ⟨lp, 0, none⟩)) rfl (Or.inl ⟨by rfl, fun w' hw => by go_simp⟩) hHeld ?_
 try simp only [Act.put, sA0, sB0, sC0]
 refine tk1 3 5 (.pointer (some ⟨mp, 0, none⟩)) rfl (Or.inl ⟨by rfl, fun w' hw => by (have k0 := lv0 hw; have k1 := lv1 hw; have k2 := lv2 hw; have k3 := lv3 hw; have k4 := lv4 hw; go_simp)⟩) hHeld ?_
 try simp only [Act.put, sA0, sB0, sC0]
 refine tk1 4 6 (.pointer (some ⟨lp, 0, none⟩)) rfl (Or.inl ⟨by rfl, fun w' hw => by go_simp⟩) hHeld ?_
 try simp only [Act.put, sA0, sB0, sC0]
 refine tk1 5 7 (.pointer (some ⟨lp, 0, none⟩)) rfl (Or.inl ⟨by rfl, fun w' hw => by go_simp⟩) hHeld ?_
 try simp only [Act.put, sA0, sB0, sC0]
 refine tk1 6 8 (.pointer (some ⟨lp, 1, none⟩)) rfl (Or.inl ⟨by rfl, fun w' hw => by go_simp⟩) hHeld ?_
 try simp only [Act.put, sA0, sB0, sC0]
 refine tk1 7 9 (.agg #[.int .i64 (f : Int), .int .i64 (N : Int), .int .i64 (S : Int), .int .i64 (T : Int)]) rfl (Or.inl ⟨by rfl, fun w' hw => by (have k0 := lv0 hw; have k1 := lv1 hw; have k2 := lv2 hw; have k3 := lv3 hw; have k4 := lv4 hw; go_simp)⟩) hHeld ?_
 try simp only [Act.put, sA0, sB0, sC0]
 refine tk1 9 11 (.pointer (some ⟨lp, 0, none⟩)) rfl (Or.inl ⟨by rfl, fun w' hw => by go_simp⟩) hHeld ?_
 try simp only [Act.put, sA0, sB0, sC0]
 refine tk1 10 12 (.pointer (some ⟨lp, 0, none⟩)) rfl (Or.inl ⟨by rfl, fun w' hw => by go_simp⟩) hHeld ?_
 try simp only [Act.put, sA0, sB0, sC0]
 refine tk1 11 13 (.pointer (some ⟨lp, 1, none⟩)) rfl (Or.inl ⟨by rfl, fun w' hw => by go_simp⟩) hHeld ?_
 try simp only [Act.put, sA0, sB0, sC0]
 refine tk1 12 14 (.pointer (some ⟨lp, 2, none⟩)) rfl (Or.inl ⟨by rfl, fun w' hw => by go_simp⟩) hHeld ?_
 try simp only [Act.put, sA0, sB0, sC0]
 refine tk1 13 15 (.agg #[.int .i64 (N : Int), .int .i64 (S : Int), .int .i64 (T : Int)]) rfl (Or.inl ⟨by rfl, fun w' hw => by (have k0 := lv0 hw; have k1 := lv1 hw; have k2 := lv2 hw; have k3 := lv3 hw; have k4 := lv4 hw; go_simp)⟩) hHeld ?_
 try simp only [Act.put, sA0, sB0, sC0]
 refine one_ready 8 rfl (by kernel_rfl) (fun K hK => ?_)
 go_simp
 refine (HT.out _).mono ?_
 rintro e w3 ⟨rfl, hb3⟩
 have ho3 : Only nobody w2 w3 := Only.of_below hb3
 have hO3 := hO2.none ho3
 have hB3 := hHeld.only ho3 (not_nobody _)
 have hK3 := hK2.trans (Kept.of_none ho3)
 refine hK.out _ _ hB3 (fun hHeld => ?_)
 clear hK K hb3 ho3 hO2 hK2
 simp only [sA0, sB0, sC0]
 refine one_ready 14 rfl (by kernel_rfl) (fun K hK => ?_)
 go_simp
 refine (HR.out _).mono ?_
 rintro e w4 ⟨rfl, hb4⟩
 have ho4 : Only nobody w3 w4 := Only.of_below hb4
 have hO4 := hO3.none ho4
 have hB4 := hB3.only ho4 (not_nobody _)
 have hK4 := hK3.trans (Kept.of_none ho4)
 refine hK.out _ _ hB4 (fun hHeld => ?_)
 clear hK K hb4 ho4 hO3 hK3 hB3
 simp only [sA0, sB0, sC0]
 refine one_ready 15 rfl (by kernel_rfl) (fun K hK => ?_)
 go_simp
 refine (HRun.out _ hO4).mono ?_
 rintro e w5 ⟨rfl, hO5, hk⟩
 have HE := Lib.hid (And.intro hO5 (hK4.trans hk))
 have hB5 := hk.box hB4 hX1
 refine hK.out _ _ hB5 (fun hHeld => ?_)
 clear hK K hk hO4 hK4 hB4 hO5 hB5
 simp only [sA0, sB0, sC0]
 refine wpAnyH_done (by kernel_rfl) ?_ _
 go_wp2_with fail
 go_end0
 exact ⟨rfl, HE.out.1, HE.out.2⟩
structure GbAt (w : World) (X : Nat → Prop) (mp f : Nat) (sp : Nat → Nat × Nat) (M : MS) (Z : Nat → Cl) (ev : List Ev) (i : Nat) (wr : World) : Prop where
 own : Own wr X mp (M.gone (cG sp Z M.c i) ev)
 kept : Kept X w wr
set_option maxRecDepth 100000 in
set_option maxHeartbeats 4000000 in
theorem back_any {N S T D L n Q P : Nat} (h : Conf N S T D L n Q P) (X : Nat → Prop) (lp mp f lf g cap : Nat) (ov : Bool) (mb : Option Nat) (M : MS) (C : Nat → Cl) (w : World) (hM : LvM M f S D T Q) (hlf : lf < N) (hf : f ≤ 100)
  (hC : ∀ a, a < Q → M.c (f + 2) a = C a) (hO : Own w X mp M) (hX1 : X lp) (hX3 : X g) (hB : Box w lp 127 (LvA mp f N S T ov mb)) (hs : Sps w 0 g (L + T) (spot S D f lf)) :
  Calls Tryz.prog 79 #[.pointer (some ⟨lp, 0, none⟩), .slice (some ⟨g, 0, none⟩) (L + T) cap] w fun e w' =>
   e = .returned (.tuple #[]) ∧ GbAt w X mp f (spot S D f lf) M (fun i => setw (C i) 11 0) (evG S D f lf (L + T)) (L + T) w' := by
 have HT := Lib.hid (fun W => table_at f (N : Int) (S : Int) (T : Int) W hf)
 have hlf2 : lf < 2 ^ D := by rw [h.hN]; exact hlf
 have HSp := Lib.hid (fun i hi => hM.inM (by have := h.s1; omega) h.hL hlf2 (i := i) hi)
 have hLb := h.big.1
 have ht := h.t64
 have hLQ : L + T < Q := by have := h.hn; have := h.le; omega
 have HA : Hid (GbAt w X mp f (spot S D f lf) M (fun i => setw (C i) 11 0) (evG S D f lf 0) 0 w) := Lib.hid ⟨by show Own w X mp (M.gone M.c []); rw [gone_self]; exact hO, Kept.refl _ _⟩
 have HBx := Lib.hid hB
 have HSs := Lib.hid hs
 have HC := Lib.hid hC
 have hM2 := hM.hk
 have hs2 := hM.s2
 have hml := hM.len
 clear h hO hB hs hM hlf2 hlf hC
 go_enter Tryz.func79, Tryz.ntmps79
 go_wp2_with fail
 go_loopw [9] (fun v wr => ∃ i : Nat, v = .int .i64 i ∧ i ≤ L + T ∧ GbAt w X mp f (spot S D f lf) M (fun i => setw (C i) 11 0) (evG S D f lf i) i wr) (fun v _ => L + T - (intOf v).toNat)
 case atStart => exact ⟨0, rfl, by omega, HA.out⟩
 case round =>
  obtain ⟨i, rfl, hi, hS⟩ := hrel
  clear HA
  have HS := Lib.hid hS
  by_cases hin : i < L + T
  ·obtain ⟨c0, c1⟩ := (HSs.out.kept hS.kept hX3).cell i hin
   have hBw := hS.kept.box HBx.out hX1
   obtain ⟨hr, ha⟩ := HSp.out i hin
   have hel := evG_len S D f lf i
   have hcell : cG (spot S D f lf) (fun i => setw (C i) 11 0) M.c i (f + 2) i = C i := by
    rw [cG_far _ _ _ _ _ _ (fun j _ e => spot_ne (S := S) (D := D) (f := f) (lf := lf) j (by rw [e]))]
    exact HC.out i (by omega)
   have hsuc : putC (cG (spot S D f lf) (fun i => setw (C i) 11 0) M.c i) (spot S D f lf i).1 (spot S D f lf i).2 (setw (C i) 11 0) = cG (spot S D f lf) (fun i => setw (C i) 11 0) M.c (i + 1) := rfl
   have hev : evG S D f lf (i + 1) = evG S D f lf i ++ [(f + 2, i, false)] ++ [((spot S D f lf i).1, (spot S D f lf i).2, true)] := rfl
   have hown := hS.own
   have hkept := hS.kept
   clear hS HS
   generalize hsp : spot S D f lf i = sp at c0 c1 hr ha hsuc hev
   obtain ⟨sr, sa⟩ := sp
   dsimp only at c0 c1 hr ha hsuc hev
   have HCELL := Lib.hid hcell
   have HSUC := Lib.hid hsuc
   have HEV := Lib.hid hev
   generalize hcc : cG (spot S D f lf) (fun i => setw (C i) 11 0) M.c i = cc at HCELL HSUC hown
   generalize hll : evG S D f lf i = ll at HEV hown hel
   have hel2 : ll.length ≤ 600 := by omega
   have HO := Lib.hid hown
   have HK := Lib.hid hkept
   have HBw := Lib.hid hBw
   clear hown hkept hBw hcell hsuc hev hel hcc hll hsp
   obtain ⟨w9, h9⟩ : ∃ x, x = wr := ⟨_, rfl⟩
   subst h9
   go_upto_region 3 with fail
   clear c0 c1
   obtain ⟨sb, hsb⟩ : ∃ b, w9.heap.size = b := ⟨_, rfl⟩
   obtain ⟨w1', hw1⟩ : ∃ x, w9.alloc (.cells #[.int .i64 (sr : Int), .int .i64 (sa : Int)] 153) = x := ⟨_, rfl⟩
   have hO1 : Own w1' (plus1 X sb) mp (M.gone cc ll) := by rw [← hw1, ← hsb]; exact HO.out.one _
   have hB1 : Box w1' lp 127 (LvA mp f N S T ov mb) := by rw [← hw1]; exact HBw.out.alloc _
   have hs1 : Box w1' sb 153 #[.int .i64 (sr : Int), .int .i64 (sa : Int)] := by rw [← hw1, ← hsb]; exact Box.new w9 _ _
   have hK1 : Kept X w9 w1' := by rw [← hw1]; exact (Kept.refl _ _).alloc _
   rw [hsb, hw1]
   refine held_s (S := fun w' => Box w' lp 127 (LvA mp f N S T ov mb) ∧ Box w' sb 153 #[.int .i64 (sr : Int), .int .i64 (sa : Int)]) 13 rfl (by kernel_rfl) ⟨hB1.drewN 1, hs1.drewN 1⟩ (fun hHeld => ?_)
   simp only [qA0, qB0, qC0, List.nil_append, List.cons_append]
   have hO2 : Own w1'.drew (plus1 X sb) mp (M.gone cc ll) := hO1.drewN 1
   have hB2 : Box w1'.drew lp 127 (LvA mp f N S T ov mb) := hB1.drewN 1
   have hs2' : Box w1'.drew sb 153 #[.int .i64 (sr : Int), .int .i64 (sa : Int)] := hs1.drewN 1
   have hK2 : Kept X w9 w1'.drew := hK1.drewN 1
   clear hO1 hB1 hs1 hK1 hw1
   generalize w1'.drew = w2 at *
   refine tk1 0 14 (.pointer (some ⟨lp, 0, none⟩)) rfl (Or.inl ⟨by rfl, fun w' hw => by go_simp⟩) hHeld ?_
   try simp only [Act.put, sA0, sB0, sC0]
   refine tk1 1 15 (.pointer (some ⟨lp, 0, none⟩)) rfl (Or.inl ⟨by rfl, fun w' hw => by go_simp⟩) hHeld ?_
   try simp only [Act.put, sA0, sB0, sC0]
   refine tk1 2 16 (.pointer (some ⟨lp, 0, none⟩)) rfl (Or.inl ⟨by rfl, fun w' hw => by go_simp⟩) hHeld ?_
   try simp only [Act.put, sA0, sB0, sC0]
   refine tk1 3 17 (.pointer (some ⟨mp, 0, none⟩)) rfl (Or.inl ⟨by rfl, fun w' hw => by (have k0 := lv0 hw.1; have k1 := lv1 hw.1; have k2 := lv2 hw.1; have k3 := lv3 hw.1; have k4 := lv4 hw.1; skip; go_simp)⟩) hHeld ?_
   try simp only [Act.put, sA0, sB0, sC0]
   refine tk1 4 18 (.pointer (some ⟨lp, 0, none⟩)) rfl (Or.inl ⟨by rfl, fun w' hw => by go_simp⟩) hHeld ?_
   try simp only [Act.put, sA0, sB0, sC0]
   refine tk1 5 19 (.pointer (some ⟨lp, 0, none⟩)) rfl (Or.inl ⟨by rfl, fun w' hw => by go_simp⟩) hHeld ?_
   try simp only [Act.put, sA0, sB0, sC0]
   refine tk1 6 20 (.pointer (some ⟨lp, 1, none⟩)) rfl (Or.inl ⟨by rfl, fun w' hw => by go_simp⟩) hHeld ?_
   try simp only [Act.put, sA0, sB0, sC0]
   refine tk1 7 21 (.agg #[.int .i64 (f : Int), .int .i64 (N : Int), .int .i64 (S : Int), .int .i64 (T : Int)]) rfl (Or.inl ⟨by rfl, fun w' hw => by (have k0 := lv0 hw.1; have k1 := lv1 hw.1; have k2 := lv2 hw.1; have k3 := lv3 hw.1; have k4 := lv4 hw.1; skip; go_simp)⟩) hHeld ?_
   try simp only [Act.put, sA0, sB0, sC0]
   refine tk1 9 23 (.int .i64 (i : Int)) rfl (Or.inl ⟨by rfl, fun w' hw => by go_simp⟩) hHeld ?_
   try simp only [Act.put, sA0, sB0, sC0]
   -- LEFT [8, 10, 11, 12]
   have HO2 := Lib.hid hO2
   have HB2 := Lib.hid hB2
   have HS2 := Lib.hid hs2'
   have HK2 := Lib.hid hK2
   clear hO2 hB2 hs2' hK2
   refine join_at (S := fun w5 cb => Own w5 (plus1 (plus1 X sb) cb) mp (M.gone cc (ll ++ [(f + 2, i, false)])) ∧ Box w5 lp 127 (LvA mp f N S T ov mb) ∧ Box w5 sb 153 #[.int .i64 (sr : Int), .int .i64 (sa : Int)] ∧ Var w5 cb (C i) ∧ Kept X w9 w5 ∧ (lp < cb ∧ sb < cb ∧ w9.heap.size ≤ cb)) (G := ?G3) (fun key => ?_) ?_
   rotate_left
   ·refine wpAnyH_ready (rs := [8, 11]) (by kernel_rfl) (by simp) ?_
    refine AllReadyH.cons rfl (fun K hK => ?_) ?_
    ·have hO2 := HO2.out
     have hB2 := HB2.out
     have hs2 := HS2.out
     have hK2 := HK2.out
     go_simp
     refine (HT.out _).mono ?_
     rintro e w3 ⟨rfl, hb⟩
     have ho : Only nobody w2 w3 := Only.of_below hb
     have hO3 := hO2.none ho
     have hB3 := hB2.only ho (not_nobody _)
     have hs3 := hs2.only ho (not_nobody _)
     have hK3 := hK2.trans (Kept.of_none ho)
     refine hK.out _ _ ⟨hB3, hs3⟩ (fun hHeld => ?_)
     clear hK K hb ho
     simp only [sA0, sB0, sC0]
     -- LEFT [10, 11, 12]
     refine wpAnyH_ready (rs := [10, 11]) (by kernel_rfl) (by simp) ?_
     refine AllReadyH.cons rfl (fun K hK => ?_) ?_
     ·go_simp
      refine (own_read (plus1 X sb) mp (M.gone cc ll) w3 ((f + 2 : Nat) : Int) (i : Int) hO3 (by rw [gone_len]; omega)).mono ?_
      rintro e w4 ⟨rfl, hO4, hk⟩
      rw [gone_read (by omega) (by omega)] at hO4
      rw [gone_cell (by omega) (by omega), HCELL.out]
      have hB4 := hk.box hB3 (.inl hX1)
      have hs4 := hk.box hs3 (.inr rfl)
      have hK4 := hK3.trans (hk.mono (fun i hi => .inl hi))
      refine hK.out _ _ ⟨hB4, hs4⟩ (fun hHeld => ?_)
      clear hK K hk
      simp only [sA0, sB0, sC0]
      refine one_ready 11 rfl (by kernel_rfl) (fun K hK => ?_)
      go_simp
      obtain ⟨cb, hcb⟩ : ∃ c, w4.heap.size = c := ⟨_, rfl⟩
      obtain ⟨w5, hw5⟩ : ∃ x, w4.alloc (.cells (CA fun _ => 0) 64) = x := ⟨_, rfl⟩
      have hO5 : Own w5 (plus1 (plus1 X sb) cb) mp (M.gone cc (ll ++ [(f + 2, i, false)])) := by rw [← hw5, ← hcb]; exact hO4.one _
      have hB5 : Box w5 lp 127 (LvA mp f N S T ov mb) := by rw [← hw5]; exact hB4.alloc _
      have hs5 : Box w5 sb 153 #[.int .i64 (sr : Int), .int .i64 (sa : Int)] := by rw [← hw5]; exact hs4.alloc _
      have hC5 : Var w5 cb (fun _ => 0) := by rw [← hw5, ← hcb]; exact Var.new w4 _ _
      have hK5 : Kept X w9 w5 := by rw [← hw5]; exact hK4.alloc _
      have hcn : lp < cb ∧ sb < cb ∧ w9.heap.size ≤ cb := ⟨by rw [← hcb]; exact hB4.lt, by rw [← hcb]; exact hs4.lt, by rw [← hcb]; exact hK4.size⟩
      refine hK.out _ _ ⟨hB4.alloc _, hs4.alloc _⟩ (fun hHeld => ?_)
      change wpAnyH _ _ _ _ _ _ _ _ (w4.alloc (.cells (CA fun _ => 0) 64))
      rw [hw5]
      simp only [hcb]
      clear hK K hw5
      simp only [sA0, sB0, sC0]
      refine one_ready 12 (o := ⟨none, _, _, _, _, _⟩) rfl (by kernel_rfl) (fun K hK => ?_)
      refine step_store_cell rfl (.tmp 6) (.tmp 24) rfl cb 0 rfl (C i) rfl hC5.there ?_
      have hoc : Only (just cb) w5 (w5.setCells cb 0 (CA (C i)).toList) := only_setCells _ 0 _ (Only.refl _ _) (.inl (just_self cb))
      have hOe := hO5.setCells cb (CA (C i)).toList (.inr rfl)
      have hBe := hB5.only hoc (just_ne (by omega))
      have hse := hs5.only hoc (just_ne (by omega))
      have hCe := hC5.set (C i)
      have hKe := hK5.setCells cb (CA (C i)).toList hcn.2.2
      refine hK.out _ _ ⟨hBe, hse⟩ (fun hHeld => ?_)
      clear hK K hoc
      simp only [sA0, sB0, sC0]
      generalize w5.setCells cb 0 (CA (C i)).toList = we at hOe hBe hse hCe hKe ⊢
      exact key we cb ⟨hOe, hBe, hse, hCe, hKe, hcn⟩
     ·refine AllReadyH.cons rfl (fun K hK => ?_) AllReadyH.nil
      go_simp
      obtain ⟨cb, hcb⟩ : ∃ c, w3.heap.size = c := ⟨_, rfl⟩
      obtain ⟨w4, hw4⟩ : ∃ x, w3.alloc (.cells (CA fun _ => 0) 64) = x := ⟨_, rfl⟩
      have hO4 : Own w4 (plus1 (plus1 X sb) cb) mp (M.gone cc ll) := by rw [← hw4, ← hcb]; exact hO3.one _
      have hB4 : Box w4 lp 127 (LvA mp f N S T ov mb) := by rw [← hw4]; exact hB3.alloc _
      have hs4 : Box w4 sb 153 #[.int .i64 (sr : Int), .int .i64 (sa : Int)] := by rw [← hw4]; exact hs3.alloc _
      have hC4 : Var w4 cb (fun _ => 0) := by rw [← hw4, ← hcb]; exact Var.new w3 _ _
      have hK4 : Kept X w9 w4 := by rw [← hw4]; exact hK3.alloc _
      have hcn : lp < cb ∧ sb < cb ∧ w9.heap.size ≤ cb := ⟨by rw [← hcb]; exact hB3.lt, by rw [← hcb]; exact hs3.lt, by rw [← hcb]; exact hK3.size⟩
      refine hK.out _ _ ⟨hB3.alloc _, hs3.alloc _⟩ (fun hHeld => ?_)
      change wpAnyH _ _ _ _ _ _ _ _ (w3.alloc (.cells (CA fun _ => 0) 64))
      rw [hw4]
      simp only [hcb]
      clear hK K hw4
      simp only [sA0, sB0, sC0]
      refine one_ready 10 rfl (by kernel_rfl) (fun K hK => ?_)
      go_simp
      refine (own_read (plus1 (plus1 X sb) cb) mp (M.gone cc ll) w4 ((f + 2 : Nat) : Int) (i : Int) hO4 (by rw [gone_len]; omega)).mono ?_
      rintro e w5 ⟨rfl, hO5, hk⟩
      rw [gone_read (by omega) (by omega)] at hO5
      rw [gone_cell (by omega) (by omega), HCELL.out]
      have hB5 := hk.box hB4 (.inl (.inl hX1))
      have hs5 := hk.box hs4 (.inl (.inr rfl))
      have hK5 := hK4.trans (hk.mono (fun i hi => .inl (.inl hi)))
      have hC5 := hC4.kept hk (.inr rfl)
      refine hK.out _ _ ⟨hB5, hs5⟩ (fun hHeld => ?_)
      clear hK K hk
      simp only [sA0, sB0, sC0]
      refine one_ready 12 (o := ⟨none, _, _, _, _, _⟩) rfl (by kernel_rfl) (fun K hK => ?_)
      refine step_store_cell rfl (.tmp 6) (.tmp 24) rfl cb 0 rfl (C i) rfl hC5.there ?_
      have hoc : Only (just cb) w5 (w5.setCells cb 0 (CA (C i)).toList) := only_setCells _ 0 _ (Only.refl _ _) (.inl (just_self cb))
      have hOe := hO5.setCells cb (CA (C i)).toList (.inr rfl)
      have hBe := hB5.only hoc (just_ne (by omega))
      have hse := hs5.only hoc (just_ne (by omega))
      have hCe := hC5.set (C i)
      have hKe := hK5.setCells cb (CA (C i)).toList hcn.2.2
      refine hK.out _ _ ⟨hBe, hse⟩ (fun hHeld => ?_)
      clear hK K hoc
      simp only [sA0, sB0, sC0]
      generalize w5.setCells cb 0 (CA (C i)).toList = we at hOe hBe hse hCe hKe ⊢
      exact key we cb ⟨hOe, hBe, hse, hCe, hKe, hcn⟩
    ·refine AllReadyH.cons rfl (fun K hK => ?_) AllReadyH.nil
     have hO2 := HO2.out
     have hB2 := HB2.out
     have hs2 := HS2.out
     have hK2 := HK2.out
     go_simp
     obtain ⟨cb, hcb⟩ : ∃ c, w2.heap.size = c := ⟨_, rfl⟩
     obtain ⟨w3, hw3⟩ : ∃ x, w2.alloc (.cells (CA fun _ => 0) 64) = x := ⟨_, rfl⟩
     have hO3 : Own w3 (plus1 (plus1 X sb) cb) mp (M.gone cc ll) := by rw [← hw3, ← hcb]; exact hO2.one _
     have hB3 : Box w3 lp 127 (LvA mp f N S T ov mb) := by rw [← hw3]; exact hB2.alloc _
     have hs3 : Box w3 sb 153 #[.int .i64 (sr : Int), .int .i64 (sa : Int)] := by rw [← hw3]; exact hs2.alloc _
     have hC3 : Var w3 cb (fun _ => 0) := by rw [← hw3, ← hcb]; exact Var.new w2 _ _
     have hK3 : Kept X w9 w3 := by rw [← hw3]; exact hK2.alloc _
     have hcn : lp < cb ∧ sb < cb ∧ w9.heap.size ≤ cb := ⟨by rw [← hcb]; exact hB2.lt, by rw [← hcb]; exact hs2.lt, by rw [← hcb]; exact hK2.size⟩
     refine hK.out _ _ ⟨hB2.alloc _, hs2.alloc _⟩ (fun hHeld => ?_)
     change wpAnyH _ _ _ _ _ _ _ _ (w2.alloc (.cells (CA fun _ => 0) 64))
     rw [hw3]
     simp only [hcb]
     clear hK K hw3
     simp only [sA0, sB0, sC0]
     refine one_ready 8 rfl (by kernel_rfl) (fun K hK => ?_)
     go_simp
     refine (HT.out _).mono ?_
     rintro e w4 ⟨rfl, hb⟩
     have ho : Only nobody w3 w4 := Only.of_below hb
     have hO4 := hO3.none ho
     have hB4 := hB3.only ho (not_nobody _)
     have hs4 := hs3.only ho (not_nobody _)
     have hK4 := hK3.trans (Kept.of_none ho)
     have hC4 := hC3.nob ho
     refine hK.out _ _ ⟨hB4, hs4⟩ (fun hHeld => ?_)
     clear hK K hb ho
     simp only [sA0, sB0, sC0]
     refine one_ready 10 rfl (by kernel_rfl) (fun K hK => ?_)
     go_simp
     refine (own_read (plus1 (plus1 X sb) cb) mp (M.gone cc ll) w4 ((f + 2 : Nat) : Int) (i : Int) hO4 (by rw [gone_len]; omega)).mono ?_
     rintro e w5 ⟨rfl, hO5, hk⟩
     rw [gone_read (by omega) (by omega)] at hO5
     rw [gone_cell (by omega) (by omega), HCELL.out]
     have hB5 := hk.box hB4 (.inl (.inl hX1))
     have hs5 := hk.box hs4 (.inl (.inr rfl))
     have hK5 := hK4.trans (hk.mono (fun i hi => .inl (.inl hi)))
     have hC5 := hC4.kept hk (.inr rfl)
     refine hK.out _ _ ⟨hB5, hs5⟩ (fun hHeld => ?_)
     clear hK K hk
     simp only [sA0, sB0, sC0]
     refine one_ready 12 (o := ⟨none, _, _, _, _, _⟩) rfl (by kernel_rfl) (fun K hK => ?_)
     refine step_store_cell rfl (.tmp 6) (.tmp 24) rfl cb 0 rfl (C i) rfl hC5.there ?_
     have hoc : Only (just cb) w5 (w5.setCells cb 0 (CA (C i)).toList) := only_setCells _ 0 _ (Only.refl _ _) (.inl (just_self cb))
     have hOe := hO5.setCells cb (CA (C i)).toList (.inr rfl)
     have hBe := hB5.only hoc (just_ne (by omega))
     have hse := hs5.only hoc (just_ne (by omega))
     have hCe := hC5.set (C i)
     have hKe := hK5.setCells cb (CA (C i)).toList hcn.2.2
     refine hK.out _ _ ⟨hBe, hse⟩ (fun hHeld => ?_)
     clear hK K hoc
     simp only [sA0, sB0, sC0]
     generalize w5.setCells cb 0 (CA (C i)).toList = we at hOe hBe hse hCe hKe ⊢
     exact key we cb ⟨hOe, hBe, hse, hCe, hKe, hcn⟩
   intro w5 cb hkey
   obtain ⟨hO5, hB5, hs5, hC5, hK5, hcn⟩ := hkey
   refine wpAnyH_done (by kernel_rfl) ?_ _
   have hfc := hC5.free 11 (by decide)
   have hcc11 := hC5.cell (κ := 11) (by decide)
   have hO6 := hO5.only (Only.setCell (p := ⟨cb, 11, none⟩) (Only.refl (just cb) w5) (.inl (just_self cb)) (.int .u64 0)) (fun j hj => by have e : j = cb := hj; subst e; exact .inr rfl)
   have hB6 := hB5.far (a := ⟨cb, 11, none⟩) (by show lp ≠ cb; omega) (.int .u64 0)
   have hs6 := hs5.far (a := ⟨cb, 11, none⟩) (by show sb ≠ cb; omega) (.int .u64 0)
   have hC6 := hC5.put 11 0
   have hK6 : Kept X w9 (w5.setCell ⟨cb, 11, none⟩ (.int .u64 0)) := Only.setCell (p := ⟨cb, 11, none⟩) hK5 (.inr hcn.2.2) (.int .u64 0)
   have HO6 := Lib.hid hO6
   have HB6 := Lib.hid hB6
   have HS6 := Lib.hid hs6
   have HC6 := Lib.hid hC6
   have HK6 := Lib.hid hK6
   clear hO5 hB5 hs5 hC5 hK5 hO6 hB6 hs6 hC6 hK6
   go_upto_region 5 with fail
   clear hfc hcc11
   generalize w5.setCell ⟨cb, 11, none⟩ (.int .u64 0) = w6 at *
   refine held_s (S := fun w' => Box w' lp 127 (LvA mp f N S T ov mb) ∧ Box w' sb 153 #[.int .i64 (sr : Int), .int .i64 (sa : Int)] ∧ Var w' cb (setw (C i) 11 0)) 10 rfl (by kernel_rfl) ⟨HB6.out.drewN 1, HS6.out.drewN 1, HC6.out.drew⟩ (fun hHeld => ?_)
   simp only [qA0, qB0, qC0, List.nil_append, List.cons_append]
   have hO7 : Own w6.drew (plus1 (plus1 X sb) cb) mp (M.gone cc (ll ++ [(f + 2, i, false)])) := HO6.out.drewN 1
   have hB7 : Box w6.drew lp 127 (LvA mp f N S T ov mb) := HB6.out.drewN 1
   have hs7 : Box w6.drew sb 153 #[.int .i64 (sr : Int), .int .i64 (sa : Int)] := HS6.out.drewN 1
   have hC7 : Var w6.drew cb (setw (C i) 11 0) := HC6.out.drew
   have hK7 : Kept X w9 w6.drew := HK6.out.drewN 1
   clear HO6 HB6 HS6 HC6 HK6
   generalize w6.drew = w7 at *
   refine tk1 0 26 (.pointer (some ⟨lp, 0, none⟩)) rfl (Or.inl ⟨by rfl, fun w' hw => by go_simp⟩) hHeld ?_
   try simp only [Act.put, sA0, sB0, sC0]
   refine tk1 1 27 (.pointer (some ⟨lp, 0, none⟩)) rfl (Or.inl ⟨by rfl, fun w' hw => by go_simp⟩) hHeld ?_
   try simp only [Act.put, sA0, sB0, sC0]
   refine tk1 2 28 (.pointer (some ⟨lp, 0, none⟩)) rfl (Or.inl ⟨by rfl, fun w' hw => by go_simp⟩) hHeld ?_
   try simp only [Act.put, sA0, sB0, sC0]
   refine tk1 3 29 (.pointer (some ⟨mp, 0, none⟩)) rfl (Or.inl ⟨by rfl, fun w' hw => by (have k0 := lv0 hw.1; have k1 := lv1 hw.1; have k2 := lv2 hw.1; have k3 := lv3 hw.1; have k4 := lv4 hw.1; have s0 := hw.2.1.cell 0; have s1 := hw.2.1.cell 1; go_simp)⟩) hHeld ?_
   try simp only [Act.put, sA0, sB0, sC0]
   refine tk1 4 30 (.pointer (some ⟨sb, 0, none⟩)) rfl (Or.inl ⟨by rfl, fun w' hw => by go_simp⟩) hHeld ?_
   try simp only [Act.put, sA0, sB0, sC0]
   refine tk1 5 31 (.int .i64 (sr : Int)) rfl (Or.inl ⟨by rfl, fun w' hw => by (have k0 := lv0 hw.1; have k1 := lv1 hw.1; have k2 := lv2 hw.1; have k3 := lv3 hw.1; have k4 := lv4 hw.1; have s0 := hw.2.1.cell 0; have s1 := hw.2.1.cell 1; go_simp)⟩) hHeld ?_
   try simp only [Act.put, sA0, sB0, sC0]
   refine tk1 6 32 (.pointer (some ⟨sb, 1, none⟩)) rfl (Or.inl ⟨by rfl, fun w' hw => by go_simp⟩) hHeld ?_
   try simp only [Act.put, sA0, sB0, sC0]
   refine tk1 7 33 (.int .i64 (sa : Int)) rfl (Or.inl ⟨by rfl, fun w' hw => by (have k0 := lv0 hw.1; have k1 := lv1 hw.1; have k2 := lv2 hw.1; have k3 := lv3 hw.1; have k4 := lv4 hw.1; have s0 := hw.2.1.cell 0; have s1 := hw.2.1.cell 1; go_simp)⟩) hHeld ?_
   try simp only [Act.put, sA0, sB0, sC0]
   refine take_row 8 (oi := ⟨some 34, _, _, _, _, _⟩) (CA (setw (C i) 11 0)).toList rfl (by kernel_rfl) (by kernel_rfl) (by kernel_rfl) (fun _ _ _ h => h) (by rfl) _ _ rfl _ _ rfl _ (fun w' hw => hw.2.2.rng) Tryz.underlying64 rfl (infoCellL (setw (C i) 11 0)) hHeld ?_
   try simp only [Act.put, sA0, sB0, sC0]
   refine one_ready 9 rfl (by kernel_rfl) (fun K hK => ?_)
   go_simp
   refine (own_write _ mp (M.gone cc (ll ++ [(f + 2, i, false)])) w7 (sr : Int) (sa : Int) (setw (C i) 11 0) hO7 (by rw [gone_len, List.length_append]; simp only [List.length_cons, List.length_nil]; omega)).mono ?_
   rintro e w8 ⟨rfl, ho, hk⟩
   rw [gone_write hr ha, HSUC.out, ← HEV.out] at ho
   have hB8 := hk.box hB7 (.inl (.inl hX1))
   have hs8 := hk.box hs7 (.inl (.inr rfl))
   have hC8 := hC7.kept hk (.inr rfl)
   have HE : Hid (GbAt w X mp f (spot S D f lf) M (fun i => setw (C i) 11 0) (evG S D f lf (i + 1)) (i + 1) w8) := Lib.hid ⟨ho.weak (fun j hj => .inl (.inl hj)), (HK.out.trans hK7).trans (hk.mono (fun j hj => .inl (.inl hj)))⟩
   refine hK.out _ _ ⟨hB8, hs8, hC8⟩ (fun hHeld => ?_)
   clear hK K hk ho hO7 hB7 hs7 hC7 hK7 hB8 hs8 hC8
   simp only [sA0, sB0, sC0]
   refine wpAnyH_done (by kernel_rfl) ?_ _
   go_wp2_with fail
   go_roundw
   case rel => exact ⟨i + 1, by go_num, by omega, HE.out⟩
   case measure => simp [intOf]; omega
  ·obtain rfl : i = L + T := by omega
   clear hS
   go_wp2_with fail
   go_end0
   exact ⟨rfl, HS.out⟩
end Go.Proofs.YtknnebhjldfkhaaGreat

