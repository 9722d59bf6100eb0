/- Texts of ours put together: LevelSpots, LevelAt. -/
import Derived.Test.YtdbjaaalngbpgaaGreatG18
import Derived.Test.YtdbjaaalngbpgaaGreatG26
import Derived.Test.YtdbjaaalngbpgaaGreatG33
import Derived.Test.YtdbjaaalngbpgaaGreatG27
import Derived.Test.YtdbjaaalngbpgaaGreatG45
/- level: the cells that an access looks at, and those of the table, in new slices. Nothing that was in memory changes. -/
namespace Go.Proofs.YtdbjaaalngbpgaaGreat
set_option maxRecDepth 100000
open Go.RowKit Go.ChangeShapes Go.WideShapes Go.ChangeAt

abbrev Sp := Nat × Nat
/-- Spots as cells. -/
def spl (l : List Sp) : List Value := l.flatMap fun x => [.int .i64 (x.1 : Nat), .int .i64 (x.2 : Nat)]
theorem spl_len (l : List Sp) : (spl l).length = l.length * 2 := by
  induction l with
  | nil => rfl
  | cons x l ih => unfold spl at *; rw [List.flatMap_cons, List.length_append, ih]; simp; omega
theorem spl_snoc (l : List Sp) (x : Sp) : spl (l ++ [x]) = spl l ++ [.int .i64 (x.1 : Nat), .int .i64 (x.2 : Nat)] := by unfold spl; rw [List.flatMap_append]; simp
theorem spl_at : ∀ (l : List Sp) (j : Nat) (h : j < l.length), (spl l)[j * 2]? = some (.int .i64 (l[j].1 : Nat)) ∧ (spl l)[j * 2 + 1]? = some (.int .i64 (l[j].2 : Nat))
  | [], j, h => by simp at h
  | x :: l, 0, _ => by simp [spl]
  | x :: l, j + 1, h => by
    have ih := spl_at l j (by simpa using h)
    unfold spl at *
    rw [List.flatMap_cons]
    rw [show (j + 1) * 2 = j * 2 + 1 + 1 by omega]
    simpa using ih
theorem infoSpot : (Tryz.prog.info? 124).map (fun i => (i.zero, i.size, i.bytes)) = some (some (.agg #[.int .i64 0, .int .i64 0]), 2, 16) := by kernel_rfl
theorem new_pair (W : World) (t : TypeId) (a b : Value) {k : Nat} (hk : k = W.heap.size) : ∀ j u, [a, b][j]? = some u → (W.alloc (.cells #[a, b] t)).cell? ((⟨k, 0, none⟩ : Addr).add j) = some u := by
  subst hk
  intro j u h
  have hb := Box.new W t #[a, b]
  have := hb.cell j
  rw [add_plain, Nat.zero_add, this]
  simpa using h
/-- Spots in a slice of the call's own that grows. -/
structure SqAt (w1 : World) (v : Value) (l : List Sp) (wr : World) : Prop where
  own : wr.ownsRow w1.heap.size 124 2 v l.length (spl l)
  below : Below w1.heap.size w1 wr
theorem SqAt.nil (w : World) : SqAt w (.slice none 0 0) [] w := ⟨World.ownsRow_nil _ _ _ _, Below.refl _ _⟩
theorem SqAt.grow {w1 wr wx : World} {v : Value} {l : List Sp} (h : SqAt w1 v l wr) (hb : Below wr.heap.size wr wx) : SqAt w1 v l wx :=
  ⟨row_stay h.own (fun b _ hl => hb.block b hl), h.below.trans (hb.mono h.below.size)⟩
theorem SqAt.next {u : TypeId} {w1 : World} {v : Value} {l : List Sp} {x : Sp} {A : Option Addr} {cap : Nat} {wx w7 : World} (h : SqAt w1 v l wx)
    (ho : w7.ownsRow w1.heap.size 124 2 (.slice A (l.length + 1) cap) (l.length + 1) (spl l ++ [.int .i64 (x.1 : Nat), .int .i64 (x.2 : Nat)])) (hg : (wx.alloc (.cells #[.int .i64 (x.1 : Nat), .int .i64 (x.2 : Nat)] u)).grownBy w7 v.ownBlock) :
    SqAt w1 (.slice A (l.length + 1) cap) (l ++ [x]) w7 := by
  constructor
  · rw [List.length_append, spl_snoc]
    exact ho
  · exact (h.below.alloc h.below.size _).grown hg (by have := h.below.size; simp; omega) (fun b e => (own_lt h.own e).1)
theorem SqAt.keep {u : TypeId} {w1 : World} {v : Value} {l : List Sp} {x y : Value} {wx w7 : World} (h : SqAt w1 v l wx) (hg : (wx.alloc (.cells #[x, y] u)).grownBy w7 v.ownBlock) (b : Nat) (hb : b < w1.heap.size) : w7.heap[b]? = wx.heap[b]? :=
  (hg.block b (by have := h.below.size; simp; omega) (fun e => by have := (own_lt h.own e.symm).1; omega)).trans (Below.heap_alloc wx _ b (by have := h.below.size; omega))
/-- Spots in a new slice. -/
structure Sps (w : World) (base g n : Nat) (z : Nat → Sp) : Prop where
  old : base ≤ g
  lt : g < w.heap.size
  cell : ∀ j, j < n → w.cell? ⟨g, j * 2, none⟩ = some (.int .i64 ((z j).1 : Nat)) ∧ w.cell? ⟨g, j * 2 + 1, none⟩ = some (.int .i64 ((z j).2 : Nat))
theorem Sps.block {w w' : World} {base g n : Nat} {z : Nat → Sp} (h : Sps w base g n z) (hs : w.heap.size ≤ w'.heap.size) (hb : w'.heap[g]? = w.heap[g]?) : Sps w' base g n z :=
  ⟨h.old, Nat.lt_of_lt_of_le h.lt hs, fun j hj => ⟨(World.cell?_of_block (w := w) hb).trans (h.cell j hj).1, (World.cell?_of_block (w := w) hb).trans (h.cell j hj).2⟩⟩
theorem Sps.kept {w w' : World} {base g n : Nat} {z : Nat → Sp} {X : Nat → Prop} (h : Sps w base g n z) (hk : Kept X w w') (hx : X g) : Sps w' base g n z :=
  h.block hk.size (hk.block g h.lt (fun k => k hx))
theorem SqAt.out {w wr : World} {v : Value} {l : List Sp} (h : SqAt w v l wr) (hl : 0 < l.length) (z : Nat → Sp) (hz : ∀ j, (hj : j < l.length) → l[j] = z j) :
    ∃ g cap, v = .slice (some ⟨g, 0, none⟩) l.length cap ∧ Sps wr w.heap.size g l.length z := by
  have h' := h.own
  rcases h.own.2 with ⟨rfl, h0⟩ | ⟨g, cap, cur, rfl, hb, hg, hn, _⟩
  · omega
  · refine ⟨g, cap, rfl, ⟨hb, (Array.getElem?_eq_some_iff.1 hg).1, fun j hj => ?_⟩⟩
    obtain ⟨a1, a2⟩ := spl_at l j hj
    rw [hz j hj] at a1 a2
    have c1 := h'.cells (g := g) rfl (j * 2) _ a1
    have c2 := h'.cells (g := g) rfl (j * 2 + 1) _ a2
    rw [add_plain, Nat.zero_add] at c1 c2
    exact ⟨c1, c2⟩
def SpPost (w : World) (n : Nat) (z : Nat → Sp) (e : Ending) (w' : World) : Prop :=
  ∃ g cap, e = .returned (.slice (some ⟨g, 0, none⟩) n cap) ∧ Sps w' w.heap.size g n z ∧ Below w.heap.size w w'
/-- The first m of them. -/
def spL (z : Nat → Sp) (m : Nat) : List Sp := (List.range m).map z
theorem spL_len (z : Nat → Sp) (m : Nat) : (spL z m).length = m := by simp [spL]
theorem spL_succ (z : Nat → Sp) (m : Nat) : spL z (m + 1) = spL z m ++ [z m] := by simp [spL, List.range_succ]
theorem sq_post {w w' : World} {v : Value} {n m : Nat} {z : Nat → Sp} (h : SqAt w v (spL z n) w') (hn : 0 < n) (hm : m = n) : SpPost w m z (.returned v) w' := by
  subst hm
  obtain ⟨g, cap, rfl, hs⟩ := h.out (by rw [spL_len]; exact hn) z (fun j hj => by simp [spL])
  rw [spL_len] at hs ⊢
  exact ⟨g, cap, rfl, hs, h.below⟩
/-- The plan's cells. -/
def plA (f N S T : Nat) : Array Value := #[.int .i64 (f : Int), .int .i64 (N : Int), .int .i64 (S : Int), .int .i64 (T : Int)]
set_option maxRecDepth 100000 in
set_option maxHeartbeats 2000000 in
theorem table_spots {N S T D L n Q P : Nat} (h : Conf N S T D L n Q P) (f : Nat) (hf : f ≤ 100) (w : World) :
    Calls Tryz.prog 62 #[.agg (plA f N S T)] w (SpPost w Q (fun i => (f + 2, i))) := by
  have HR := Lib.hid (fun W => round_of h W)
  have HT := Lib.hid (fun W => table_at f (N : Int) (S : Int) (T : Int) W hf)
  have hQ := h.big.2.2.2
  have hQ0 := h.le
  have hQ1 := h.big.2.1
  clear h
  obtain ⟨b, hb⟩ : ∃ b, w.heap.size = b := ⟨_, rfl⟩
  obtain ⟨w2, hw2⟩ : ∃ w2, w.alloc (.cells (plA f N S T) 95) = w2 := ⟨_, rfl⟩
  have hx : Box w2 b 95 (plA f N S T) := by rw [← hw2, ← hb]; exact Box.new w _ _
  have hs2 : w2.heap.size = b + 1 := by rw [← hw2, ← hb]; simp
  have hbl : Below w.heap.size w w2 := by rw [← hw2]; exact (Below.refl _ w).alloc (Nat.le_refl _) _
  have HB := Lib.hid hbl
  have HX := Lib.hid hx
  have HS2 := Lib.hid hs2
  have HW2 := Lib.hid hw2
  have HBb := Lib.hid hb
  have p1 : w2.cell? ⟨b, 1, none⟩ = some (.int .i64 (N : Int)) := hx.cell 1
  have p2 : w2.cell? ⟨b, 2, none⟩ = some (.int .i64 (S : Int)) := hx.cell 2
  have p3 : w2.cell? ⟨b, 3, none⟩ = some (.int .i64 (T : Int)) := hx.cell 3
  clear hx hbl hw2 hb hs2
  go_enter Tryz.func62, Tryz.ntmps62
  go_upto_region 1 with fail
  rw [HBb.out, HW2.out]
  go_wp2_with fail
  refine (HR.out _).mono ?_
  rintro e w3 ⟨rfl, hb3⟩
  have HX3 := Lib.hid (HX.out.of (hb3.block _ HX.out.lt))
  have HA : Hid (SqAt w2 (.slice none 0 0) (spL (fun i => (f + 2, i)) 0) w3) := Lib.hid ((SqAt.nil w2).grow hb3)
  clear hb3 p1 p2 p3 HX
  go_wp2_with fail
  go_loopw [3, 8] (fun v3 v8 wr => ∃ i : Nat, v8 = .int .i64 i ∧ i ≤ Q ∧ SqAt w2 v3 (spL (fun i => (f + 2, i)) i) wr ∧ Box wr b 95 (plA f N S T)) (fun _ v _ => Q - (intOf v).toNat)
  case atStart => exact ⟨0, rfl, by omega, HA.out, HX3.out⟩
  case round =>
    obtain ⟨i, rfl, hi, hS, hX⟩ := hrel
    clear HA HX3
    have HS := Lib.hid hS
    have HX := Lib.hid hX
    have p0 : wr.cell? ⟨b, 0, none⟩ = some (.int .i64 (f : Int)) := hX.cell 0
    have p1 : wr.cell? ⟨b, 1, none⟩ = some (.int .i64 (N : Int)) := hX.cell 1
    have p2 : wr.cell? ⟨b, 2, none⟩ = some (.int .i64 (S : Int)) := hX.cell 2
    have p3 : wr.cell? ⟨b, 3, none⟩ = some (.int .i64 (T : Int)) := hX.cell 3
    clear hS hX
    by_cases hin : i < Q
    · go_wp2_with fail
      refine (HT.out _).mono ?_
      rintro e w4 ⟨rfl, hb4⟩
      have HS4 := Lib.hid (HS.out.grow hb4)
      have HX4 := Lib.hid (HX.out.of (hb4.block _ HX.out.lt))
      have hll := spL_len (fun i => (f + 2, i)) i
      have HSu := Lib.hid (spL_succ (fun i => (f + 2, i)) i)
      have hsz : w2.heap.size ≤ w4.heap.size := HS4.out.below.size
      clear hb4 p0 p1 p2 p3 HS HX
      generalize hlq : spL (fun i => (f + 2, i)) i = lq at *
      have HLq := Lib.hid hlq
      have hlb : lq.length ≤ 256 := by omega
      have HLl := Lib.hid hll
      clear hlq hll
      go_wp2_with (with_reducible refine wpList_append_where _ rfl (.tmp 11) (.tmp 16) 100 rfl w2.heap.size 124 (.agg #[.int .i64 0, .int .i64 0]) 2 16 Tryz.underlying100 infoSpot rfl (by decide) u3 lq.length (spl lq) rfl (row_stay HS4.out.own (fun b _ hb => Below.heap_alloc _ _ b hb)) ⟨w4.heap.size, 0, none⟩ 1 1 [.int .i64 ((f + 2 : Nat) : Int), .int .i64 (i : Int)] rfl rfl ?c0 ?c1 ?c2 ?c3 ?c4 ?_)
      case c0 => first | exact new_pair w4 _ _ _ rfl | exact fun j u hu => hu
      case c1 => simp [Value.oneCell']
      case c2 => simp only [maxLen]; omega
      case c3 => omega
      case c4 => first | omega | (simp; omega)
      intro A2 cap2 w7 hown hgr _
      have HS7 := Lib.hid (HS4.out.next (x := (f + 2, i)) hown hgr)
      have HX7 := Lib.hid (HX4.out.of (HS4.out.keep hgr b (by have := HS2.out; omega)))
      clear hown hgr HS4 HX4
      go_wp2_with fail
      go_roundw
      case rel => exact ⟨i + 1, by go_num, by omega, by rw [HSu.out]; exact HS7.out, HX7.out⟩
      case measure => simp [intOf]; omega
    · obtain rfl : i = Q := by omega
      have HE : Hid (SpPost w i (fun i => (f + 2, i)) (.returned u3) wr) := Lib.hid (by
        obtain ⟨g, cap, he, hs, hb⟩ := sq_post HS.out (by omega) rfl
        have h1 := HB.out.size
        exact ⟨g, cap, he, ⟨Nat.le_trans h1 hs.old, hs.lt, hs.cell⟩, HB.out.trans (hb.mono h1)⟩)
      clear HS HX p0 p1 p2 p3
      go_wp2_with fail
      go_ret
      exact HE.out

theorem spot_tree {S D L f lf k s : Nat} (hS : s < S) (hL : (D + 1) * S = L) (hk : k ≤ D) : spot S D f lf (k * S + s) = (f, nd D lf k * S + s) ∧ k * S + s < L := by
  have h1 : (k + 1) * S ≤ (D + 1) * S := Nat.mul_le_mul_right _ (by omega)
  rw [Nat.add_mul, Nat.one_mul] at h1
  have h2 : (k * S + s) / S = k := by
    rw [Nat.mul_comm, Nat.mul_add_div (by omega), Nat.div_eq_of_lt hS, Nat.add_zero]
  have h3 : (k * S + s) % S = s := by rw [Nat.mul_comm, Nat.mul_add_mod, Nat.mod_eq_of_lt hS]
  refine ⟨?_, by omega⟩
  unfold spot wayQ
  rw [if_pos (by omega), h2, h3]
  rfl
theorem spot_stash {S D L f lf i : Nat} (hL : (D + 1) * S = L) : spot S D f lf (L + i) = (f + 1, i) := by
  unfold spot wayQ
  rw [if_neg (by omega)]
  show (f + 1, L + i - (D + 1) * S) = _
  rw [hL]
  simp
set_option maxRecDepth 100000 in
set_option maxHeartbeats 4000000 in
theorem way_spots {N S T D L n Q P : Nat} (h : Conf N S T D L n Q P) (f lf : Nat) (hf : f ≤ 100) (hlf : lf < N) (w : World) :
    Calls Tryz.prog 45 #[.agg (plA f N S T), .int .i64 (lf : Int)] w (SpPost w (L + T) (spot S D f lf)) := by
  have HW := Lib.hid (fun W => way_in D N lf W h.hD h.hN hlf)
  have HTr := Lib.hid (fun W => tree_at f (N : Int) (S : Int) (T : Int) W)
  have HSt := Lib.hid (fun W => stash_at f (N : Int) (S : Int) (T : Int) W hf)
  have hD := h.hD
  have s8 := h.s8
  have t64 := h.t64
  have t1 := h.t1
  have hLb := h.big.1
  have HL := Lib.hid h.hL
  have HN := Lib.hid h.hN
  have hlf2 : lf < 2 ^ D := by rw [h.hN]; exact hlf
  have HLf := Lib.hid hlf2
  have hN1 := h.n1
  obtain ⟨E, hE⟩ : ∃ E, D + 1 = E := ⟨_, rfl⟩
  have HEe := Lib.hid hE
  have hE2 : E = D + 1 := hE.symm
  clear h hlf2 hlf hE
  obtain ⟨z, hz⟩ : ∃ z, spot S D f lf = z := ⟨_, rfl⟩
  have HZt : Hid (∀ k s, s < S → k ≤ D → z (k * S + s) = (f, nd D lf k * S + s) ∧ k * S + s < L) := Lib.hid (fun k s hs hk => by rw [← hz]; exact spot_tree hs HL.out hk)
  have HZs : Hid (∀ i, z (L + i) = (f + 1, i)) := Lib.hid (fun i => by rw [← hz]; exact spot_stash HL.out)
  rw [hz]
  clear hz
  obtain ⟨b, hb⟩ : ∃ b, w.heap.size = b := ⟨_, rfl⟩
  obtain ⟨w2, hw2⟩ : ∃ w2, w.alloc (.cells (plA f N S T) 95) = w2 := ⟨_, rfl⟩
  have hx : Box w2 b 95 (plA f N S T) := by rw [← hw2, ← hb]; exact Box.new w _ _
  have hs2 : w2.heap.size = b + 1 := by rw [← hw2, ← hb]; simp
  have hbl : Below w.heap.size w w2 := by rw [← hw2]; exact (Below.refl _ w).alloc (Nat.le_refl _) _
  have HB := Lib.hid hbl
  have HX := Lib.hid hx
  have HS2 := Lib.hid hs2
  have HW2 := Lib.hid hw2
  have HBb := Lib.hid hb
  have p1 : w2.cell? ⟨b, 1, none⟩ = some (.int .i64 (N : Int)) := hx.cell 1
  clear hx hbl hw2 hb hs2
  go_enter Tryz.func45, Tryz.ntmps45
  go_upto_region 1 with fail
  rw [HBb.out, HW2.out]
  go_wp2_with fail
  refine (HW.out _).mono ?_
  rintro e w3 ⟨gw, cw, rfl, hcw, hir, hb3⟩
  rw [HEe.out]
  have hgw : b + 1 ≤ gw ∧ gw < w3.heap.size := ⟨by have := hir.old; have := HS2.out; omega, hir.lt⟩
  have HX3 := Lib.hid (HX.out.of (hb3.block _ HX.out.lt))
  have HIr := Lib.hid hir.cell
  have HB3 := Lib.hid (HB.out.trans (hb3.mono HB.out.size))
  have HA : Hid (SqAt w3 (.slice none 0 0) (spL z 0) w3) := Lib.hid (SqAt.nil w3)
  have hbs : b < w3.heap.size := by omega
  clear hb3 hir p1 HX HW hcw
  have HE2 := Lib.hid hE2
  clear hE2
  go_wp2_with fail
  go_loopw [5, 16] (fun v5 v16 wr => ∃ k : Nat, v16 = .int .i64 k ∧ k ≤ E ∧ SqAt w3 v5 (spL z (k * S)) wr) (fun _ v _ => E - (intOf v).toNat)
  case atStart => exact ⟨0, rfl, by omega, by rw [Nat.zero_mul]; exact HA.out⟩
  case round =>
    obtain ⟨k, rfl, hk, hS⟩ := hrel
    clear HA
    have HS := Lib.hid hS
    have hXr := HX3.out.of (hS.below.block b hbs)
    have p2 : wr.cell? ⟨b, 2, none⟩ = some (.int .i64 (S : Int)) := hXr.cell 2
    have p3 : wr.cell? ⟨b, 3, none⟩ = some (.int .i64 (T : Int)) := hXr.cell 3
    have HXr := Lib.hid hXr
    clear hXr
    by_cases hkE : k < E
    · have hkD : k ≤ D := by have := HE2.out; omega
      have ck := (World.cell?_of_block (w := w3) (hS.below.block gw hgw.2)).trans (HIr.out k (by omega))
      have hnd := nd_in D lf k hkD HLf.out
      have hmul : (2 * 2 ^ D - 1) * S ≤ 2047 * 8 := Nat.mul_le_mul (by rw [HN.out]; omega) s8
      have hmul2 : (nd D lf k + 1) * S ≤ (2 * 2 ^ D - 1) * S := Nat.mul_le_mul_right _ hnd
      rw [Nat.add_mul, Nat.one_mul] at hmul2
      have HZk := Lib.hid (fun s (hs : s < S) => HZt.out k s hs hkD)
      generalize hndq : nd D lf k = nk at *
      have hms : (nk : Int) * (S : Int) = ((nk * S : Nat) : Int) := by simp
      have hwm : IntKind.i64.wrap ((nk : Int) * (S : Int)) = ((nk * S : Nat) : Int) := by rw [hms, IntKind.wrap_i64]; omega
      have hmb : nk * S ≤ 20000 := by omega
      have e1 : (k + 1) * S = k * S + S := by rw [Nat.add_mul, Nat.one_mul]
      have HE1 := Lib.hid e1
      clear hS hnd hmul hmul2 hndq hms e1
      generalize nk * S = m at *
      generalize k * S = ks at *
      go_wp2_with fail
      clear ck
      go_loopw [5, 23] (fun v5 v23 wr => ∃ s : Nat, v23 = .int .i64 s ∧ s ≤ S ∧ SqAt w3 v5 (spL z (ks + s)) wr) (fun _ v _ => S - (intOf v).toNat)
      case atStart => exact ⟨0, rfl, by omega, HS.out⟩
      case round =>
        obtain ⟨s, rfl, hs, hSs⟩ := hrel
        have HSs := Lib.hid hSs
        by_cases hsS : s < S
        · obtain ⟨q, hq⟩ : ∃ q, m + s = q := ⟨_, rfl⟩
          have hwa : IntKind.i64.wrap ((m : Int) + (s : Int)) = (q : Int) := by rw [IntKind.wrap_i64]; omega
          have hll := spL_len z (ks + s)
          have HSu := Lib.hid (spL_succ z (ks + s))
          have hzk := HZk.out s hsS
          rw [hzk.1, hq] at HSu
          have hksL := hzk.2
          clear hSs hzk hq
          generalize hlq : spL z (ks + s) = lq at *
          have hlb : lq.length ≤ 256 := by omega
          clear hlq hll hksL
          have HS5 := Lib.hid (HSs.out.grow ((Below.refl wr.heap.size wr).drew))
          have hXs := (HX3.out.of (HSs.out.below.block b hbs)).drewN 1
          have p2 := hXs.cell 2
          clear HSs p2
          go_upto_region 8 with fail
          refine held_s (S := fun w' => Box w' b 95 (plA f N S T)) 14 rfl (by kernel_rfl) hXs (fun hHeld => ?_)
          simp only [Array.replicate_succ, Array.replicate_zero, List.push_toArray, List.nil_append, List.cons_append]
          clear hXs
          generalize wr.drew = w5 at *
          refine wpAnyH_take (i := 0) (oi := ⟨some 26, _, _, _, _, _⟩) (v := (u5)) rfl (by kernel_rfl) (by kernel_rfl) (by kernel_rfl) (fun _ _ _ h => h) (Or.inl ⟨by rfl, fun w' hw => by go_simp⟩) hHeld ?_
          try simp only [Act.put, List.setIfInBounds_toArray, List.set_cons_zero, List.set_cons_succ]
          refine wpAnyH_take (i := 1) (oi := ⟨some 27, _, _, _, _, _⟩) (v := (.agg #[.int .i64 (f : Int), .int .i64 (N : Int), .int .i64 (S : Int), .int .i64 (T : Int)])) rfl (by kernel_rfl) (by kernel_rfl) (by kernel_rfl) (fun _ _ _ h => h) (Or.inl ⟨by rfl, fun w' hw => by (have k0 := hw.cell 0; have k1 := hw.cell 1; have k2 := hw.cell 2; have k3 := hw.cell 3; simp only [plA] at k0 k1 k2 k3; go_simp)⟩) hHeld ?_
          try simp only [Act.put, List.setIfInBounds_toArray, List.set_cons_zero, List.set_cons_succ]
          refine wpAnyH_take (i := 3) (oi := ⟨some 29, _, _, _, _, _⟩) (v := (.int .i64 (nk : Int))) rfl (by kernel_rfl) (by kernel_rfl) (by kernel_rfl) (fun _ _ _ h => h) (Or.inl ⟨by rfl, fun w' hw => by go_simp⟩) hHeld ?_
          try simp only [Act.put, List.setIfInBounds_toArray, List.set_cons_zero, List.set_cons_succ]
          refine wpAnyH_take (i := 4) (oi := ⟨some 30, _, _, _, _, _⟩) (v := (.pointer (some ⟨b, 1, none⟩))) rfl (by kernel_rfl) (by kernel_rfl) (by kernel_rfl) (fun _ _ _ h => h) (Or.inl ⟨by rfl, fun w' hw => by go_simp⟩) hHeld ?_
          try simp only [Act.put, List.setIfInBounds_toArray, List.set_cons_zero, List.set_cons_succ]
          refine wpAnyH_take (i := 5) (oi := ⟨some 31, _, _, _, _, _⟩) (v := (.pointer (some ⟨b, 2, none⟩))) rfl (by kernel_rfl) (by kernel_rfl) (by kernel_rfl) (fun _ _ _ h => h) (Or.inl ⟨by rfl, fun w' hw => by go_simp⟩) hHeld ?_
          try simp only [Act.put, List.setIfInBounds_toArray, List.set_cons_zero, List.set_cons_succ]
          refine wpAnyH_take (i := 6) (oi := ⟨some 32, _, _, _, _, _⟩) (v := (.int .i64 (S : Int))) rfl (by kernel_rfl) (by kernel_rfl) (by kernel_rfl) (fun _ _ _ h => h) (Or.inl ⟨by rfl, fun w' hw => by (have k0 := hw.cell 0; have k1 := hw.cell 1; have k2 := hw.cell 2; have k3 := hw.cell 3; simp only [plA] at k0 k1 k2 k3; go_simp)⟩) hHeld ?_
          try simp only [Act.put, List.setIfInBounds_toArray, List.set_cons_zero, List.set_cons_succ]
          refine wpAnyH_take (i := 7) (oi := ⟨some 33, _, _, _, _, _⟩) (v := (.int .i64 (m : Int))) rfl (by kernel_rfl) (by kernel_rfl) (by kernel_rfl) (fun _ _ _ h => h) (Or.inl ⟨by rfl, fun w' hw => by go_simp⟩) hHeld ?_
          try simp only [Act.put, List.setIfInBounds_toArray, List.set_cons_zero, List.set_cons_succ]
          refine wpAnyH_take (i := 8) (oi := ⟨some 34, _, _, _, _, _⟩) (v := (.int .i64 (s : Int))) rfl (by kernel_rfl) (by kernel_rfl) (by kernel_rfl) (fun _ _ _ h => h) (Or.inl ⟨by rfl, fun w' hw => by go_simp⟩) hHeld ?_
          try simp only [Act.put, List.setIfInBounds_toArray, List.set_cons_zero, List.set_cons_succ]
          refine wpAnyH_take (i := 9) (oi := ⟨some 35, _, _, _, _, _⟩) (v := (.int .i64 (q : Int))) rfl (by kernel_rfl) (by kernel_rfl) (by kernel_rfl) (fun _ _ _ h => h) (Or.inl ⟨by rfl, fun w' hw => by go_simp⟩) hHeld ?_
          try simp only [Act.put, List.setIfInBounds_toArray, List.set_cons_zero, List.set_cons_succ]
          refine one_ready 2 rfl (by kernel_rfl) (fun K hK => ?_)
          go_simp
          refine (HTr.out _).mono ?_
          rintro e w4 ⟨rfl, hb4⟩
          have HS4 := Lib.hid (HS5.out.grow hb4)
          have hX4 := hHeld.of (hb4.block b hHeld.lt)
          have hsz : w3.heap.size ≤ w4.heap.size := HS4.out.below.size
          refine hK.out _ _ hX4 (fun hHeld => ?_)
          clear hK K hb4
          simp only [List.setIfInBounds_toArray, List.set_cons_zero, List.set_cons_succ]
          refine wpAnyH_take (i := 10) (oi := ⟨some 36, _, _, _, _, _⟩) (v := (.agg #[.int .i64 (f : Int), .int .i64 (q : Int)])) rfl (by kernel_rfl) (by kernel_rfl) (by kernel_rfl) (fun _ _ _ h => h) (Or.inl ⟨by rfl, fun w' hw => by go_simp⟩) hHeld ?_
          try simp only [Act.put, List.setIfInBounds_toArray, List.set_cons_zero, List.set_cons_succ]
          refine one_ready 11 rfl (by kernel_rfl) (fun K hK => ?_)
          go_simp
          have hXa : Box (w4.alloc (.cells #[.int .i64 (f : Int), .int .i64 (q : Int)] 124)) b 95 (plA f N S T) := hX4.alloc _
          refine hK.out _ _ hXa (fun _ => ?_)
          clear hK K
          simp only [List.setIfInBounds_toArray, List.set_cons_zero, List.set_cons_succ]
          refine one_ready 12 rfl (by kernel_rfl) (fun K hK => ?_)
          refine step_append_where rfl (.tmp 26) (.tmp 37) 100 rfl w3.heap.size 124 (.agg #[.int .i64 0, .int .i64 0]) 2 16 Tryz.underlying100 infoSpot rfl (by decide) u5 lq.length (spl lq) rfl (row_stay HS4.out.own (fun b _ hb => Below.heap_alloc _ _ b hb)) ⟨w4.heap.size, 0, none⟩ 1 1 [.int .i64 (f : Int), .int .i64 (q : Int)] rfl rfl ?c0 ?c1 ?c2 ?c3 ?c4 ?_
          case c0 => exact new_pair w4 _ _ _ rfl
          case c1 => simp [Value.oneCell']
          case c2 => simp only [maxLen]; omega
          case c3 => omega
          case c4 => simp; omega
          intro A2 cap2 w7 hown hgr _
          have hX7 := hX4.of (HS4.out.keep hgr b hbs)
          have HS7 := Lib.hid (HS4.out.next (x := (f, q)) hown hgr)
          clear hown hgr HS4 hXa
          refine hK.out _ _ hX7 (fun hHeld => ?_)
          clear hK K
          simp only [List.setIfInBounds_toArray, List.set_cons_zero, List.set_cons_succ]
          refine wpAnyH_take (i := 13) (oi := ⟨some 5, _, _, _, _, _⟩) (v := (.slice A2 (lq.length + 1) cap2)) rfl (by kernel_rfl) (by kernel_rfl) (by kernel_rfl) (fun _ _ _ h => h) (Or.inl ⟨by rfl, fun w' hw => by go_simp⟩) hHeld ?_
          try simp only [Act.put, List.setIfInBounds_toArray, List.set_cons_zero, List.set_cons_succ]
          refine wpAnyH_done (by kernel_rfl) ?_ _
          go_wp2_with fail
          go_roundw
          case rel => exact ⟨s + 1, by go_num, by omega, by rw [← Nat.add_assoc, HSu.out]; exact HS7.out⟩
          case measure => simp [intOf]; omega
        · obtain rfl : s = S := by omega
          clear hSs
          go_wp2_with fail
          go_roundw
          case rel => exact ⟨k + 1, by go_num, by omega, by rw [HE1.out]; exact HSs.out⟩
          case measure => simp [intOf]; omega
    · obtain rfl : k = E := by omega
      have HS1 : Hid (SqAt w3 u5 (spL z (L + 0)) wr) := Lib.hid (by have := HS.out; rw [HE2.out, HL.out] at this; exact this)
      clear hS HS hkE hk
      go_wp2_with fail
      go_loopw [5, 44] (fun v5 v44 wr => ∃ i : Nat, v44 = .int .i64 i ∧ i ≤ T ∧ SqAt w3 v5 (spL z (L + i)) wr) (fun _ v _ => T - (intOf v).toNat)
      case atStart => exact ⟨0, rfl, by omega, HS1.out⟩
      case round =>
        obtain ⟨i, rfl, hi, hSi⟩ := hrel
        clear HS1 p2 p3 HXr
        have HSi := Lib.hid hSi
        have hXi := HX3.out.of (hSi.below.block b hbs)
        have p0 : wr.cell? ⟨b, 0, none⟩ = some (.int .i64 (f : Int)) := hXi.cell 0
        have p1 : wr.cell? ⟨b, 1, none⟩ = some (.int .i64 (N : Int)) := hXi.cell 1
        have p2 : wr.cell? ⟨b, 2, none⟩ = some (.int .i64 (S : Int)) := hXi.cell 2
        have p3 : wr.cell? ⟨b, 3, none⟩ = some (.int .i64 (T : Int)) := hXi.cell 3
        clear hSi hXi
        by_cases hiT : i < T
        · go_wp2_with fail
          refine (HSt.out _).mono ?_
          rintro e w4 ⟨rfl, hb4⟩
          have HS4 := Lib.hid (HSi.out.grow hb4)
          have hll := spL_len z (L + i)
          have HSu := Lib.hid (spL_succ z (L + i))
          rw [HZs.out i] at HSu
          have hsz : w3.heap.size ≤ w4.heap.size := HS4.out.below.size
          clear hb4 p0 p1 p2 p3 HSi
          generalize hlq : spL z (L + i) = lq at *
          have hlb : lq.length ≤ 256 := by omega
          clear hlq hll
          go_wp2_with (with_reducible refine wpList_append_where _ rfl (.tmp 47) (.tmp 52) 100 rfl w3.heap.size 124 (.agg #[.int .i64 0, .int .i64 0]) 2 16 Tryz.underlying100 infoSpot rfl (by decide) u5 lq.length (spl lq) rfl (row_stay HS4.out.own (fun b _ hb => Below.heap_alloc _ _ b hb)) ⟨w4.heap.size, 0, none⟩ 1 1 [.int .i64 ((f + 1 : Nat) : Int), .int .i64 (i : Int)] rfl rfl ?c0 ?c1 ?c2 ?c3 ?c4 ?_)
          case c0 => first | exact new_pair w4 _ _ _ rfl | exact fun j u hu => hu
          case c1 => simp [Value.oneCell']
          case c2 => simp only [maxLen]; omega
          case c3 => omega
          case c4 => first | omega | (simp; omega)
          intro A2 cap2 w7 hown hgr _
          have HS7 := Lib.hid (HS4.out.next (x := (f + 1, i)) hown hgr)
          clear hown hgr HS4
          go_wp2_with fail
          go_roundw
          case rel => exact ⟨i + 1, by go_num, by omega, by rw [← Nat.add_assoc, HSu.out]; exact HS7.out⟩
          case measure => simp [intOf]; omega
        · obtain rfl : i = T := by omega
          have HE : Hid (SpPost w (L + i) z (.returned u5) wr) := Lib.hid (by
            obtain ⟨g, cap, he, hs, hb⟩ := sq_post HSi.out (by omega) rfl
            have h1 := HB3.out.size
            exact ⟨g, cap, he, ⟨Nat.le_trans h1 hs.old, hs.lt, hs.cell⟩, HB3.out.trans (hb.mono h1)⟩)
          clear HSi p0 p1 p2 p3
          go_wp2_with fail
          go_ret
          exact HE.out
end Go.Proofs.YtdbjaaalngbpgaaGreat

/- level: what is handed to the level's steps: where it lies; fetch: the cells of a way and the stash are laid into the table, but the block's, which is told. -/
namespace Go.Proofs.YtdbjaaalngbpgaaGreat
set_option maxRecDepth 100000
open Go.RowKit Go.ChangeShapes Go.WideShapes Go.ChangeAt

/-- A level, as it lies in memory. -/
def LvA (mp f N S T : Nat) (ov : Bool) (mb : Option Nat) : Array Value := #[.pointer (some ⟨mp, 0, none⟩), .int .i64 (f : Int), .int .i64 (N : Int), .int .i64 (S : Int), .int .i64 (T : Int), .bool ov, .map mb]
section
variable {w : World} {lp mp f N S T : Nat} {ov : Bool} {mb : Option Nat} {t : TypeId}
theorem lv0 (h : Box w lp t (LvA mp f N S T ov mb)) : w.cell? ⟨lp, 0, none⟩ = some (.pointer (some ⟨mp, 0, none⟩)) := h.cell 0
theorem lv1 (h : Box w lp t (LvA mp f N S T ov mb)) : w.cell? ⟨lp, 1, none⟩ = some (.int .i64 (f : Int)) := h.cell 1
theorem lv2 (h : Box w lp t (LvA mp f N S T ov mb)) : w.cell? ⟨lp, 2, none⟩ = some (.int .i64 (N : Int)) := h.cell 2
theorem lv3 (h : Box w lp t (LvA mp f N S T ov mb)) : w.cell? ⟨lp, 3, none⟩ = some (.int .i64 (S : Int)) := h.cell 3
theorem lv4 (h : Box w lp t (LvA mp f N S T ov mb)) : w.cell? ⟨lp, 4, none⟩ = some (.int .i64 (T : Int)) := h.cell 4
end
/-- A memory that a level can lie in, from region f on. -/
structure LvM (M : MS) (f S D T Q : Nat) : Prop where
  hk : f + 2 < M.k
  s0 : S * (2 * 2 ^ D - 1) ≤ M.sz f
  s1 : T ≤ M.sz (f + 1)
  s2 : Q ≤ M.sz (f + 2)
  wd : M.wd
  len : M.es.length < 900000000
section
variable {M : MS} {f S D T Q L lf : Nat}
theorem LvM.inM (h : LvM M f S D T Q) (hS : 0 < S) (hL : (D + 1) * S = L) (hf : lf < 2 ^ D) {i : Nat} (hi : i < L + T) : (spot S D f lf i).1 < M.k ∧ (spot S D f lf i).2 < M.sz (spot S D f lf i).1 := by
  have h1 := wayQ_is (S := S) (D := D) (T := T) hS hf (i := i) (by rw [hL]; exact hi)
  have hk := h.hk
  have s0 := h.s0
  have s1 := h.s1
  unfold spot
  rcases h1 with ⟨e, hlt⟩ | ⟨e, hlt⟩
  · rw [e]
    show f + 0 < M.k ∧ _ < M.sz (f + 0)
    rw [Nat.add_zero]
    omega
  · rw [e]
    show f + 1 < M.k ∧ _ < M.sz (f + 1)
    omega
/-- More events, other cells. -/
theorem LvM.gone (h : LvM M f S D T Q) (c : Nat → Nat → Cl) (l : List Ev) (hc : ∀ r a, Wd (c r a)) (hl : M.es.length + l.length < 900000000) : LvM (M.gone c l) f S D T Q :=
  ⟨h.hk, h.s0, h.s1, h.s2, hc, by rw [gone_len]; exact hl⟩
end
/-- What is told of a block: of several cells the one that was read last. -/
def wasC (E : Nat → Cl) (id : Int) : Nat → Cl
  | 0 => nul
  | i + 1 => if decide (E i 0 = 1) && decide (E i 1 = id) then E i else wasC E id i
theorem wasC_wd {E : Nat → Cl} (h : ∀ i, Wd (E i)) (id : Int) : ∀ i, Wd (wasC E id i)
  | 0 => wd_zero
  | i + 1 => by unfold wasC; split; exact h i; exact wasC_wd h id i
theorem lay_at (S D T f lf : Nat) (c : Nat → Nat → Cl) (id : Int) (nb : Cl) (i : Nat) (hi : i < (D + 1) * S + T) :
    laidX S D T lf (cellsE f c) id nb i = if (decide (c (spot S D f lf i).1 (spot S D f lf i).2 0 = 1) && decide (c (spot S D f lf i).1 (spot S D f lf i).2 1 = id)) = true then nul else c (spot S D f lf i).1 (spot S D f lf i).2 := by
  unfold laidX
  rw [if_pos hi]
  show (if c (spot S D f lf i).1 (spot S D f lf i).2 0 = 1 ∧ c (spot S D f lf i).1 (spot S D f lf i).2 1 = id then nul else c (spot S D f lf i).1 (spot S D f lf i).2) = _
  by_cases h : c (spot S D f lf i).1 (spot S D f lf i).2 0 = 1 ∧ c (spot S D f lf i).1 (spot S D f lf i).2 1 = id
  · rw [if_pos h, if_pos (by simp [h])]
  · rw [if_neg h, if_neg (by simpa using h)]
theorem laidX_wd {S D T f lf : Nat} {c : Nat → Nat → Cl} {id : Int} {nb : Cl} (hc : ∀ r a, Wd (c r a)) (hn : Wd nb) (i : Nat) : Wd (laidX S D T lf (cellsE f c) id nb i) := by
  unfold laidX
  split
  · split
    · exact wd_zero
    · exact hc _ _
  · split
    · exact hn
    · exact wd_zero
theorem cT_wd {t : Nat} {X : Nat → Cl} {c : Nat → Nat → Cl} {i : Nat} (hX : ∀ a, Wd (X a)) (hc : ∀ r a, Wd (c r a)) (r a : Nat) : Wd (cT t X c i r a) := by
  unfold cT; split; exact hX a; exact hc r a
set_option maxHeartbeats 1000000 in
/-- The closure of Access: a block is told, if it is meant. -/
theorem tell_any (mine : Bool) (g u : Nat → Int) (bw : Nat) (w : World) (hg : Wd g) (hu : Wd u) (hV : Var w bw u) :
    Calls Tryz.prog 47 #[.int .u64 (msk mine), .agg (CA g), .pointer (some ⟨bw, 0, none⟩)] w fun e w' => e = .returned (.tuple #[]) ∧ Var w' bw (if mine then g else u) ∧ Only (just bw) w w' := by
  have HP := Lib.hid (fun W => pickCell_mask mine g u W hg hu)
  obtain ⟨q, hq⟩ : ∃ q, (if mine = true then g else u) = q := ⟨_, rfl⟩
  simp only [hq] at HP ⊢
  have HN := Lib.hid (Var.new w g 64)
  have HV := Lib.hid (hV.alloc (.cells (CA g) 64))
  clear hV hq hg hu
  go_enter Tryz.func47, Tryz.ntmps47
  go_wp2_with (first | with_reducible refine wpList_load_cell rfl (.tmp 4) rfl w.heap.size 0 rfl g HN.out.rng ?_ | with_reducible refine wpList_load_cell rfl (.tmp 2) rfl bw 0 rfl u HV.out.rng ?_)
  refine (HP.out _).mono ?_
  rintro e w1 ⟨rfl, hx⟩
  have HV1 := Lib.hid (HV.out.ext hx)
  have HO1 : Hid (Only (just bw) w w1) := Lib.hid (Only.mono (((Only.refl nobody w).alloc (.cells (CA g) 64)).trans (none_of_ext hx)) (fun i _ h => absurd h (not_nobody i)))
  clear hx HN HV HP
  go_wp2_with (with_reducible refine wpList_store_cell rfl (.tmp 2) (.tmp 8) rfl bw 0 rfl q rfl HV1.out.there ?_)
  go_end0
  exact ⟨rfl, HV1.out.set q, only_setCells _ 0 _ HO1.out (.inl (just_self bw))⟩
/-- Two ways that meet again, with a block that each has made. -/
theorem join_at {S G : World → Nat → Prop} {p : Prop} (h1 : (∀ w c, S w c → G w c) → p) (h2 : ∀ w c, S w c → G w c) : p := h1 h2
end Go.Proofs.YtdbjaaalngbpgaaGreat
