import Derived.Test.YtknnebhjldfkhaaGreatG32
import Derived.Test.YtknnebhjldfkhaaGreatG29
import Derived.Test.YtknnebhjldfkhaaGreatG14
import Derived.Test.YtknnebhjldfkhaaGreatG22
import Derived.Test.YtknnebhjldfkhaaGreatG10
import Derived.Test.YtknnebhjldfkhaaGreatG28
namespace Go.Proofs.YtknnebhjldfkhaaGreat
set_option maxRecDepth 100000
open Go.RowKit Go.ChangeShapes Go.WideShapes Go.ChangeAt Go.Maps

theorem DA_congr {d e : Nat → Int} (h : ∀ i, i < 8 → d i = e i) : DA d = DA e := by
 unfold DA
 rw [h 0 (by decide), h 1 (by decide), h 2 (by decide), h 3 (by decide), h 4 (by decide), h 5 (by decide), h 6 (by decide), h 7 (by decide)]
theorem cellB_data (id : Int) (b : Option (Nat × (Nat → Int))) : DA (fun i => cellB id b (3 + i)) = DA (dat b) := by
 cases b with
 | none => rfl
 | some b =>
  refine DA_congr fun i hi => ?_
  show blk id b.1 b.2 (3 + i) = b.2 i
  unfold blk
  rw [if_neg (by omega), if_neg (by omega), if_neg (by omega), if_pos (by omega), show 3 + i - 3 = i by omega]
theorem cellB_has (id : Int) (b : Option (Nat × (Nat → Int))) : (cellB id b 0 == 1) = b.isSome := by
 cases b <;> rfl
def nextB (m : Bm) (a : Ask) : Bm := setB m a.id (newM a.op a.at' a.to.toNat a.d (m a.id))
section
variable {N S T D L n Q P : Nat} {f : Nat} {M : MS} {m : Bm} {a : Ask} {o : List Nat}
theorem ask_was (h : Conf N S T D L n Q P) (hI : LvInv S D T (cellsE f M.c) m) (ha : a.ok N = true) (hat : ∀ l d, m a.id = some (l, d) → (l : Int) = a.lf) : wasA S D T f a.lf.toNat a.id M = cellB a.id (m a.id) := by
 obtain ⟨h1, h2, h3, h4, h5⟩ := ask_of ha
 have hN := h.hN
 exact hI.told h.s1 (lf := a.lf.toNat) (by omega) (fun l d e => by have := hat l d e; omega)
theorem ask_put (h : Conf N S T D L n Q P) (hI : LvInv S D T (cellsE f M.c) m) (ha : a.ok N = true) (hat : ∀ l d, m a.id = some (l, d) → (l : Int) = a.lf) : nbA S D T f a.lf.toNat a.op a.id a.at' a.to a.d M = cellB a.id (newM a.op a.at' a.to.toNat a.d (m a.id)) := by
 obtain ⟨h1, h2, h3, h4, h5⟩ := ask_of ha
 unfold nbA
 rw [ask_was h hI ha hat]
 obtain ⟨to, hto⟩ : ∃ to : Nat, a.to = (to : Int) := ⟨a.to.toNat, by omega⟩
 rw [hto]
 exact newB_cell _ h1 h5
theorem newM_leaf {op at' : Int} {to : Nat} {d : Nat → Int} {b : Option (Nat × (Nat → Int))} {l : Nat} {e : Nat → Int} (h : newM op at' to d b = some (l, e)) : l = to := by
 unfold newM at h
 split at h
 ·cases h
 ·split at h
  ·cases b with
   | none => cases h
   | some b => injection h with h; injection h with h _; exact h.symm
  ·split at h
   ·injection h with h; injection h with h _; exact h.symm
   ·injection h with h; injection h with h _; exact h.symm
theorem ask_next (h : Conf N S T D L n Q P) (hI : LvInv S D T (cellsE f M.c) m) (ha : a.ok N = true) (hi : 0 ≤ a.id) (hat : ∀ l d, m a.id = some (l, d) → (l : Int) = a.lf) (ho : IsOrd (acT S D T f n P a M) n o) (hov : acO N S D T f n P a M o = false) :
  LvInv S D T (cellsE f (acM N S D T f P a M o).c) (nextB m a) := by
 obtain ⟨h1, h2, h3, h4, h5⟩ := ask_of ha
 have hN := h.hN
 have hlf : a.lf.toNat < 2 ^ D := by omega
 have hn : n = (D + 1) * S + T + 1 := by have := h.hL; have := h.hn; omega
 have hP : n ≤ 2 ^ P := by have := h.le; have := h.hQ; omega
 have hp := ask_put h hI ha hat
 have hlost : lostO (acT S D T f n P a M) S D T o = [] := by
  unfold acO at hov
  rw [ha, Bool.true_and] at hov
  cases e : lostO (acT S D T f n P a M) S D T o with
  | nil => rfl
  | cons x l => rw [e] at hov; cases hov
 have e1 : acM N S D T f P a M o = M.gone (accC S D T f P a.lf.toNat a.id (nbA S D T f a.lf.toNat a.op a.id a.at' a.to a.d M) o M.c) (evA S D T f P a.lf.toNat) := by unfold acM; rw [ha]; rfl
 rw [e1]
 have ho' : IsOrd (tabI D n P (dpW D a.lf.toNat) (laidX S D T a.lf.toNat (cellsE f M.c) a.id (cellB a.id (newM a.op a.at' a.to.toNat a.d (m a.id))))) n o := by rw [← hp]; exact ho
 have hl' : lostO (tabI D n P (dpW D a.lf.toNat) (laidX S D T a.lf.toNat (cellsE f M.c) a.id (cellB a.id (newM a.op a.at' a.to.toNat a.d (m a.id))))) S D T o = [] := by rw [← hp]; exact hlost
 unfold nextB
 refine hI.next h.s1 h.hD hlf (fun l d e => by have := hat l d e; omega) ⟨hi, h4⟩ (newM a.op a.at' a.to.toNat a.d (m a.id)) (fun l e he => ?_) hn hP ho' hl' (fun i hi => ?_) (fun q hq hf => ?_)
 ·have := newM_leaf he
  omega
 ·subst hn
  rw [← hp]
  exact acc_at h.s1 hlf hi
 ·exact acc_way (by rcases hq with e | e <;> omega) hf
theorem ask_room (h : Conf N S T D L n Q P) (hI : LvInv S D T (cellsE f M.c) m) (ha : a.ok N = true) (hat : ∀ l d, m a.id = some (l, d) → (l : Int) = a.lf) (ho : IsOrd (acT S D T f n P a M) n o)
  (J : List Int) (hJ : ∀ id' b, nextB m a id' = some b → id' ∈ J) (hlen : J.length ≤ T) : acO N S D T f n P a M o = false := by
 obtain ⟨h1, h2, h3, h4, h5⟩ := ask_of ha
 have hN := h.hN
 have hlf : a.lf.toNat < 2 ^ D := by omega
 have hn : n = (D + 1) * S + T + 1 := by have := h.hL; have := h.hn; omega
 have hP : n ≤ 2 ^ P := by have := h.le; have := h.hQ; omega
 have hp := ask_put h hI ha hat
 have ho' : IsOrd (tabI D n P (dpW D a.lf.toNat) (laidX S D T a.lf.toNat (cellsE f M.c) a.id (cellB a.id (newM a.op a.at' a.to.toNat a.d (m a.id))))) n o := by rw [← hp]; exact ho
 have := hI.room h.s1 hlf (newM a.op a.at' a.to.toNat a.d (m a.id)) hn hP ho' J hJ hlen
 rw [← hp] at this
 unfold acO
 rw [show lostO (acT S D T f n P a M) S D T o = [] from this]
 cases a.ok N <;> rfl
end
section
variable {H : Type} {N S D T Q : Nat} {X : Nat → Prop} {mp lp bm f : Nat} {ov : Bool} {I : List Int} {M : MS} {k : Nat} {w w' : World}
end
end Go.Proofs.YtknnebhjldfkhaaGreat


namespace Go.Proofs.YtknnebhjldfkhaaGreat
set_option maxRecDepth 100000
open Go.RowKit Go.ChangeShapes Go.WideShapes Go.ChangeAt

theorem spot_read (r a : Int) (w : World) : Calls Tryz.prog 90 #[.agg #[.int .i64 r, .int .i64 a]] w fun e w' => e = .returned (.agg #[.int .i64 r, .int .i64 a, .bool false]) ∧ Below w.heap.size w w' := by
 go_enter Tryz.func90, Tryz.ntmps90
 go_wp2_with fail
 exact bodyPost_ret (v := .agg #[.int .i64 r, .int .i64 a, .bool false]) (by simp [results, Tryz.results90, go_sem]) rfl ⟨rfl, ((Below.refl _ w).alloc (Nat.le_refl _) _).alloc (by simp) _⟩
theorem spot_written (r a : Int) (w : World) : Calls Tryz.prog 91 #[.agg #[.int .i64 r, .int .i64 a]] w fun e w' => e = .returned (.agg #[.int .i64 r, .int .i64 a, .bool true]) ∧ Below w.heap.size w w' := by
 go_enter Tryz.func91, Tryz.ntmps91
 go_wp2_with fail
 exact bodyPost_ret (v := .agg #[.int .i64 r, .int .i64 a, .bool true]) (by simp [results, Tryz.results91, go_sem]) rfl ⟨rfl, ((Below.refl _ w).alloc (Nat.le_refl _) _).alloc (by simp) _⟩
end Go.Proofs.YtknnebhjldfkhaaGreat


namespace Go.Proofs.YtknnebhjldfkhaaGreat
set_option maxRecDepth 100000
open Go.RowKit Go.ChangeShapes Go.WideShapes Go.ChangeAt

theorem infoPlan (f N S T : Nat) : (Tryz.prog.info? 124).map (·.size) = some (plA f N S T).size := by kernel_rfl
theorem wpList_store_newP {ops : Array Oper} {rest : List Oper} {op : Oper} {a : Act} {w : World} {Q : Exit → Act → World → Prop} (hgd : op.guard = none) (x y : Operand) (ho : op.op = .store 124 x y)
  (hx : a.eval x = .pointer (some ⟨w.heap.size, 0, none⟩)) (f N S T : Nat) (hy : a.eval y = .agg #[.int .i64 (f : Int), .int .i64 (N : Int), .int .i64 (S : Int), .int .i64 (T : Int)]) {c : Array Value} (hc : c.size = 4)
  (h : wpList Tryz.prog ops Q rest (a.put op.dst undef) (w.alloc (.cells (plA f N S T) 124))) : wpList Tryz.prog ops Q (op :: rest) a (w.alloc (.cells c 124)) := by
 refine wpList_plain hgd fun K hK => ?_
 have hr := run_storeAt_new (P := Tryz.prog) w 124 c (plA f N S T) (infoPlan f N S T) (by rw [hc]; rfl) (by simp [plA, Value.oneCell'])
 have hy' : a.eval y = .agg (plA f N S T) := hy
 unfold Oper.wp execOp
 simp only [ho, hx, hy', Sem.run_bind, Result.andThen_ok, hr, Sem.run_pure]
 exact hK _ _ h
section
variable {w : World} {b f N S T : Nat}
theorem pl_0 (h : Box w b 124 (plA f N S T)) : w.cell? ⟨b, 0, none⟩ = some (.int .i64 (f : Int)) := h.cell 0
theorem pl_1 (h : Box w b 124 (plA f N S T)) : w.cell? ⟨b, 1, none⟩ = some (.int .i64 (N : Int)) := h.cell 1
theorem pl_2 (h : Box w b 124 (plA f N S T)) : w.cell? ⟨b, 2, none⟩ = some (.int .i64 (S : Int)) := h.cell 2
theorem pl_3 (h : Box w b 124 (plA f N S T)) : w.cell? ⟨b, 3, none⟩ = some (.int .i64 (T : Int)) := h.cell 3
end
theorem sp_0 {u : World} {b : Nat} {x y : Int} (h : Box u b 153 #[.int .i64 x, .int .i64 y]) : u.cell? ⟨b, 0, none⟩ = some (.int .i64 x) := h.cell 0
theorem sp_1 {u : World} {b : Nat} {x y : Int} (h : Box u b 153 #[.int .i64 x, .int .i64 y]) : u.cell? ⟨b, 1, none⟩ = some (.int .i64 y) := h.cell 1
structure EvsIn (w : World) (pb g g2 : Nat) (f N S T L Q D lf : Nat) (wr : World) : Prop where
 box : Box wr pb 124 (plA f N S T)
 way : Sps wr w.heap.size g (L + T) (spot S D f lf)
 tab : Sps wr w.heap.size g2 Q (fun i => (f + 2, i))
 bel : Below w.heap.size w wr
section
variable {w wr wx : World} {pb g g2 f N S T L Q D lf : Nat}
theorem EvsIn.nob (h : EvsIn w pb g g2 f N S T L Q D lf wr) (ho : Below wr.heap.size wr wx) : EvsIn w pb g g2 f N S T L Q D lf wx :=
 ⟨h.box.of (ho.block _ h.box.lt), h.way.block ho.size (ho.block _ h.way.lt), h.tab.block ho.size (ho.block _ h.tab.lt), h.bel.trans (ho.mono h.bel.size)⟩
end
theorem EvAt.stay {w1 wr wx : World} {v : Value} {l : List IEv} (h : EvAt w1 v l wr) (hx : Below wr.heap.size wr wx) : EvAt w1 v l wx :=
 ⟨row_stay h.own (fun g _ hg => hx.block g hg), h.below.trans (hx.mono h.below.size)⟩
theorem box_grown {wx w7 : World} {row : Option Nat} {xb : Nat} {t : TypeId} {cs : Array Value} (hg : wx.grownBy w7 row) (hb : Box wx xb t cs) (hne : ∀ k, row = some k → k ≠ xb) : Box w7 xb t cs :=
 hb.only ((Only.refl (fun k => row = some k) wx).grown hg (fun _ e => .inl e)) (fun e => hne _ e rfl)
theorem EvAt.one {w1 : World} {v : Value} {l : List IEv} {n : Nat} {e : IEv} {A : Option Addr} {cap : Nat} {t : TypeId} {wr w7 : World} (h : EvAt w1 v l wr) (hn : l.length = n)
  (ho : w7.ownsRow w1.heap.size 149 3 (.slice A (n + 1) cap) (n + 1) (ievs l ++ ievs [e])) (hg : (wr.alloc (.cells (ievs [e]).toArray t)).grownBy w7 v.ownBlock) : EvAt w1 (.slice A (n + 1) cap) (l ++ [e]) w7 := by
 subst hn
 exact h.next (m := [e]) (Below.refl _ wr) ho hg
theorem EvAt.two {w1 : World} {v : Value} {l : List IEv} {n : Nat} {e e' : IEv} {A : Option Addr} {cap : Nat} {t : TypeId} {wr w7 : World} (h : EvAt w1 v l wr) (hn : l.length = n)
  (ho : w7.ownsRow w1.heap.size 149 3 (.slice A (n + 2) cap) (n + 2) (ievs l ++ ievs [e, e'])) (hg : (wr.alloc (.cells (ievs [e, e']).toArray t)).grownBy w7 v.ownBlock) : EvAt w1 (.slice A (n + 2) cap) (l ++ [e, e']) w7 := by
 subst hn
 exact h.next (m := [e, e']) (Below.refl _ wr) ho hg
theorem EvAt.all {w1 : World} {v : Value} {l m : List IEv} {A : Option Addr} {cap : Nat} {wr w7 : World} (h : EvAt w1 v l wr)
  (ho : w7.ownsRow w1.heap.size 149 3 (.slice A (l.length + m.length) cap) (l.length + m.length) (ievs l ++ ievs m)) (hg : wr.grownBy w7 v.ownBlock) : EvAt w1 (.slice A (l.length + m.length) cap) (l ++ m) w7 := by
 constructor
 ·rw [List.length_append, ievs_append]
  exact ho
 ·exact h.below.grown hg h.below.size (fun b e => (h.own.lt b e).1)
def evR (S D T f P lf : Nat) : Nat → List IEv
 | 0 => (evF S D T f lf (2 ^ P)).map evI
 | r + 1 => evR S D T f P lf r ++ (evE (f + 2) (2 ^ P)).map evI ++ ilooks ((f : Int) + 2) (netL P)
theorem evE_step (t i : Nat) : (evE t (i + 1)).map evI = (evE t i).map evI ++ [((t : Int), (i : Int), false), ((t : Int), (i : Int), true)] := by
 show (evE t i ++ [(t, i, false)] ++ [(t, i, true)]).map evI = _
 rw [List.map_append, List.map_append, List.append_assoc]
 rfl
theorem evG_step (S D f lf i : Nat) : (evG S D f lf (i + 1)).map evI = (evG S D f lf i).map evI ++ [((f : Int) + 2, (i : Int), false), (((spot S D f lf i).1 : Int), ((spot S D f lf i).2 : Int), true)] := by
 show (evG S D f lf i ++ [(f + 2, i, false)] ++ [((spot S D f lf i).1, (spot S D f lf i).2, true)]).map evI = _
 rw [List.map_append, List.map_append, List.append_assoc]
 rfl
theorem evA_is (S D T f P lf : Nat) : (evA S D T f P lf).map evI = evR S D T f P lf 2 ++ (evG S D f lf ((D + 1) * S + T)).map evI := by
 unfold evA evR evR evR
 simp only [List.map_append]
 rw [show looks (f + 2) (netL P) = looks (f + 2) (netL P) from rfl, ← ilooks_nat]
 simp only [List.append_assoc]
 rfl
theorem evF_step (S D T f lf i : Nat) : (evF S D T f lf (i + 1)).map evI = ((evF S D T f lf i).map evI ++ (if i < (D + 1) * S + T then [(((spot S D f lf i).1 : Int), ((spot S D f lf i).2 : Int), false)] else [])) ++ [((f : Int) + 2, (i : Int), true)] := by
 show (evF S D T f lf i ++ (if i < (D + 1) * S + T then [((spot S D f lf i).1, (spot S D f lf i).2, false)] else []) ++ [(f + 2, i, true)]).map evI = _
 rw [List.map_append, List.map_append]
 congr 1
 congr 1
 split <;> rfl
set_option maxRecDepth 100000 in
set_option maxHeartbeats 4000000 in
theorem levents_right {N S T D L n Q P : Nat} (h : Conf N S T D L n Q P) (f lf : Nat) (hf : f ≤ 100) (hlf : lf < N) (w : World) :
  Calls Tryz.prog 23 #[.int .i64 (f : Int), .agg #[.int .i64 (N : Int), .int .i64 (S : Int), .int .i64 (T : Int)], .int .i64 (lf : Int)] w (EvPost w ((evA S D T f P lf).map evI)) := by
 have HR := Lib.hid (fun W => lright_of h W)
 have HLf : Hid (∀ W, Calls Tryz.prog 88 #[.agg #[.int .i64 (N : Int), .int .i64 (S : Int), .int .i64 (T : Int)], .int .i64 (lf : Int)] W fun e w' => e = .returned (.bool true) ∧ Below W.heap.size W w') := Lib.hid fun W => by
  have := leaf_any (N : Int) (S : Int) (T : Int) (lf : Int) W
  rwa [show isLf (N : Int) (lf : Int) = true by unfold isLf; simp; omega] at this
 have HW := Lib.hid (fun W => way_spots h f lf hf hlf W)
 have HTb := Lib.hid (fun W => table_spots h f hf W)
 have HTa := Lib.hid (fun W => table_at f (N : Int) (S : Int) (T : Int) W hf)
 have hL := h.hL
 have hbig := h.big
 have hQ := h.hQ
 have hle := h.le
 have hnn := h.hn
 have hnet : (netL P).length * 4 ≤ 18432 := by
  have h256 : 2 ^ P ≤ 256 := by omega
  have := Nat.mul_le_mul (Nat.mul_le_mul h.hP (show P + 1 ≤ 9 by have := h.hP; omega)) h256
  rw [Nat.mul_comm, netL_len P]
  omega
 have hP8 := h.hP
 have hP0 : 0 < P := Nat.pos_of_ne_zero fun e => by rw [e] at hQ; omega
 have hnet0 : 0 < (netL P).length * 4 := by
  rw [Nat.mul_comm, netL_len P]
  exact Nat.mul_pos (Nat.mul_pos hP0 (Nat.succ_pos _)) (Nat.two_pow_pos P)
 clear h
 obtain ⟨b, hb⟩ : ∃ b, w.heap.size = b := ⟨_, rfl⟩
 obtain ⟨w2, hw2⟩ : ∃ w2, w.alloc (.cells (cfA N S T) 25) = w2 := ⟨_, rfl⟩
 have hx : Box w2 b 25 (cfA N S T) := by rw [← hw2, ← hb]; exact Box.new w _ _
 have ho2 : Below w.heap.size w w2 := by rw [← hw2]; exact (Below.refl _ w).alloc (Nat.le_refl _) _
 have HX := Lib.hid hx
 have HO := Lib.hid ho2
 have HW2 := Lib.hid hw2
 have HBb := Lib.hid hb
 have k0 := hx.cell 0
 have k1 := hx.cell 1
 have k2 := hx.cell 2
 clear hx ho2 hw2 hb
 go_enter Tryz.func23, Tryz.ntmps23
 go_upto_region 1 with fail
 simp only [HBb.out]
 rw [show w.alloc (.cells #[.int .i64 (N : Int), .int .i64 (S : Int), .int .i64 (T : Int)] 25) = w2 from HW2.out]
 simp only [cfA] at k0 k1 k2
 go_wp2_with fail
 refine (HR.out _).mono ?_
 rintro e w3 ⟨rfl, hb3⟩
 have HX3 := Lib.hid (HX.out.of (hb3.block _ HX.out.lt))
 have HO3 := Lib.hid (HO.out.trans (hb3.mono HO.out.size))
 clear hb3 k0 k1 k2 HX HO HR
 have k0 := HX3.out.cell 0
 have k1 := HX3.out.cell 1
 have k2 := HX3.out.cell 2
 simp only [cfA] at k0 k1 k2
 go_wp2_with fail
 refine (HLf.out _).mono ?_
 rintro e w4 ⟨rfl, hb4⟩
 have HX4 := Lib.hid (HX3.out.of (hb4.block _ HX3.out.lt))
 have HO4 := Lib.hid (HO3.out.trans (hb4.mono HO3.out.size))
 clear hb4 k0 k1 k2 HX3 HO3 HLf
 have k0 := HX4.out.cell 0
 have k1 := HX4.out.cell 1
 have k2 := HX4.out.cell 2
 simp only [cfA] at k0 k1 k2
 go_upto_region 4 with (refine wpList_store_newP rfl (.tmp 7) (.tmp 28) rfl rfl f N S T rfl rfl ?_)
 obtain ⟨pb, hpb⟩ : ∃ b, w4.heap.size = b := ⟨_, rfl⟩
 have hp := Box.new w4 124 (plA f N S T)
 have HO5 := Lib.hid (HO4.out.alloc HO4.out.size (.cells (plA f N S T) 124))
 rw [hpb] at hp ⊢
 clear hpb k0 k1 k2 HX4 HO4
 generalize w4.alloc (.cells (plA f N S T) 124) = w5 at *
 have hp' : Box w5.drew pb 124 (plA f N S T) := hp
 have hO5 : Below w.heap.size w w5.drew := HO5.out.drew
 refine held_s (S := fun u => Box u pb 124 (plA f N S T)) 7 rfl (by kernel_rfl) hp' (fun hHeld => ?_)
 simp only [qA0, qB0, qC0, List.nil_append, List.cons_append]
 generalize w5.drew = wd at *
 refine tk1 0 29 (.agg #[.int .i64 (f : Int), .int .i64 (N : Int), .int .i64 (S : Int), .int .i64 (T : Int)]) rfl (Or.inl ⟨by rfl, fun w' hw => by (have p0 := pl_0 hw; have p1 := pl_1 hw; have p2 := pl_2 hw; have p3 := pl_3 hw; go_simp)⟩) hHeld ?_
 try simp only [Act.put, sA0, sB0, sC0]
 refine tk1 1 30 (.int .i64 (lf : Int)) rfl (Or.inl ⟨by rfl, fun w' hw => by go_simp⟩) hHeld ?_
 try simp only [Act.put, sA0, sB0, sC0]
 refine tk1 3 32 (.agg #[.int .i64 (f : Int), .int .i64 (N : Int), .int .i64 (S : Int), .int .i64 (T : Int)]) rfl (Or.inl ⟨by rfl, fun w' hw => by (have p0 := pl_0 hw; have p1 := pl_1 hw; have p2 := pl_2 hw; have p3 := pl_3 hw; go_simp)⟩) hHeld ?_
 try simp only [Act.put, sA0, sB0, sC0]
 refine one_ready 2 rfl (by kernel_rfl) (fun K hK => ?_)
 go_simp
 refine (HW.out _).mono ?_
 rintro e w6 ⟨g, cap6, rfl, hs6, hb6⟩
 refine hK.out _ _ (hHeld.of (hb6.block _ hHeld.lt)) (fun hHeld => ?_)
 clear hK K
 simp only [sA0, sB0, sC0]
 refine one_ready 4 rfl (by kernel_rfl) (fun K hK => ?_)
 go_simp
 refine (HTb.out _).mono ?_
 rintro e w7 ⟨g2, cap7, rfl, hs7, hb7⟩
 refine hK.out _ _ (hHeld.of (hb7.block _ hHeld.lt)) (fun hHeld => ?_)
 clear hK K
 simp only [sA0, sB0, sC0]
 refine tk1 5 8 (.slice (some ⟨g, 0, none⟩) (L + T) cap6) rfl (Or.inl ⟨by rfl, fun w' hw => by go_simp⟩) hHeld ?_
 try simp only [Act.put, sA0, sB0, sC0]
 refine tk1 6 9 (.slice (some ⟨g2, 0, none⟩) Q cap7) rfl (Or.inl ⟨by rfl, fun w' hw => by go_simp⟩) hHeld ?_
 try simp only [Act.put, sA0, sB0, sC0]
 refine wpAnyH_done (by kernel_rfl) ?_ _
 have HI : Hid (EvsIn w pb g g2 f N S T L Q D lf w7) := Lib.hid (by
  have q1 := hO5.size
  have q2 := hb6.size
  have q3 := hb7.size
  exact ⟨hHeld, ⟨by have := hs6.old; omega, by have := hs6.lt; omega, (hs6.block q3 (hb7.block _ hs6.lt)).cell⟩, ⟨by have := hs7.old; omega, hs7.lt, hs7.cell⟩, (hO5.trans (hb6.mono q1)).trans (hb7.mono (by omega))⟩)
 clear hHeld hs6 hs7 hb6 hb7 hO5 hp hp' HW HTb HO5
 go_wp2_with fail
 go_loopw [10, 36] (fun v10 v36 wr => ∃ i : Nat, v36 = .int .i64 i ∧ i ≤ Q ∧ EvAt w7 v10 ((evF S D T f lf i).map evI) wr) (fun _ v36 _ => Q - (intOf v36).toNat)
 case atStart => exact ⟨0, rfl, by omega, EvAt.nil w7⟩
 case round =>
  obtain ⟨i, rfl, hi, hE⟩ := hrel
  by_cases hlt : i < Q
  ·have hI := HI.out.nob hE.below
   obtain ⟨c1, c2⟩ := hI.tab.cell i hlt
   go_upto_region 9 with fail
   obtain ⟨xb, hxb⟩ : ∃ b, wr.heap.size = b := ⟨_, rfl⟩
   have hX := Box.new wr 153 #[.int .i64 ((f : Int) + 2), .int .i64 (i : Int)]
   have hb8 : Below wr.heap.size wr (wr.alloc (.cells #[.int .i64 ((f : Int) + 2), .int .i64 (i : Int)] 153)) := (Below.refl _ _).alloc (Nat.le_refl _) _
   have hE8 := hE.stay hb8
   have hI8 := hI.nob hb8
   have hrow : ∀ k, u10.ownBlock = some k → k ≠ xb := fun k e => by have := (hE.own.lt k e).2; omega
   rw [hxb] at hX ⊢
   generalize wr.alloc (.cells #[.int .i64 ((f : Int) + 2), .int .i64 (i : Int)] 153) = wx at *
   clear hb8 c1 c2 hE hI hxb
   obtain ⟨li, hli⟩ : ∃ li, (evF S D T f lf i).map evI = li := ⟨_, rfl⟩
   have hlen : li.length ≤ 2 * i := by rw [← hli, List.length_map]; exact evF_len S D T f lf i
   rw [hli] at hE8
   have hs8 := hE8.below.size
   have HLi := Lib.hid hli
   have HX := Lib.hid hX
   have HE8 := Lib.hid hE8
   have HRow := Lib.hid hrow
   clear hli hX hE8 hrow
   by_cases hw : i < L + T
   ·obtain ⟨d1, d2⟩ := hI8.way.cell i hw
    have hw' : (i : Int) < ((L + T : Nat) : Int) := by omega
    go_wp2_with fail
    refine (spot_read _ _ _).mono ?_
    rintro e wy ⟨rfl, hby⟩
    have HEy := Lib.hid (HE8.out.stay hby)
    have HXy := Lib.hid (HX.out.of (hby.block _ HX.out.lt))
    have hsy : w7.heap.size ≤ wy.heap.size := HEy.out.below.size
    have HOW : Hid (wy.ownsRow w7.heap.size 149 3 u10 li.length (ievs li)) := Lib.hid HEy.out.own
    clear hby HE8 HX d1 d2
    go_wp2_with (with_reducible refine wpList_append_where _ rfl (.tmp 45) (.tmp 51) 52 rfl w7.heap.size 149 (.agg #[.int .i64 0, .int .i64 0, .bool false]) 3 24 Tryz.underlying52 infoEvent rfl (by decide) u10 (li.length) (ievs (li)) rfl (HOW.out.alloc _) ⟨wy.heap.size, 0, none⟩ 1 1 (ievs [((((spot S D f lf i).1 : Nat) : Int), (((spot S D f lf i).2 : Nat) : Int), false)]) rfl rfl ?c0 (ievs_one _) ?c2 ?c3 ?c4 ?_)
    case c0 => exact ievs_new wy _ [((((spot S D f lf i).1 : Nat) : Int), (((spot S D f lf i).2 : Nat) : Int), false)] rfl
    case c2 => simp only [maxLen]; omega
    case c3 => omega
    case c4 => simp; omega
    intro A2 cap2 w9 hown hgr _
    have HE9 := Lib.hid (HEy.out.one (e := ((((spot S D f lf i).1 : Nat) : Int), (((spot S D f lf i).2 : Nat) : Int), false)) rfl hown hgr)
    have HX9 := Lib.hid (box_grown hgr (HXy.out.alloc _) HRow.out)
    clear hown hgr HEy HXy HOW hsy
    have x0 : w9.cell? ⟨xb, 0, none⟩ = some (.int .i64 ((f : Int) + 2)) := HX9.out.cell 0
    have x1 : w9.cell? ⟨xb, 1, none⟩ = some (.int .i64 (i : Int)) := HX9.out.cell 1
    go_wp2_with fail
    refine (spot_written _ _ _).mono ?_
    rintro e wz ⟨rfl, hbz⟩
    have HEz := Lib.hid (HE9.out.stay hbz)
    have hsz : w7.heap.size ≤ wz.heap.size := HEz.out.below.size
    have HOW : Hid (wz.ownsRow w7.heap.size 149 3 (.slice A2 (li.length + 1) cap2) (li.length + 1) (ievs (li ++ [((((spot S D f lf i).1 : Nat) : Int), (((spot S D f lf i).2 : Nat) : Int), false)]))) := Lib.hid (by have := HEz.out.own; rwa [List.length_append] at this)
    clear hbz HE9 x0 x1 HX9
    go_wp2_with (with_reducible refine wpList_append_where _ rfl (.tmp 53) (.tmp 56) 52 rfl w7.heap.size 149 (.agg #[.int .i64 0, .int .i64 0, .bool false]) 3 24 Tryz.underlying52 infoEvent rfl (by decide) (.slice A2 (li.length + 1) cap2) (li.length + 1) (ievs (li ++ [((((spot S D f lf i).1 : Nat) : Int), (((spot S D f lf i).2 : Nat) : Int), false)])) rfl (HOW.out.alloc _) ⟨wz.heap.size, 0, none⟩ 1 1 (ievs [((f : Int) + 2, (i : Int), true)]) rfl rfl ?c0 (ievs_one _) ?c2 ?c3 ?c4 ?_)
    case c0 => exact ievs_new wz _ [((f : Int) + 2, (i : Int), true)] rfl
    case c2 => simp only [maxLen]; omega
    case c3 => omega
    case c4 => simp; omega
    intro A3 cap3 w11 hown hgr _
    have HE11 := Lib.hid (HEz.out.one (e := ((f : Int) + 2, (i : Int), true)) (by simp) hown hgr)
    clear hown hgr HEz HOW hsz
    go_wp2_with fail
    go_roundw
    case rel => exact ⟨i + 1, by go_num, by omega, by rw [evF_step, hL, if_pos hw, HLi.out]; exact HE11.out⟩
    case measure => simp [intOf]; omega
   ·have hw' : ¬ (i : Int) < (L : Int) + (T : Int) := by omega
    have x0 : wx.cell? ⟨xb, 0, none⟩ = some (.int .i64 ((f : Int) + 2)) := HX.out.cell 0
    have x1 : wx.cell? ⟨xb, 1, none⟩ = some (.int .i64 (i : Int)) := HX.out.cell 1
    go_wp2_with fail
    refine (spot_written _ _ _).mono ?_
    rintro e wz ⟨rfl, hbz⟩
    have HEz := Lib.hid (HE8.out.stay hbz)
    have hsz : w7.heap.size ≤ wz.heap.size := HEz.out.below.size
    have HOW : Hid (wz.ownsRow w7.heap.size 149 3 u10 li.length (ievs li)) := Lib.hid HEz.out.own
    clear hbz HE8 HX x0 x1
    go_wp2_with (with_reducible refine wpList_append_where _ rfl (.tmp 53) (.tmp 56) 52 rfl w7.heap.size 149 (.agg #[.int .i64 0, .int .i64 0, .bool false]) 3 24 Tryz.underlying52 infoEvent rfl (by decide) u10 (li.length) (ievs (li)) rfl (HOW.out.alloc _) ⟨wz.heap.size, 0, none⟩ 1 1 (ievs [((f : Int) + 2, (i : Int), true)]) rfl rfl ?c0 (ievs_one _) ?c2 ?c3 ?c4 ?_)
    case c0 => exact ievs_new wz _ [((f : Int) + 2, (i : Int), true)] rfl
    case c2 => simp only [maxLen]; omega
    case c3 => omega
    case c4 => simp; omega
    intro A3 cap3 w11 hown hgr _
    have HE11 := Lib.hid (HEz.out.one (e := ((f : Int) + 2, (i : Int), true)) rfl hown hgr)
    clear hown hgr HEz HOW hsz
    go_wp2_with fail
    go_roundw
    case rel => exact ⟨i + 1, by go_num, by omega, by rw [evF_step, hL, if_neg hw, HLi.out, List.append_nil]; exact HE11.out⟩
    case measure => simp [intOf]; omega
  ·obtain rfl : i = Q := by omega
   have HE1 := Lib.hid hE
   clear hE
   have hlen0 : ((evF S D T f lf i).map evI).length ≤ 2 * i := by rw [List.length_map]; exact evF_len S D T f lf i
   have hnl : (ilooks ((f : Int) + 2) (netL P)).length ≤ 18432 := by rw [ilooks_len]; exact hnet
   have hR0 : evR S D T f P lf 0 = (evF S D T f lf i).map evI := by rw [← hQ]; rfl
   rw [← hR0] at HE1 hlen0
   have HLen : Hid (∀ r, r ≤ 2 → (evR S D T f P lf r).length ≤ 512 + r * 18944) := Lib.hid fun r hr => by
    have hE1 : (evE (f + 2) (2 ^ P)).length ≤ 512 := by rw [evE_len]; omega
    have h0 : (evR S D T f P lf 0).length ≤ 512 := by omega
    have hs : ∀ q, (evR S D T f P lf (q + 1)).length = (evR S D T f P lf q).length + (evE (f + 2) (2 ^ P)).length + (ilooks ((f : Int) + 2) (netL P)).length := fun q => by
     show (evR S D T f P lf q ++ (evE (f + 2) (2 ^ P)).map evI ++ ilooks ((f : Int) + 2) (netL P)).length = _
     rw [List.length_append, List.length_append, List.length_map]
    have h1 : (evR S D T f P lf 1).length = _ := hs 0
    have h2 : (evR S D T f P lf 2).length = _ := hs 1
    have : r = 0 ∨ r = 1 ∨ r = 2 := by omega
    rcases this with rfl | rfl | rfl <;> omega
   clear hlen0 hR0
   go_wp2_with fail
   go_loopw [10, 59] (fun v10 v59 wr => ∃ r : Nat, v59 = .int .i64 r ∧ r ≤ 2 ∧ EvAt w7 v10 (evR S D T f P lf r) wr) (fun _ v59 _ => 2 - (intOf v59).toNat)
   case atStart => exact ⟨0, rfl, by omega, HE1.out⟩
   case round =>
    clear HE1
    obtain ⟨r, rfl, hr, hE⟩ := hrel
    by_cases hr2 : r < 2
    ·have HE1 := Lib.hid hE
     have hrd : decide ((r : Int) < 2) = true := decide_eq_true (by omega)
     clear hE
     go_wp2_with fail
     go_loopw [10, 63] (fun v10 v63 wr => ∃ j : Nat, v63 = .int .i64 j ∧ j ≤ i ∧ EvAt w7 v10 (evR S D T f P lf r ++ (evE (f + 2) j).map evI) wr) (fun _ v63 _ => i - (intOf v63).toNat)
     case atStart => exact ⟨0, rfl, by omega, by rw [show (evE (f + 2) 0).map evI = [] from rfl, List.append_nil]; exact HE1.out⟩
     case round =>
      clear HE1
      obtain ⟨j, rfl, hj, hE⟩ := hrel
      by_cases hjt : j < i
      ·have hI := HI.out.nob hE.below
       obtain ⟨c1, c2⟩ := hI.tab.cell j hjt
       go_upto_region 18 with fail
       obtain ⟨xb, hxb⟩ : ∃ b, wr.heap.size = b := ⟨_, rfl⟩
       have hX := Box.new wr 153 #[.int .i64 ((f : Int) + 2), .int .i64 (j : Int)]
       have hb8 : Below wr.heap.size wr (wr.alloc (.cells #[.int .i64 ((f : Int) + 2), .int .i64 (j : Int)] 153)) := (Below.refl _ _).alloc (Nat.le_refl _) _
       have hE8 := hE.stay hb8
       have hrow : ∀ k, u10.ownBlock = some k → k ≠ xb := fun k e => by have := (hE.own.lt k e).2; omega
       rw [hxb] at hX ⊢
       generalize wr.alloc (.cells #[.int .i64 ((f : Int) + 2), .int .i64 (j : Int)] 153) = wx at *
       clear hb8 c1 c2 hE hI hxb
       obtain ⟨li, hli⟩ : ∃ li, evR S D T f P lf r ++ (evE (f + 2) j).map evI = li := ⟨_, rfl⟩
       have hlen : li.length ≤ 60000 := by
        rw [← hli, List.length_append, List.length_map, evE_len]
        have := HLen.out r hr
        have := Nat.mul_le_mul_right 18944 hr
        omega
       rw [hli] at hE8
       have HLi := Lib.hid hli
       have HRow := Lib.hid hrow
       clear hli hrow
       have HE8 := Lib.hid hE8
       have HE8d : Hid (EvAt w7 u10 li wx.drew) := Lib.hid (HE8.out.stay (Below.refl _ wx).drew)
       clear HE8
       refine held_s (S := fun u => Box u xb 153 #[.int .i64 ((f : Int) + 2), .int .i64 (j : Int)]) 8 rfl (by kernel_rfl) (hX.drewN 1) (fun hHeld => ?_)
       simp only [qA0, qB0, qC0, List.nil_append, List.cons_append]
       generalize wx.drew = wd at *
       clear hX
       refine tk1 0 67 (u10) rfl (Or.inl ⟨by rfl, fun w' hw => by go_simp⟩) hHeld ?_
       try simp only [Act.put, sA0, sB0, sC0]
       refine tk1 1 68 (.agg #[.int .i64 ((f : Int) + 2), .int .i64 (j : Int)]) rfl (Or.inl ⟨by rfl, fun w' hw => by (have x0 := sp_0 hw; have x1 := sp_1 hw; go_simp)⟩) hHeld ?_
       try simp only [Act.put, sA0, sB0, sC0]
       refine tk1 3 70 (.agg #[.int .i64 ((f : Int) + 2), .int .i64 (j : Int)]) rfl (Or.inl ⟨by rfl, fun w' hw => by (have x0 := sp_0 hw; have x1 := sp_1 hw; go_simp)⟩) hHeld ?_
       try simp only [Act.put, sA0, sB0, sC0]
       refine one_ready 2 rfl (by kernel_rfl) (fun K hK => ?_)
       go_simp
       refine (spot_read _ _ _).mono ?_
       rintro e wy ⟨rfl, hby⟩
       have hXy := hHeld.of (hby.block _ hHeld.lt)
       have HEy := Lib.hid (HE8d.out.stay hby)
       refine hK.out _ _ hXy (fun hHeld => ?_)
       clear hK K hby HE8d
       simp only [sA0, sB0, sC0]
       refine one_ready 4 rfl (by kernel_rfl) (fun K hK => ?_)
       go_simp
       refine (spot_written _ _ _).mono ?_
       rintro e wz ⟨rfl, hbz⟩
       have hXz := hHeld.of (hbz.block _ hHeld.lt)
       have HEz := Lib.hid (HEy.out.stay hbz)
       have hsz : w7.heap.size ≤ wz.heap.size := HEz.out.below.size
       have HOW : Hid (wz.ownsRow w7.heap.size 149 3 u10 li.length (ievs li)) := Lib.hid HEz.out.own
       refine hK.out _ _ hXz (fun hHeld => ?_)
       clear hK K hbz HEy
       simp only [sA0, sB0, sC0]
       refine one_ready 5 rfl (by kernel_rfl) (fun K hK => ?_)
       go_simp
       refine hK.out _ _ (hXz.alloc _) (fun _ => ?_)
       clear hK K
       simp only [sA0, sB0, sC0]
       refine one_ready 6 rfl (by kernel_rfl) (fun K hK => ?_)
       refine step_append_where rfl (.tmp 67) (.tmp 72) 52 rfl w7.heap.size 149 (.agg #[.int .i64 0, .int .i64 0, .bool false]) 3 24 Tryz.underlying52 infoEvent rfl (by decide) u10 li.length (ievs li) rfl (HOW.out.alloc _) ⟨wz.heap.size, 0, none⟩ 2 2 (ievs [((f : Int) + 2, (j : Int), false), ((f : Int) + 2, (j : Int), true)]) rfl rfl ?c0 (ievs_one _) ?c2 ?c3 ?c4 ?_
       case c0 => exact ievs_new wz _ [((f : Int) + 2, (j : Int), false), ((f : Int) + 2, (j : Int), true)] rfl
       case c2 => simp only [maxLen]; omega
       case c3 => omega
       case c4 => simp; omega
       intro A2 cap2 w9 hown hgr _
       have HE11 := Lib.hid (HEz.out.two (e := ((f : Int) + 2, (j : Int), false)) (e' := ((f : Int) + 2, (j : Int), true)) rfl hown hgr)
       have hX9 := box_grown hgr (hXz.alloc _) HRow.out
       clear hown hgr
       refine hK.out _ _ hX9 (fun hHeld => ?_)
       clear hK K
       simp only [sA0, sB0, sC0]
       refine tk1 7 10 (.slice A2 (li.length + 2) cap2) rfl (Or.inl ⟨by rfl, fun w' hw => by go_simp⟩) hHeld ?_
       try simp only [Act.put, sA0, sB0, sC0]
       refine wpAnyH_done (by kernel_rfl) ?_ _
       clear hHeld hXy hXz hX9
       go_wp2_with fail
       go_roundw
       case rel => exact ⟨j + 1, by go_num, by omega, by rw [evE_step, ← List.append_assoc, HLi.out]; exact HE11.out⟩
       case measure => simp [intOf]; omega
      ·obtain rfl : j = i := by omega
       have HE1 := Lib.hid hE
       have HI1 := Lib.hid (HI.out.nob hE.below)
       clear hE
       have p0 := pl_0 HI1.out.box
       have p1 := pl_1 HI1.out.box
       have p2 := pl_2 HI1.out.box
       have p3 := pl_3 HI1.out.box
       go_wp2_with fail
       refine (HTa.out _).mono ?_
       rintro e wy ⟨rfl, hby⟩
       have HEy := Lib.hid (HE1.out.stay hby)
       clear hby p0 p1 p2 p3 HE1 HI1
       go_wp2_with fail
       refine (events_any ((f : Int) + 2) (j : Int) (2 ^ P) (netL P) ⟨.inl ⟨P, by omega, by rw [hQ], rfl, rfl⟩⟩ _).mono ?_
       rintro e we ⟨A, cap, rfl, hv, ho⟩
       have hne : ilooks ((f : Int) + 2) (netL P) ≠ [] := fun e => by
        have h1 := congrArg List.length e
        rw [ilooks_len] at h1
        have h2 := hnet0
        simp only [List.length_nil] at h1
        omega
       obtain ⟨bA, oA, rfl, hrA⟩ := hv hne
       have HEe := Lib.hid (HEy.out.stay (Only.none ho))
       obtain ⟨li, hli⟩ : ∃ li, evR S D T f P lf r ++ (evE (f + 2) j).map evI = li := ⟨_, rfl⟩
       have hlen : li.length ≤ 60000 := by
        rw [← hli, List.length_append, List.length_map, evE_len]
        have := HLen.out r hr
        have := Nat.mul_le_mul_right 18944 hr
        omega
       rw [hli] at HEe
       have hse : w7.heap.size ≤ we.heap.size := HEe.out.below.size
       have HOW : Hid (we.ownsRow w7.heap.size 149 3 u10 li.length (ievs li)) := Lib.hid HEe.out.own
       have HLi := Lib.hid hli
       have HRa := Lib.hid hrA
       clear hv ho hne hli hrA HEy
       go_wp2_with (with_reducible refine wpList_append_where _ rfl (.tmp 75) (.tmp 80) 52 rfl w7.heap.size 149 (.agg #[.int .i64 0, .int .i64 0, .bool false]) 3 24 Tryz.underlying52 infoEvent rfl (by decide) u10 li.length (ievs li) rfl HOW.out ⟨bA, oA, none⟩ (ilooks ((f : Int) + 2) (netL P)).length cap (ievs (ilooks ((f : Int) + 2) (netL P))) rfl (ievs_len _) ?c0 (ievs_one _) ?c2 ?c3 ?c4 ?_)
       case c0 => exact fun q u hq => by rw [add_plain]; exact HRa.out q u hq
       case c2 => simp only [maxLen]; omega
       case c3 => omega
       case c4 => exact hse
       intro A2 cap2 w9 hown hgr _
       have HE9 := Lib.hid (HEe.out.all hown hgr)
       clear hown hgr HEe HOW hse
       go_wp2_with fail
       go_roundw
       case rel => exact ⟨r + 1, by go_num, by omega, by
        show EvAt _ _ (evR S D T f P lf r ++ (evE (f + 2) (2 ^ P)).map evI ++ ilooks ((f : Int) + 2) (netL P)) _
        rw [hQ, HLi.out]
        exact HE9.out⟩
       case measure => simp [intOf]; omega
    ·have HR3 : Hid (r = 2) := Lib.hid (by omega)
     have HE1 := Lib.hid hE
     clear hE
     have hlt2 : L + T ≤ i := by omega
     have hrd : decide ((r : Int) < 2) = false := decide_eq_false (by omega)
     go_wp2_with fail
     go_loopw [10, 85] (fun v10 v85 wr => ∃ k : Nat, v85 = .int .i64 k ∧ k ≤ L + T ∧ EvAt w7 v10 (evR S D T f P lf r ++ (evG S D f lf k).map evI) wr) (fun _ v85 _ => L + T - (intOf v85).toNat)
     case atStart => exact ⟨0, rfl, by omega, by rw [show (evG S D f lf 0).map evI = [] from rfl, List.append_nil]; exact HE1.out⟩
     case round =>
      clear HE1
      obtain ⟨k, rfl, hk, hE⟩ := hrel
      by_cases hkt : k < L + T
      ·have hI := HI.out.nob hE.below
       obtain ⟨d1, d2⟩ := hI.way.cell k hkt
       have hkl : (k : Int) < (L : Int) + (T : Int) := by omega
       have hkq : k < i := by omega
       go_upto_region 25 with fail
       obtain ⟨xb, hxb⟩ : ∃ b, wr.heap.size = b := ⟨_, rfl⟩
       have hX := Box.new wr 153 #[.int .i64 (((spot S D f lf k).1 : Nat) : Int), .int .i64 (((spot S D f lf k).2 : Nat) : Int)]
       have hb8 : Below wr.heap.size wr (wr.alloc (.cells #[.int .i64 (((spot S D f lf k).1 : Nat) : Int), .int .i64 (((spot S D f lf k).2 : Nat) : Int)] 153)) := (Below.refl _ _).alloc (Nat.le_refl _) _
       have hE8 := hE.stay hb8
       have hrow : ∀ k, u10.ownBlock = some k → k ≠ xb := fun k e => by have := (hE.own.lt k e).2; omega
       rw [hxb] at hX ⊢
       generalize wr.alloc (.cells #[.int .i64 (((spot S D f lf k).1 : Nat) : Int), .int .i64 (((spot S D f lf k).2 : Nat) : Int)] 153) = wx at *
       clear hb8 d1 d2 hE hI hxb
       obtain ⟨li, hli⟩ : ∃ li, evR S D T f P lf r ++ (evG S D f lf k).map evI = li := ⟨_, rfl⟩
       have hlen : li.length ≤ 60000 := by
        rw [← hli, List.length_append, List.length_map, evG_len]
        have := HLen.out r hr
        have := Nat.mul_le_mul_right 18944 hr
        omega
       rw [hli] at hE8
       have HLi := Lib.hid hli
       have HRow := Lib.hid hrow
       clear hli hrow
       have HE8 := Lib.hid hE8
       have HE8d : Hid (EvAt w7 u10 li wx.drew) := Lib.hid (HE8.out.stay (Below.refl _ wx).drew)
       clear HE8
       refine held_s (S := (fun u => Box u xb 153 #[.int .i64 (((spot S D f lf k).1 : Nat) : Int), .int .i64 (((spot S D f lf k).2 : Nat) : Int)] ∧ u.cell? ⟨g2, k * 2, none⟩ = some (.int .i64 ((f + 2 : Nat) : Int)) ∧ u.cell? ⟨g2, k * 2 + 1, none⟩ = some (.int .i64 (k : Int)))) 11 rfl (by kernel_rfl) ⟨hX.drewN 1, (HI.out.nob HE8d.out.below).tab.cell k hkq⟩ (fun hHeld => ?_)
       simp only [qA0, qB0, qC0, List.nil_append, List.cons_append]
       generalize wx.drew = wd at *
       clear hX
       refine tk1 0 90 (u10) rfl (Or.inl ⟨by rfl, fun w' hw => by go_simp⟩) hHeld ?_
       try simp only [Act.put, sA0, sB0, sC0]
       refine tk1 1 91 (.slice (some ⟨g2, 0, none⟩) i cap7) rfl (Or.inl ⟨by rfl, fun w' hw => by go_simp⟩) hHeld ?_
       try simp only [Act.put, sA0, sB0, sC0]
       refine tk1 2 92 (.int .i64 (k : Int)) rfl (Or.inl ⟨by rfl, fun w' hw => by go_simp⟩) hHeld ?_
       try simp only [Act.put, sA0, sB0, sC0]
       refine tk1 3 93 (.pointer (some ⟨g2, k * 2, none⟩)) rfl (Or.inl ⟨by rfl, fun w' hw => by go_simp⟩) hHeld ?_
       try simp only [Act.put, sA0, sB0, sC0]
       refine tk1 4 94 (.agg #[.int .i64 ((f : Int) + 2), .int .i64 (k : Int)]) rfl (Or.inl ⟨by rfl, fun w' hw => by (have x0 := sp_0 hw.1; have x1 := sp_1 hw.1; obtain ⟨_, y0, y1⟩ := hw; go_simp)⟩) hHeld ?_
       try simp only [Act.put, sA0, sB0, sC0]
       refine tk1 6 96 (.agg #[.int .i64 (((spot S D f lf k).1 : Nat) : Int), .int .i64 (((spot S D f lf k).2 : Nat) : Int)]) rfl (Or.inl ⟨by rfl, fun w' hw => by (have x0 := sp_0 hw.1; have x1 := sp_1 hw.1; obtain ⟨_, y0, y1⟩ := hw; go_simp)⟩) hHeld ?_
       try simp only [Act.put, sA0, sB0, sC0]
       refine one_ready 5 rfl (by kernel_rfl) (fun K hK => ?_)
       go_simp
       refine (spot_read _ _ _).mono ?_
       rintro e wy ⟨rfl, hby⟩
       have hXy := hHeld.1.of (hby.block _ hHeld.1.lt)
       have HEy := Lib.hid (HE8d.out.stay hby)
       refine hK.out _ _ ⟨hXy, (HI.out.nob HEy.out.below).tab.cell k hkq⟩ (fun hHeld => ?_)
       clear hK K hby HE8d
       simp only [sA0, sB0, sC0]
       refine one_ready 7 rfl (by kernel_rfl) (fun K hK => ?_)
       go_simp
       refine (spot_written _ _ _).mono ?_
       rintro e wz ⟨rfl, hbz⟩
       have hXz := hHeld.1.of (hbz.block _ hHeld.1.lt)
       have HEz := Lib.hid (HEy.out.stay hbz)
       have hsz : w7.heap.size ≤ wz.heap.size := HEz.out.below.size
       have HOW : Hid (wz.ownsRow w7.heap.size 149 3 u10 li.length (ievs li)) := Lib.hid HEz.out.own
       refine hK.out _ _ ⟨hXz, (HI.out.nob HEz.out.below).tab.cell k hkq⟩ (fun hHeld => ?_)
       clear hK K hbz HEy
       simp only [sA0, sB0, sC0]
       refine one_ready 8 rfl (by kernel_rfl) (fun K hK => ?_)
       go_simp
       refine hK.out _ _ ⟨hXz.alloc _, (HI.out.nob (HEz.out.stay ((Below.refl _ _).alloc (Nat.le_refl _) _)).below).tab.cell k hkq⟩ (fun _ => ?_)
       clear hK K
       simp only [sA0, sB0, sC0]
       refine one_ready 9 rfl (by kernel_rfl) (fun K hK => ?_)
       refine step_append_where rfl (.tmp 90) (.tmp 98) 52 rfl w7.heap.size 149 (.agg #[.int .i64 0, .int .i64 0, .bool false]) 3 24 Tryz.underlying52 infoEvent rfl (by decide) u10 li.length (ievs li) rfl (HOW.out.alloc _) ⟨wz.heap.size, 0, none⟩ 2 2 (ievs [((f : Int) + 2, (k : Int), false), ((((spot S D f lf k).1 : Nat) : Int), (((spot S D f lf k).2 : Nat) : Int), true)]) rfl rfl ?c0 (ievs_one _) ?c2 ?c3 ?c4 ?_
       case c0 => exact ievs_new wz _ [((f : Int) + 2, (k : Int), false), ((((spot S D f lf k).1 : Nat) : Int), (((spot S D f lf k).2 : Nat) : Int), true)] rfl
       case c2 => simp only [maxLen]; omega
       case c3 => omega
       case c4 => simp; omega
       intro A2 cap2 w9 hown hgr _
       have HE11 := Lib.hid (HEz.out.two (e := ((f : Int) + 2, (k : Int), false)) (e' := ((((spot S D f lf k).1 : Nat) : Int), (((spot S D f lf k).2 : Nat) : Int), true)) rfl hown hgr)
       have hX9 := box_grown hgr (hXz.alloc _) HRow.out
       clear hown hgr
       refine hK.out _ _ ⟨hX9, (HI.out.nob HE11.out.below).tab.cell k hkq⟩ (fun hHeld => ?_)
       clear hK K
       simp only [sA0, sB0, sC0]
       refine tk1 10 10 (.slice A2 (li.length + 2) cap2) rfl (Or.inl ⟨by rfl, fun w' hw => by go_simp⟩) hHeld ?_
       try simp only [Act.put, sA0, sB0, sC0]
       refine wpAnyH_done (by kernel_rfl) ?_ _
       clear hHeld hXy hXz hX9
       go_wp2_with fail
       go_roundw
       case rel => exact ⟨k + 1, by go_num, by omega, by rw [evG_step, ← List.append_assoc, HLi.out]; exact HE11.out⟩
       case measure => simp [intOf]; omega
      ·obtain rfl : k = L + T := by omega
       have HD : Hid (EvPost w ((evA S D T f P lf).map evI) (.returned u10) wr) := Lib.hid (by
        rw [evA_is, hL, ← HR3.out]
        exact ev_done hE HI.out.bel)
       clear hE
       go_wp2_with fail
       go_ret
       exact HD.out
end Go.Proofs.YtknnebhjldfkhaaGreat

