import Derived.Test.YtknnebhjldfkhaaGreatG21
import Derived.Test.YtknnebhjldfkhaaGreatG14
import Derived.Test.YtknnebhjldfkhaaGreatG37
import Derived.Test.YtknnebhjldfkhaaGreatG41
import Derived.Test.YtknnebhjldfkhaaGreatG2
import Derived.Test.YtknnebhjldfkhaaGreatG9
import Derived.Test.YtknnebhjldfkhaaGreatG50
namespace Go.Proofs.YtknnebhjldfkhaaGreat
set_option maxRecDepth 100000
open Go.RowKit Go.Shelf Go.ChangeShapes Go.WideShapes Go.ChangeAt
attribute [local go_sem] Oper.semAt_some

abbrev Lvl (n : Nat) : Type := { h : Nat // h < n }
def lvl {n : Nat} (x : Lvl n) : Nat := x.1
def encV {n : Nat} (x : Lvl n) : Array Value := #[.int .i64 (lvl x : Int)]
def downL : Nat → List Nat
 | 0 => []
 | n + 1 => n :: downL n
theorem downL_len : ∀ n, (downL n).length = n
 | 0 => rfl
 | n + 1 => by simp [downL, downL_len n]
def KC (b : Nat) (cs : Array Value) (W W' : World) : Prop := Box W b 79 cs → Box W' b 79 cs
theorem KC.trans {b : Nat} {cs : Array Value} {A B C : World} (h : KC b cs A B) (k : KC b cs B C) : KC b cs A C := fun x => k (h x)
theorem KC.book {b : Nat} {cs : Array Value} {w : World} (W : World) (l : Nat) (o o' : Obj) (_ : w.heap.size ≤ l) (h : W.heap[l]? = some o) (hc : o.isCells = false) (_ : o.isWalk = false) : KC b cs W (W.putObj l o') := fun hb =>
 hb.kept (grownBy_putObj' W l o') (fun r e => by cases e; exact ⟨o, h, hc⟩)
def DnAt {n : Nat} (b : Nat) (cs : Array Value) (J : List (Lvl n) → World → Prop) (i : Nat) (wr : World) : Prop :=
 i ≤ n ∧ Box wr b 79 cs ∧ ∃ r : List (Lvl n), r.map lvl ++ downL i = downL n ∧ J r wr
theorem DnAt.room {n i : Nat} {r : List (Lvl n)} (hr : r.map lvl ++ downL (i + 1) = downL n) : r.length < n := by
 have := congrArg List.length hr
 rw [List.length_append, List.length_map, downL_len, downL_len] at this
 omega
theorem DnAt.next {n b i : Nat} {cs : Array Value} {J : List (Lvl n) → World → Prop} {r : List (Lvl n)} {W' : World} (hi : i < n) (hr : r.map lvl ++ downL (i + 1) = downL n) (hb : Box W' b 79 cs) (hJ : J (r ++ [⟨i, hi⟩]) W') : DnAt b cs J i W' :=
 ⟨by omega, hb, _, by rw [List.map_append, List.append_assoc, ← hr]; rfl, hJ⟩
theorem last_of (B S T : Int) (n : Nat) (w : World) (h1 : n ≤ 100) :
  Calls Tryz.prog 113 #[.agg #[.int .i64 B, .int .i64 S, .int .i64 T, .int .i64 (n : Int)]] w fun e w' => e = .returned (.int .i64 ((n : Int) - 1)) ∧ w' = w.alloc (.cells #[.int .i64 B, .int .i64 S, .int .i64 T, .int .i64 (n : Int)] 79) := by
 go_enter Tryz.func113, Tryz.ntmps113
 go_wp2_with fail
 go_ret
 exact ⟨rfl, rfl⟩
theorem fromLast_any (cs : Array Value) (w : World) : Calls Tryz.prog 114 #[.agg cs] w fun e w' =>
  e = .returned (.func (.func 154) #[] #[.pointer (some ⟨w.heap.size, 0, none⟩)]) ∧ w' = w.alloc (.cells cs 79) := by
 go_enter Tryz.func114, Tryz.ntmps114
 go_wp2
 go_ret
 exact ⟨rfl, rfl⟩
set_option maxHeartbeats 4000000 in
theorem last_in (m l n b : Nat) (B S T : Int) (hn : n ≤ 100) (J Jx : List (Lvl n) → World → Prop) (W0 : World)
  (hJ : AbidesFrom W0.heap.size J)
  (hY : ∀ m pre x W, J pre W → pre.length < n → YieldAt Fence.wide m Tryz.prog l (encV x) W fun e W' =>
   (e = .returned (.bool true) ∧ J (pre ++ [x]) W' ∧ KC b #[.int .i64 B, .int .i64 S, .int .i64 T, .int .i64 (n : Int)] W W') ∨ (e = .returned (.bool false) ∧ Jx (pre ++ [x]) W'))
  (W : World) (hb : Box W b 79 #[.int .i64 B, .int .i64 S, .int .i64 T, .int .i64 (n : Int)]) (h0 : J [] W) :
  CallsIn Fence.wide m Tryz.prog 154 #[.func (.yield l) #[] #[], .pointer (some ⟨b, 0, none⟩)] W fun e W' =>
   (∃ v, e = .returned v) ∧ ((∃ ys : List (Lvl n), ys.map lvl = downL n ∧ J ys W') ∨ (∃ pre : List (Lvl n), True ∧ Jx pre W')) := by
 have hJa : ∀ s (o : Obj) W, J s W → J s (W.alloc o) := fun s o W h => hJ s W _ none h (World.grownBy_alloc W o none) (fun r e => by cases e)
 obtain ⟨cs, hcs⟩ : ∃ cs : Array Value, cs = #[.int .i64 B, .int .i64 S, .int .i64 T, .int .i64 (n : Int)] := ⟨_, rfl⟩
 have x0 := hb.cell 0
 have x1 := hb.cell 1
 have x2 := hb.cell 2
 have x3 := hb.cell 3
 have hst : DnAt b cs J n (W.alloc (.cells cs 79)) := ⟨Nat.le_refl _, by rw [hcs]; exact hb.alloc _, [], rfl, hJa _ _ _ h0⟩
 simp at x0 x1 x2 x3
 refine callsIn_of_wp Tryz.func154 rfl trivial ?_ rfl
 simp only [Tryz.ntmps154, List.size_toArray, List.length_cons, List.length_nil, Nat.reduceAdd, Nat.reduceSub, qA0, qB0, qC0, List.append_toArray, List.nil_append, List.cons_append]
 gi_wp2_with (refine ⟨trivial, no_depth _, ?_⟩; gi_at_call 113; refine (callsIn_wide.2 (last_of B S T n _ hn)).mono ?_; rintro e w1 ⟨rfl, rfl⟩)
 rw [← hcs] at hY ⊢
 clear hcs hb h0 x0 x1 x2 x3 hJa hJ
 generalize W.alloc (.cells cs 79) = W1 at *
 gi_loopw [3] (fun v wr => ∃ i : Nat, v = .int .i64 ((i : Int) - 1) ∧ DnAt b cs J i wr) (fun v _ => (intOf v + 1).toNat)
 case atStart => exact ⟨n, rfl, hst⟩
 case round =>
  obtain ⟨i, rfl, hS⟩ := hrel
  obtain ⟨hin, hbx, r, hr, hj⟩ := hS
  cases i with
  | zero =>
   gi_wp2
   go_end0
   exact ⟨⟨_, rfl⟩, .inl ⟨r, by simpa [downL] using hr, hj⟩⟩
  | succ i =>
   have hroom := DnAt.room hr
   have hnx : ∀ W', Box W' b 79 cs → J (r ++ [⟨i, hin⟩]) W' → DnAt b cs J i W' := fun W' h1 h2 => DnAt.next hin hr h1 h2
   obtain ⟨fn, tmps, assign, body, hy, hR⟩ := hY (m - 1) r ⟨i, hin⟩ wr hj hroom
   simp only [encV, lvl] at hy
   have e1 : (((i + 1 : Nat) : Int) - 1) = (i : Int) := by omega
   rw [e1]
   gi_wp2
   refine ⟨no_depth _, hR.mono ?_⟩
   rintro e W3 (⟨rfl, hJ3, hk3⟩ | ⟨rfl, hJx3⟩)
   ·gi_wp2
    go_roundw
    case rel => exact ⟨i, by go_num, hnx _ (hk3 hbx) hJ3⟩
    case measure => simp [intOf]
   ·gi_wp2
    refine bodyPost_ret (results_none rfl _ _ _) rfl ?_
    exact ⟨⟨_, rfl⟩, .inr ⟨_, trivial, hJx3⟩⟩
theorem last_stops (m b n : Nat) (B S T : Int) (hn : n ≤ 100) (w : World) (hb : Box w b 79 #[.int .i64 B, .int .i64 S, .int .i64 T, .int .i64 (n : Int)]) :
  SeqStopsK Fence.wide m Tryz.prog 154 #[.pointer (some ⟨b, 0, none⟩)] (fun x : Lvl n => encV x) (KC b #[.int .i64 B, .int .i64 S, .int .i64 T, .int .i64 (n : Int)]) (fun ys => ys.map lvl = downL n) (fun _ => True) n w := by
 intro l J Jx W hW hJ _ hY h0
 have hbW : Box W b 79 #[.int .i64 B, .int .i64 S, .int .i64 T, .int .i64 (n : Int)] := (hW.block b hb.lt).trans hb
 exact last_in m l n b B S T hn J Jx W hJ (fun m' pre x W1 hj hl => YieldAt.free m' (hY pre x W1 hj hl)) W hbW h0
end Go.Proofs.YtknnebhjldfkhaaGreat


namespace Go.Proofs.YtknnebhjldfkhaaGreat
set_option maxRecDepth 100000
open Go.RowKit Go.Shelf Go.ChangeShapes Go.WideShapes Go.ChangeAt
attribute [local go_sem] Oper.semAt_some

def RtAt (w : World) (p : Nat) (v : Bool) (W : World) : Prop := Box W (p + 1) 4 #[.bool v] ∧ Below w.heap.size w W
theorem RtAt.grown {w : World} {p : Nat} {v : Bool} {W W' : World} {row : Option Nat} (hp : w.heap.size = p) (h : RtAt w p v W) (hg : W.grownBy W' row) (hr : ∀ r, row = some r → p + 3 ≤ r ∧ ∃ o : Obj, W.heap[r]? = some o ∧ o.isCells = false) : RtAt w p v W' :=
 ⟨h.1.kept hg (fun r e => (hr r e).2), h.2.grown hg (Nat.le_of_lt (Nat.lt_of_le_of_lt (by rw [hp]; exact Nat.le_succ p) h.1.lt)) (fun r e => by have := (hr r e).1; omega)⟩
set_option maxRecDepth 100000 in
set_option maxHeartbeats 2000000 in
theorem sright_in (b : Nat) (S H : Int) (n : Nat) (w : World) (hb : b ≤ 10) (n1 : 1 ≤ n) (n4 : n ≤ 4) :
  Calls Tryz.prog 58 #[.agg (scA b S H n)] w fun e w' => e = .returned (.bool (isSt S H)) ∧ Below w.heap.size w w' := by
 have hd := tree_le b hb
 have ht := isTree_two hb (N := 2 ^ b) rfl
 have HLc := Lib.hid (fun W (h : Nat) (hh : h ≤ 100) => lcfg_any b S H n h W hb hh)
 have HLr := Lib.hid (fun W (h : Nat) => (show Calls Tryz.prog 29 #[.agg #[.int .i64 ((blN b h : Nat) : Int), .int .i64 S, .int .i64 H]] W fun e w' => e = .returned (.bool (isSt S H)) ∧ Below W.heap.size W w' from lright_any (b - 2 * h) S H W (by omega)))
 have HP := Lib.hid (fun W => path_right ((2 ^ b : Nat) : Int) W (by have := Nat.two_pow_pos b; generalize 2 ^ b = N at *; omega) (by generalize 2 ^ b = N at *; omega))
 rw [ht] at HP
 unfold scA at *
 generalize blN b = NB at *
 generalize 2 ^ b = B at *
 obtain ⟨p, hp⟩ : ∃ p, w.heap.size = p := ⟨_, rfl⟩
 refine (callsIn_wide (n := 9)).1 ?_
 refine callsIn_of_wp_marks Tryz.func58 rfl trivial ?_ rfl
 simp only [Tryz.ntmps58, List.size_toArray, List.length_cons, List.length_nil, Nat.reduceAdd, Nat.reduceSub, qA0, qB0, qC0, List.append_toArray, List.nil_append, List.cons_append]
 gi_wp2_with (refine ⟨trivial, ?_⟩; first | (gi_at_call 98; refine (callsIn_wide.2 (HP.out _)).mono ?_; rintro e w1 ⟨rfl, rfl⟩) | (gi_at_call 114; refine (callsIn_wide.2 (fromLast_any _ _)).mono ?_; rintro e w3 ⟨rfl, rfl⟩))
 obtain ⟨W0, hW0⟩ : ∃ x, (((w.alloc (.cells #[.int .i64 (B : Int), .int .i64 S, .int .i64 H, .int .i64 (n : Int)] 79)).alloc (.cells #[.bool false] 4)).alloc (.cells #[.int .i64 (B : Int), .int .i64 S, .int .i64 H, .int .i64 (n : Int)] 79)) = x := ⟨_, rfl⟩
 have hsz : W0.heap.size = p + 3 := by rw [← hW0]; simp [hp]
 have bA : Box W0 p 79 #[.int .i64 (B : Int), .int .i64 S, .int .i64 H, .int .i64 (n : Int)] := by rw [← hW0, ← hp]; exact ((Box.new w _ _).alloc _).alloc _
 have bR : RtAt w p false W0 := by
  refine ⟨?_, by rw [← hW0]; exact (((Below.refl _ w).alloc (Nat.le_refl _) _).alloc (by simp) _).alloc (by simp; omega) _⟩
  have := (Box.new (w.alloc (.cells #[.int .i64 (B : Int), .int .i64 S, .int .i64 H, .int .i64 (n : Int)] 79)) 4 #[.bool false]).alloc (.cells #[.int .i64 (B : Int), .int .i64 S, .int .i64 H, .int .i64 (n : Int)] 79)
  rw [World.size_alloc, hp, hW0] at this
  exact this
 have bC : Box W0 (p + 2) 79 #[.int .i64 (B : Int), .int .i64 S, .int .i64 H, .int .i64 (n : Int)] := by
  have := Box.new ((w.alloc (.cells #[.int .i64 (B : Int), .int .i64 S, .int .i64 H, .int .i64 (n : Int)] 79)).alloc (.cells #[.bool false] 4)) 79 #[.int .i64 (B : Int), .int .i64 S, .int .i64 H, .int .i64 (n : Int)]
  rw [World.size_alloc, World.size_alloc, hp, hW0] at this
  exact this
 have HW0 := Lib.hid hW0
 rw [hW0]
 have e2 : p + 1 + 1 = p + 2 := rfl
 simp only [e2]
 clear hW0 ht
 refine wpIn_rangeFunc_ownG rfl (by decide) (gf := 154) (lb := #[.pointer (some ⟨p + 2, 0, none⟩)]) rfl trivial (enters_of Tryz.func154 (by kernel_rfl) rfl)
  (last_stops _ (p + 2) n B S H (by omega) _ bC) (fun h k => KC.trans h k) KC.book (Below.refl _ _) (fun _ => rfl)
  (fun pre W => (pre = [] ∨ isSt S H = true) ∧ Box W p 79 #[.int .i64 (B : Int), .int .i64 S, .int .i64 H, .int .i64 (n : Int)] ∧ RtAt w p false W)
  (fun c _ W => c = .ret ∧ isSt S H = false ∧ RtAt w p false W)
  (fun pre X Y row hs hg hr => ⟨hs.1, hs.2.1.kept hg (fun r e => (hr r e).2), hs.2.2.grown hp hg (fun r e => by have := hr r e; rw [hsz] at this; exact this)⟩)
  (fun c pre X Y row hs hg hr => ⟨hs.1, hs.2.1, hs.2.2.grown hp hg (fun r e => by have := hr r e; rw [hsz] at this; exact this)⟩)
  ⟨.inl rfl, bA, bR⟩
  (fun x => { tmps := #[.agg #[.int .i64 (B : Int), .int .i64 S, .int .i64 H, .int .i64 (n : Int)], .pointer (some ⟨p, 0, none⟩), .pointer (some ⟨p + 1, 0, none⟩), .int .i64 (lvl x : Int), .pointer (some ⟨p, 0, none⟩), .int .i64 (B : Int), .bool true, .bool false, .bool false, .pointer (some ⟨p, 3, none⟩), .int .i64 (n : Int), .bool (decide ((n : Int) < 1)), .bool (decide ((n : Int) < 1)), .bool (decide ((n : Int) < 1)), .pointer (some ⟨p, 3, none⟩), .int .i64 (n : Int), .bool (decide (4 < (n : Int))), .bool (decide ((n : Int) < 1) || decide (4 < (n : Int))), .agg #[.int .i64 (B : Int), .int .i64 S, .int .i64 H, .int .i64 (n : Int)], .func (.func 154) #[] #[.pointer (some ⟨p + 2, 0, none⟩)], .int .i64 (lvl x : Int), undef, undef, undef, undef, undef], defers := [] })
  ?assign ?body ?done ?stop
 case assign =>
  intro l x W K hK
  simp only [encV, zip_one, List.set_cons_zero, List.set_cons_succ]
  gi_wp2
  exact hK
 case body =>
  rintro l pre x W ⟨hI, hA, hR⟩ hlt
  have a0 := hA.cell 0
  have a1 := hA.cell 1
  have a2 := hA.cell 2
  have a3 := hA.cell 3
  obtain ⟨h, hh⟩ : ∃ h, lvl x = h := ⟨_, rfl⟩
  have hx : h < n := by rw [← hh]; exact x.2
  rw [hh]
  cases hs : isSt S H
  ·rw [hs] at HLr
   gi_wp2_with (refine ⟨trivial, ?_⟩; first | (gi_at_call 124; refine (calls_round (HLc.out _ h (by omega))).mono ?_; rintro e w4 ⟨rfl, hb4⟩) | (gi_at_call 29; refine (calls_round (HLr.out _ h)).mono ?_; rintro e w5 ⟨rfl, hb5⟩; have hb6 := hb4.trans (hb5.mono hb4.size); have hX5 := hR.1.of (hb6.block _ hR.1.lt); have c5 := hX5.cell 0; have f5 := hX5.frozen 0; simp at c5))
   have hE := Lib.hid (((hR.2.trans (hb6.mono hR.2.size)).setCell (p := ⟨p + 1, 0, none⟩) (by simp; omega) (.bool false)))
   refine ⟨keepsFrom_only ((Only.of_below (S := just (p + 1)) hb6).setCell (p := ⟨p + 1, 0, none⟩) (.inl rfl) (.bool false)) (fun i hi e => by have e : i = p + 1 := e; omega), rfl, hX5.put 0 _, hE.out⟩
  ·rw [hs] at HLr
   gi_wp2_with (refine ⟨trivial, ?_⟩; first | (gi_at_call 124; refine (calls_round (HLc.out _ h (by omega))).mono ?_; rintro e w4 ⟨rfl, hb4⟩) | (gi_at_call 29; refine (calls_round (HLr.out _ h)).mono ?_; rintro e w5 ⟨rfl, hb5⟩; have hb6 := hb4.trans (hb5.mono hb4.size)))
   refine ⟨keepsFrom_only (Only.of_below (S := nobody) hb6) (fun i hi e => (not_nobody i e).elim), fun k => k.of (hb6.block _ k.lt), hA.of (hb6.block _ hA.lt), hR.1.of (hb6.block _ hR.1.lt), hR.2.trans (hb6.mono hR.2.size)⟩
 case done =>
  rintro D ys W hD hS ⟨hI, hA, hR⟩ hK
  have hs : isSt S H = true := by
   rcases hI with rfl | h
   ·have := congrArg List.length hS
    rw [List.length_map, downL_len] at this
    simp at this
    omega
   ·exact h
  have c0 := hR.1.cell 0
  have f0 := hR.1.frozen 0
  simp at c0
  gi_wp2
  have hK' := (KeepsOthers.setCell W ⟨p + 1, 0, none⟩ (.bool true)).same D _ hK rfl
  refine ⟨by simp, .inl ⟨_, _, rfl, run_takeDeferred hK', ?_⟩⟩
  have hX := (hR.1.put 0 (.bool true)).kept (grownBy_putObj' _ D (.deferred none)) (fun r e => by cases e; exact ⟨_, hK', rfl⟩)
  have hc := hX.cell 0
  simp at hc
  refine ⟨.bool true, ?_, rfl, by have h9 := (hR.2.setCell (p := ⟨p + 1, 0, none⟩) (by simp; omega) (.bool true)).trans (belowK_b (w := w) (Nat.le_refl _) _ D _ (.deferred none) (by omega) hK' rfl rfl); rw [hp] at h9; exact h9⟩
  simp [results, Tryz.results58, go_sem, hc]
 case stop =>
  rintro D c pre W hD _ ⟨rfl, hs, hR⟩ hK
  gi_wp2
  refine ⟨by simp, .inl ⟨_, _, rfl, run_takeDeferred hK, ?_⟩⟩
  have hX := hR.1.kept (grownBy_putObj' _ D (.deferred none)) (fun r e => by cases e; exact ⟨_, hK, rfl⟩)
  have hc := hX.cell 0
  simp at hc
  refine ⟨.bool false, ?_, rfl, by rw [← hp]; exact hR.2.trans (belowK_b (w := w) (Nat.le_refl _) _ D _ _ (by omega) hK rfl rfl)⟩
  simp [results, Tryz.results58, go_sem, hc]
theorem isVs_no {V : Int} (h : isVs V = false) : V < 1 ∨ 4 < V := by
 rcases Int.lt_or_le V 1 with a | a
 ·exact .inl a
 ·rcases Int.lt_or_le 4 V with b | b
  ·exact .inr b
  ·rw [(isVs_iff V).2 ⟨a, b⟩] at h; cases h
set_option maxHeartbeats 1000000 in
theorem sright_any (N S H V : Int) (w : World) (hN : Rg N) : Calls Tryz.prog 58 #[.agg #[.int .i64 N, .int .i64 S, .int .i64 H, .int .i64 V]] w fun e w' => e = .returned (.bool (stR N S H V)) ∧ Below w.heap.size w w' := by
 cases ht : isTree N
 ·have e : stR N S H V = false := by unfold stR; rw [ht]; rfl
  rw [e]
  have HP := Lib.hid (fun W => path_right N W hN.1 hN.2)
  rw [ht] at HP
  have hE := Lib.hid (((Below.refl _ w).alloc (Nat.le_refl _) (.cells #[.int .i64 N, .int .i64 S, .int .i64 H, .int .i64 V] 79)).alloc (by simp) (.cells #[.bool false] 4))
  refine (callsIn_wide (n := 9)).1 ?_
  refine callsIn_of_wp_marks Tryz.func58 rfl trivial ?_ rfl
  simp only [Tryz.ntmps58, List.size_toArray, List.length_cons, List.length_nil, Nat.reduceAdd, Nat.reduceSub, qA0, qB0, qC0, List.append_toArray, List.nil_append, List.cons_append]
  gi_wp2_with (refine ⟨trivial, ?_⟩; gi_at_call 98; refine (callsIn_wide.2 (HP.out _)).mono ?_; rintro e w1 ⟨rfl, rfl⟩)
  exact ⟨.bool false, by simp [results, Tryz.results58, go_sem], rfl, hE.out⟩
 ·cases hv : isVs V
  ·have e : stR N S H V = false := by unfold stR; rw [ht, hv]; rfl
   rw [e]
   have HP := Lib.hid (fun W => path_right N W hN.1 hN.2)
   rw [ht] at HP
   have hE := Lib.hid (((Below.refl _ w).alloc (Nat.le_refl _) (.cells #[.int .i64 N, .int .i64 S, .int .i64 H, .int .i64 V] 79)).alloc (by simp) (.cells #[.bool false] 4))
   refine (callsIn_wide (n := 9)).1 ?_
   refine callsIn_of_wp_marks Tryz.func58 rfl trivial ?_ rfl
   simp only [Tryz.ntmps58, List.size_toArray, List.length_cons, List.length_nil, Nat.reduceAdd, Nat.reduceSub, qA0, qB0, qC0, List.append_toArray, List.nil_append, List.cons_append]
   rcases isVs_no hv with h1 | h1
   ·gi_wp2_with (refine ⟨trivial, ?_⟩; gi_at_call 98; refine (callsIn_wide.2 (HP.out _)).mono ?_; rintro e w1 ⟨rfl, rfl⟩)
    exact ⟨.bool false, by simp [results, Tryz.results58, go_sem], rfl, hE.out⟩
   ·gi_wp2_with (refine ⟨trivial, ?_⟩; gi_at_call 98; refine (callsIn_wide.2 (HP.out _)).mono ?_; rintro e w1 ⟨rfl, rfl⟩)
    exact ⟨.bool false, by simp [results, Tryz.results58, go_sem], rfl, hE.out⟩
  ·obtain ⟨b, hb, rfl⟩ := (isTree_iff N).1 ht
   obtain ⟨v1, v4⟩ := (isVs_iff V).1 hv
   obtain ⟨n, rfl⟩ : ∃ n : Nat, V = (n : Int) := ⟨V.toNat, by omega⟩
   have e : stR ((2 ^ b : Nat) : Int) S H (n : Int) = isSt S H := by unfold stR; rw [ht, hv]; rfl
   rw [e]
   exact sright_in b S H n w hb (by omega) (by omega)
end Go.Proofs.YtknnebhjldfkhaaGreat


namespace Go.Proofs.YtknnebhjldfkhaaGreat
set_option maxRecDepth 100000
open Go.RowKit Go.ChangeShapes Go.WideShapes Go.ChangeAt

theorem IrAt.one {w w0 : World} (x : Int) (hb : Below w.heap.size w w0) : IrAt w (.slice (some ⟨w0.heap.size, 0, none⟩) 1 1) [x] (w0.alloc (.cells #[.int .i64 x] 3)) :=
 ⟨⟨rfl, .inr ⟨_, 1, #[.int .i64 x], rfl, hb.size, Box.new w0 _ _, Nat.le_refl _, by decide, rfl, rfl⟩⟩, hb.alloc hb.size _⟩
theorem IrAt.more {w wr wx : World} {v : Value} {l : List Int} (h : IrAt w v l wr) (hb : Below wr.heap.size wr wx) : IrAt w v l wx := by
 refine ⟨⟨h.own.1, ?_⟩, h.below.trans (hb.mono h.below.size)⟩
 rcases h.own.2 with e | ⟨g, cap, cur, rfl, h1, h2, h3⟩
 ·exact .inl e
 ·exact .inr ⟨g, cap, cur, rfl, h1, (hb.block g (Array.getElem?_eq_some_iff.1 h2).1).trans h2, h3⟩
def SzPost (w : World) (l : List Int) (e : Ending) (w' : World) : Prop := ∃ v, e = .returned v ∧ IrAt w v l w'
theorem lsizes_of {b s t : Nat} (hb : b ≤ 10) (s1 : 1 ≤ s) (s8 : s ≤ 8) (t1 : 1 ≤ t) (t64 : t ≤ 64) (h : Nat) (w : World) :
  ∃ x y z : Int, szOf b s t h = [x, y, z] ∧ Calls Tryz.prog 28 #[.agg #[.int .i64 ((blN b h : Nat) : Int), .int .i64 (s : Int), .int .i64 (t : Int)]] w fun e w' => e = .returned (.tuple #[.int .i64 x, .int .i64 y, .int .i64 z]) ∧ Below w.heap.size w w' := by
 obtain ⟨Q, P, hc, hq, _⟩ := conf_of (D := b - 2 * h) (by omega) s1 s8 t1 t64
 refine ⟨_, _, _, rfl, ?_⟩
 rw [hq]
 exact sizes_of hc w
set_option maxHeartbeats 1000000 in
theorem ssizes_in (b s t n : Nat) (w : World) (hb : b ≤ 10) (s1 : 1 ≤ s) (s8 : s ≤ 8) (t1 : 1 ≤ t) (t64 : t ≤ 64) (n1 : 1 ≤ n) (n4 : n ≤ 4) :
  Calls Tryz.prog 56 #[.agg (scA b s t n)] w (SzPost w (szS b s t n)) := by
 have HR := Lib.hid (fun W => sright_in b s t n W hb n1 n4)
 have hst : isSt (s : Int) (t : Int) = true := (isSt_iff _ _).2 ⟨⟨by omega, by omega⟩, by omega, by omega⟩
 rw [hst] at HR
 have HT := Lib.hid (fun W => topcells_any b s t n W hb n1 (by omega))
 have HC := Lib.hid (fun W (h : Nat) (hh : h ≤ 100) => lcfg_any b s t n h W hb hh)
 have HZ := Lib.hid (fun W (h : Nat) => lsizes_of hb s1 s8 t1 t64 h W)
 have HL := Lib.hid (fun h => szL_len b s t h)
 have HSC : Hid (∀ h, szL b s t (h + 1) = szL b s t h ++ szOf b s t h) := Lib.hid (fun _ => rfl)
 have HE0 : Hid (szS b s t n = ((blN b (n - 1) : Nat) : Int) :: szL b s t n) := Lib.hid rfl
 have HS0 : Hid (szL b s t 0 = []) := Lib.hid rfl
 clear hst s1 s8 t1 t64
 generalize szS b s t n = ls at *
 generalize szL b s t = zl at *
 generalize szOf b s t = zo at *
 generalize blN b (n - 1) = tp at *
 generalize blN b = NB at *
 unfold scA at *
 generalize 2 ^ b = B at *
 obtain ⟨p, hp⟩ : ∃ p, w.heap.size = p := ⟨_, rfl⟩
 obtain ⟨w2, hw2⟩ : ∃ w2, w.alloc (.cells #[.int .i64 (B : Int), .int .i64 (s : Int), .int .i64 (t : Int), .int .i64 (n : Int)] 79) = w2 := ⟨_, rfl⟩
 have hx : Box w2 p 79 #[.int .i64 (B : Int), .int .i64 (s : Int), .int .i64 (t : Int), .int .i64 (n : Int)] := by rw [← hw2, ← hp]; exact Box.new w _ _
 have HB := Lib.hid (show Below w.heap.size w w2 by rw [← hw2]; exact (Below.refl _ w).alloc (Nat.le_refl _) _)
 have HX := Lib.hid hx
 have HW2 := Lib.hid hw2
 have HPP := Lib.hid hp
 have k0 := hx.cell 0
 have k1 := hx.cell 1
 have k2 := hx.cell 2
 have k3 := hx.cell 3
 clear hx hw2 hp
 go_enter Tryz.func56, Tryz.ntmps56
 go_upto_region 1 with fail
 rw [HPP.out, HW2.out]
 go_wp2_with fail
 refine (HR.out _).mono ?_
 rintro e w3 ⟨rfl, hb3⟩
 have HB3 := Lib.hid (HB.out.trans (hb3.mono HB.out.size))
 have HX3 := Lib.hid (HX.out.of (hb3.block _ HX.out.lt))
 have k0 := HX3.out.cell 0
 have k1 := HX3.out.cell 1
 have k2 := HX3.out.cell 2
 have k3 := HX3.out.cell 3
 clear hb3 HX HB HW2
 go_wp2_with fail
 refine (HT.out _).mono ?_
 rintro e w4 ⟨rfl, hb4⟩
 obtain ⟨w5, hw5⟩ : ∃ w5, (w4.alloc (.cells #[.int .i64 (tp : Int)] 3)) = w5 := ⟨_, rfl⟩
 obtain ⟨v0, hv0⟩ : ∃ v0 : Value, (.slice (some ⟨w4.heap.size, 0, none⟩) 1 1 : Value) = v0 := ⟨_, rfl⟩
 have HI : Hid (IrAt w v0 [(tp : Int)] w5) := Lib.hid (by rw [← hw5, ← hv0]; exact IrAt.one _ (HB3.out.trans (hb4.mono HB3.out.size)))
 have HX5 : Hid (Box w5 p 79 #[.int .i64 (B : Int), .int .i64 (s : Int), .int .i64 (t : Int), .int .i64 (n : Int)]) := Lib.hid (by rw [← hw5]; exact (HX3.out.of (hb4.block _ HX3.out.lt)).alloc _)
 clear hb4 HX3 HB3 k0 k1 k2 k3
 have k3 := HX5.out.cell 3
 go_wp2_with fail
 go_loopw [3, 16] (fun v i wr => ∃ k : Nat, i = .int .i64 k ∧ k ≤ n ∧ IrAt w v (tp :: zl k) wr ∧ Box wr p 79 #[.int .i64 (B : Int), .int .i64 (s : Int), .int .i64 (t : Int), .int .i64 (n : Int)]) (fun _ i _ => n - (intOf i).toNat)
 case atStart => exact ⟨0, rfl, by omega, by rw [HS0.out]; exact HI.out, HX5.out⟩
 case round =>
  obtain ⟨k, rfl, hk, hI, hX⟩ := hrel
  have HIr := Lib.hid hI
  have HXr := Lib.hid hX
  clear hI hX HI HX5 k3 hw5 hv0
  by_cases hlt : k < n
  ·obtain ⟨x, y, z, hz, hcz⟩ := HZ.out wr k
   clear hcz
   have HO := Lib.hid hz
   have hz' : ∀ W, Calls Tryz.prog 28 #[.agg #[.int .i64 ((NB k : Nat) : Int), .int .i64 (s : Int), .int .i64 (t : Int)]] W fun e w' => e = .returned (.tuple #[.int .i64 x, .int .i64 y, .int .i64 z]) ∧ Below W.heap.size W w' := by
    intro W
    obtain ⟨x', y', z', h', hc'⟩ := HZ.out W k
    rw [hz] at h'
    injection h' with e1 h'
    injection h' with e2 h'
    injection h' with e3 _
    subst e1 e2 e3
    exact hc'
   have HZ' := Lib.hid hz'
   clear hz hz'
   have k0 := HXr.out.cell 0
   have k1 := HXr.out.cell 1
   have k2 := HXr.out.cell 2
   have k3 := HXr.out.cell 3
   go_wp2_with fail
   refine (HC.out _ k (by omega)).mono ?_
   rintro e w6 ⟨rfl, hb6⟩
   have HI6 := Lib.hid (HIr.out.more hb6)
   have HX6 := Lib.hid (HXr.out.of (hb6.block _ HXr.out.lt))
   clear hb6 k0 k1 k2 k3 HIr HXr
   go_wp2_with fail
   refine (HZ'.out _).mono ?_
   rintro e w7 ⟨rfl, hb7⟩
   have HI7 := Lib.hid (HI6.out.more hb7)
   have HX7 := Lib.hid (HX6.out.of (hb7.block _ HX6.out.lt))
   clear hb7 HI6 HX6
   obtain ⟨l, hl⟩ : ∃ l, ((tp : Int) :: zl k) = l := ⟨_, rfl⟩
   have hlen : l.length = 3 * k + 1 := by rw [← hl, List.length_cons, HL.out]
   have HL2 := Lib.hid hl
   rw [hl] at HI7
   have HLen := Lib.hid hlen
   have HOW : Hid (w7.ownsRow w.heap.size 3 1 u3 (3 * k + 1) (irow l)) := Lib.hid (by have := HI7.out.own; rwa [HLen.out] at this)
   have hsz := HI7.out.below.size
   clear hl hlen
   go_wp2_with (with_reducible refine wpList_append_where _ rfl (.tmp 27) (.tmp 31) 39 rfl w.heap.size 3 (.int .i64 0) 1 8 Tryz.underlying39 infoI64 rfl (by decide) u3 (3 * k + 1) (irow l) rfl (HOW.out.alloc _) ⟨w7.heap.size, 0, none⟩ 3 3 (irow [x, y, z]) rfl rfl ?c0 (irow_one _) ?c2 ?c3 ?c4 ?_)
   case c0 => exact irow_new w7 _ [x, y, z] rfl
   case c2 => simp only [maxLen]; omega
   case c3 => omega
   case c4 => simp; omega
   intro A2 cap2 w8 hown hgr _
   have HN2 : Hid (IrAt w (.slice A2 (3 * k + 1 + 3) cap2) (l ++ [x, y, z]) w8) := by
    have h := HI7.out.next (m := [x, y, z]) (Below.refl _ w7) (by rw [HLen.out]; exact hown) hgr
    rw [HLen.out] at h
    exact h
   have HX8 : Hid (Box w8 p 79 #[.int .i64 (B : Int), .int .i64 (s : Int), .int .i64 (t : Int), .int .i64 (n : Int)]) := Lib.hid ((HX7.out.alloc _).of (hgr.block p (by have := HX7.out.lt; simp; omega) (fun e => by
    rcases HI7.out.own.2 with ⟨e0, _⟩ | ⟨g, cap, cur, e0, _, hg, _⟩
    ·rw [e0] at e; cases e
    ·rw [e0] at e
     obtain rfl : g = p := by simpa [Value.ownBlock] using e.symm
     exact absurd rfl (Box.ne (cs' := cur) HX7.out hg (by decide)))))
   clear hown hgr
   go_wp2_with fail
   go_roundw
   case rel => exact ⟨k + 1, by go_num, by omega, by rw [HSC.out, HO.out, ← List.cons_append, HL2.out]; exact HN2.out, HX8.out⟩
   case measure => simp [intOf]; omega
  ·obtain rfl : k = n := by omega
   have HD : Hid (SzPost w ls (.returned u3) wr) := Lib.hid ⟨_, rfl, by rw [HE0.out]; exact HIr.out⟩
   have k3 := HXr.out.cell 3
   clear HIr HXr
   go_wp2_with fail
   go_ret
   exact HD.out
set_option maxHeartbeats 1000000 in
theorem swords_any (N S H V : Int) (w : World) (hN : Rg N) : Calls Tryz.prog 59 #[.agg #[.int .i64 N, .int .i64 S, .int .i64 H, .int .i64 V]] w fun e w' => e = .returned (.int .i64 (if stR N S H V = true then 2 * V else 0)) ∧ Below w.heap.size w w' := by
 have HR := Lib.hid (fun W => sright_any N S H V W hN)
 have HB := Lib.hid (show Below w.heap.size w (w.alloc (.cells #[.int .i64 N, .int .i64 S, .int .i64 H, .int .i64 V] 79)) from (Below.refl _ w).alloc (Nat.le_refl _) _)
 cases hr : stR N S H V
 ·rw [hr] at HR
  rw [if_neg (by simp)]
  go_enter Tryz.func59, Tryz.ntmps59
  go_wp2_with fail
  refine (HR.out _).mono ?_
  rintro e w3 ⟨rfl, hb3⟩
  have HB3 := Lib.hid (HB.out.trans (hb3.mono HB.out.size))
  clear hb3
  go_wp2_with fail
  go_ret
  exact ⟨rfl, HB3.out⟩
 ·have hv : 1 ≤ V ∧ V ≤ 4 := by
   obtain ⟨b, s, t, n, _, _, _, _, hv, _, _, _, _, h5, h6⟩ := (stR_iff _ _ _ _).1 hr
   omega
  obtain ⟨hv1, hv2⟩ := hv
  rw [hr] at HR
  rw [if_pos rfl]
  clear hr
  go_enter Tryz.func59, Tryz.ntmps59
  go_wp2_with fail
  refine (HR.out _).mono ?_
  rintro e w3 ⟨rfl, hb3⟩
  have hx3 := (Box.new w 79 #[.int .i64 N, .int .i64 S, .int .i64 H, .int .i64 V]).of (hb3.block _ (by simp))
  have k3 := hx3.cell 3
  have HB3 := Lib.hid (HB.out.trans (hb3.mono HB.out.size))
  clear hb3 hx3
  go_wp2_with fail
  go_ret
  exact ⟨rfl, HB3.out⟩
end Go.Proofs.YtknnebhjldfkhaaGreat


namespace Go.Proofs.YtknnebhjldfkhaaGreat
set_option maxRecDepth 100000
open Go.RowKit Go.ChangeShapes Go.WideShapes Go.ChangeAt

end Go.Proofs.YtknnebhjldfkhaaGreat

