import Derived.Maps.OwnSet
import Derived.Test.YtknnebhjldfkhaaGreatG30
import Derived.Test.YtknnebhjldfkhaaGreatG28
import Derived.Test.YtknnebhjldfkhaaGreatG4
import Derived.Test.YtknnebhjldfkhaaGreatG15
namespace Go.Proofs.YtknnebhjldfkhaaGreat
set_option maxRecDepth 100000
open Go.RowKit Go.ChangeShapes Go.WideShapes Go.ChangeAt

theorem Its.less {w : World} {B : Nat} {a : Option Addr} {n m : Nat} {y : Nat → It} (h : Its w B a n y) (hm : m ≤ n) : Its w B a m y := fun h0 => by
 obtain ⟨b, off, e, hB, hc⟩ := h (by omega)
 exact ⟨b, off, e, hB, fun j hj => hc j (by omega)⟩
def plcM (M : MS) (f Q n S D T : Nat) (C : Nat → Cl) (y : Nat → It) (o : List Nat) : MS :=
 M.gone (cT (f + 2) (fun i => plZ n i (fun j => (lostO y S D T o).contains j) (fun j => outP (goes y S D T o) n j) (C i)) M.c Q) (evE (f + 2) Q)
theorem below_nob {B : Nat} {w w' : World} (h : Only nobody w w') (hB : B ≤ w.heap.size) : Below B w w' := Only.below h hB (fun i _ k => not_nobody i k)
theorem nums_ne {w : World} {pb b k : Nat} {t : TypeId} {A : Option Addr} {n c : Nat} {q : IntKind} {z : Int} (h : Box w pb t #[.slice A n c]) (hc : w.cell? ⟨b, k, none⟩ = some (.int q z)) : b ≠ pb := by
 rintro rfl
 rw [h.cell k] at hc
 cases k with
 | zero => cases hc
 | succ k => simp at hc
theorem LvA_over (mp f N S T : Nat) (ov : Bool) (mb : Option Nat) : (LvA mp f N S T ov mb).setIfInBounds 5 (.bool true) = LvA mp f N S T true mb := by simp [LvA]
def PlcPost (w : World) (X : Nat → Prop) (lp mp f N S T D Q n : Nat) (ov : Bool) (mb : Option Nat) (M : MS) (C : Nat → Cl) (y : Nat → It) (e : Ending) (w' : World) : Prop :=
 e = .returned (.tuple #[]) ∧ ∃ o, IsOrd y n o ∧ Own w' X mp (plcM M f Q n S D T C y o) ∧ Kept (fun j => X j ∧ j ≠ lp) w w' ∧ Box w' lp 127 (LvA mp f N S T (ov || !(lostO y S D T o).isEmpty) mb)
theorem place_clo (X : Nat → Prop) (bg gg bp gp Q n : Nat) (lost : Nat → Bool) (pl : Nat → Nat) (C : Nat → Cl) (hQ : Q ≤ 256) (hpl : ∀ j, j < n → pl j ≤ 1000) (hC : ∀ i, Wd (C i)) (hX : X bg ∧ X gg ∧ X bp ∧ X gp) :
  Clo X 165 #[.pointer (some ⟨bg, 0, none⟩), .pointer (some ⟨bp, 0, none⟩)] Q C (fun i => plZ n i lost pl (C i)) (fun _ Y W => (∀ j, ¬ Y j) ∧ PlIn W bg gg bp gp Q n lost pl) :=
 ⟨fun _ _ _ _ h hk => ⟨h.1, h.2.kept (X := X) (hk.mono fun _ hj => .inl hj) hX⟩, fun i Y W hi h _ _ =>
  (plc_clo i Q n bg gg bp gp lost pl (C i) W hi hQ hpl (hC i) h.2).mono fun _ _ ⟨he, ho⟩ => ⟨he, ho.mono (fun j _ hj => absurd hj (not_nobody j)), Y, ⟨h.1, h.2.nob ho⟩, fun _ hj => .inl hj⟩⟩
theorem infoPl : (Tryz.prog.info? 43).map (fun i => (i.zero, i.size, i.bytes)) = some (some (.int .u64 0), 1, 8) := by kernel_rfl
structure PlAt (w8 : World) (lp mp f N S T : Nat) (ov : Bool) (mb : Option Nat) (pb g n Q : Nat) (z : Nat → Nat) (A : Option Addr) (lo : List Nat) (gg : Nat) (k : Nat) (wr : World) : Prop where
 le : k ≤ lo.length
 box : Box wr lp 127 (LvA mp f N S T (ov || decide (0 < k)) mb)
 row : wr.rowIs gg 43 Q (fun j => .int .u64 (msk ((lo.take k).contains j)))
 xg : Box wr (gg + 1) 54 #[.slice (some ⟨gg, 0, none⟩) Q Q]
 xp : Box wr pb 39 #[.slice (some ⟨g, 0, none⟩) n n]
 ir : ∀ j, j < n → wr.cell? ⟨g, j, none⟩ = some (.int .i64 (z j : Int))
 nu : ∀ j, j < lo.length → ∃ b, ∃ ob, A = some ⟨b, ob, none⟩ ∧ b ≠ gg ∧ b ≠ lp ∧ wr.cell? ⟨b, ob + j, none⟩ = some (.int .i64 (lo.getD j 0 : Nat))
 only : Only (fun j => j = lp ∨ j = gg) w8 wr
 apart : lp ≠ gg ∧ pb ≠ gg ∧ pb ≠ lp ∧ g ≠ gg ∧ g ≠ lp ∧ lp ≠ gg + 1
theorem PlAt.start {w7 : World} {lp mp f N S T pb g n Q : Nat} {ov : Bool} {mb : Option Nat} {z : Nat → Nat} {A : Option Addr} {lo : List Nat} {B B' : Nat} (hB : Box w7 lp 127 (LvA mp f N S T ov mb)) (hp : Box w7 pb 39 #[.slice (some ⟨g, 0, none⟩) n n])
  (hir : Ir w7 B g n (fun i => (z i : Nat))) (hnu : ∀ j, j < lo.length → ∃ b, ∃ ob, A = some ⟨b, ob, none⟩ ∧ w7.cell? ⟨b, ob + j, none⟩ = some (.int .i64 (lo.getD j 0 : Nat)))
  (hnw : ∀ b off, A = some ⟨b, off, none⟩ → B' ≤ b) (hl : lp < B') (hg : B' ≤ g) :
  PlAt ((w7.alloc (.cells (madeCells #[.int .u64 0] Q) 43)).alloc (.cells #[.slice (some ⟨w7.heap.size, 0, none⟩) Q Q] 54)) lp mp f N S T ov mb pb g n Q z A lo w7.heap.size 0 ((w7.alloc (.cells (madeCells #[.int .u64 0] Q) 43)).alloc (.cells #[.slice (some ⟨w7.heap.size, 0, none⟩) Q Q] 54)) := by
 have e : (w7.alloc (.cells (madeCells #[.int .u64 0] Q) 43)).heap.size = w7.heap.size + 1 := by simp
 have hx := Box.new (w7.alloc (.cells (madeCells #[.int .u64 0] Q) 43)) 54 #[.slice (some ⟨w7.heap.size, 0, none⟩) Q Q]
 rw [e] at hx
 have ho : Only nobody w7 ((w7.alloc (.cells (madeCells #[.int .u64 0] Q) 43)).alloc (.cells #[.slice (some ⟨w7.heap.size, 0, none⟩) Q Q] 54)) := ((Only.refl _ w7).alloc _).alloc _
 refine ⟨Nat.zero_le _, by simpa using hB.only ho (not_nobody _), ((World.rowIs_made w7 (.int .u64 0) Q 43).alloc _).congr fun j _ => by simp [msk], hx, hp.only ho (not_nobody _),
  fun j hj => ((hir.below (below_nob ho (Nat.le_refl _)) (Nat.le_refl _)).cell j hj), fun j hj => ?_, Only.refl _ _, ?_⟩
 ·obtain ⟨b, ob, hA, hc⟩ := hnu j hj
  have hlt := World.block_lt_of_cell? w7 ⟨b, ob + j, none⟩ hc
  have hnb := hnw b ob hA
  exact ⟨b, ob, hA, by dsimp at hlt; omega, by omega, (World.cell?_of_block (w := w7) (ho.block b hlt (not_nobody _))).trans hc⟩
 ·have h1 := hB.lt
  have h2 := hp.lt
  have h3 := hir.lt
  have h4 := Box.ne hp hB (by decide)
  exact ⟨by omega, by omega, h4, by omega, by omega, by omega⟩
theorem PlAt.far {w8 wr : World} {lp mp f N S T pb g n Q gg k : Nat} {ov : Bool} {mb : Option Nat} {z : Nat → Nat} {A : Option Addr} {lo : List Nat} (h : PlAt w8 lp mp f N S T ov mb pb g n Q z A lo gg k wr) (hk : k < lo.length) :
  PlAt w8 lp mp f N S T ov mb pb g n Q z A lo gg (k + 1) ((wr.setCell ⟨gg, lo.getD k 0, none⟩ (.int .u64 18446744073709551615)).setCell ⟨lp, 5, none⟩ (.bool true)) := by
 have ho : Only (fun j => j = lp ∨ j = gg) wr ((wr.setCell ⟨gg, lo.getD k 0, none⟩ (.int .u64 18446744073709551615)).setCell ⟨lp, 5, none⟩ (.bool true)) :=
  ((Only.refl _ wr).setCell (p := ⟨gg, lo.getD k 0, none⟩) (.inl (.inr rfl)) _).setCell (p := ⟨lp, 5, none⟩) (.inl (.inl rfl)) _
 obtain ⟨a1, a2, a3, a4, a5, a6⟩ := h.apart
 refine ⟨hk, ?_, ((h.row.set _ _).setOther (fun e => a1 e.symm) _).congr fun j _ => ?_, h.xg.only ho (by omega), h.xp.only ho (by omega), fun j hj => (World.cell?_of_block (w := wr) (ho.block g (World.block_lt_of_cell? wr ⟨g, j, none⟩ (h.ir j hj)) (by omega))).trans (h.ir j hj), fun j hj => ?_, h.only.trans ho, h.apart⟩
 ·have := (h.box.far (a := ⟨gg, lo.getD k 0, none⟩) a1 (.int .u64 18446744073709551615)).put 5 (.bool true)
  rw [LvA_over] at this
  simpa using this
 ·have e : lo.take (k + 1) = lo.take k ++ [lo.getD k 0] := by
   rw [List.take_succ_eq_append_getElem hk, List.getD_eq_getElem?_getD, List.getElem?_eq_getElem hk]; rfl
  rw [e]
  show (if j = lo.getD k 0 then _ else _) = _
  by_cases hj : j = lo.getD k 0
  ·have e3 : (lo.take k ++ [lo.getD k 0]).contains j = true := by rw [List.contains_iff_mem]; simp only [List.mem_append, List.mem_singleton]; exact .inr hj
   rw [if_pos hj, e3]; rfl
  ·have e3 : (lo.take k ++ [lo.getD k 0]).contains j = (lo.take k).contains j := by
    rw [Bool.eq_iff_iff]
    simp only [List.contains_iff_mem, List.mem_append, List.mem_singleton]
    exact ⟨fun h => h.resolve_right hj, .inl⟩
   rw [if_neg hj, e3]
 ·obtain ⟨b, ob, hA, h1, h2, hc⟩ := h.nu j hj
  exact ⟨b, ob, hA, h1, h2, (World.cell?_of_block (w := wr) (ho.block b (World.block_lt_of_cell? wr ⟨b, ob + j, none⟩ hc) (by omega))).trans hc⟩
theorem lost_lt {y : Nat → It} {n S D T k : Nat} {o : List Nat} (h : IsOrd y n o) (hk : k < (lostO y S D T o).length) : (lostO y S D T o).getD k 0 < n := by
 have e : (lostO y S D T o).getD k 0 = (lostO y S D T o)[k] := by rw [List.getD_eq_getElem?_getD, List.getElem?_eq_getElem hk]; rfl
 rw [e]
 exact ((lost_mem h _).1 (List.getElem_mem hk)).1.1
theorem lost_le {y : Nat → It} {n S D T : Nat} {o : List Nat} (h : IsOrd y n o) (hS : 0 < S) : (lostO y S D T o).length ≤ n := by
 have h1 := lost_few (D := D) (T := T) hS h
 have h2 := List.countP_le_length (p := fun i => decide (0 ≤ (y i).2)) (l := List.range n)
 rw [List.length_range] at h2
 omega
theorem outP_le {y : Nat → It} {n S D T j : Nat} {o : List Nat} (h : IsOrd y n o) (hS : 0 < S) (hn : (D + 1) * S + T < n) (hj : j < n) : outP (goes y S D T o) n j < n :=
 List.mem_range.1 ((goes_perm hS hn h).mem_iff.1 (List.mem_map.2 ⟨j, List.mem_range.2 hj, rfl⟩))
theorem PlAt.plIn {w8 wr : World} {lp mp f N S T pb g n Q gg : Nat} {ov : Bool} {mb : Option Nat} {z : Nat → Nat} {A : Option Addr} {lo : List Nat} (h : PlAt w8 lp mp f N S T ov mb pb g n Q z A lo gg lo.length wr) :
  PlIn wr (gg + 1) gg pb g Q n (fun j => lo.contains j) z :=
 ⟨h.xg, h.xp, fun j hj => by have := h.row.cell hj; rwa [List.take_length] at this, h.ir⟩
theorem PlAt.last {w w8 wr w9 : World} {lp mp f N S T pb g n Q gg : Nat} {ov : Bool} {mb : Option Nat} {z : Nat → Nat} {A : Option Addr} {lo : List Nat} {X : Nat → Prop} (h : PlAt w8 lp mp f N S T ov mb pb g n Q z A lo gg lo.length wr) (ho : Only nobody w w8) (hg : w.heap.size ≤ gg) (hX : X lp)
  (hk : Kept (fun j => X j ∨ (w.heap.size ≤ j ∧ j < w8.heap.size)) wr w9) : Kept (fun j => X j ∧ j ≠ lp) w w9 ∧ Box w9 lp 127 (LvA mp f N S T (ov || !lo.isEmpty) mb) := by
 have k1 : Only (fun j => j = lp) w wr := (ho.mono (fun _ _ h => absurd h (not_nobody _))).then h.only (fun i hi => hi.imp id (fun e => by rw [e]; exact hg))
 have k2 : Kept (fun j => X j ∧ j ≠ lp) w wr := k1.mono (fun i _ e hx => hx.2 e)
 refine ⟨Only.then k2 hk (fun i hi => .inl (fun hx => hi (.inl hx.1))), ?_⟩
 have hb := hk.box h.box (.inl hX)
 have e : decide (0 < lo.length) = !lo.isEmpty := by cases lo <;> simp
 rwa [e] at hb
theorem place_fn (args : Array Value) (W : World) : Sem.run Tryz.prog (callFunc 165 args) W = .ok (.enter 165 args) W := by go_simp
set_option maxRecDepth 100000 in
set_option maxHeartbeats 4000000 in
theorem place_any {N S T D L n Q P : Nat} (h : Conf N S T D L n Q P) (X : Nat → Prop) (lp mp f gi off cap : Nat) (ov : Bool) (mb : Option Nat) (M : MS) (C : Nat → Cl) (y : Nat → It) (w : World) (hM : LvM M f S D T Q) (hf : f ≤ 100)
  (hC : ∀ a, a < Q → M.c (f + 2) a = C a) (hCw : ∀ i, Wd (C i)) (hO : Own w X mp M) (hX1 : X lp) (hB : Box w lp 127 (LvA mp f N S T ov mb)) (hI : Its w w.heap.size (some ⟨gi, off, none⟩) Q y) (hcap : Q ≤ cap)
  (hy : ∀ j, j < n → (y j).2 ≤ 9223372036854775807) :
  Calls Tryz.prog 139 #[.pointer (some ⟨lp, 0, none⟩), .slice (some ⟨gi, off, none⟩) Q cap] w (PlcPost w X lp mp f N S T D Q n ov mb M C y) := by
 have HSh := Lib.hid (fun W => shape_of h W)
 have HPs := Lib.hid (fun W => places_in D S T L n h.hD h.s1 h.s8 h.t1 h.t64 h.hL h.hn W)
 have HDl := Lib.hid (fun W c (hI : Its W W.heap.size (some ⟨gi, off, none⟩) n y) => deal_new D S T L n c (some ⟨gi, off, none⟩) y W h.hD h.s1 h.s8 h.t1 h.t64 h.hL h.hn hI hy)
 have HEa := Lib.hid (fun X' ov' W Y caps Inv Z => each_any h X' Y lp mp f ov' mb M 165 caps C Z Inv W hM hf hC)
 have hQ := h.big.2.2.2
 have hnQ := h.le
 have hn3 := h.big.2.1
 have s1 := h.s1
 have hnc : n ≤ cap := by omega
 have hnc2 : ¬ cap < n := by omega
 have hcz : ¬ cap = 0 := by omega
 have HL := Lib.hid h.hL
 have HN := Lib.hid h.hn
 have HCw := Lib.hid hCw
 have HI := Lib.hid hI
 have HO := Lib.hid hO
 have HB := Lib.hid hB
 have hBB := hB
 have hlpw := hB.lt
 have hmk := run_make_row' (P := Tryz.prog) 54 43 (.int .u64 0) 8 Tryz.underlying54 infoPl rfl .i64 .i64 Q (by omega) (by omega)
 have p2 := lv2 hB
 have p3 := lv3 hB
 have p4 := lv4 hB
 clear h hM hC hCw hI hO hB hy
 go_enter Tryz.func139, Tryz.ntmps139
 go_wp2_with fail
 refine (HSh.out _).mono ?_
 rintro e w1 ⟨rfl, hb1⟩
 have ho1 : Only nobody w w1 := Only.of_below hb1
 clear hb1 p2 p3 p4
 go_upto_region 1 with fail
 obtain ⟨sh, hsh⟩ : ∃ b, w1.heap.size = b := ⟨_, rfl⟩
 obtain ⟨w2, hw2⟩ : ∃ x, w1.alloc (.cells #[.int .i64 (D : Int), .int .i64 (S : Int), .int .i64 (T : Int)] 159) = x := ⟨_, rfl⟩
 have hs2 : Box w2 sh 159 #[.int .i64 (D : Int), .int .i64 (S : Int), .int .i64 (T : Int)] := by rw [← hw2, ← hsh]; exact Box.new w1 _ _
 have ho2 : Only nobody w w2 := by rw [← hw2]; exact ho1.alloc _
 rw [hsh, hw2]
 clear ho1 hsh hw2
 refine held_s (S := fun w' => Box w' sh 159 #[.int .i64 (D : Int), .int .i64 (S : Int), .int .i64 (T : Int)]) 12 rfl (by kernel_rfl) (hs2.drewN 1) (fun hHeld => ?_)
 simp only [qA0, qB0, qC0, List.nil_append, List.cons_append]
 have ho3 : Only nobody w w2.drew := ho2.drew
 have hs3 : Box w2.drew sh 159 #[.int .i64 (D : Int), .int .i64 (S : Int), .int .i64 (T : Int)] := hs2.drewN 1
 clear ho2 hs2
 generalize w2.drew = w3 at *
 refine tk1 0 17 (.agg #[.int .i64 (D : Int), .int .i64 (S : Int), .int .i64 (T : Int)]) rfl (Or.inl ⟨by rfl, fun w' hw => by (have k0 := hw.cell 0; have k1 := hw.cell 1; have k2 := hw.cell 2; go_simp)⟩) hHeld ?_
 try simp only [Act.put, sA0, sB0, sC0]
 refine tk1 1 18 (.slice (some ⟨gi, off, none⟩) Q cap) rfl (Or.inl ⟨by rfl, fun w' hw => by go_simp⟩) hHeld ?_
 try simp only [Act.put, sA0, sB0, sC0]
 refine tk1 2 19 (.agg #[.int .i64 (D : Int), .int .i64 (S : Int), .int .i64 (T : Int)]) rfl (Or.inl ⟨by rfl, fun w' hw => by (have k0 := hw.cell 0; have k1 := hw.cell 1; have k2 := hw.cell 2; go_simp)⟩) hHeld ?_
 try simp only [Act.put, sA0, sB0, sC0]
 -- LEFT [3, 4, 5, 6, 7, 8, 9, 10, 11]
 refine wpAnyH_ready (rs := [3, 9]) (by kernel_rfl) (by simp) ?_
 refine AllReadyH.cons rfl (fun K hK => ?_) ?_
 ·go_simp
  refine (HPs.out _).mono ?_
  rintro e w4 ⟨rfl, hb⟩
  have ho : Only nobody w3 w4 := Only.of_below hb
  have ho4 := ho3.trans ho
  have hs4 := hs3.only ho (not_nobody _)
  refine hK.out _ _ hs4 (fun hHeld => ?_)
  clear hK K hb ho
  simp only [sA0, sB0, sC0]
  refine tk1 4 21 (.slice (some ⟨gi, off, none⟩) n cap) rfl (Or.inl ⟨by rfl, fun w' hw => by go_simp⟩) hHeld ?_
  try simp only [Act.put, sA0, sB0, sC0]
  -- LEFT [5, 6, 7, 8, 9, 10, 11]
  refine wpAnyH_ready (rs := [5, 9]) (by kernel_rfl) (by simp) ?_
  refine AllReadyH.cons rfl (fun K hK => ?_) ?_
  ·go_simp
   refine (HDl.out w4 cap (((HI.out.below (below_nob ho4 (Nat.le_refl _))).more ho4.size).less hnQ)).mono ?_
   rintro e w5 ⟨o, g, A2, cap2, hor, rfl, hir, hnu, hnw, hb⟩
   have ho : Only nobody w4 w5 := Only.of_below hb
   have hnw : ∀ b off, A2 = some ⟨b, off, none⟩ → w.heap.size ≤ b := fun b off e => Nat.le_trans ho4.size (hnw b off e)
   have hwg : w.heap.size ≤ g := Nat.le_trans ho4.size hir.old
   have ho5 := ho4.trans ho
   have hs5 := hs4.only ho (not_nobody _)
   refine hK.out _ _ hs5 (fun hHeld => ?_)
   clear hK K hb ho
   simp only [sA0, sB0, sC0]
   refine tk1 6 16 (.tuple #[.slice (some ⟨g, 0, none⟩) n n, .slice A2 (lostO y S D T o).length cap2]) rfl (Or.inl ⟨by rfl, fun w' hw => by go_simp⟩) hHeld ?_
   try simp only [Act.put, sA0, sB0, sC0]
   refine tk1 7 23 (.slice (some ⟨g, 0, none⟩) n n) rfl (Or.inl ⟨by rfl, fun w' hw => by go_simp⟩) hHeld ?_
   try simp only [Act.put, sA0, sB0, sC0]
   refine tk1 8 24 (.slice A2 (lostO y S D T o).length cap2) rfl (Or.inl ⟨by rfl, fun w' hw => by go_simp⟩) hHeld ?_
   try simp only [Act.put, sA0, sB0, sC0]
   refine one_ready 9 rfl (by kernel_rfl) (fun K hK => ?_)
   go_simp
   obtain ⟨pb, hpb⟩ : ∃ c, w5.heap.size = c := ⟨_, rfl⟩
   obtain ⟨w6, hw6⟩ : ∃ x, w5.alloc (.cells #[.slice none 0 0] 39) = x := ⟨_, rfl⟩
   have hp6 : Box w6 pb 39 #[.slice none 0 0] := by rw [← hw6, ← hpb]; exact Box.new w5 _ _
   have ho6 : Only nobody w w6 := by rw [← hw6]; exact ho5.alloc _
   have hs6 : Box w6 sh 159 #[.int .i64 (D : Int), .int .i64 (S : Int), .int .i64 (T : Int)] := by rw [← hw6]; exact hs5.alloc _
   have hpg : pb ≠ g := by have := hir.lt; omega
   have hir : Ir w6 w4.heap.size g n (fun i => (outP (goes y S D T o) n i : Nat)) := by rw [← hw6]; exact hir.alloc _
   have hnu : Nums .i64 w6 w5.heap.size A2 (lostO y S D T o).length (fun j => ((lostO y S D T o).getD j 0 : Nat)) := by rw [← hw6]; exact hnu.below ((Below.refl _ w5).alloc (Nat.le_refl _) _)
   have hpn : w.heap.size ≤ pb := by rw [← hpb]; exact ho5.size
   refine hK.out _ _ (hs5.alloc _) (fun hHeld => ?_)
   change wpAnyH _ _ _ _ _ _ _ _ (w5.alloc (.cells #[.slice none 0 0] 39))
   rw [hw6]
   simp only [hpb]
   clear hK K hw6
   simp only [sA0, sB0, sC0]
   refine one_ready 10 (o := ⟨none, _, _, _, _, _⟩) rfl (by kernel_rfl) (fun K hK => ?_)
   have q0 := hp6.cell 0
   have q1 := hp6.frozen 0
   go_simp
   have hpf : Box (w6.setCell ⟨pb, 0, none⟩ (.slice (some ⟨g, 0, none⟩) n n)) pb 39 #[.slice (some ⟨g, 0, none⟩) n n] := hp6.put 0 _
   have hoj : Only (just pb) w6 (w6.setCell ⟨pb, 0, none⟩ (.slice (some ⟨g, 0, none⟩) n n)) := (Only.refl _ _).setCell (p := ⟨pb, 0, none⟩) (.inl (just_self _)) _
   have hsf := hs6.only hoj (just_ne (Box.ne hs6 hp6 (by decide)))
   have hof : Only nobody w (w6.setCell ⟨pb, 0, none⟩ (.slice (some ⟨g, 0, none⟩) n n)) := ho6.setCell (p := ⟨pb, 0, none⟩) (.inr hpn) _
   have hif := hir.far (a := ⟨pb, 0, none⟩) (fun e => hpg e.symm) (.slice (some ⟨g, 0, none⟩) n n)
   have hnf : ∀ j, j < (lostO y S D T o).length → ∃ b, ∃ ob, A2 = some ⟨b, ob, none⟩ ∧ (w6.setCell ⟨pb, 0, none⟩ (.slice (some ⟨g, 0, none⟩) n n)).cell? ⟨b, ob + j, none⟩ = some (.int .i64 ((lostO y S D T o).getD j 0 : Nat)) := fun j hj => by
    obtain ⟨b, ob, e, hb, hc⟩ := hnu (by omega)
    exact ⟨b, ob, e, (World.cell?_of_block (w := w6) (hoj.block b (World.block_lt_of_cell? w6 ⟨b, ob + j, none⟩ (hc j hj)) (just_ne (nums_ne hp6 (hc j hj))))).trans (hc j hj)⟩
   refine hK.out _ _ hsf (fun hHeld => ?_)
   clear hK K q0 q1 hoj hnu hir
   simp only [sA0, sB0, sC0]
   generalize w6.setCell ⟨pb, 0, none⟩ (.slice (some ⟨g, 0, none⟩) n n) = w7 at hpf hsf hof hif hnf hHeld ⊢
   refine tk1 11 6 (.slice A2 (lostO y S D T o).length cap2) rfl (Or.inl ⟨by rfl, fun w' hw => by go_simp⟩) hHeld ?_
   try simp only [Act.put, sA0, sB0, sC0]
   refine wpAnyH_done (by kernel_rfl) ?_ _
   have HA := Lib.hid (PlAt.start (Q := Q) (hBB.only hof (not_nobody _)) hpf hif hnf hnw hlpw hwg)
   have HOr := Lib.hid hor
   have HO7 := Lib.hid hof
   have HR := Lib.hid (And.intro hpn (And.intro hpf.lt (And.intro hwg hif.lt)))
   clear hof hif hnf hnw hwg hpf hsf hHeld hor hBB hlpw hpn
   go_upto_region 3 with fail
   have HO8 := Lib.hid ((HO7.out.alloc (.cells (madeCells #[.int .u64 0] Q) 43)).alloc (.cells #[.slice (some ⟨w7.heap.size, 0, none⟩) Q Q] 54))
   have HS8 : Hid (((w7.alloc (.cells (madeCells #[.int .u64 0] Q) 43)).alloc (.cells #[.slice (some ⟨w7.heap.size, 0, none⟩) Q Q] 54)).heap.size = w7.heap.size + 2) := by simp [Hid]
   have HG7 := Lib.hid HO7.out.size
   obtain ⟨gg, hgg⟩ : ∃ b, w7.heap.size = b := ⟨_, rfl⟩
   rw [hgg] at HA HO8 HS8 HR HG7
   simp only [hgg]
   generalize (w7.alloc (.cells (madeCells #[.int .u64 0] Q) 43)).alloc (.cells #[.slice (some ⟨gg, 0, none⟩) Q Q] 54) = w8 at *
   go_wp2_with fail
   go_loopw [30] (fun v wr => ∃ k : Nat, v = .int .i64 k ∧ PlAt w8 lp mp f N S T ov mb pb g n Q (outP (goes y S D T o) n) A2 (lostO y S D T o) gg k wr) (fun v _ => (lostO y S D T o).length - (intOf v).toNat)
   case atStart => exact ⟨0, rfl, HA.out⟩
   case round =>
    obtain ⟨k, rfl, hS⟩ := hrel
    clear HA
    by_cases hk : k < (lostO y S D T o).length
    ·have hll := lost_le (D := D) (T := T) HOr.out s1
     obtain ⟨b, ob, hAe, hb1, hb2, c0⟩ := hS.nu k hk
     have hlQ : (lostO y S D T o).getD k 0 < Q := Nat.lt_of_lt_of_le (lost_lt HOr.out hk) hnQ
     have c1 := hS.row.cell hlQ
     have f1 := hS.row.frozen ((lostO y S D T o).getD k 0)
     have c2 : wr.cell? ⟨gg + 1, 0, none⟩ = some (.slice (some ⟨gg, 0, none⟩) Q Q) := hS.xg.cell 0
     have hBm := hS.box.far (a := ⟨gg, (lostO y S D T o).getD k 0, none⟩) hS.apart.1 (.int .u64 18446744073709551615)
     have c5 : (wr.setCell ⟨gg, (lostO y S D T o).getD k 0, none⟩ (.int .u64 18446744073709551615)).cell? ⟨lp, 5, none⟩ = some (.bool (ov || decide (0 < k))) := hBm.cell 5
     have f5 := hBm.frozen 5
     have HN := Lib.hid (hS.far hk)
     subst hAe
     clear hS hBm
     generalize (lostO y S D T o).getD k 0 = q at *
     go_upto_region 7 with fail
     clear c0 c1 c2 f1
     go_wp2_with fail
     go_roundw
     case rel => exact ⟨k + 1, by go_num, HN.out⟩
     case measure => simp [intOf]; omega
    ·have hle := hS.le
     obtain rfl : k = (lostO y S D T o).length := by omega
     have HS := Lib.hid hS
     clear hS hle hk
     have hgs : w.heap.size ≤ gg := HG7.out
     have hw8s := HS8.out
     have hrr := HR.out
     have HX1 := Lib.hid (place_clo (fun j => X j ∨ (w.heap.size ≤ j ∧ j < w8.heap.size)) (gg + 1) gg pb g Q n (fun j => (lostO y S D T o).contains j) (outP (goes y S D T o) n) C (by omega)
      (fun j hj => by have := outP_le (T := T) (D := D) HOr.out s1 (by have := HL.out; have := HN.out; omega) hj; omega) HCw.out ⟨.inr ⟨by omega, by omega⟩, .inr ⟨by omega, by omega⟩, .inr ⟨by omega, by omega⟩, .inr ⟨by omega, by omega⟩⟩)
     have HOw : Hid (Own wr (fun j => (X j ∨ (w.heap.size ≤ j ∧ j < w8.heap.size)) ∨ False) mp M) := Lib.hid (((HO.out.grow HO8.out).only HS.out.only (fun i hi => by
      rcases hi with rfl | rfl
      ·exact .inl hX1
      ·exact .inr ⟨hgs, by omega⟩)).weak (fun j hj => hj.resolve_right id))
     clear hgs hw8s hrr
     go_wp2_with fail
     refine (HEa.out (fun j => X j ∨ (w.heap.size ≤ j ∧ j < w8.heap.size)) _ _ (fun _ => False) _ _ _ HX1.out place_fn ⟨fun _ h => h, HS.out.plIn⟩ HOw.out (.inl hX1) (fun _ _ h => h) HS.out.box).mono ?_
     rintro e w9 ⟨rfl, Y', hInv, hOw, hKe, hd⟩
     have HE := Lib.hid (HS.out.last HO8.out HG7.out hX1 hKe)
     have HW := Lib.hid (hOw.weak (Y := X) (fun j hj => .inl (.inl hj)))
     clear hInv hOw hKe hd
     go_wp2_with fail
     go_end0
     exact ⟨rfl, o, HOr.out, HW.out, HE.out⟩
  ·refine AllReadyH.cons rfl (fun K hK => ?_) AllReadyH.nil
   go_simp
   obtain ⟨pb, hpb⟩ : ∃ c, w4.heap.size = c := ⟨_, rfl⟩
   obtain ⟨w5, hw5⟩ : ∃ x, w4.alloc (.cells #[.slice none 0 0] 39) = x := ⟨_, rfl⟩
   have hp5 : Box w5 pb 39 #[.slice none 0 0] := by rw [← hw5, ← hpb]; exact Box.new w4 _ _
   have ho5 : Only nobody w w5 := by rw [← hw5]; exact ho4.alloc _
   have hs5 : Box w5 sh 159 #[.int .i64 (D : Int), .int .i64 (S : Int), .int .i64 (T : Int)] := by rw [← hw5]; exact hs4.alloc _
   have hpn : w.heap.size ≤ pb := by rw [← hpb]; exact ho4.size
   refine hK.out _ _ (hs4.alloc _) (fun hHeld => ?_)
   change wpAnyH _ _ _ _ _ _ _ _ (w4.alloc (.cells #[.slice none 0 0] 39))
   rw [hw5]
   simp only [hpb]
   clear hK K hw5
   simp only [sA0, sB0, sC0]
   refine one_ready 5 rfl (by kernel_rfl) (fun K hK => ?_)
   go_simp
   refine (HDl.out w5 cap (((HI.out.below (below_nob ho5 (Nat.le_refl _))).more ho5.size).less hnQ)).mono ?_
   rintro e w6 ⟨o, g, A2, cap2, hor, rfl, hir, hnu, hnw, hb⟩
   have ho : Only nobody w5 w6 := Only.of_below hb
   have hnw : ∀ b off, A2 = some ⟨b, off, none⟩ → w.heap.size ≤ b := fun b off e => Nat.le_trans ho5.size (hnw b off e)
   have hwg : w.heap.size ≤ g := Nat.le_trans ho5.size hir.old
   have ho6 := ho5.trans ho
   have hs6 := hs5.only ho (not_nobody _)
   have hp6 := hp5.only ho (not_nobody _)
   have hpg : pb ≠ g := by have := hir.old; have := hp5.lt; omega
   refine hK.out _ _ hs6 (fun hHeld => ?_)
   clear hK K hb ho
   simp only [sA0, sB0, sC0]
   refine tk1 6 16 (.tuple #[.slice (some ⟨g, 0, none⟩) n n, .slice A2 (lostO y S D T o).length cap2]) rfl (Or.inl ⟨by rfl, fun w' hw => by go_simp⟩) hHeld ?_
   try simp only [Act.put, sA0, sB0, sC0]
   refine tk1 7 23 (.slice (some ⟨g, 0, none⟩) n n) rfl (Or.inl ⟨by rfl, fun w' hw => by go_simp⟩) hHeld ?_
   try simp only [Act.put, sA0, sB0, sC0]
   refine tk1 8 24 (.slice A2 (lostO y S D T o).length cap2) rfl (Or.inl ⟨by rfl, fun w' hw => by go_simp⟩) hHeld ?_
   try simp only [Act.put, sA0, sB0, sC0]
   refine one_ready 10 (o := ⟨none, _, _, _, _, _⟩) rfl (by kernel_rfl) (fun K hK => ?_)
   have q0 := hp6.cell 0
   have q1 := hp6.frozen 0
   go_simp
   have hpf : Box (w6.setCell ⟨pb, 0, none⟩ (.slice (some ⟨g, 0, none⟩) n n)) pb 39 #[.slice (some ⟨g, 0, none⟩) n n] := hp6.put 0 _
   have hoj : Only (just pb) w6 (w6.setCell ⟨pb, 0, none⟩ (.slice (some ⟨g, 0, none⟩) n n)) := (Only.refl _ _).setCell (p := ⟨pb, 0, none⟩) (.inl (just_self _)) _
   have hsf := hs6.only hoj (just_ne (Box.ne hs6 hp6 (by decide)))
   have hof : Only nobody w (w6.setCell ⟨pb, 0, none⟩ (.slice (some ⟨g, 0, none⟩) n n)) := ho6.setCell (p := ⟨pb, 0, none⟩) (.inr hpn) _
   have hif := hir.far (a := ⟨pb, 0, none⟩) (fun e => hpg e.symm) (.slice (some ⟨g, 0, none⟩) n n)
   have hnf : ∀ j, j < (lostO y S D T o).length → ∃ b, ∃ ob, A2 = some ⟨b, ob, none⟩ ∧ (w6.setCell ⟨pb, 0, none⟩ (.slice (some ⟨g, 0, none⟩) n n)).cell? ⟨b, ob + j, none⟩ = some (.int .i64 ((lostO y S D T o).getD j 0 : Nat)) := fun j hj => by
    obtain ⟨b, ob, e, hb, hc⟩ := hnu (by omega)
    exact ⟨b, ob, e, (World.cell?_of_block (w := w6) (hoj.block b (World.block_lt_of_cell? w6 ⟨b, ob + j, none⟩ (hc j hj)) (just_ne (nums_ne hp6 (hc j hj))))).trans (hc j hj)⟩
   refine hK.out _ _ hsf (fun hHeld => ?_)
   clear hK K q0 q1 hoj hnu hir
   simp only [sA0, sB0, sC0]
   generalize w6.setCell ⟨pb, 0, none⟩ (.slice (some ⟨g, 0, none⟩) n n) = w7 at hpf hsf hof hif hnf hHeld ⊢
   refine tk1 11 6 (.slice A2 (lostO y S D T o).length cap2) rfl (Or.inl ⟨by rfl, fun w' hw => by go_simp⟩) hHeld ?_
   try simp only [Act.put, sA0, sB0, sC0]
   refine wpAnyH_done (by kernel_rfl) ?_ _
   have HA := Lib.hid (PlAt.start (Q := Q) (hBB.only hof (not_nobody _)) hpf hif hnf hnw hlpw hwg)
   have HOr := Lib.hid hor
   have HO7 := Lib.hid hof
   have HR := Lib.hid (And.intro hpn (And.intro hpf.lt (And.intro hwg hif.lt)))
   clear hof hif hnf hnw hwg hpf hsf hHeld hor hBB hlpw hpn
   go_upto_region 3 with fail
   have HO8 := Lib.hid ((HO7.out.alloc (.cells (madeCells #[.int .u64 0] Q) 43)).alloc (.cells #[.slice (some ⟨w7.heap.size, 0, none⟩) Q Q] 54))
   have HS8 : Hid (((w7.alloc (.cells (madeCells #[.int .u64 0] Q) 43)).alloc (.cells #[.slice (some ⟨w7.heap.size, 0, none⟩) Q Q] 54)).heap.size = w7.heap.size + 2) := by simp [Hid]
   have HG7 := Lib.hid HO7.out.size
   obtain ⟨gg, hgg⟩ : ∃ b, w7.heap.size = b := ⟨_, rfl⟩
   rw [hgg] at HA HO8 HS8 HR HG7
   simp only [hgg]
   generalize (w7.alloc (.cells (madeCells #[.int .u64 0] Q) 43)).alloc (.cells #[.slice (some ⟨gg, 0, none⟩) Q Q] 54) = w8 at *
   go_wp2_with fail
   go_loopw [30] (fun v wr => ∃ k : Nat, v = .int .i64 k ∧ PlAt w8 lp mp f N S T ov mb pb g n Q (outP (goes y S D T o) n) A2 (lostO y S D T o) gg k wr) (fun v _ => (lostO y S D T o).length - (intOf v).toNat)
   case atStart => exact ⟨0, rfl, HA.out⟩
   case round =>
    obtain ⟨k, rfl, hS⟩ := hrel
    clear HA
    by_cases hk : k < (lostO y S D T o).length
    ·have hll := lost_le (D := D) (T := T) HOr.out s1
     obtain ⟨b, ob, hAe, hb1, hb2, c0⟩ := hS.nu k hk
     have hlQ : (lostO y S D T o).getD k 0 < Q := Nat.lt_of_lt_of_le (lost_lt HOr.out hk) hnQ
     have c1 := hS.row.cell hlQ
     have f1 := hS.row.frozen ((lostO y S D T o).getD k 0)
     have c2 : wr.cell? ⟨gg + 1, 0, none⟩ = some (.slice (some ⟨gg, 0, none⟩) Q Q) := hS.xg.cell 0
     have hBm := hS.box.far (a := ⟨gg, (lostO y S D T o).getD k 0, none⟩) hS.apart.1 (.int .u64 18446744073709551615)
     have c5 : (wr.setCell ⟨gg, (lostO y S D T o).getD k 0, none⟩ (.int .u64 18446744073709551615)).cell? ⟨lp, 5, none⟩ = some (.bool (ov || decide (0 < k))) := hBm.cell 5
     have f5 := hBm.frozen 5
     have HN := Lib.hid (hS.far hk)
     subst hAe
     clear hS hBm
     generalize (lostO y S D T o).getD k 0 = q at *
     go_upto_region 7 with fail
     clear c0 c1 c2 f1
     go_wp2_with fail
     go_roundw
     case rel => exact ⟨k + 1, by go_num, HN.out⟩
     case measure => simp [intOf]; omega
    ·have hle := hS.le
     obtain rfl : k = (lostO y S D T o).length := by omega
     have HS := Lib.hid hS
     clear hS hle hk
     have hgs : w.heap.size ≤ gg := HG7.out
     have hw8s := HS8.out
     have hrr := HR.out
     have HX1 := Lib.hid (place_clo (fun j => X j ∨ (w.heap.size ≤ j ∧ j < w8.heap.size)) (gg + 1) gg pb g Q n (fun j => (lostO y S D T o).contains j) (outP (goes y S D T o) n) C (by omega)
      (fun j hj => by have := outP_le (T := T) (D := D) HOr.out s1 (by have := HL.out; have := HN.out; omega) hj; omega) HCw.out ⟨.inr ⟨by omega, by omega⟩, .inr ⟨by omega, by omega⟩, .inr ⟨by omega, by omega⟩, .inr ⟨by omega, by omega⟩⟩)
     have HOw : Hid (Own wr (fun j => (X j ∨ (w.heap.size ≤ j ∧ j < w8.heap.size)) ∨ False) mp M) := Lib.hid (((HO.out.grow HO8.out).only HS.out.only (fun i hi => by
      rcases hi with rfl | rfl
      ·exact .inl hX1
      ·exact .inr ⟨hgs, by omega⟩)).weak (fun j hj => hj.resolve_right id))
     clear hgs hw8s hrr
     go_wp2_with fail
     refine (HEa.out (fun j => X j ∨ (w.heap.size ≤ j ∧ j < w8.heap.size)) _ _ (fun _ => False) _ _ _ HX1.out place_fn ⟨fun _ h => h, HS.out.plIn⟩ HOw.out (.inl hX1) (fun _ _ h => h) HS.out.box).mono ?_
     rintro e w9 ⟨rfl, Y', hInv, hOw, hKe, hd⟩
     have HE := Lib.hid (HS.out.last HO8.out HG7.out hX1 hKe)
     have HW := Lib.hid (hOw.weak (Y := X) (fun j hj => .inl (.inl hj)))
     clear hInv hOw hKe hd
     go_wp2_with fail
     go_end0
     exact ⟨rfl, o, HOr.out, HW.out, HE.out⟩
 ·refine AllReadyH.cons rfl (fun K hK => ?_) AllReadyH.nil
  go_simp
  obtain ⟨pb, hpb⟩ : ∃ c, w3.heap.size = c := ⟨_, rfl⟩
  obtain ⟨w4, hw4⟩ : ∃ x, w3.alloc (.cells #[.slice none 0 0] 39) = x := ⟨_, rfl⟩
  have hp4 : Box w4 pb 39 #[.slice none 0 0] := by rw [← hw4, ← hpb]; exact Box.new w3 _ _
  have ho4 : Only nobody w w4 := by rw [← hw4]; exact ho3.alloc _
  have hs4 : Box w4 sh 159 #[.int .i64 (D : Int), .int .i64 (S : Int), .int .i64 (T : Int)] := by rw [← hw4]; exact hs3.alloc _
  have hpn : w.heap.size ≤ pb := by rw [← hpb]; exact ho3.size
  refine hK.out _ _ (hs3.alloc _) (fun hHeld => ?_)
  change wpAnyH _ _ _ _ _ _ _ _ (w3.alloc (.cells #[.slice none 0 0] 39))
  rw [hw4]
  simp only [hpb]
  clear hK K hw4
  simp only [sA0, sB0, sC0]
  refine one_ready 3 rfl (by kernel_rfl) (fun K hK => ?_)
  go_simp
  refine (HPs.out _).mono ?_
  rintro e w5 ⟨rfl, hb⟩
  have ho : Only nobody w4 w5 := Only.of_below hb
  have ho5 := ho4.trans ho
  have hs5 := hs4.only ho (not_nobody _)
  have hp5 := hp4.only ho (not_nobody _)
  refine hK.out _ _ hs5 (fun hHeld => ?_)
  clear hK K hb ho
  simp only [sA0, sB0, sC0]
  refine tk1 4 21 (.slice (some ⟨gi, off, none⟩) n cap) rfl (Or.inl ⟨by rfl, fun w' hw => by go_simp⟩) hHeld ?_
  try simp only [Act.put, sA0, sB0, sC0]
  refine one_ready 5 rfl (by kernel_rfl) (fun K hK => ?_)
  go_simp
  refine (HDl.out w5 cap (((HI.out.below (below_nob ho5 (Nat.le_refl _))).more ho5.size).less hnQ)).mono ?_
  rintro e w6 ⟨o, g, A2, cap2, hor, rfl, hir, hnu, hnw, hb⟩
  have ho : Only nobody w5 w6 := Only.of_below hb
  have hnw : ∀ b off, A2 = some ⟨b, off, none⟩ → w.heap.size ≤ b := fun b off e => Nat.le_trans ho5.size (hnw b off e)
  have hwg : w.heap.size ≤ g := Nat.le_trans ho5.size hir.old
  have ho6 := ho5.trans ho
  have hs6 := hs5.only ho (not_nobody _)
  have hp6 := hp5.only ho (not_nobody _)
  have hpg : pb ≠ g := by have := hir.old; have := hp5.lt; omega
  refine hK.out _ _ hs6 (fun hHeld => ?_)
  clear hK K hb ho
  simp only [sA0, sB0, sC0]
  refine tk1 6 16 (.tuple #[.slice (some ⟨g, 0, none⟩) n n, .slice A2 (lostO y S D T o).length cap2]) rfl (Or.inl ⟨by rfl, fun w' hw => by go_simp⟩) hHeld ?_
  try simp only [Act.put, sA0, sB0, sC0]
  refine tk1 7 23 (.slice (some ⟨g, 0, none⟩) n n) rfl (Or.inl ⟨by rfl, fun w' hw => by go_simp⟩) hHeld ?_
  try simp only [Act.put, sA0, sB0, sC0]
  refine tk1 8 24 (.slice A2 (lostO y S D T o).length cap2) rfl (Or.inl ⟨by rfl, fun w' hw => by go_simp⟩) hHeld ?_
  try simp only [Act.put, sA0, sB0, sC0]
  refine one_ready 10 (o := ⟨none, _, _, _, _, _⟩) rfl (by kernel_rfl) (fun K hK => ?_)
  have q0 := hp6.cell 0
  have q1 := hp6.frozen 0
  go_simp
  have hpf : Box (w6.setCell ⟨pb, 0, none⟩ (.slice (some ⟨g, 0, none⟩) n n)) pb 39 #[.slice (some ⟨g, 0, none⟩) n n] := hp6.put 0 _
  have hoj : Only (just pb) w6 (w6.setCell ⟨pb, 0, none⟩ (.slice (some ⟨g, 0, none⟩) n n)) := (Only.refl _ _).setCell (p := ⟨pb, 0, none⟩) (.inl (just_self _)) _
  have hsf := hs6.only hoj (just_ne (Box.ne hs6 hp6 (by decide)))
  have hof : Only nobody w (w6.setCell ⟨pb, 0, none⟩ (.slice (some ⟨g, 0, none⟩) n n)) := ho6.setCell (p := ⟨pb, 0, none⟩) (.inr hpn) _
  have hif := hir.far (a := ⟨pb, 0, none⟩) (fun e => hpg e.symm) (.slice (some ⟨g, 0, none⟩) n n)
  have hnf : ∀ j, j < (lostO y S D T o).length → ∃ b, ∃ ob, A2 = some ⟨b, ob, none⟩ ∧ (w6.setCell ⟨pb, 0, none⟩ (.slice (some ⟨g, 0, none⟩) n n)).cell? ⟨b, ob + j, none⟩ = some (.int .i64 ((lostO y S D T o).getD j 0 : Nat)) := fun j hj => by
   obtain ⟨b, ob, e, hb, hc⟩ := hnu (by omega)
   exact ⟨b, ob, e, (World.cell?_of_block (w := w6) (hoj.block b (World.block_lt_of_cell? w6 ⟨b, ob + j, none⟩ (hc j hj)) (just_ne (nums_ne hp6 (hc j hj))))).trans (hc j hj)⟩
  refine hK.out _ _ hsf (fun hHeld => ?_)
  clear hK K q0 q1 hoj hnu hir
  simp only [sA0, sB0, sC0]
  generalize w6.setCell ⟨pb, 0, none⟩ (.slice (some ⟨g, 0, none⟩) n n) = w7 at hpf hsf hof hif hnf hHeld ⊢
  refine tk1 11 6 (.slice A2 (lostO y S D T o).length cap2) rfl (Or.inl ⟨by rfl, fun w' hw => by go_simp⟩) hHeld ?_
  try simp only [Act.put, sA0, sB0, sC0]
  refine wpAnyH_done (by kernel_rfl) ?_ _
  have HA := Lib.hid (PlAt.start (Q := Q) (hBB.only hof (not_nobody _)) hpf hif hnf hnw hlpw hwg)
  have HOr := Lib.hid hor
  have HO7 := Lib.hid hof
  have HR := Lib.hid (And.intro hpn (And.intro hpf.lt (And.intro hwg hif.lt)))
  clear hof hif hnf hnw hwg hpf hsf hHeld hor hBB hlpw hpn
  go_upto_region 3 with fail
  have HO8 := Lib.hid ((HO7.out.alloc (.cells (madeCells #[.int .u64 0] Q) 43)).alloc (.cells #[.slice (some ⟨w7.heap.size, 0, none⟩) Q Q] 54))
  have HS8 : Hid (((w7.alloc (.cells (madeCells #[.int .u64 0] Q) 43)).alloc (.cells #[.slice (some ⟨w7.heap.size, 0, none⟩) Q Q] 54)).heap.size = w7.heap.size + 2) := by simp [Hid]
  have HG7 := Lib.hid HO7.out.size
  obtain ⟨gg, hgg⟩ : ∃ b, w7.heap.size = b := ⟨_, rfl⟩
  rw [hgg] at HA HO8 HS8 HR HG7
  simp only [hgg]
  generalize (w7.alloc (.cells (madeCells #[.int .u64 0] Q) 43)).alloc (.cells #[.slice (some ⟨gg, 0, none⟩) Q Q] 54) = w8 at *
  go_wp2_with fail
  go_loopw [30] (fun v wr => ∃ k : Nat, v = .int .i64 k ∧ PlAt w8 lp mp f N S T ov mb pb g n Q (outP (goes y S D T o) n) A2 (lostO y S D T o) gg k wr) (fun v _ => (lostO y S D T o).length - (intOf v).toNat)
  case atStart => exact ⟨0, rfl, HA.out⟩
  case round =>
   obtain ⟨k, rfl, hS⟩ := hrel
   clear HA
   by_cases hk : k < (lostO y S D T o).length
   ·have hll := lost_le (D := D) (T := T) HOr.out s1
    obtain ⟨b, ob, hAe, hb1, hb2, c0⟩ := hS.nu k hk
    have hlQ : (lostO y S D T o).getD k 0 < Q := Nat.lt_of_lt_of_le (lost_lt HOr.out hk) hnQ
    have c1 := hS.row.cell hlQ
    have f1 := hS.row.frozen ((lostO y S D T o).getD k 0)
    have c2 : wr.cell? ⟨gg + 1, 0, none⟩ = some (.slice (some ⟨gg, 0, none⟩) Q Q) := hS.xg.cell 0
    have hBm := hS.box.far (a := ⟨gg, (lostO y S D T o).getD k 0, none⟩) hS.apart.1 (.int .u64 18446744073709551615)
    have c5 : (wr.setCell ⟨gg, (lostO y S D T o).getD k 0, none⟩ (.int .u64 18446744073709551615)).cell? ⟨lp, 5, none⟩ = some (.bool (ov || decide (0 < k))) := hBm.cell 5
    have f5 := hBm.frozen 5
    have HN := Lib.hid (hS.far hk)
    subst hAe
    clear hS hBm
    generalize (lostO y S D T o).getD k 0 = q at *
    go_upto_region 7 with fail
    clear c0 c1 c2 f1
    go_wp2_with fail
    go_roundw
    case rel => exact ⟨k + 1, by go_num, HN.out⟩
    case measure => simp [intOf]; omega
   ·have hle := hS.le
    obtain rfl : k = (lostO y S D T o).length := by omega
    have HS := Lib.hid hS
    clear hS hle hk
    have hgs : w.heap.size ≤ gg := HG7.out
    have hw8s := HS8.out
    have hrr := HR.out
    have HX1 := Lib.hid (place_clo (fun j => X j ∨ (w.heap.size ≤ j ∧ j < w8.heap.size)) (gg + 1) gg pb g Q n (fun j => (lostO y S D T o).contains j) (outP (goes y S D T o) n) C (by omega)
     (fun j hj => by have := outP_le (T := T) (D := D) HOr.out s1 (by have := HL.out; have := HN.out; omega) hj; omega) HCw.out ⟨.inr ⟨by omega, by omega⟩, .inr ⟨by omega, by omega⟩, .inr ⟨by omega, by omega⟩, .inr ⟨by omega, by omega⟩⟩)
    have HOw : Hid (Own wr (fun j => (X j ∨ (w.heap.size ≤ j ∧ j < w8.heap.size)) ∨ False) mp M) := Lib.hid (((HO.out.grow HO8.out).only HS.out.only (fun i hi => by
     rcases hi with rfl | rfl
     ·exact .inl hX1
     ·exact .inr ⟨hgs, by omega⟩)).weak (fun j hj => hj.resolve_right id))
    clear hgs hw8s hrr
    go_wp2_with fail
    refine (HEa.out (fun j => X j ∨ (w.heap.size ≤ j ∧ j < w8.heap.size)) _ _ (fun _ => False) _ _ _ HX1.out place_fn ⟨fun _ h => h, HS.out.plIn⟩ HOw.out (.inl hX1) (fun _ _ h => h) HS.out.box).mono ?_
    rintro e w9 ⟨rfl, Y', hInv, hOw, hKe, hd⟩
    have HE := Lib.hid (HS.out.last HO8.out HG7.out hX1 hKe)
    have HW := Lib.hid (hOw.weak (Y := X) (fun j hj => .inl (.inl hj)))
    clear hInv hOw hKe hd
    go_wp2_with fail
    go_end0
    exact ⟨rfl, o, HOr.out, HW.out, HE.out⟩
end Go.Proofs.YtknnebhjldfkhaaGreat


namespace Go.Proofs.YtknnebhjldfkhaaGreat
set_option maxRecDepth 100000
open Go.RowKit Go.ChangeShapes Go.WideShapes Go.ChangeAt

section
variable {W W' : World} {bl bf bi lp mp f N S T : Nat} {ov : Bool} {mb : Option Nat} {lf base : Nat} {v : Value} {l : List It}
theorem NuIn.kept {Z : Nat → Prop} (h : NuIn W bl bf bi lp mp f N S T ov mb lf base v l) (hk : Kept Z W W') (hz : Z bl ∧ Z bf ∧ Z lp ∧ Z bi) (hv : ∀ b, v.ownBlock = some b → Z b) : NuIn W' bl bf bi lp mp f N S T ov mb lf base v l :=
 ⟨hk.box h.xl hz.1, hk.box h.xf hz.2.1, hk.box h.xp hz.2.2.1, hk.box h.xi hz.2.2.2, own_block h.own (fun b e => hk.block b (own_lt h.own e).2 (fun k => k (hv b e))), h.lt, h.ne, Nat.le_trans h.size hk.size⟩
end
def NuInv (bl bf bi lp mp f N S T : Nat) (ov : Bool) (mb : Option Nat) (lf base : Nat) (y : Nat → It) (i : Nat) (Y : Nat → Prop) (W : World) : Prop :=
 ∃ v, NuIn W bl bf bi lp mp f N S T ov mb lf base v (lsI i y) ∧ ∀ j, Y j ↔ (j = bi ∨ v.ownBlock = some j)
theorem num_Clo {N S T D L n Q P : Nat} (h : Conf N S T D L n Q P) (X : Nat → Prop) (bl bf bi lp mp f : Nat) (ov : Bool) (mb : Option Nat) (lf base : Nat) (C : Nat → Cl) (hlf : lf < N) (hC : ∀ i, i < Q → GoodC N (C i)) (hX : X bl ∧ X bf ∧ X lp) :
  Clo X 160 #[.pointer (some ⟨bl, 0, none⟩), .pointer (some ⟨bf, 0, none⟩), .pointer (some ⟨bi, 0, none⟩)] Q C (fun i => numZ D lf i (C i)) (NuInv bl bf bi lp mp f N S T ov mb lf base (fun j => itemOf (dpW D lf) (C j))) := by
 have hQ := h.big.2.2.2
 refine ⟨fun i Y W W' ⟨v, hv, hY⟩ hk => ⟨v, hv.kept hk ⟨.inl hX.1, .inl hX.2.1, .inl hX.2.2, .inr ((hY _).2 (.inl rfl))⟩ (fun b e => .inr ((hY _).2 (.inr e))), hY⟩, fun i Y W hi ⟨v, hv, hY⟩ _ _ => ?_⟩
 refine (num_clo h bl bf bi lp mp f ov mb lf base v _ i (C i) W hlf hi (hC i hi) (by rw [lsI_len]; omega) hv).mono ?_
 rintro e w' ⟨he, ho, v', hn, hb⟩
 refine ⟨he, ho.mono (fun j _ hj => (hY j).2 hj), fun j => j = bi ∨ v'.ownBlock = some j, ⟨v', ?_, fun j => Iff.rfl⟩, fun j hj => ?_⟩
 ·rw [lsI_succ]; exact hn
 ·rcases hj with rfl | hj
  ·exact .inl ((hY _).2 (.inl rfl))
  ·exact (hb j hj).imp (fun e => (hY _).2 (.inr e)) (fun e => ⟨e, (own_lt hn.own hj).2⟩)
theorem num_fn (args : Array Value) (W : World) : Sem.run Tryz.prog (callFunc 160 args) W = .ok (.enter 160 args) W := by go_simp
theorem NuIn.start {w : World} {lp mp f N S T : Nat} {ov : Bool} {mb : Option Nat} {lf b : Nat} (hB : Box w lp 127 (LvA mp f N S T ov mb)) (hb : w.heap.size = b) :
  NuIn (((w.alloc (.cells #[.pointer (some ⟨lp, 0, none⟩)] 28)).alloc (.cells #[.int .i64 (lf : Int)] 3)).alloc (.cells #[.slice none 0 0] 196)) b (b + 1) (b + 2) lp mp f N S T ov mb lf (b + 3) (.slice none 0 0) [] := by
 have hl := hB.lt
 have e1 : (w.alloc (.cells #[.pointer (some ⟨lp, 0, none⟩)] 28)).heap.size = b + 1 := by simp [hb]
 have e2 : ((w.alloc (.cells #[.pointer (some ⟨lp, 0, none⟩)] 28)).alloc (.cells #[.int .i64 (lf : Int)] 3)).heap.size = b + 2 := by simp [hb]
 have h1 := Box.new w 28 #[.pointer (some ⟨lp, 0, none⟩)]
 have h2 := Box.new (w.alloc (.cells #[.pointer (some ⟨lp, 0, none⟩)] 28)) 3 #[.int .i64 (lf : Int)]
 have h3 := Box.new ((w.alloc (.cells #[.pointer (some ⟨lp, 0, none⟩)] 28)).alloc (.cells #[.int .i64 (lf : Int)] 3)) 196 #[.slice none 0 0]
 rw [hb] at h1
 rw [e1] at h2
 rw [e2] at h3
 exact ⟨(h1.alloc _).alloc _, h2.alloc _, ((hB.alloc _).alloc _).alloc _, h3, World.ownsRow_nil _ _ _ _, ⟨by omega, by omega, by omega, by omega⟩, ⟨by omega, by omega, by omega⟩, by simp [hb]⟩
def NrPost (w : World) (X : Nat → Prop) (mp f Q D lf : Nat) (M : MS) (C : Nat → Cl) (e : Ending) (w' : World) : Prop :=
 ∃ (o : List Nat) (gi off cap : Nat), IsOrd (fun j => itemOf (dpW D lf) (C j)) Q o ∧ e = .returned (.slice (some ⟨gi, off, none⟩) Q cap) ∧ Q ≤ cap ∧ Its w' w'.heap.size (some ⟨gi, off, none⟩) Q (fun j => itemOf (dpW D lf) (C (o.getD j 0))) ∧
  Own w' (fun j => X j ∨ j = gi) mp (M.gone (cT (f + 2) (fun i => numZ D lf i (C i)) M.c Q) (evE (f + 2) Q)) ∧ Kept X w w'
theorem own_cap {w : World} {t : TypeId} {base n : Nat} {v : Value} {xs : List Value} (h : w.ownsRow base t 2 v n xs) (hn : 0 < n) : ∃ g cap, v = .slice (some ⟨g, 0, none⟩) n cap ∧ n ≤ cap := by
 rcases h.2 with ⟨_, h0⟩ | ⟨g, cap, cur, e, _, _, hc, _⟩
 ·omega
 ·exact ⟨g, cap, e, hc⟩
set_option maxRecDepth 100000 in
set_option maxHeartbeats 4000000 in
theorem number_any {N S T D L n Q P : Nat} (h : Conf N S T D L n Q P) (X : Nat → Prop) (lp mp f lf : Nat) (ov : Bool) (mb : Option Nat) (M : MS) (C : Nat → Cl) (w : World) (hM : LvM M f S D T Q) (hf : f ≤ 100) (hlf : lf < N)
  (hC : ∀ a, a < Q → M.c (f + 2) a = C a) (hCg : ∀ i, i < Q → GoodC N (C i)) (hO : Own w X mp M) (hX1 : X lp) (hB : Box w lp 127 (LvA mp f N S T ov mb)) :
  Calls Tryz.prog 137 #[.pointer (some ⟨lp, 0, none⟩), .int .i64 (lf : Int)] w (NrPost w X mp f Q D lf M C) := by
 have HEa := Lib.hid (fun X' W Y caps Inv Z => each_any h X' Y lp mp f ov mb M 160 caps C Z Inv W hM hf hC)
 have HCl := Lib.hid (fun X' bl bf bi base (hX : X' bl ∧ X' bf ∧ X' lp) => num_Clo h X' bl bf bi lp mp f ov mb lf base C hlf hCg hX)
 have hQ := h.big.2.2.2
 have hnQ := h.le
 have hn3 := h.big.2.1
 obtain ⟨b, hb⟩ : ∃ b, w.heap.size = b := ⟨_, rfl⟩
 obtain ⟨w2, hw2⟩ : ∃ x, ((w.alloc (.cells #[.pointer (some ⟨lp, 0, none⟩)] 28)).alloc (.cells #[.int .i64 (lf : Int)] 3)).alloc (.cells #[.slice none 0 0] 196) = x := ⟨_, rfl⟩
 have hN2 := NuIn.start (lf := lf) hB hb
 have ho2 : Only nobody w w2 := by rw [← hw2]; exact (((Only.refl nobody w).alloc _).alloc _).alloc _
 have hs2 : w2.heap.size = b + 3 := by rw [← hw2]; simp [hb]
 rw [hw2] at hN2
 have hlt : ∀ j, X j → j < b := fun j hj => by
  obtain ⟨F, _, _, hl⟩ := hO
  rw [← hb]
  exact hl j hj
 have HOw : Hid (Own w2 (fun j => (X j ∨ j = b ∨ j = b + 1) ∨ j = b + 2) mp M) := Lib.hid ((hO.grow ho2).weak (fun j hj => by
  rcases hj with (hj | hj | hj) | hj
  ·exact .inl hj
  ·exact .inr ⟨by omega, by omega⟩
  ·exact .inr ⟨by omega, by omega⟩
  ·exact .inr ⟨by omega, by omega⟩))
 have HDis : Hid (∀ j, (X j ∨ j = b ∨ j = b + 1) → ¬ j = b + 2) := Lib.hid (fun j hj e => by
  rcases hj with hj | hj | hj
  ·have := hlt j hj; omega
  ·omega
  ·omega)
 have HN2 := Lib.hid hN2
 have HO2 := Lib.hid ho2
 have HW2 := Lib.hid hw2
 have HBb := Lib.hid hb
 have c0 := hN2.xl.cell 0
 clear hC hCg hO hB hN2 ho2 hs2 hlt hb hw2 hM h
 go_enter Tryz.func137, Tryz.ntmps137
 go_upto_region 2 with fail
 rw [HBb.out]
 simp only [HW2.out]
 have e2 : b + 1 + 1 = b + 2 := rfl
 simp only [e2]
 go_wp2_with fail
 refine (HEa.out (fun j => X j ∨ j = b ∨ j = b + 1) _ (fun j => j = b + 2) _ _ _ (HCl.out _ b (b + 1) (b + 2) (b + 3) ⟨.inr (.inl rfl), .inr (.inr rfl), .inl hX1⟩) num_fn ⟨_, HN2.out, fun j => ⟨.inl, fun e => e.resolve_right (fun e => by cases e)⟩⟩ HOw.out (.inl hX1) HDis.out HN2.out.xp).mono ?_
 rintro e w3 ⟨rfl, Y, ⟨v, hN3, hY⟩, hOw, hKe, hd⟩
 have HE := Lib.hid (hOw.weak (Y := X) (fun j hj => .inl (.inl hj)))
 have HK := Lib.hid (Kept.trans (Kept.of_none (X := X) HO2.out) (hKe.mono (fun j hj => .inl hj)))
 have hown := hN3.own
 rw [lsI_len] at hown
 obtain ⟨ga, cap, rfl, hcap⟩ := own_cap hown (by omega)
 have HIts := Lib.hid (own_items hown)
 have HXi := Lib.hid hN3.xi
 clear hN3 hY hOw hKe hd hown HN2 HO2 HOw HDis HW2 c0 HEa HCl
 have c0 := HXi.out.cell 0
 go_upto_region 4 with fail
 go_wp2_with fail
 refine (dorder_any (some ⟨ga, 0, none⟩) Q cap (fun j => itemOf (dpW D lf) (C j)) w3 (by omega) HIts.out).mono ?_
 rintro e w4 ⟨o, g, hor, rfl, hir, hb4⟩
 have HOr := Lib.hid hor
 have HIr := Lib.hid hir
 have HB4 := Lib.hid hb4
 have HXi4 := Lib.hid (HXi.out.only (Only.of_below hb4) (not_nobody _))
 have HIt4 := Lib.hid (HIts.out.below hb4)
 have HE4 := Lib.hid (HE.out.none (Only.of_below hb4))
 have HK4 := Lib.hid (HK.out.trans (Kept.of_none (Only.of_below hb4)))
 have hs4 : w3.heap.size ≤ w4.heap.size := hb4.size
 clear hor hir hb4 HXi HIts HE HK c0
 go_wp2_with fail
 have HA : Hid (ItAt 222 w4 (.slice none 0 0) (lsI 0 (fun j => itemOf (dpW D lf) (C (o.getD j 0)))) w4) := ItAt.nil _ w4
 go_loopw [6, 15] (fun v6 v15 wr => ∃ k : Nat, v15 = .int .i64 k ∧ k ≤ Q ∧ ItAt 222 w4 v6 (lsI k (fun j => itemOf (dpW D lf) (C (o.getD j 0)))) wr) (fun _ v _ => Q - (intOf v).toNat)
 case atStart => exact ⟨0, rfl, by omega, HA.out⟩
 case round =>
  obtain ⟨k, rfl, hle, hS⟩ := hrel
  clear HA
  have HS := Lib.hid hS
  by_cases hk : k < Q
  ·have hok : o.getD k 0 < Q := by
    have hl : o.length = Q := by rw [HOr.out.perm.length_eq, List.length_range]
    have e : o.getD k 0 = o[k]'(by omega) := by rw [List.getD_eq_getElem?_getD, List.getElem?_eq_getElem (by omega)]; rfl
    rw [e]
    exact List.mem_range.1 (HOr.out.perm.mem_iff.1 (List.getElem_mem _))
   have HN := Lib.hid (lsI_succ k (fun j => itemOf (dpW D lf) (C (o.getD j 0))))
   have hll := lsI_len k (fun j => itemOf (dpW D lf) (C (o.getD j 0)))
   generalize hlq : lsI k (fun j => itemOf (dpW D lf) (C (o.getD j 0))) = lq at *
   have hbr : Below w4.heap.size w4 wr := hS.below
   have i0 : wr.cell? ⟨g, k, none⟩ = some (.int .i64 ((o.getD k 0 : Nat) : Int)) := (HIr.out.below hbr (Nat.le_refl _)).cell k hk
   have b0 : wr.cell? ⟨b + 2, 0, none⟩ = some (.slice (some ⟨ga, 0, none⟩) Q cap) := (HXi4.out.only (Only.of_below hbr) (not_nobody _)).cell 0
   obtain ⟨b', off', e', hb', c0, c1⟩ := ((HIt4.out.more hs4).below hbr).at hok
   injection e' with e'
   injection e' with e1 e2
   subst e1 e2
   generalize itemOf (dpW D lf) (C (o.getD k 0)) = x at *
   obtain ⟨x1, x2⟩ := x
   generalize o.getD k 0 = q at *
   have hbs : w4.heap.size ≤ wr.heap.size := hbr.size
   clear hS hlq hbr
   rw [Nat.zero_add] at c0 c1
   go_wp2_with (with_reducible refine wpList_append_where _ rfl (.tmp 19) (.tmp 24) 196 rfl w4.heap.size 222 (.agg #[.int .u64 0, .int .i64 0]) 2 16 Tryz.underlying196 infoItem rfl (by decide) u6 lq.length (itl lq) rfl (row_stay HS.out.own (fun b _ hb => Below.heap_alloc _ _ b hb)) ⟨wr.heap.size, 0, none⟩ 1 1 [.int .u64 x1, .int .i64 x2] rfl rfl ?c0 ?c1 ?c2 ?c3 ?c4 ?_)
   case c1 => simp [Value.oneCell']
   case c2 => simp only [maxLen]; omega
   case c3 => omega
   case c4 => omega
   intro A2 cap2 w7 hown hgr _
   have HS7 := Lib.hid (HS.out.next (x := (x1, x2)) (by rw [hll]; exact hown) hgr)
   clear hown hgr HS
   rw [hll] at HS7
   go_wp2_with fail
   go_roundw
   case rel => exact ⟨k + 1, by go_num, by omega, by rw [HN.out]; exact HS7.out⟩
   case measure => simp [intOf]; omega
  ·obtain rfl : k = Q := by omega
   have hown := hS.own
   rw [lsI_len] at hown
   obtain ⟨gi, ci, rfl, hci⟩ := own_cap hown (by omega)
   have HR := Lib.hid (own_items hown)
   have hbr : Below w4.heap.size w4 wr := hS.below
   have hgi := own_lt hown (g := gi) rfl
   have HE5 : Hid (Own wr (fun j => X j ∨ j = gi) mp (M.gone (cT (f + 2) (fun i => numZ D lf i (C i)) M.c k) (evE (f + 2) k))) := Lib.hid ((HE4.out.grow (Only.of_below hbr)).weak (fun j hj => hj.imp id (fun e => by rw [e]; exact hgi)))
   have HK5 := Lib.hid (HK4.out.trans (Kept.of_none (Only.of_below hbr)))
   clear hS HS hown hbr hgi
   go_wp2_with fail
   go_ret
   exact ⟨o, gi, 0, ci, HOr.out, rfl, hci, HR.out, HE5.out, HK5.out⟩
end Go.Proofs.YtknnebhjldfkhaaGreat


namespace Go.Proofs.YtknnebhjldfkhaaGreat
set_option maxRecDepth 100000
open Go.RowKit Go.ChangeShapes Go.WideShapes Go.ChangeAt

theorem setw_wd {g : Cl} {k : Nat} {v : Int} (hg : Wd g) (h0 : 0 ≤ v) (h1 : v ≤ 18446744073709551615) : Wd (setw g k v) := fun j => by
 unfold setw
 by_cases e : j = k
 ·rw [if_pos e]; exact ⟨h0, h1⟩
 ·rw [if_neg e]; exact hg j
theorem Its.kept {w w' : World} {Z : Nat → Prop} {B n b off : Nat} {y : Nat → It} (h : Its w B (some ⟨b, off, none⟩) n y) (hk : Kept Z w w') (hb : Z b) : Its w' B (some ⟨b, off, none⟩) n y := fun h0 => by
 obtain ⟨b', off', e, hB, hc⟩ := h h0
 injection e with e
 injection e with e1 e2
 subst e1 e2
 exact ⟨b, off, rfl, hB, fun j hj => ⟨hk.cell (hc j hj).1 hb, hk.cell (hc j hj).2 hb⟩⟩
theorem cT_wd9 {t : Nat} {X : Nat → Cl} {c : Nat → Nat → Cl} {i : Nat} (hX : ∀ a, a < i → Wd (X a)) (hc : ∀ r a, Wd (c r a)) (r a : Nat) : Wd (cT t X c i r a) := by
 unfold cT
 by_cases e : r = t ∧ a < i
 ·rw [if_pos e]; exact hX a e.2
 ·rw [if_neg e]; exact hc r a
section
variable {S D T n P lf : Nat} {C : Nat → Cl} {o : List Nat}
theorem keyed_wd (hD : D ≤ 10) (hP : 2 ^ P ≤ 256) (hT : TabOk D n P (dpW D lf) C) (hw : ∀ i, i < 2 ^ P → Wd (C i)) {i : Nat} (hi : i < 2 ^ P) : Wd (keyed D n (dpW D lf) C i) := by
 unfold keyed keyOf
 by_cases h : i < n ∧ C i 0 = 1
 ·rw [if_pos h]
  have h1 := hT.id0 i h.1 h.2
  have h2 := hT.dep i h.1 h.2
  exact setw_wd (hw i hi) (by omega) (by omega)
 ·rw [if_neg h]
  exact setw_wd (hw i hi) (by omega) (by omega)
theorem tab1_wd (hD : D ≤ 10) (hP : 2 ^ P ≤ 256) (hT : TabOk D n P (dpW D lf) C) (hw : ∀ i, i < 2 ^ P → Wd (C i)) {i : Nat} (hi : i < 2 ^ P) : Wd (tab1 D n P (dpW D lf) C i) := by
 obtain ⟨π, h1, h2, _⟩ := tab1_from (D := D) (n := n) (P := P) (dp := dpW D lf) (X := C)
 rw [h1]
 exact keyed_wd hD hP hT hw (h2 i hi)
theorem tab2_wd (hD : D ≤ 10) (hP : 2 ^ P ≤ 256) (hT : TabOk D n P (dpW D lf) C) (hw : ∀ i, i < 2 ^ P → Wd (C i)) (hS : 0 < S) (hn : (D + 1) * S + T < n) (ho : IsOrd (tabI D n P (dpW D lf) C) n o) {i : Nat} (hi : i < 2 ^ P) : Wd (tab2 S D T n P (dpW D lf) C o i) := by
 have h1 := tab1_wd hD hP hT hw hi
 have hr := hT.room
 unfold tab2
 by_cases h : i < n
 ·rw [if_pos h]
  have h2 := outP_le (T := T) (D := D) ho hS hn h
  refine setw_wd ?_ (by omega) (by omega)
  split
  ·exact wd_zero
  ·exact h1
 ·rw [if_neg h]
  exact setw_wd h1 (by omega) (by omega)
theorem tab3_wd (hD : D ≤ 10) (hP : 2 ^ P ≤ 256) (hT : TabOk D n P (dpW D lf) C) (hw : ∀ i, i < 2 ^ P → Wd (C i)) (hS : 0 < S) (hn : (D + 1) * S + T < n) (ho : IsOrd (tabI D n P (dpW D lf) C) n o) {i : Nat} (hi : i < 2 ^ P) : Wd (tab3 S D T n P (dpW D lf) C o i) :=
 runC_all 11 (2 ^ P) (netL P) _ (netL_within P) Wd (fun _ hj => tab2_wd hD hP hT hw hS hn ho hj) i hi
theorem numZ_keyed (hT : TabOk D n P (dpW D lf) C) {i : Nat} (hi : i < 2 ^ P) : numZ D lf i (C i) = keyed D n (dpW D lf) C i := by
 unfold numZ keyed keyOf itemOf
 by_cases h : C i 0 = 1
 ·have hin := hT.at hi h
  rw [if_pos h, if_pos h, if_pos ⟨hin, h⟩]
 ·rw [if_neg h, if_neg (fun e => h e.2)]
theorem plZ_tab2 (ho : IsOrd (tabI D n P (dpW D lf) C) n o) (i : Nat) :
  plZ n i (fun j => (lostO (tabI D n P (dpW D lf) C) S D T o).contains j) (fun j => outP (goes (tabI D n P (dpW D lf) C) S D T o) n j) (tab1 D n P (dpW D lf) C i) = tab2 S D T n P (dpW D lf) C o i := by
 unfold plZ tab2
 have e : (((lostO (tabI D n P (dpW D lf) C) S D T o).contains i) = true) ↔ i ∈ lostO (tabI D n P (dpW D lf) C) S D T o := List.contains_iff_mem
 by_cases h : i < n
 ·rw [if_pos h, if_pos h]
  by_cases hm : i ∈ lostO (tabI D n P (dpW D lf) C) S D T o
  ·rw [if_pos (e.2 hm), if_pos hm]
  ·rw [if_neg (fun k => hm (e.1 k)), if_neg hm]
 ·rw [if_neg h, if_neg h, if_neg (fun k => h ((lost_mem ho i).1 (e.1 k)).1.1)]
end
def arrM (M : MS) (f Q n S D T P lf : Nat) (C : Nat → Cl) (o : List Nat) : MS :=
 M.gone (cT (f + 2) (tab3 S D T n P (dpW D lf) C o) M.c Q) (evE (f + 2) Q ++ looks (f + 2) (netL P) ++ evE (f + 2) Q ++ looks (f + 2) (netL P))
def ArrPost (w : World) (X : Nat → Prop) (lp mp f N S T D Q n P lf : Nat) (ov : Bool) (mb : Option Nat) (M : MS) (C : Nat → Cl) (e : Ending) (w' : World) : Prop :=
 e = .returned (.tuple #[]) ∧ ∃ o, IsOrd (tabI D n P (dpW D lf) C) n o ∧ Own w' X mp (arrM M f Q n S D T P lf C o) ∧ Kept (fun j => X j ∧ j ≠ lp) w w' ∧ Box w' lp 127 (LvA mp f N S T (ov || !(lostO (tabI D n P (dpW D lf) C) S D T o).isEmpty) mb)
set_option maxRecDepth 100000 in
set_option maxHeartbeats 4000000 in
theorem arrange_any {N S T D L n Q P : Nat} (h : Conf N S T D L n Q P) (X : Nat → Prop) (lp mp f lf : Nat) (ov : Bool) (mb : Option Nat) (M : MS) (C : Nat → Cl) (w : World) (hM : LvM M f S D T Q) (hl : M.es.length < 899000000) (hf : f ≤ 100) (hlf : lf < N)
  (hC : ∀ a, a < Q → M.c (f + 2) a = C a) (hCg : ∀ i, i < Q → GoodC N (C i)) (hT : TabOk D n P (dpW D lf) C) (hO : Own w X mp M) (hX1 : X lp) (hB : Box w lp 127 (LvA mp f N S T ov mb)) :
  Calls Tryz.prog 78 #[.pointer (some ⟨lp, 0, none⟩), .int .i64 (lf : Int)] w (ArrPost w X lp mp f N S T D Q n P lf ov mb M C) := by
 have hQP := h.hQ
 have hQ := h.big.2.2.2
 have hQ2 : 2 ^ P ≤ 256 := by rw [hQP]; exact hQ
 have hnet : 4 * (netL P).length ≤ 8 * 9 * 256 := by
  rw [netL_len P]
  exact Nat.mul_le_mul (Nat.mul_le_mul h.hP (by have := h.hP; omega)) hQ2
 have hlk := looks_len (f + 2) (netL P)
 have hev := evE_len (f + 2) Q
 have hw : ∀ i, i < 2 ^ P → Wd (C i) := fun i hi => (hCg i (by rw [← hQP]; exact hi)).1
 have hnn : (D + 1) * S + T < n := by have := h.hL; have := h.hn; omega
 have hs1 : 0 < S := h.s1
 have hTd : ∀ j, (tabI D n P (dpW D lf) C j).2 ≤ 9223372036854775807 := fun j => by
  unfold tabI itemOf
  split
  ·have := deep_le D lf ((tab1 D n P (dpW D lf) C j) 2).toNat D
   have hD := h.hD
   show ((deep D lf _ D : Nat) : Int) ≤ _
   omega
  ·show (-1 : Int) ≤ _; omega
 have e1 : M.gone (cT (f + 2) (fun i => numZ D lf i (C i)) M.c Q) (evE (f + 2) Q) = M.gone (cT (f + 2) (keyed D n (dpW D lf) C) M.c Q) (evE (f + 2) Q) :=
  congrArg (fun c => M.gone c _) (cT_congr (fun a ha => numZ_keyed hT (by rw [hQP]; exact ha)))
 have e2 : (M.gone (cT (f + 2) (keyed D n (dpW D lf) C) M.c Q) (evE (f + 2) Q)).sorted (f + 2) 11 (netL P) = M.gone (cT (f + 2) (tab1 D n P (dpW D lf) C) M.c Q) (evE (f + 2) Q ++ looks (f + 2) (netL P)) := by
  rw [gone_sorted, cT_sorted 11 Q (netL P) (by rw [← hQP]; exact netL_within P)]; rfl
 have hM1 : LvM (M.gone (cT (f + 2) (keyed D n (dpW D lf) C) M.c Q) (evE (f + 2) Q)) f S D T Q :=
  hM.gone _ _ (cT_wd9 (fun a ha => keyed_wd h.hD hQ2 hT hw (by rw [hQP]; exact ha)) hM.wd) (by omega)
 have hM2 : LvM (M.gone (cT (f + 2) (tab1 D n P (dpW D lf) C) M.c Q) (evE (f + 2) Q ++ looks (f + 2) (netL P))) f S D T Q :=
  hM.gone _ _ (cT_wd9 (fun a ha => tab1_wd h.hD hQ2 hT hw (by rw [hQP]; exact ha)) hM.wd) (by rw [List.length_append]; omega)
 have e3 : ∀ o, IsOrd (tabI D n P (dpW D lf) C) n o → plcM (M.gone (cT (f + 2) (tab1 D n P (dpW D lf) C) M.c Q) (evE (f + 2) Q ++ looks (f + 2) (netL P))) f Q n S D T (fun i => if i < Q then tab1 D n P (dpW D lf) C i else nul) (tabI D n P (dpW D lf) C) o =
   M.gone (cT (f + 2) (tab2 S D T n P (dpW D lf) C o) M.c Q) (evE (f + 2) Q ++ looks (f + 2) (netL P) ++ evE (f + 2) Q) := fun o ho => by
  unfold plcM
  rw [gone_gone]
  show M.gone (cT (f + 2) _ (cT (f + 2) (tab1 D n P (dpW D lf) C) M.c Q) Q) _ = _
  rw [cT_over rfl]
  exact congrArg (fun c => M.gone c _) (cT_congr (fun a ha => by
   show plZ n a _ _ (if a < Q then _ else _) = _
   rw [if_pos ha]
   exact plZ_tab2 ho a))
 have e4 : ∀ o, (M.gone (cT (f + 2) (tab2 S D T n P (dpW D lf) C o) M.c Q) (evE (f + 2) Q ++ looks (f + 2) (netL P) ++ evE (f + 2) Q)).sorted (f + 2) 11 (netL P) = arrM M f Q n S D T P lf C o := fun o => by
  rw [gone_sorted, cT_sorted 11 Q (netL P) (by rw [← hQP]; exact netL_within P)]; rfl
 have hM3 : ∀ o, IsOrd (tabI D n P (dpW D lf) C) n o → LvM (M.gone (cT (f + 2) (tab2 S D T n P (dpW D lf) C o) M.c Q) (evE (f + 2) Q ++ looks (f + 2) (netL P) ++ evE (f + 2) Q)) f S D T Q := fun o ho =>
  hM.gone _ _ (cT_wd9 (fun a ha => tab2_wd h.hD hQ2 hT hw hs1 hnn ho (by rw [hQP]; exact ha)) hM.wd) (by rw [List.length_append, List.length_append]; omega)
 have HNu := Lib.hid (number_any h X lp mp f lf ov mb M C w hM hf hlf hC hCg hO hX1 hB)
 have HS1 := Lib.hid (fun X' W (ho : Own W X' mp (M.gone (cT (f + 2) (keyed D n (dpW D lf) C) M.c Q) (evE (f + 2) Q))) hx hb => sort_any h X' lp mp f ov mb _ W hM1 hf ho hx hb)
 have HS3 := Lib.hid (fun o ho W ov' hO' hb => sort_any h X lp mp f ov' mb _ W (hM3 o ho) hf hO' hX1 hb)
 have HPl := Lib.hid (fun W gi off cap hO' hb hI hc => place_any h X lp mp f gi off cap ov mb _ (fun i => if i < Q then tab1 D n P (dpW D lf) C i else nul) (tabI D n P (dpW D lf) C) W hM2 hf (fun a ha => by
  rw [if_pos ha]; exact cT_at ha) (fun i => by
  split
  ·exact tab1_wd h.hD hQ2 hT hw (by rw [hQP]; assumption)
  ·exact wd_zero) hO' hX1 hb hI hc (fun j _ => hTd j))
 have HTi := Lib.hid (fun o (ho : IsOrd (fun i => itemOf (dpW D lf) (C i)) Q o) j (hj : j < Q) => hT.items h.hD (by rw [hQP]; exact ho) (by rw [hQP]; exact hj))
 have E1 := Lib.hid e1
 have E2 := Lib.hid e2
 have E3 := Lib.hid e3
 have E4 := Lib.hid e4
 have HB := Lib.hid hB
 clear hM1 hM2 hM3 e1 e2 e3 e4 hTd hw hT hCg hC hO hM hB h
 go_enter Tryz.func78, Tryz.ntmps78
 go_wp2_with fail
 refine HNu.out.mono ?_
 rintro e w1 ⟨o1, gi, off, cap, hor, rfl, hcap, hits, hO1, hK1⟩
 rw [E1.out] at hO1
 have HB1 := Lib.hid (hK1.box HB.out hX1)
 have HI1 := Lib.hid (hits.congr (fun j hj => (HTi.out o1 hor j hj).symm))
 have HO1 := Lib.hid hO1
 have HK1 := Lib.hid hK1
 clear hor hits hO1 hK1 HNu HB
 go_wp2_with fail
 refine (HS1.out (fun j => X j ∨ j = gi) w1 HO1.out (.inl hX1) HB1.out).mono ?_
 rintro e w2 ⟨rfl, hO2, hK2⟩
 rw [E2.out] at hO2
 have HB2 := Lib.hid (hK2.box HB1.out (.inl hX1))
 have HO2 := Lib.hid (hO2.weak (Y := X) (fun j hj => .inl hj))
 have HK2 := Lib.hid (HK1.out.trans (hK2.mono (fun j hj => .inl hj)))
 have HI2 : Hid (Its w2 w2.heap.size (some ⟨gi, off, none⟩) Q (tabI D n P (dpW D lf) C)) := Lib.hid ((HI1.out.kept hK2 (.inr rfl)).more hK2.size)
 clear hO2 hK2 HB1 HO1 HK1 HI1 HS1
 go_wp2_with fail
 refine (HPl.out w2 gi off cap HO2.out HB2.out HI2.out hcap).mono ?_
 rintro e w3 ⟨rfl, o, hor, hO3, hK3, hB3⟩
 rw [E3.out o hor] at hO3
 have HO3 := Lib.hid hO3
 have HB3 := Lib.hid hB3
 have HOr := Lib.hid hor
 have HK3 := Lib.hid ((HK2.out.mono (Y := fun j => X j ∧ j ≠ lp) (fun j hj => hj.1)).trans hK3)
 clear hO3 hB3 hor hK3 HO2 HB2 HK2 HI2
 go_wp2_with fail
 refine (HS3.out o HOr.out w3 _ HO3.out HB3.out).mono ?_
 rintro e w4 ⟨rfl, hO4, hK4⟩
 rw [E4.out o] at hO4
 have HO4 := Lib.hid hO4
 have HB4 := Lib.hid (hK4.box HB3.out hX1)
 have HK4 := Lib.hid (HK3.out.trans (hK4.mono (Y := fun j => X j ∧ j ≠ lp) (fun j hj => hj.1)))
 clear hO4 hK4
 go_wp2_with fail
 go_end0
 exact ⟨rfl, o, HOr.out, HO4.out, HK4.out, HB4.out⟩
end Go.Proofs.YtknnebhjldfkhaaGreat


namespace Go.Proofs.YtknnebhjldfkhaaGreat
set_option maxRecDepth 100000
open Go.RowKit Go.ChangeShapes Go.WideShapes Go.ChangeAt

set_option maxRecDepth 100000 in
theorem over_of {N S T : Nat} (lp mp f : Nat) (ov : Bool) (mb : Option Nat) (w : World) (hB : Box w lp 127 (LvA mp f N S T ov mb)) :
  Calls Tryz.prog 20 #[.pointer (some ⟨lp, 0, none⟩)] w fun e w' => e = .returned (.bool ov) ∧ w' = w := by
 have c5 : w.cell? ⟨lp, 5, none⟩ = some (.bool ov) := hB.cell 5
 clear hB
 go_enter Tryz.func20, Tryz.ntmps20
 go_wp2_with fail
 go_ret
 exact ⟨rfl, rfl⟩
set_option maxRecDepth 100000 in
set_option maxHeartbeats 2000000 in
theorem access_no {N S T : Nat} (lp mp f : Nat) (ov : Bool) (mb : Option Nat) (op id at' : Int) (d : Nat → Int) (lf to : Int) (w : World) (hI : isAsk N op id at' lf to = false)
  (hB : Box w lp 127 (LvA mp f N S T ov mb)) :
  Calls Tryz.prog 16 #[.pointer (some ⟨lp, 0, none⟩), .int .i64 op, .int .u64 id, .int .i64 at', .agg (DA d), .int .i64 lf, .int .i64 to] w fun e w' =>
   e = .returned (.tuple #[.agg (DA fun _ => 0), .bool false]) ∧ Only nobody w w' := by
 have HA := Lib.hid (fun W => ask_right (N : Int) (S : Int) (T : Int) op id at' d lf to W)
 rw [hI] at HA
 obtain ⟨b, hb⟩ : ∃ b, w.heap.size = b := ⟨_, rfl⟩
 have HBb := Lib.hid hb
 have HB := Lib.hid hB
 clear hb hB hI
 go_enter Tryz.func16, Tryz.ntmps16
 go_upto_region 1 with fail
 rw [HBb.out]
 obtain ⟨w2, hw2⟩ : ∃ x, (w.alloc (.cells (DA d) 48)).alloc (.cells #[.int .u64 0, .int .u64 0, .int .u64 0, .int .u64 0, .int .u64 0, .int .u64 0, .int .u64 0, .int .u64 0] 48) = x := ⟨_, rfl⟩
 have hd : Box w2 b 48 (DA d) := by rw [← hw2, ← HBb.out]; exact (Box.new w _ _).alloc _
 have hr : Box w2 (b + 1) 48 (DA fun _ => 0) := by
  rw [← hw2]
  have := Box.new (w.alloc (.cells (DA d) 48)) 48 (DA fun _ => 0)
  have e : (w.alloc (.cells (DA d) 48)).heap.size = b + 1 := by simp [HBb.out]
  rw [e] at this
  exact this
 have ho2 : Only nobody w w2 := by rw [← hw2]; exact ((Only.refl nobody w).alloc _).alloc _
 have HD := Lib.hid hd
 have HR := Lib.hid hr
 have HO2 := Lib.hid ho2
 have HB2 := Lib.hid (HB.out.only ho2 (not_nobody _))
 clear hd hr ho2
 rw [show (w.alloc (.cells (DA d) 48)).alloc (.cells #[.int .u64 0, .int .u64 0, .int .u64 0, .int .u64 0, .int .u64 0, .int .u64 0, .int .u64 0, .int .u64 0] 48) = w2 from hw2]
 clear hw2
 have d0 := HD.out.cell 0
 have d1 := HD.out.cell 1
 have d2 := HD.out.cell 2
 have d3 := HD.out.cell 3
 have d4 := HD.out.cell 4
 have d5 := HD.out.cell 5
 have d6 := HD.out.cell 6
 have d7 := HD.out.cell 7
 simp only [DA, List.getElem?_toArray, List.getElem?_cons_succ, List.getElem?_cons_zero] at d0 d1 d2 d3 d4 d5 d6 d7
 simp only [DA]
 go_upto_region 2 with fail
 clear d0 d1 d2 d3 d4 d5 d6 d7
 obtain ⟨ab, hab⟩ : ∃ x, w2.heap.size = x := ⟨_, rfl⟩
 obtain ⟨w3, hw3⟩ : ∃ x, w2.alloc (.cells (askA op id at' d lf to) 122) = x := ⟨_, rfl⟩
 have ha : Box w3 ab 122 (askA op id at' d lf to) := by rw [← hw3, ← hab]; exact Box.new w2 _ _
 have ho3 : Only nobody w2 w3 := by rw [← hw3]; exact (Only.refl nobody _).alloc _
 have hB3 := HB2.out.only ho3 (not_nobody _)
 have hR3 := HR.out.only ho3 (not_nobody _)
 have hO3 := HO2.out.trans ho3
 simp only [hab]
 change Code.wp _ _ _ _ (w2.alloc (.cells (askA op id at' d lf to) 122))
 rw [hw3]
 clear ho3 hw3 HB2 HR HO2 HD
 refine held_s (S := fun w' => Box w' lp 127 (LvA mp f N S T ov mb) ∧ Box w' ab 122 (askA op id at' d lf to)) 8 rfl (by kernel_rfl) ⟨hB3.drewN 1, ha.drewN 1⟩ (fun hHeld => ?_)
 simp only [qA0, qB0, qC0, List.nil_append, List.cons_append]
 have hR4 : Box w3.drew (b + 1) 48 (DA fun _ => 0) := hR3.drewN 1
 have hO4 : Only nobody w w3.drew := hO3.drew
 clear hR3 hO3 hB3 ha
 generalize w3.drew = w4 at *
 refine tk1 0 26 ((.agg (askA op id at' d lf to))) rfl (Or.inl ⟨by rfl, fun w' hw => by (have k0 := hw.2.cell 0; have k1 := hw.2.cell 1; have k2 := hw.2.cell 2; have k3 := hw.2.cell 3; have k4 := hw.2.cell 4; have k5 := hw.2.cell 5; have k6 := hw.2.cell 6; have k7 := hw.2.cell 7; have k8 := hw.2.cell 8; have k9 := hw.2.cell 9; have k10 := hw.2.cell 10; have k11 := hw.2.cell 11; have k12 := hw.2.cell 12; simp only [askA, List.getElem?_toArray, List.getElem?_cons_succ, List.getElem?_cons_zero] at k0 k1 k2 k3 k4 k5 k6 k7 k8 k9 k10 k11 k12 ⊢; go_simp)⟩) hHeld ?_
 try simp only [Act.put, sA0, sB0, sC0]
 refine tk1 1 27 (.pointer (some ⟨lp, 0, none⟩)) rfl (Or.inl ⟨by rfl, fun w' hw => by go_simp⟩) hHeld ?_
 try simp only [Act.put, sA0, sB0, sC0]
 refine tk1 2 28 (.pointer (some ⟨lp, 0, none⟩)) rfl (Or.inl ⟨by rfl, fun w' hw => by go_simp⟩) hHeld ?_
 try simp only [Act.put, sA0, sB0, sC0]
 refine tk1 3 29 (.pointer (some ⟨lp, 1, none⟩)) rfl (Or.inl ⟨by rfl, fun w' hw => by go_simp⟩) hHeld ?_
 try simp only [Act.put, sA0, sB0, sC0]
 refine tk1 4 30 (.pointer (some ⟨lp, 2, none⟩)) rfl (Or.inl ⟨by rfl, fun w' hw => by go_simp⟩) hHeld ?_
 try simp only [Act.put, sA0, sB0, sC0]
 refine tk1 5 31 (.agg #[.int .i64 (N : Int), .int .i64 (S : Int), .int .i64 (T : Int)]) rfl (Or.inl ⟨by rfl, fun w' hw => by (have k2 := lv2 hw.1; have k3 := lv3 hw.1; have k4 := lv4 hw.1; go_simp)⟩) hHeld ?_
 try simp only [Act.put, sA0, sB0, sC0]
 refine one_ready 6 rfl (by kernel_rfl) (fun K hK => ?_)
 go_simp
 refine (HA.out _).mono ?_
 rintro e w5 ⟨rfl, hb5⟩
 have ho : Only nobody w4 w5 := Only.of_below hb5
 have hR5 := hR4.only ho (not_nobody _)
 have hO5 := hO4.trans ho
 refine hK.out _ _ ⟨hHeld.1.only ho (not_nobody _), hHeld.2.only ho (not_nobody _)⟩ (fun hHeld => ?_)
 clear hK K ho hb5 hR4 hO4
 simp only [sA0, sB0, sC0]
 refine tk1 7 33 (.bool true) rfl (Or.inl ⟨by rfl, fun w' hw => by go_simp⟩) hHeld ?_
 try simp only [Act.put, sA0, sB0, sC0]
 refine wpAnyH_done (by kernel_rfl) ?_ _
 have HT := Lib.hid (hR5.there 8 (by decide))
 have HE : Hid (Only nobody w (w5.setCells (b + 1) 0 (DA fun _ => 0).toList)) := Lib.hid (only_setCells _ 0 _ hO5 (.inr (by have := HBb.out; omega)))
 clear hHeld hR5 hO5
 go_wp2_with (with_reducible refine wpList_store_data rfl (.tmp 14) (.tmp 34) rfl (b + 1) 0 rfl (fun _ => 0) rfl HT.out ?_)
 exact bodyPost_ret (v := .tuple #[.agg (DA fun _ => 0), .bool false]) (results_ct Tryz.results16 rfl rfl (load_range (World.rangeAt_setCells_same w5 (b + 1) 0 (DA fun _ => 0).toList HT.out) Tryz.underlying48 rfl (infoData (fun _ => 0)))) rfl ⟨rfl, HE.out⟩
end Go.Proofs.YtknnebhjldfkhaaGreat


namespace Go.Proofs.YtknnebhjldfkhaaGreat
set_option maxRecDepth 100000
open Go.RowKit Go.ChangeShapes Go.WideShapes Go.ChangeAt Go.Maps

theorem turned_only {w w' : World} {b : Nat} (h : w.mapTurned w' b) : Only (just b) w w' := (Only.refl _ w).grown h.grown (fun k e => by injection e with e; exact .inl e.symm)
theorem keyed64 : Keyed Tryz.prog 43 := int_keyed Tryz.underlying43
section
variable {H : Type} {w w' : World} {P : Program} {k : TypeId} {R : Value → Option (DataW H × List MemPlace)} {b n : Nat} {D : DataW H}
theorem map_lt (h : w.ownsMap P k R b n D) : b < w.heap.size := by
 obtain ⟨es, clock, hb, _⟩ := h
 exact (Array.getElem?_eq_some_iff.1 hb).1
theorem map_only {S : Nat → Prop} (h : w.ownsMap P k R b n D) (ho : Only S w w') (hs : ¬ S b) : w'.ownsMap P k R b n D := by
 have hl := map_lt h
 obtain ⟨es, clock, hb, F, hn, hd⟩ := h
 exact ⟨es, clock, (ho.block b hl hs).trans hb, F, hn, hd⟩
theorem map_ne {p : Nat} {t : TypeId} {cs : Array Value} (h : w.ownsMap P k R b n D) (hB : Box w p t cs) : p ≠ b := by
 rintro rfl
 obtain ⟨es, clock, hb, _⟩ := h
 unfold Box at hB
 rw [hB] at hb
 cases hb
end
end Go.Proofs.YtknnebhjldfkhaaGreat

