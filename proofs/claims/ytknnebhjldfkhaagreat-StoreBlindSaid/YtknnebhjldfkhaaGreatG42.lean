import Derived.Sort.CutIn
import Derived.Test.YtknnebhjldfkhaaGreatG38
import Derived.Test.YtknnebhjldfkhaaGreatG40
import Derived.Test.YtknnebhjldfkhaaGreatG41
namespace Go.Proofs.YtknnebhjldfkhaaGreat
set_option maxRecDepth 100000
open Go.RowKit Go.Shelf Go.ChangeShapes Go.WideShapes Go.ChangeAt
attribute [local go_sem] Oper.semAt_some

theorem Tp.nonc {B : Nat} {w w' : World} {p g n : Nat} {z : Nat → Int} {u : Nat} (h : Tp w p g n z u) (k : Only (nonc B w) w w') : Tp w' p g n z u := h.only k (cells_not h.box.cells) (cells_not (rowIs_cells h.row))
abbrev Dw := Nat → Nt × Nt
def setF (D : Dw) (h : Nat) (e : Nt) : Dw := fun i => if i = h then (e, (D i).2) else D i
def setS (D : Dw) (h : Nat) (e : Nt) : Dw := fun i => if i = h then ((D i).1, e) else D i
def dwV (D : Dw) (k : Nat) : Value := .int .u64 (if k % 4 = 0 then (D (k / 4)).1.1 else if k % 4 = 1 then (D (k / 4)).1.2 else if k % 4 = 2 then (D (k / 4)).2.1 else (D (k / 4)).2.2)
theorem dwV_setF (D : Dw) (h : Nat) (e : Nt) (k : Nat) : dwV (setF D h e) k = if k = h * 4 + 1 then .int .u64 e.2 else if k = h * 4 then .int .u64 e.1 else dwV D k := by
 unfold dwV setF
 repeat' split
 all_goals first | rfl | (exfalso; omega)
theorem dwV_setS (D : Dw) (h : Nat) (e : Nt) (k : Nat) : dwV (setS D h e) k = if k = h * 4 + 3 then .int .u64 e.2 else if k = h * 4 + 2 then .int .u64 e.1 else dwV D k := by
 unfold dwV setS
 repeat' split
 all_goals first | rfl | (exfalso; omega)
def drws (nw : Nat) (z : Nat → Int) (N : Nat → Nat) : Nat → List Nat → Dw → Dw
 | _, [], D => D
 | u, h :: l, D => drws nw z N (u + 2) l (setS (setF D h (tkN nw z u (N h))) h (tkN nw z (u + 1) (N h)))
theorem drws_snoc (nw : Nat) (z : Nat → Int) (N : Nat → Nat) (h : Nat) : ∀ (l : List Nat) (u : Nat) (D : Dw), drws nw z N u (l ++ [h]) D = setS (setF (drws nw z N u l D) h (tkN nw z (u + 2 * l.length) (N h))) h (tkN nw z (u + 2 * l.length + 1) (N h))
 | [], u, D => rfl
 | a :: l, u, D => by
  show drws nw z N (u + 2) (l ++ [h]) _ = _
  rw [drws_snoc nw z N h l (u + 2)]
  have e : u + 2 + 2 * l.length = u + 2 * (a :: l).length := by simp; omega
  rw [e]; rfl
theorem drws_out (nw : Nat) (z : Nat → Int) (N : Nat → Nat) (h : Nat) : ∀ (l : List Nat) (u : Nat) (D : Dw), h ∉ l → drws nw z N u l D h = D h
 | [], u, D, _ => rfl
 | a :: l, u, D, hh => by
  have h1 : h ≠ a := fun e => hh (by simp [e])
  have h2 : h ∉ l := fun e => hh (by simp [e])
  show drws nw z N (u + 2) l _ h = _
  rw [drws_out nw z N h l (u + 2) _ h2]
  unfold setS setF
  rw [if_neg h1, if_neg h1]
theorem downL_mem : ∀ n h, h ∈ downL n ↔ h < n
 | 0, h => by simp [downL]
 | n + 1, h => by
  rw [downL, List.mem_cons, downL_mem n h]; omega
theorem drws_down (nw : Nat) (z : Nat → Int) (N : Nat → Nat) (h : Nat) : ∀ (n u : Nat) (D : Dw), h < n → drws nw z N u (downL n) D h = (tkN nw z (u + 2 * (n - 1 - h)) (N h), tkN nw z (u + 2 * (n - 1 - h) + 1) (N h))
 | 0, _, _, hh => by omega
 | n + 1, u, D, hh => by
  show drws nw z N (u + 2) (downL n) _ h = _
  by_cases e : h = n
  ·subst e
   rw [drws_out nw z N h (downL h) (u + 2) _ (fun k => by have := (downL_mem h h).1 k; omega)]
   unfold setS setF
   rw [if_pos rfl, if_pos rfl, show h + 1 - 1 - h = 0 by omega]
   rfl
  ·rw [drws_down nw z N h n (u + 2) _ (by omega), show u + 2 + 2 * (n - 1 - h) = u + 2 * (n + 1 - 1 - h) by omega]
theorem drws_wd {nw : Nat} {z : Nat → Int} {N : Nat → Nat} (hN : ∀ h, 0 < N h ∧ N h ≤ 1024) : ∀ (l : List Nat) (u : Nat) (D : Dw), u + 2 * l.length ≤ 2000000000 → (∀ h, WN (D h).1 ∧ WN (D h).2) → ∀ h, WN (drws nw z N u l D h).1 ∧ WN (drws nw z N u l D h).2
 | [], _, _, _, hD, h => hD h
 | a :: l, u, D, hu, hD, h => by
  have hl : (a :: l).length = l.length + 1 := rfl
  refine drws_wd hN l (u + 2) _ (by omega) (fun i => ?_) h
  unfold setS setF
  by_cases e : i = a
  ·rw [if_pos e, if_pos e]
   exact ⟨tkN_wd (hN a).1 (hN a).2 (by omega), tkN_wd (hN a).1 (hN a).2 (by omega)⟩
  ·rw [if_neg e, if_neg e]; exact hD i
def noDw : Dw := fun _ => ((0, 0), (0, 0))
theorem noDw_wd (h : Nat) : WN (noDw h).1 ∧ WN (noDw h).2 := by unfold noDw WN; decide
theorem infoDraw : (Tryz.prog.info? 178).map (fun i => (i.zero, i.size, i.bytes)) = some (some (.agg #[.int .u64 0, .int .u64 0, .int .u64 0, .int .u64 0]), 4, 32) := by kernel_rfl
theorem make_draws (s : Nat) (hs : s ≤ 1000) (w : World) : (Instr.makeSlice 172 (.int .i64 (s : Int)) (.int .i64 (s : Int))).run Tryz.prog w = .ok (.slice (some ⟨w.heap.size, 0, none⟩) s s) (w.alloc (.cells (madeCells #[.int .u64 0, .int .u64 0, .int .u64 0, .int .u64 0] (s * 4)) 178)) := by
 obtain ⟨i, hi, hzz⟩ := Option.map_eq_some_iff.1 infoDraw
 simp only [Prod.mk.injEq] at hzz
 obtain ⟨hz, h3, hb⟩ := hzz
 have := run_make (P := Tryz.prog) w 172 178 i _ Tryz.underlying172 hi hz .i64 .i64 s s (by omega) (Int.le_refl _) (by rw [hb]; omega) (by omega)
 rw [h3] at this
 simpa [Value.cells] using this
theorem made_draws (w : World) (s : Nat) : (w.alloc (.cells (madeCells #[.int .u64 0, .int .u64 0, .int .u64 0, .int .u64 0] (s * 4)) 178)).rowIs w.heap.size 178 (s * 4) (dwV noDw) := by
 refine ⟨_, Go.Deep.blk_alloc_new _ _, size_madeCells _ _, fun i hi => ?_⟩
 have h3 : i % 4 = 0 ∨ i % 4 = 1 ∨ i % 4 = 2 ∨ i % 4 = 3 := by omega
 rcases h3 with h | h | h | h <;> simp [madeCells, hi, h, dwV, noDw]
structure DrAt (w : World) (bs bd g sp tp tg nw : Nat) (z : Nat → Int) (u n : Nat) (cs : Array Value) (D : Dw) (W : World) : Prop where
 xs : Box W bs 82 #[.pointer (some ⟨sp, 0, none⟩)]
 xd : Box W bd 172 #[.slice (some ⟨g, 0, none⟩) n n]
 row : W.rowIs g 178 (n * 4) (dwV D)
 st : Box W sp 170 cs
 tape : Tp W tp tg nw z u
 only : Only (just tp) w W
section
variable {w W W' : World} {bs bd g sp tp tg nw : Nat} {z : Nat → Int} {u n : Nat} {cs : Array Value} {D : Dw}
theorem DrAt.nonc (h : DrAt w bs bd g sp tp tg nw z u n cs D W) {B : Nat} (hB : w.heap.size ≤ B) (k : Only (nonc B W) W W') : DrAt w bs bd g sp tp tg nw z u n cs D W' :=
 ⟨h.xs.only k (cells_not h.xs.cells), h.xd.only k (cells_not h.xd.cells), k.row h.row (cells_not (rowIs_cells h.row)), h.st.only k (cells_not h.st.cells), h.tape.nonc k, h.only.then k (fun _ hi => .inr (Nat.le_trans hB hi.1))⟩
theorem DrAt.nob (h : DrAt w bs bd g sp tp tg nw z u n cs D W) (k : Only nobody W W') : DrAt w bs bd g sp tp tg nw z u n cs D W' :=
 ⟨h.xs.only k (not_nobody _), h.xd.only k (not_nobody _), k.row h.row (not_nobody _), h.st.only k (not_nobody _), h.tape.only k (not_nobody _) (not_nobody _), h.only.then k (fun _ hi => absurd hi (not_nobody _))⟩
theorem DrAt.take (h : DrAt w bs bd g sp tp tg nw z u n cs D W) (k : Only (just tp) W W') (ht : Tp W' tp tg nw z (u + 1)) : DrAt w bs bd g sp tp tg nw z (u + 1) n cs D W' :=
 ⟨h.xs.only k (just_ne (h.xs.ne h.tape.box (by decide))), h.xd.only k (just_ne (h.xd.ne h.tape.box (by decide))), k.row h.row (just_ne (h.tape.box.row_ne h.row (by decide)).symm), h.st.only k (just_ne (h.st.ne h.tape.box (by decide))), ht, h.only.trans k⟩
theorem DrAt.far (h : DrAt w bs bd g sp tp tg nw z u n cs D W) (hg : w.heap.size ≤ g) (i : Nat) (v v' : Value) (D' : Dw) (hD : ∀ k, dwV D' k = if k = i + 1 then v' else if k = i then v else dwV D k) :
  DrAt w bs bd g sp tp tg nw z u n cs D' ((W.setCell ⟨g, i, none⟩ v).setCell ⟨g, i + 1, none⟩ v') := by
 have a1 := h.xs.row_ne h.row (by decide)
 have a2 := h.xd.row_ne h.row (by decide)
 have a3 := h.st.row_ne h.row (by decide)
 have a4 := h.tape.box.row_ne h.row (by decide)
 have hg' : tg ≠ g := by
  intro e
  have h1 := h.tape.row
  rw [e] at h1
  obtain ⟨c1, q1, _⟩ := h1
  obtain ⟨c2, q2, _⟩ := h.row
  rw [q1] at q2
  injection q2 with q2
  injection q2 with _ q2
  exact absurd q2 (by decide)
 exact ⟨(h.xs.far (a := ⟨g, i, none⟩) a1 _).far (a := ⟨g, i + 1, none⟩) a1 _, (h.xd.far (a := ⟨g, i, none⟩) a2 _).far (a := ⟨g, i + 1, none⟩) a2 _, ((h.row.set _ _).set _ _).congr (fun j _ => (hD j).symm), (h.st.far (a := ⟨g, i, none⟩) a3 _).far (a := ⟨g, i + 1, none⟩) a3 _,
  ⟨(h.tape.box.far (a := ⟨g, i, none⟩) a4 _).far (a := ⟨g, i + 1, none⟩) a4 _, (h.tape.row.setOther (a := ⟨g, i, none⟩) hg' _).setOther (a := ⟨g, i + 1, none⟩) hg' _⟩,
  (h.only.setCell (p := ⟨g, i, none⟩) (.inr hg) _).setCell (p := ⟨g, i + 1, none⟩) (.inr hg) _⟩
end
def DrPost (w : World) (tp tg nw : Nat) (z : Nat → Int) (u n : Nat) (D : Dw) (e : Ending) (w' : World) : Prop :=
 ∃ g, e = .returned (.slice (some ⟨g, 0, none⟩) n n) ∧ w.heap.size ≤ g ∧ w'.rowIs g 178 (n * 4) (dwV D) ∧ Tp w' tp tg nw z (u + 2 * n) ∧ Only (just tp) w w'
theorem row_frozen {w : World} {b n : Nat} {t : TypeId} {f : Nat → Value} (h : w.rowIs b t n f) (i : Nat) : w.frozen? ⟨b, i, none⟩ = false := by
 obtain ⟨c, hc, _⟩ := h
 simp [World.frozen?, hc]
set_option linter.unusedSimpArgs false in
set_option maxHeartbeats 4000000 in
theorem draw_any (sp tp tg nw u b n : Nat) (S T : Int) (z : Nat → Int) (cs : Array Value) (w : World) (hb : b ≤ 10) (hn : n ≤ 100) (hu : u ≤ 1000000000) (hz : ∀ j, j < nw → 0 ≤ z j ∧ z j ≤ 18446744073709551615)
  (hB : Box w sp 170 cs) (hc1 : cs[1]? = some (.pointer (some ⟨tp, 0, none⟩))) (hc3 : cs[3]? = some (.int .i64 ((2 ^ b : Nat) : Int))) (hc4 : cs[4]? = some (.int .i64 S)) (hc5 : cs[5]? = some (.int .i64 T)) (hc6 : cs[6]? = some (.int .i64 (n : Int))) (hT : Tp w tp tg nw z u) :
  Calls Tryz.prog 111 #[.pointer (some ⟨sp, 0, none⟩)] w (DrPost w tp tg nw z u n (drws nw z (blN b) u (downL n) noDw)) := by
 have HBl := Lib.hid (fun W h (hh : h ≤ 100) => blocks_any b S T n h W hb hh)
 unfold scA at HBl
 have HTk := Lib.hid (fun W u' h (hu' : u' ≤ 2000000000) (hB : Box W sp 170 cs) (hT : Tp W tp tg nw z u') => take_any sp tp tg nw u' (blN b h) z cs W (blN_pos b h) (blN_le b h hb) hu' hz hB hc1 hT)
 generalize ((2 ^ b : Nat) : Int) = B at *
 have c6 : w.cell? ⟨sp, 6, none⟩ = some (.int .i64 (n : Int)) := (hB.cell 6).trans hc6
 have hmk := make_draws n (by omega)
 have hspl := hB.lt
 obtain ⟨b0, hb0⟩ : ∃ c, w.heap.size = c := ⟨_, rfl⟩
 obtain ⟨w1, hw1⟩ : ∃ x, ((w.alloc (.cells #[.pointer (some ⟨sp, 0, none⟩)] 82)).alloc (.cells (madeCells #[.int .u64 0, .int .u64 0, .int .u64 0, .int .u64 0] (n * 4)) 178)).alloc (.cells #[.slice (some ⟨b0 + 1, 0, none⟩) n n] 172) = x := ⟨_, rfl⟩
 have hO1 : Only nobody w w1 := by rw [← hw1]; exact (((Only.refl _ w).alloc _).alloc _).alloc _
 have hsz1 : w1.heap.size = b0 + 3 := by rw [← hw1, World.size_alloc, World.size_alloc, World.size_alloc, hb0]
 have hI1 : DrAt w b0 (b0 + 2) (b0 + 1) sp tp tg nw z u n cs noDw w1 := by
  refine ⟨?_, ?_, ?_, hB.only hO1 (not_nobody _), hT.only hO1 (not_nobody _) (not_nobody _), hO1.mono (fun _ _ h => absurd h (not_nobody _))⟩
  ·rw [← hw1, ← hb0]; exact ((Box.new w _ _).alloc _).alloc _
  ·have := Box.new ((w.alloc (.cells #[.pointer (some ⟨sp, 0, none⟩)] 82)).alloc (.cells (madeCells #[.int .u64 0, .int .u64 0, .int .u64 0, .int .u64 0] (n * 4)) 178)) 172 #[.slice (some ⟨b0 + 1, 0, none⟩) n n]
   rw [World.size_alloc, World.size_alloc, hb0, hw1] at this
   exact this
  ·have := (made_draws (w.alloc (.cells #[.pointer (some ⟨sp, 0, none⟩)] 82)) n).alloc (.cells #[.slice (some ⟨b0 + 1, 0, none⟩) n n] 172)
   rw [World.size_alloc, hb0, hw1] at this
   exact this
 have HW1 := Lib.hid hw1
 have HBb := Lib.hid hb0
 have c3 : w.cell? ⟨sp, 3, none⟩ = some (.int .i64 B) := (hB.cell 3).trans hc3
 have c4 : w.cell? ⟨sp, 4, none⟩ = some (.int .i64 S) := (hB.cell 4).trans hc4
 have c5 : w.cell? ⟨sp, 5, none⟩ = some (.int .i64 T) := (hB.cell 5).trans hc5
 have x0 := hI1.xs.cell 0
 simp at x0
 have d3 : w1.cell? ⟨sp, 3, none⟩ = some (.int .i64 B) := (hI1.st.cell 3).trans hc3
 have d4 : w1.cell? ⟨sp, 4, none⟩ = some (.int .i64 S) := (hI1.st.cell 4).trans hc4
 have d5 : w1.cell? ⟨sp, 5, none⟩ = some (.int .i64 T) := (hI1.st.cell 5).trans hc5
 have d6 : w1.cell? ⟨sp, 6, none⟩ = some (.int .i64 (n : Int)) := (hI1.st.cell 6).trans hc6
 clear hw1 hb0
 refine (callsIn_wide (n := 9)).1 ?_
 refine callsIn_of_wp_marks Tryz.func111 rfl trivial ?_ rfl
 simp only [Tryz.ntmps111, List.size_toArray, List.length_cons, List.length_nil, Nat.reduceAdd, Nat.reduceSub, qA0, qB0, qC0, List.append_toArray, List.nil_append, List.cons_append]
 gi_upto_region 2 with fail
 rw [HBb.out]
 simp only [HW1.out]
 have eb2 : b0 + 1 + 1 = b0 + 2 := rfl
 simp only [eb2]
 gi_wp2_with (refine ⟨trivial, ?_⟩; gi_at_call 114; refine (callsIn_wide.2 (fromLast_any _ _)).mono ?_; rintro e w3 ⟨rfl, rfl⟩)
 have bC : Box (w1.alloc (.cells #[.int .i64 B, .int .i64 S, .int .i64 T, .int .i64 (n : Int)] 79)) (b0 + 3) 79 #[.int .i64 B, .int .i64 S, .int .i64 T, .int .i64 (n : Int)] := by
  have := Box.new w1 79 #[.int .i64 B, .int .i64 S, .int .i64 T, .int .i64 (n : Int)]
  rw [hsz1] at this
  exact this
 have hI2 := hI1.nob ((Only.refl nobody w1).alloc (.cells #[.int .i64 B, .int .i64 S, .int .i64 T, .int .i64 (n : Int)] 79))
 obtain ⟨W0, hW0⟩ : ∃ x, w1.alloc (.cells #[.int .i64 B, .int .i64 S, .int .i64 T, .int .i64 (n : Int)] 79) = x := ⟨_, rfl⟩
 have hsz0 : W0.heap.size = b0 + 4 := by rw [← hW0, World.size_alloc, hsz1]
 have hsw := HBb.out
 rw [hW0] at bC hI2 ⊢
 refine wpIn_rangeFunc_ownG rfl (by decide) (gf := 154) (lb := #[.pointer (some ⟨b0 + 3, 0, none⟩)]) rfl trivial (enters_of Tryz.func154 (by kernel_rfl) rfl)
  (last_stops _ (b0 + 3) n B S T hn _ bC) (fun h k => KC.trans h k) KC.book (Below.refl _ _) (fun _ => rfl)
  (fun pre W => DrAt w b0 (b0 + 2) (b0 + 1) sp tp tg nw z (u + 2 * pre.length) n cs (drws nw z (blN b) u (pre.map lvl) noDw) W)
  (fun _ _ _ => False)
  (fun pre X Y row hs hg hr => hs.nonc (B := W0.heap.size) (by omega) (only_nonc hg hr))
  (fun _ _ _ _ _ hs _ _ => hs)
  hI2
  (fun x => { tmps := #[.pointer (some ⟨sp, 0, none⟩), .pointer (some ⟨b0, 0, none⟩), .slice none 0 0, .pointer (some ⟨b0 + 2, 0, none⟩), .int .i64 (lvl x : Int), undef, .pointer (some ⟨sp, 0, none⟩), .pointer (some ⟨sp, 0, none⟩), .pointer (some ⟨sp, 2, none⟩), .pointer (some ⟨sp, 3, none⟩), .pointer (some ⟨sp, 6, none⟩), .int .i64 (n : Int), .slice (some ⟨b0 + 1, 0, none⟩) n n, .pointer (some ⟨sp, 0, none⟩), .pointer (some ⟨sp, 0, none⟩), .pointer (some ⟨sp, 2, none⟩), .pointer (some ⟨sp, 3, none⟩), .agg #[.int .i64 B, .int .i64 S, .int .i64 T, .int .i64 (n : Int)], .func (.func 154) #[] #[.pointer (some ⟨b0 + 3, 0, none⟩)], .int .i64 (lvl x : Int), undef, undef, undef, undef, undef, undef, undef, undef, undef, undef, undef, undef, undef, undef, undef, undef, undef, undef, undef, undef, undef, undef], defers := [] })
  ?assign ?body ?done ?stop
 case assign =>
  intro l x W K hK
  simp only [encV, zip_one, List.set_cons_zero, List.set_cons_succ]
  gi_wp2
  exact hK
 case body =>
  rintro l pre x W hI hlt
  obtain ⟨k, hk⟩ : ∃ k, pre.length = k := ⟨_, rfl⟩
  obtain ⟨D, hD⟩ : ∃ D, drws nw z (blN b) u (pre.map lvl) noDw = D := ⟨_, rfl⟩
  have hnext := drws_snoc nw z (blN b) (lvl x) (pre.map lvl) u noDw
  rw [List.length_map] at hnext
  rw [hk, hD] at hI hnext
  rw [hk] at hlt
  have hx : lvl x < n := x.2
  obtain ⟨h, hh⟩ : ∃ h, lvl x = h := ⟨_, rfl⟩
  rw [hh] at hx hnext ⊢
  have e3 : W.cell? ⟨sp, 3, none⟩ = some (.int .i64 B) := (hI.st.cell 3).trans hc3
  have e4 : W.cell? ⟨sp, 4, none⟩ = some (.int .i64 S) := (hI.st.cell 4).trans hc4
  have e5 : W.cell? ⟨sp, 5, none⟩ = some (.int .i64 T) := (hI.st.cell 5).trans hc5
  have e6 : W.cell? ⟨sp, 6, none⟩ = some (.int .i64 (n : Int)) := (hI.st.cell 6).trans hc6
  have e0 := hI.xs.cell 0
  simp at e0
  gi_wp2_with (refine ⟨trivial, ?_⟩; gi_at_call 149; refine (calls_round (HBl.out _ h (by omega))).mono ?_; rintro e w4 ⟨rfl, rfl⟩)
  have hJ5 := hI.nob ((Only.refl nobody W).alloc (.cells #[.int .i64 B, .int .i64 S, .int .i64 T, .int .i64 (n : Int)] 79))
  have hcs5 : Only (fun i => i = tp ∨ i = b0 + 1) W (W.alloc (.cells #[.int .i64 B, .int .i64 S, .int .i64 T, .int .i64 (n : Int)] 79)) := (Only.refl _ W).alloc _
  have g1 := hJ5.xs.cell 0
  have g2 := hJ5.xd.cell 0
  simp at g1 g2
  generalize hw5 : (W.alloc (.cells #[.int .i64 B, .int .i64 S, .int .i64 T, .int .i64 (n : Int)] 79)) = w4 at *
  refine round_held (S := (fun u => u.cell? ⟨b0, 0, none⟩ = some (.pointer (some ⟨sp, 0, none⟩)) ∧ u.cell? ⟨b0 + 2, 0, none⟩ = some (.slice (some ⟨b0 + 1, 0, none⟩) n n))) 8 rfl (by kernel_rfl) (by kernel_rfl) (by rintro ⟨_, _, h⟩; exact h) ⟨g1, g2⟩ (fun hHeld => ?_)
  simp only [qA0, qB0, qC0, List.nil_append, List.cons_append]
  have hJ5 := hJ5.nob ((Only.refl nobody _).drew)
  have hcs5 := hcs5.drew
  generalize World.drew _ = w5 at *
  refine tk1 0 27 (.slice (some ⟨b0 + 1, 0, none⟩) n n) rfl (Or.inl ⟨by rfl, fun w' hw => by (obtain ⟨s1, s2⟩ := hw; go_simp)⟩) hHeld ?_
  try simp only [Act.put, sA0, sB0, sC0]
  refine tk1 1 28 (.int .i64 (h : Int)) rfl (Or.inl ⟨by rfl, fun w' hw => by go_simp⟩) hHeld ?_
  try simp only [Act.put, sA0, sB0, sC0]
  refine tk1 2 29 (.pointer (some ⟨sp, 0, none⟩)) rfl (Or.inl ⟨by rfl, fun w' hw => by (obtain ⟨s1, s2⟩ := hw; go_simp)⟩) hHeld ?_
  try simp only [Act.put, sA0, sB0, sC0]
  refine tk1 3 30 (.int .i64 ((blN b h : Nat) : Int)) rfl (Or.inl ⟨by rfl, fun w' hw => by go_simp⟩) hHeld ?_
  try simp only [Act.put, sA0, sB0, sC0]
  refine one_ready 4 rfl (by kernel_rfl) (fun K hK => ?_)
  go_simp
  refine (HTk.out w5 (u + 2 * k) h (by omega) hJ5.st hJ5.tape).mono ?_
  rintro e9 w9 ⟨rfl, ho, ht⟩
  have hT5 := hJ5.take ho ht
  have hcs5 := hcs5.trans (show Only (fun i => i = tp ∨ i = b0 + 1) w5 w9 from ho.mono (fun i _ hi => .inl hi))
  have s1 := hT5.xs.cell 0
  have s2 := hT5.xd.cell 0
  simp at s1 s2
  refine hK.out _ _ ⟨s1, s2⟩ (fun hHeld => ?_)
  clear hK K s1 s2 ho ht
  try simp only [Act.put, sA0, sB0, sC0]
  refine tk1 5 32 (.pointer (some ⟨b0 + 1, h * 4, none⟩)) rfl (Or.inl ⟨by rfl, fun w' hw => by (obtain ⟨s1, s2⟩ := hw; go_simp)⟩) hHeld ?_
  try simp only [Act.put, sA0, sB0, sC0]
  refine tk1 6 33 (.pointer (some ⟨b0 + 1, h * 4, none⟩)) rfl (Or.inl ⟨by rfl, fun w' hw => by go_simp⟩) hHeld ?_
  try simp only [Act.put, sA0, sB0, sC0]
  refine one_ready 7 (o := ⟨none, _, _, _, _, _⟩) rfl (by kernel_rfl) (fun K hK => ?_)
  obtain ⟨⟨q, p⟩, hqp⟩ : ∃ e : Nt, tkN nw z (u + 2 * k) (blN b h) = e := ⟨_, rfl⟩
  rw [hqp]
  have q0 := hT5.row.cell (i := h * 4) (by omega)
  have q1 := hT5.row.cell (i := h * 4 + 1) (by omega)
  have q2 := row_frozen hT5.row (h * 4)
  have q3 := row_frozen hT5.row (h * 4 + 1)
  have s1 := hT5.xs.cell 0
  have s2 := hT5.xd.cell 0
  simp at s1 s2
  simp only [ntA]
  go_simp
  have hJ6 := hT5.far (by omega) (h * 4) (.int .u64 q) (.int .u64 p) (setF D h (q, p)) (fun j => dwV_setF D h (q, p) j)
  have hcs6 := (hcs5.setCell (p := ⟨b0 + 1, h * 4, none⟩) (.inl (.inr rfl)) (.int .u64 q)).setCell (p := ⟨b0 + 1, h * 4 + 1, none⟩) (.inl (.inr rfl)) (.int .u64 p)
  have s3 := hJ6.xs.cell 0
  have s4 := hJ6.xd.cell 0
  simp at s3 s4
  refine hK.out _ _ ⟨s3, s4⟩ (fun hHeld => ?_)
  clear hK K s1 s2 s3 s4 q0 q1 q2 q3 hHeld
  generalize World.setCell _ _ _ = w5s at *
  rw [← hqp] at hJ6
  clear hqp
  refine wpAnyH_done (by kernel_rfl) ?_ _
  have g1 := hJ6.xs.cell 0
  have g2 := hJ6.xd.cell 0
  simp at g1 g2
  gi_wp2
  refine round_held (S := (fun u => u.cell? ⟨b0, 0, none⟩ = some (.pointer (some ⟨sp, 0, none⟩)) ∧ u.cell? ⟨b0 + 2, 0, none⟩ = some (.slice (some ⟨b0 + 1, 0, none⟩) n n))) 8 rfl (by kernel_rfl) (by kernel_rfl) (by rintro ⟨_, _, h⟩; exact h) ⟨g1, g2⟩ (fun hHeld => ?_)
  simp only [qA0, qB0, qC0, List.nil_append, List.cons_append]
  have hJ6 := hJ6.nob ((Only.refl nobody _).drew)
  have hcs6 := hcs6.drew
  generalize World.drew _ = w6 at *
  refine tk1 0 34 (.slice (some ⟨b0 + 1, 0, none⟩) n n) rfl (Or.inl ⟨by rfl, fun w' hw => by (obtain ⟨s1, s2⟩ := hw; go_simp)⟩) hHeld ?_
  try simp only [Act.put, sA0, sB0, sC0]
  refine tk1 1 35 (.int .i64 (h : Int)) rfl (Or.inl ⟨by rfl, fun w' hw => by go_simp⟩) hHeld ?_
  try simp only [Act.put, sA0, sB0, sC0]
  refine tk1 2 36 (.pointer (some ⟨sp, 0, none⟩)) rfl (Or.inl ⟨by rfl, fun w' hw => by (obtain ⟨s1, s2⟩ := hw; go_simp)⟩) hHeld ?_
  try simp only [Act.put, sA0, sB0, sC0]
  refine tk1 3 37 (.int .i64 ((blN b h : Nat) : Int)) rfl (Or.inl ⟨by rfl, fun w' hw => by go_simp⟩) hHeld ?_
  try simp only [Act.put, sA0, sB0, sC0]
  refine one_ready 4 rfl (by kernel_rfl) (fun K hK => ?_)
  go_simp
  refine (HTk.out w6 (u + 2 * k + 1) h (by omega) hJ6.st hJ6.tape).mono ?_
  rintro e9 w9 ⟨rfl, ho, ht⟩
  have hT6 := hJ6.take ho ht
  have hcs6 := hcs6.trans (show Only (fun i => i = tp ∨ i = b0 + 1) w6 w9 from ho.mono (fun i _ hi => .inl hi))
  have s1 := hT6.xs.cell 0
  have s2 := hT6.xd.cell 0
  simp at s1 s2
  refine hK.out _ _ ⟨s1, s2⟩ (fun hHeld => ?_)
  clear hK K s1 s2 ho ht
  try simp only [Act.put, sA0, sB0, sC0]
  refine tk1 5 39 (.pointer (some ⟨b0 + 1, h * 4, none⟩)) rfl (Or.inl ⟨by rfl, fun w' hw => by (obtain ⟨s1, s2⟩ := hw; go_simp)⟩) hHeld ?_
  try simp only [Act.put, sA0, sB0, sC0]
  refine tk1 6 40 (.pointer (some ⟨b0 + 1, h * 4 + 2, none⟩)) rfl (Or.inl ⟨by rfl, fun w' hw => by go_simp⟩) hHeld ?_
  try simp only [Act.put, sA0, sB0, sC0]
  refine one_ready 7 (o := ⟨none, _, _, _, _, _⟩) rfl (by kernel_rfl) (fun K hK => ?_)
  obtain ⟨⟨q, p⟩, hqp⟩ : ∃ e : Nt, tkN nw z (u + 2 * k + 1) (blN b h) = e := ⟨_, rfl⟩
  rw [hqp]
  have q0 := hT6.row.cell (i := h * 4 + 2) (by omega)
  have q1 := hT6.row.cell (i := h * 4 + 3) (by omega)
  have q2 := row_frozen hT6.row (h * 4 + 2)
  have q3 := row_frozen hT6.row (h * 4 + 3)
  have s1 := hT6.xs.cell 0
  have s2 := hT6.xd.cell 0
  simp at s1 s2
  simp only [ntA]
  go_simp
  have hJ7 := hT6.far (by omega) (h * 4 + 2) (.int .u64 q) (.int .u64 p) (setS (setF D h (tkN nw z (u + 2 * k) (blN b h))) h (q, p)) (fun j => dwV_setS (setF D h (tkN nw z (u + 2 * k) (blN b h))) h (q, p) j)
  have hcs7 := (hcs6.setCell (p := ⟨b0 + 1, h * 4 + 2, none⟩) (.inl (.inr rfl)) (.int .u64 q)).setCell (p := ⟨b0 + 1, h * 4 + 2 + 1, none⟩) (.inl (.inr rfl)) (.int .u64 p)
  have s3 := hJ7.xs.cell 0
  have s4 := hJ7.xd.cell 0
  simp at s3 s4
  refine hK.out _ _ ⟨s3, s4⟩ (fun hHeld => ?_)
  clear hK K s1 s2 s3 s4 q0 q1 q2 q3 hHeld
  generalize World.setCell _ _ _ = w6s at *
  rw [← hqp] at hJ7
  clear hqp
  refine wpAnyH_done (by kernel_rfl) ?_ _
  refine ⟨keepsFrom_only hcs7 (fun i _ hi => ?_), fun hb => hb.only hcs7 ?_, ?_⟩
  ·rcases hi with rfl | rfl
   ·exact hI.tape.box.cells
   ·exact rowIs_cells hI.row
  ·rintro (e | e)
   ·exact hb.ne hI.tape.box (by decide) e
   ·omega
  ·show DrAt w b0 (b0 + 2) (b0 + 1) sp tp tg nw z (u + 2 * (pre ++ [x]).length) n cs (drws nw z (blN b) u ((pre ++ [x]).map lvl) noDw) _
   rw [List.map_append, List.map_cons, List.map_nil, hh, hnext, List.length_append, hk]
   exact hJ7
 case done =>
  rintro D ys W hD hS hI hK
  rw [hS] at hI
  have hl : ys.length = n := by
   have := congrArg List.length hS
   rwa [List.length_map, downL_len] at this
  rw [hl] at hI
  have hc := hI.xd.cell 0
  simp at hc
  gi_wp2
  refine ⟨by simp, .inl ⟨_, _, rfl, run_takeDeferred hK, ?_⟩⟩
  have hI3 := hI.nonc (B := W0.heap.size) (by omega) (only_nonc (B := W0.heap.size) (grownBy_putObj' W D (.deferred none)) (fun r e => by cases e; exact ⟨hD, _, hK, rfl⟩))
  exact ⟨_, results_tmp rfl _ _ _, b0 + 1, rfl, by omega, hI3.row, hI3.tape, hI3.only⟩
 case stop =>
  rintro D c pre W _ _ h _
  exact h.elim
end Go.Proofs.YtknnebhjldfkhaaGreat

