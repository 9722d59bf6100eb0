/- Texts of ours put together: LevelPlace. -/
import Derived.Test.YtdbjaaalngbpgaaGreatG37
import Derived.Test.YtdbjaaalngbpgaaGreatG38
import Derived.Test.YtdbjaaalngbpgaaGreatG33
/- level: place: the cells of the table, that stand in the order in which they are dealt, are given their places; those that are lost become noughts, and the level is over. -/
namespace Go.Proofs.YtdbjaaalngbpgaaGreat
set_option maxRecDepth 100000
open Go.RowKit Go.ChangeShapes Go.WideShapes Go.ChangeAt

theorem Its.less {w : World} {B : Nat} {a : Option Addr} {n m : Nat} {y : Nat → It} (h : Its w B a n y) (hm : m ≤ n) : Its w B a m y := fun h0 => by
  obtain ⟨b, off, e, hB, hc⟩ := h (by omega)
  exact ⟨b, off, e, hB, fun j hj => hc j (by omega)⟩
/-- What place makes of the table. -/
def plcM (M : MS) (f Q n S D T : Nat) (C : Nat → Cl) (y : Nat → It) (o : List Nat) : MS :=
  M.gone (cT (f + 2) (fun i => plZ n i (fun j => (lostO y S D T o).contains j) (fun j => outP (goes y S D T o) n j) (C i)) M.c Q) (evE (f + 2) Q)
theorem below_nob {B : Nat} {w w' : World} (h : Only nobody w w') (hB : B ≤ w.heap.size) : Below B w w' := Only.below h hB (fun i _ k => not_nobody i k)
theorem nums_ne {w : World} {pb b k : Nat} {t : TypeId} {A : Option Addr} {n c : Nat} {q : IntKind} {z : Int} (h : Box w pb t #[.slice A n c]) (hc : w.cell? ⟨b, k, none⟩ = some (.int q z)) : b ≠ pb := by
  rintro rfl
  rw [h.cell k] at hc
  cases k with
  | zero => cases hc
  | succ k => simp at hc
theorem LvA_over (mp f N S T : Nat) (ov : Bool) (mb : Option Nat) : (LvA mp f N S T ov mb).setIfInBounds 5 (.bool true) = LvA mp f N S T true mb := by simp [LvA]
def PlcPost (w : World) (X : Nat → Prop) (lp mp f N S T D Q n : Nat) (ov : Bool) (mb : Option Nat) (M : MS) (C : Nat → Cl) (y : Nat → It) (e : Ending) (w' : World) : Prop :=
  e = .returned (.tuple #[]) ∧ ∃ o, IsOrd y n o ∧ Own w' X mp (plcM M f Q n S D T C y o) ∧ Kept (fun j => X j ∧ j ≠ lp) w w' ∧ Box w' lp 98 (LvA mp f N S T (ov || !(lostO y S D T o).isEmpty) mb)
theorem place_clo (X : Nat → Prop) (bg gg bp gp Q n : Nat) (lost : Nat → Bool) (pl : Nat → Nat) (C : Nat → Cl) (hQ : Q ≤ 256) (hpl : ∀ j, j < n → pl j ≤ 1000) (hC : ∀ i, Wd (C i)) (hX : X bg ∧ X gg ∧ X bp ∧ X gp) :
    Clo X 107 #[.pointer (some ⟨bg, 0, none⟩), .pointer (some ⟨bp, 0, none⟩)] Q C (fun i => plZ n i lost pl (C i)) (fun _ Y W => (∀ j, ¬ Y j) ∧ PlIn W bg gg bp gp Q n lost pl) :=
  ⟨fun _ _ _ _ h hk => ⟨h.1, h.2.kept (X := X) (hk.mono fun _ hj => .inl hj) hX⟩, fun i Y W hi h _ _ =>
    (plc_clo i Q n bg gg bp gp lost pl (C i) W hi hQ hpl (hC i) h.2).mono fun _ _ ⟨he, ho⟩ => ⟨he, ho.mono (fun j _ hj => absurd hj (not_nobody j)), Y, ⟨h.1, h.2.nob ho⟩, fun _ hj => .inl hj⟩⟩
theorem infoPl : (Tryz.prog.info? 43).map (fun i => (i.zero, i.size, i.bytes)) = some (some (.int .u64 0), 1, 8) := by kernel_rfl
/-- In the middle of making noughts of those that are lost. -/
structure PlAt (w8 : World) (lp mp f N S T : Nat) (ov : Bool) (mb : Option Nat) (pb g n Q : Nat) (z : Nat → Nat) (A : Option Addr) (lo : List Nat) (gg : Nat) (k : Nat) (wr : World) : Prop where
  le : k ≤ lo.length
  box : Box wr lp 98 (LvA mp f N S T (ov || decide (0 < k)) mb)
  row : wr.rowIs gg 43 Q (fun j => .int .u64 (msk ((lo.take k).contains j)))
  xg : Box wr (gg + 1) 54 #[.slice (some ⟨gg, 0, none⟩) Q Q]
  xp : Box wr pb 39 #[.slice (some ⟨g, 0, none⟩) n n]
  ir : ∀ j, j < n → wr.cell? ⟨g, j, none⟩ = some (.int .i64 (z j : Int))
  nu : ∀ j, j < lo.length → ∃ b, ∃ ob, A = some ⟨b, ob, none⟩ ∧ b ≠ gg ∧ b ≠ lp ∧ wr.cell? ⟨b, ob + j, none⟩ = some (.int .i64 (lo.getD j 0 : Nat))
  only : Only (fun j => j = lp ∨ j = gg) w8 wr
  apart : lp ≠ gg ∧ pb ≠ gg ∧ pb ≠ lp ∧ g ≠ gg ∧ g ≠ lp ∧ lp ≠ gg + 1
theorem PlAt.start {w7 : World} {lp mp f N S T pb g n Q : Nat} {ov : Bool} {mb : Option Nat} {z : Nat → Nat} {A : Option Addr} {lo : List Nat} {B B' : Nat} (hB : Box w7 lp 98 (LvA mp f N S T ov mb)) (hp : Box w7 pb 39 #[.slice (some ⟨g, 0, none⟩) n n])
    (hir : Ir w7 B g n (fun i => (z i : Nat))) (hnu : ∀ j, j < lo.length → ∃ b, ∃ ob, A = some ⟨b, ob, none⟩ ∧ w7.cell? ⟨b, ob + j, none⟩ = some (.int .i64 (lo.getD j 0 : Nat)))
    (hnw : ∀ b off, A = some ⟨b, off, none⟩ → B' ≤ b) (hl : lp < B') (hg : B' ≤ g) :
    PlAt ((w7.alloc (.cells (madeCells #[.int .u64 0] Q) 43)).alloc (.cells #[.slice (some ⟨w7.heap.size, 0, none⟩) Q Q] 54)) lp mp f N S T ov mb pb g n Q z A lo w7.heap.size 0 ((w7.alloc (.cells (madeCells #[.int .u64 0] Q) 43)).alloc (.cells #[.slice (some ⟨w7.heap.size, 0, none⟩) Q Q] 54)) := by
  have e : (w7.alloc (.cells (madeCells #[.int .u64 0] Q) 43)).heap.size = w7.heap.size + 1 := by simp
  have hx := Box.new (w7.alloc (.cells (madeCells #[.int .u64 0] Q) 43)) 54 #[.slice (some ⟨w7.heap.size, 0, none⟩) Q Q]
  rw [e] at hx
  have ho : Only nobody w7 ((w7.alloc (.cells (madeCells #[.int .u64 0] Q) 43)).alloc (.cells #[.slice (some ⟨w7.heap.size, 0, none⟩) Q Q] 54)) := ((Only.refl _ w7).alloc _).alloc _
  refine ⟨Nat.zero_le _, by simpa using hB.only ho (not_nobody _), ((World.rowIs_made w7 (.int .u64 0) Q 43).alloc _).congr fun j _ => by simp [msk], hx, hp.only ho (not_nobody _),
    fun j hj => ((hir.below (below_nob ho (Nat.le_refl _)) (Nat.le_refl _)).cell j hj), fun j hj => ?_, Only.refl _ _, ?_⟩
  · obtain ⟨b, ob, hA, hc⟩ := hnu j hj
    have hlt := World.block_lt_of_cell? w7 ⟨b, ob + j, none⟩ hc
    have hnb := hnw b ob hA
    exact ⟨b, ob, hA, by dsimp at hlt; omega, by omega, (World.cell?_of_block (w := w7) (ho.block b hlt (not_nobody _))).trans hc⟩
  · have h1 := hB.lt
    have h2 := hp.lt
    have h3 := hir.lt
    have h4 := Box.ne hp hB (by decide)
    exact ⟨by omega, by omega, h4, by omega, by omega, by omega⟩
theorem PlAt.far {w8 wr : World} {lp mp f N S T pb g n Q gg k : Nat} {ov : Bool} {mb : Option Nat} {z : Nat → Nat} {A : Option Addr} {lo : List Nat} (h : PlAt w8 lp mp f N S T ov mb pb g n Q z A lo gg k wr) (hk : k < lo.length) :
    PlAt w8 lp mp f N S T ov mb pb g n Q z A lo gg (k + 1) ((wr.setCell ⟨gg, lo.getD k 0, none⟩ (.int .u64 18446744073709551615)).setCell ⟨lp, 5, none⟩ (.bool true)) := by
  have ho : Only (fun j => j = lp ∨ j = gg) wr ((wr.setCell ⟨gg, lo.getD k 0, none⟩ (.int .u64 18446744073709551615)).setCell ⟨lp, 5, none⟩ (.bool true)) :=
    ((Only.refl _ wr).setCell (p := ⟨gg, lo.getD k 0, none⟩) (.inl (.inr rfl)) _).setCell (p := ⟨lp, 5, none⟩) (.inl (.inl rfl)) _
  obtain ⟨a1, a2, a3, a4, a5, a6⟩ := h.apart
  refine ⟨hk, ?_, ((h.row.set _ _).setOther (fun e => a1 e.symm) _).congr fun j _ => ?_, h.xg.only ho (by omega), h.xp.only ho (by omega), fun j hj => (World.cell?_of_block (w := wr) (ho.block g (World.block_lt_of_cell? wr ⟨g, j, none⟩ (h.ir j hj)) (by omega))).trans (h.ir j hj), fun j hj => ?_, h.only.trans ho, h.apart⟩
  · have := (h.box.far (a := ⟨gg, lo.getD k 0, none⟩) a1 (.int .u64 18446744073709551615)).put 5 (.bool true)
    rw [LvA_over] at this
    simpa using this
  · have e : lo.take (k + 1) = lo.take k ++ [lo.getD k 0] := by
      rw [List.take_succ_eq_append_getElem hk, List.getD_eq_getElem?_getD, List.getElem?_eq_getElem hk]; rfl
    rw [e]
    show (if j = lo.getD k 0 then _ else _) = _
    by_cases hj : j = lo.getD k 0
    · have e3 : (lo.take k ++ [lo.getD k 0]).contains j = true := by rw [List.contains_iff_mem]; simp only [List.mem_append, List.mem_singleton]; exact .inr hj
      rw [if_pos hj, e3]; rfl
    · have e3 : (lo.take k ++ [lo.getD k 0]).contains j = (lo.take k).contains j := by
        rw [Bool.eq_iff_iff]
        simp only [List.contains_iff_mem, List.mem_append, List.mem_singleton]
        exact ⟨fun h => h.resolve_right hj, .inl⟩
      rw [if_neg hj, e3]
  · obtain ⟨b, ob, hA, h1, h2, hc⟩ := h.nu j hj
    exact ⟨b, ob, hA, h1, h2, (World.cell?_of_block (w := wr) (ho.block b (World.block_lt_of_cell? wr ⟨b, ob + j, none⟩ hc) (by omega))).trans hc⟩
theorem lost_lt {y : Nat → It} {n S D T k : Nat} {o : List Nat} (h : IsOrd y n o) (hk : k < (lostO y S D T o).length) : (lostO y S D T o).getD k 0 < n := by
  have e : (lostO y S D T o).getD k 0 = (lostO y S D T o)[k] := by rw [List.getD_eq_getElem?_getD, List.getElem?_eq_getElem hk]; rfl
  rw [e]
  exact ((lost_mem h _).1 (List.getElem_mem hk)).1.1
theorem lost_le {y : Nat → It} {n S D T : Nat} {o : List Nat} (h : IsOrd y n o) (hS : 0 < S) : (lostO y S D T o).length ≤ n := by
  have h1 := lost_few (D := D) (T := T) hS h
  have h2 := List.countP_le_length (p := fun i => decide (0 ≤ (y i).2)) (l := List.range n)
  rw [List.length_range] at h2
  omega
theorem outP_le {y : Nat → It} {n S D T j : Nat} {o : List Nat} (h : IsOrd y n o) (hS : 0 < S) (hn : (D + 1) * S + T < n) (hj : j < n) : outP (goes y S D T o) n j < n :=
  List.mem_range.1 ((goes_perm hS hn h).mem_iff.1 (List.mem_map.2 ⟨j, List.mem_range.2 hj, rfl⟩))
/-- Behind place's loop: what each_any asks of the world, and what its answer comes to. -/
theorem PlAt.plIn {w8 wr : World} {lp mp f N S T pb g n Q gg : Nat} {ov : Bool} {mb : Option Nat} {z : Nat → Nat} {A : Option Addr} {lo : List Nat} (h : PlAt w8 lp mp f N S T ov mb pb g n Q z A lo gg lo.length wr) :
    PlIn wr (gg + 1) gg pb g Q n (fun j => lo.contains j) z :=
  ⟨h.xg, h.xp, fun j hj => by have := h.row.cell hj; rwa [List.take_length] at this, h.ir⟩
theorem PlAt.last {w w8 wr w9 : World} {lp mp f N S T pb g n Q gg : Nat} {ov : Bool} {mb : Option Nat} {z : Nat → Nat} {A : Option Addr} {lo : List Nat} {X : Nat → Prop} (h : PlAt w8 lp mp f N S T ov mb pb g n Q z A lo gg lo.length wr) (ho : Only nobody w w8) (hg : w.heap.size ≤ gg) (hX : X lp)
    (hk : Kept (fun j => X j ∨ (w.heap.size ≤ j ∧ j < w8.heap.size)) wr w9) : Kept (fun j => X j ∧ j ≠ lp) w w9 ∧ Box w9 lp 98 (LvA mp f N S T (ov || !lo.isEmpty) mb) := by
  have k1 : Only (fun j => j = lp) w wr := (ho.mono (fun _ _ h => absurd h (not_nobody _))).then h.only (fun i hi => hi.imp id (fun e => by rw [e]; exact hg))
  have k2 : Kept (fun j => X j ∧ j ≠ lp) w wr := k1.mono (fun i _ e hx => hx.2 e)
  refine ⟨Only.then k2 hk (fun i hi => .inl (fun hx => hi (.inl hx.1))), ?_⟩
  have hb := hk.box h.box (.inl hX)
  have e : decide (0 < lo.length) = !lo.isEmpty := by cases lo <;> simp
  rwa [e] at hb
theorem place_fn (args : Array Value) (W : World) : Sem.run Tryz.prog (callFunc 107 args) W = .ok (.enter 107 args) W := by go_simp
set_option maxRecDepth 100000 in
set_option maxHeartbeats 4000000 in
theorem place_any {N S T D L n Q P : Nat} (h : Conf N S T D L n Q P) (X : Nat → Prop) (lp mp f gi off cap : Nat) (ov : Bool) (mb : Option Nat) (M : MS) (C : Nat → Cl) (y : Nat → It) (w : World) (hM : LvM M f S D T Q) (hf : f ≤ 100)
    (hC : ∀ a, a < Q → M.c (f + 2) a = C a) (hCw : ∀ i, Wd (C i)) (hO : Own w X mp M) (hX1 : X lp) (hB : Box w lp 98 (LvA mp f N S T ov mb)) (hI : Its w w.heap.size (some ⟨gi, off, none⟩) Q y) (hcap : Q ≤ cap)
    (hy : ∀ j, j < n → (y j).2 ≤ 9223372036854775807) :
    Calls Tryz.prog 88 #[.pointer (some ⟨lp, 0, none⟩), .slice (some ⟨gi, off, none⟩) Q cap] w (PlcPost w X lp mp f N S T D Q n ov mb M C y) := by
  have HSh := Lib.hid (fun W => shape_of h W)
  have HPs := Lib.hid (fun W => places_in D S T L n h.hD h.s1 h.s8 h.t1 h.t64 h.hL h.hn W)
  have HDl := Lib.hid (fun W c (hI : Its W W.heap.size (some ⟨gi, off, none⟩) n y) => deal_new D S T L n c (some ⟨gi, off, none⟩) y W h.hD h.s1 h.s8 h.t1 h.t64 h.hL h.hn hI hy)
  have HEa := Lib.hid (fun X' ov' W Y caps Inv Z => each_any h X' Y lp mp f ov' mb M 107 caps C Z Inv W hM hf hC)
  have hQ := h.big.2.2.2
  have hnQ := h.le
  have hn3 := h.big.2.1
  have s1 := h.s1
  have hnc : n ≤ cap := by omega
  have hnc2 : ¬ cap < n := by omega
  have hcz : ¬ cap = 0 := by omega
  have HL := Lib.hid h.hL
  have HN := Lib.hid h.hn
  have HCw := Lib.hid hCw
  have HI := Lib.hid hI
  have HO := Lib.hid hO
  have HB := Lib.hid hB
  have hBB := hB
  have hlpw := hB.lt
  have hmk := run_make_row' (P := Tryz.prog) 54 43 (.int .u64 0) 8 Tryz.underlying54 infoPl rfl .i64 .i64 Q (by omega) (by omega)
  have p2 := lv2 hB
  have p3 := lv3 hB
  have p4 := lv4 hB
  clear h hM hC hCw hI hO hB hy
  go_enter Tryz.func88, Tryz.ntmps88
  go_wp2_with fail
  refine (HSh.out _).mono ?_
  rintro e w1 ⟨rfl, hb1⟩
  have ho1 : Only nobody w w1 := Only.of_below hb1
  clear hb1 p2 p3 p4
  go_upto_region 1 with fail
  obtain ⟨sh, hsh⟩ : ∃ b, w1.heap.size = b := ⟨_, rfl⟩
  obtain ⟨w2, hw2⟩ : ∃ x, w1.alloc (.cells #[.int .i64 (D : Int), .int .i64 (S : Int), .int .i64 (T : Int)] 130) = x := ⟨_, rfl⟩
  have hs2 : Box w2 sh 130 #[.int .i64 (D : Int), .int .i64 (S : Int), .int .i64 (T : Int)] := by rw [← hw2, ← hsh]; exact Box.new w1 _ _
  have ho2 : Only nobody w w2 := by rw [← hw2]; exact ho1.alloc _
  rw [hsh, hw2]
  clear ho1 hsh hw2
  refine held_s (S := fun w' => Box w' sh 130 #[.int .i64 (D : Int), .int .i64 (S : Int), .int .i64 (T : Int)]) 12 rfl (by kernel_rfl) (hs2.drewN 1) (fun hHeld => ?_)
  simp only [Array.replicate_succ, Array.replicate_zero, List.push_toArray, List.nil_append, List.cons_append]
  have ho3 : Only nobody w w2.drew := ho2.drew
  have hs3 : Box w2.drew sh 130 #[.int .i64 (D : Int), .int .i64 (S : Int), .int .i64 (T : Int)] := hs2.drewN 1
  clear ho2 hs2
  generalize w2.drew = w3 at *
  refine wpAnyH_take (i := 0) (oi := ⟨some 17, _, _, _, _, _⟩) (v := (.agg #[.int .i64 (D : Int), .int .i64 (S : Int), .int .i64 (T : Int)])) rfl (by kernel_rfl) (by kernel_rfl) (by kernel_rfl) (fun _ _ _ h => h) (Or.inl ⟨by rfl, fun w' hw => by (have k0 := hw.cell 0; have k1 := hw.cell 1; have k2 := hw.cell 2; go_simp)⟩) hHeld ?_
  try simp only [Act.put, List.setIfInBounds_toArray, List.set_cons_zero, List.set_cons_succ]
  refine wpAnyH_take (i := 1) (oi := ⟨some 18, _, _, _, _, _⟩) (v := (.slice (some ⟨gi, off, none⟩) Q cap)) rfl (by kernel_rfl) (by kernel_rfl) (by kernel_rfl) (fun _ _ _ h => h) (Or.inl ⟨by rfl, fun w' hw => by go_simp⟩) hHeld ?_
  try simp only [Act.put, List.setIfInBounds_toArray, List.set_cons_zero, List.set_cons_succ]
  refine wpAnyH_take (i := 2) (oi := ⟨some 19, _, _, _, _, _⟩) (v := (.agg #[.int .i64 (D : Int), .int .i64 (S : Int), .int .i64 (T : Int)])) rfl (by kernel_rfl) (by kernel_rfl) (by kernel_rfl) (fun _ _ _ h => h) (Or.inl ⟨by rfl, fun w' hw => by (have k0 := hw.cell 0; have k1 := hw.cell 1; have k2 := hw.cell 2; go_simp)⟩) hHeld ?_
  try simp only [Act.put, List.setIfInBounds_toArray, List.set_cons_zero, List.set_cons_succ]
  -- LEFT [3, 4, 5, 6, 7, 8, 9, 10, 11]
  refine wpAnyH_ready (rs := [3, 9]) (by kernel_rfl) (by simp) ?_
  refine AllReadyH.cons rfl (fun K hK => ?_) ?_
  · go_simp
    refine (HPs.out _).mono ?_
    rintro e w4 ⟨rfl, hb⟩
    have ho : Only nobody w3 w4 := Only.of_below hb
    have ho4 := ho3.trans ho
    have hs4 := hs3.only ho (not_nobody _)
    refine hK.out _ _ hs4 (fun hHeld => ?_)
    clear hK K hb ho
    simp only [List.setIfInBounds_toArray, List.set_cons_zero, List.set_cons_succ]
    refine wpAnyH_take (i := 4) (oi := ⟨some 21, _, _, _, _, _⟩) (v := (.slice (some ⟨gi, off, none⟩) n cap)) rfl (by kernel_rfl) (by kernel_rfl) (by kernel_rfl) (fun _ _ _ h => h) (Or.inl ⟨by rfl, fun w' hw => by go_simp⟩) hHeld ?_
    try simp only [Act.put, List.setIfInBounds_toArray, List.set_cons_zero, List.set_cons_succ]
    -- LEFT [5, 6, 7, 8, 9, 10, 11]
    refine wpAnyH_ready (rs := [5, 9]) (by kernel_rfl) (by simp) ?_
    refine AllReadyH.cons rfl (fun K hK => ?_) ?_
    · go_simp
      refine (HDl.out w4 cap (((HI.out.below (below_nob ho4 (Nat.le_refl _))).more ho4.size).less hnQ)).mono ?_
      rintro e w5 ⟨o, g, A2, cap2, hor, rfl, hir, hnu, hnw, hb⟩
      have ho : Only nobody w4 w5 := Only.of_below hb
      have hnw : ∀ b off, A2 = some ⟨b, off, none⟩ → w.heap.size ≤ b := fun b off e => Nat.le_trans ho4.size (hnw b off e)
      have hwg : w.heap.size ≤ g := Nat.le_trans ho4.size hir.old
      have ho5 := ho4.trans ho
      have hs5 := hs4.only ho (not_nobody _)
      refine hK.out _ _ hs5 (fun hHeld => ?_)
      clear hK K hb ho
      simp only [List.setIfInBounds_toArray, List.set_cons_zero, List.set_cons_succ]
      refine wpAnyH_take (i := 6) (oi := ⟨some 16, _, _, _, _, _⟩) (v := (.tuple #[.slice (some ⟨g, 0, none⟩) n n, .slice A2 (lostO y S D T o).length cap2])) rfl (by kernel_rfl) (by kernel_rfl) (by kernel_rfl) (fun _ _ _ h => h) (Or.inl ⟨by rfl, fun w' hw => by go_simp⟩) hHeld ?_
      try simp only [Act.put, List.setIfInBounds_toArray, List.set_cons_zero, List.set_cons_succ]
      refine wpAnyH_take (i := 7) (oi := ⟨some 23, _, _, _, _, _⟩) (v := (.slice (some ⟨g, 0, none⟩) n n)) rfl (by kernel_rfl) (by kernel_rfl) (by kernel_rfl) (fun _ _ _ h => h) (Or.inl ⟨by rfl, fun w' hw => by go_simp⟩) hHeld ?_
      try simp only [Act.put, List.setIfInBounds_toArray, List.set_cons_zero, List.set_cons_succ]
      refine wpAnyH_take (i := 8) (oi := ⟨some 24, _, _, _, _, _⟩) (v := (.slice A2 (lostO y S D T o).length cap2)) rfl (by kernel_rfl) (by kernel_rfl) (by kernel_rfl) (fun _ _ _ h => h) (Or.inl ⟨by rfl, fun w' hw => by go_simp⟩) hHeld ?_
      try simp only [Act.put, List.setIfInBounds_toArray, List.set_cons_zero, List.set_cons_succ]
      refine one_ready 9 rfl (by kernel_rfl) (fun K hK => ?_)
      go_simp
      obtain ⟨pb, hpb⟩ : ∃ c, w5.heap.size = c := ⟨_, rfl⟩
      obtain ⟨w6, hw6⟩ : ∃ x, w5.alloc (.cells #[.slice none 0 0] 39) = x := ⟨_, rfl⟩
      have hp6 : Box w6 pb 39 #[.slice none 0 0] := by rw [← hw6, ← hpb]; exact Box.new w5 _ _
      have ho6 : Only nobody w w6 := by rw [← hw6]; exact ho5.alloc _
      have hs6 : Box w6 sh 130 #[.int .i64 (D : Int), .int .i64 (S : Int), .int .i64 (T : Int)] := by rw [← hw6]; exact hs5.alloc _
      have hpg : pb ≠ g := by have := hir.lt; omega
      have hir : Ir w6 w4.heap.size g n (fun i => (outP (goes y S D T o) n i : Nat)) := by rw [← hw6]; exact hir.alloc _
      have hnu : Nums .i64 w6 w5.heap.size A2 (lostO y S D T o).length (fun j => ((lostO y S D T o).getD j 0 : Nat)) := by rw [← hw6]; exact hnu.below ((Below.refl _ w5).alloc (Nat.le_refl _) _)
      have hpn : w.heap.size ≤ pb := by rw [← hpb]; exact ho5.size
      refine hK.out _ _ (hs5.alloc _) (fun hHeld => ?_)
      change wpAnyH _ _ _ _ _ _ _ _ (w5.alloc (.cells #[.slice none 0 0] 39))
      rw [hw6]
      simp only [hpb]
      clear hK K hw6
      simp only [List.setIfInBounds_toArray, List.set_cons_zero, List.set_cons_succ]
      refine one_ready 10 (o := ⟨none, _, _, _, _, _⟩) rfl (by kernel_rfl) (fun K hK => ?_)
      have q0 := hp6.cell 0
      have q1 := hp6.frozen 0
      go_simp
      have hpf : Box (w6.setCell ⟨pb, 0, none⟩ (.slice (some ⟨g, 0, none⟩) n n)) pb 39 #[.slice (some ⟨g, 0, none⟩) n n] := hp6.put 0 _
      have hoj : Only (just pb) w6 (w6.setCell ⟨pb, 0, none⟩ (.slice (some ⟨g, 0, none⟩) n n)) := (Only.refl _ _).setCell (p := ⟨pb, 0, none⟩) (.inl (just_self _)) _
      have hsf := hs6.only hoj (just_ne (Box.ne hs6 hp6 (by decide)))
      have hof : Only nobody w (w6.setCell ⟨pb, 0, none⟩ (.slice (some ⟨g, 0, none⟩) n n)) := ho6.setCell (p := ⟨pb, 0, none⟩) (.inr hpn) _
      have hif := hir.far (a := ⟨pb, 0, none⟩) (fun e => hpg e.symm) (.slice (some ⟨g, 0, none⟩) n n)
      have hnf : ∀ j, j < (lostO y S D T o).length → ∃ b, ∃ ob, A2 = some ⟨b, ob, none⟩ ∧ (w6.setCell ⟨pb, 0, none⟩ (.slice (some ⟨g, 0, none⟩) n n)).cell? ⟨b, ob + j, none⟩ = some (.int .i64 ((lostO y S D T o).getD j 0 : Nat)) := fun j hj => by
        obtain ⟨b, ob, e, hb, hc⟩ := hnu (by omega)
        exact ⟨b, ob, e, (World.cell?_of_block (w := w6) (hoj.block b (World.block_lt_of_cell? w6 ⟨b, ob + j, none⟩ (hc j hj)) (just_ne (nums_ne hp6 (hc j hj))))).trans (hc j hj)⟩
      refine hK.out _ _ hsf (fun hHeld => ?_)
      clear hK K q0 q1 hoj hnu hir
      simp only [List.setIfInBounds_toArray, List.set_cons_zero, List.set_cons_succ]
      generalize w6.setCell ⟨pb, 0, none⟩ (.slice (some ⟨g, 0, none⟩) n n) = w7 at hpf hsf hof hif hnf hHeld ⊢
      refine wpAnyH_take (i := 11) (oi := ⟨some 6, _, _, _, _, _⟩) (v := (.slice A2 (lostO y S D T o).length cap2)) rfl (by kernel_rfl) (by kernel_rfl) (by kernel_rfl) (fun _ _ _ h => h) (Or.inl ⟨by rfl, fun w' hw => by go_simp⟩) hHeld ?_
      try simp only [Act.put, List.setIfInBounds_toArray, List.set_cons_zero, List.set_cons_succ]
      refine wpAnyH_done (by kernel_rfl) ?_ _
      have HA := Lib.hid (PlAt.start (Q := Q) (hBB.only hof (not_nobody _)) hpf hif hnf hnw hlpw hwg)
      have HOr := Lib.hid hor
      have HO7 := Lib.hid hof
      have HR := Lib.hid (And.intro hpn (And.intro hpf.lt (And.intro hwg hif.lt)))
      clear hof hif hnf hnw hwg hpf hsf hHeld hor hBB hlpw hpn
      go_upto_region 3 with fail
      have HO8 := Lib.hid ((HO7.out.alloc (.cells (madeCells #[.int .u64 0] Q) 43)).alloc (.cells #[.slice (some ⟨w7.heap.size, 0, none⟩) Q Q] 54))
      have HS8 : Hid (((w7.alloc (.cells (madeCells #[.int .u64 0] Q) 43)).alloc (.cells #[.slice (some ⟨w7.heap.size, 0, none⟩) Q Q] 54)).heap.size = w7.heap.size + 2) := by simp [Hid]
      have HG7 := Lib.hid HO7.out.size
      obtain ⟨gg, hgg⟩ : ∃ b, w7.heap.size = b := ⟨_, rfl⟩
      rw [hgg] at HA HO8 HS8 HR HG7
      simp only [hgg]
      generalize (w7.alloc (.cells (madeCells #[.int .u64 0] Q) 43)).alloc (.cells #[.slice (some ⟨gg, 0, none⟩) Q Q] 54) = w8 at *
      go_wp2_with fail
      go_loopw [30] (fun v wr => ∃ k : Nat, v = .int .i64 k ∧ PlAt w8 lp mp f N S T ov mb pb g n Q (outP (goes y S D T o) n) A2 (lostO y S D T o) gg k wr) (fun v _ => (lostO y S D T o).length - (intOf v).toNat)
      case atStart => exact ⟨0, rfl, HA.out⟩
      case round =>
        obtain ⟨k, rfl, hS⟩ := hrel
        clear HA
        by_cases hk : k < (lostO y S D T o).length
        · have hll := lost_le (D := D) (T := T) HOr.out s1
          obtain ⟨b, ob, hAe, hb1, hb2, c0⟩ := hS.nu k hk
          have hlQ : (lostO y S D T o).getD k 0 < Q := Nat.lt_of_lt_of_le (lost_lt HOr.out hk) hnQ
          have c1 := hS.row.cell hlQ
          have f1 := hS.row.frozen ((lostO y S D T o).getD k 0)
          have c2 : wr.cell? ⟨gg + 1, 0, none⟩ = some (.slice (some ⟨gg, 0, none⟩) Q Q) := hS.xg.cell 0
          have hBm := hS.box.far (a := ⟨gg, (lostO y S D T o).getD k 0, none⟩) hS.apart.1 (.int .u64 18446744073709551615)
          have c5 : (wr.setCell ⟨gg, (lostO y S D T o).getD k 0, none⟩ (.int .u64 18446744073709551615)).cell? ⟨lp, 5, none⟩ = some (.bool (ov || decide (0 < k))) := hBm.cell 5
          have f5 := hBm.frozen 5
          have HN := Lib.hid (hS.far hk)
          subst hAe
          clear hS hBm
          generalize (lostO y S D T o).getD k 0 = q at *
          go_upto_region 7 with fail
          clear c0 c1 c2 f1
          go_wp2_with fail
          go_roundw
          case rel => exact ⟨k + 1, by go_num, HN.out⟩
          case measure => simp [intOf]; omega
        · have hle := hS.le
          obtain rfl : k = (lostO y S D T o).length := by omega
          have HS := Lib.hid hS
          clear hS hle hk
          have hgs : w.heap.size ≤ gg := HG7.out
          have hw8s := HS8.out
          have hrr := HR.out
          have HX1 := Lib.hid (place_clo (fun j => X j ∨ (w.heap.size ≤ j ∧ j < w8.heap.size)) (gg + 1) gg pb g Q n (fun j => (lostO y S D T o).contains j) (outP (goes y S D T o) n) C (by omega)
            (fun j hj => by have := outP_le (T := T) (D := D) HOr.out s1 (by have := HL.out; have := HN.out; omega) hj; omega) HCw.out ⟨.inr ⟨by omega, by omega⟩, .inr ⟨by omega, by omega⟩, .inr ⟨by omega, by omega⟩, .inr ⟨by omega, by omega⟩⟩)
          have HOw : Hid (Own wr (fun j => (X j ∨ (w.heap.size ≤ j ∧ j < w8.heap.size)) ∨ False) mp M) := Lib.hid (((HO.out.grow HO8.out).only HS.out.only (fun i hi => by
            rcases hi with rfl | rfl
            · exact .inl hX1
            · exact .inr ⟨hgs, by omega⟩)).weak (fun j hj => hj.resolve_right id))
          clear hgs hw8s hrr
          go_wp2_with fail
          refine (HEa.out (fun j => X j ∨ (w.heap.size ≤ j ∧ j < w8.heap.size)) _ _ (fun _ => False) _ _ _ HX1.out place_fn ⟨fun _ h => h, HS.out.plIn⟩ HOw.out (.inl hX1) (fun _ _ h => h) HS.out.box).mono ?_
          rintro e w9 ⟨rfl, Y', hInv, hOw, hKe, hd⟩
          have HE := Lib.hid (HS.out.last HO8.out HG7.out hX1 hKe)
          have HW := Lib.hid (hOw.weak (Y := X) (fun j hj => .inl (.inl hj)))
          clear hInv hOw hKe hd
          go_wp2_with fail
          go_end0
          exact ⟨rfl, o, HOr.out, HW.out, HE.out⟩
    · refine AllReadyH.cons rfl (fun K hK => ?_) AllReadyH.nil
      go_simp
      obtain ⟨pb, hpb⟩ : ∃ c, w4.heap.size = c := ⟨_, rfl⟩
      obtain ⟨w5, hw5⟩ : ∃ x, w4.alloc (.cells #[.slice none 0 0] 39) = x := ⟨_, rfl⟩
      have hp5 : Box w5 pb 39 #[.slice none 0 0] := by rw [← hw5, ← hpb]; exact Box.new w4 _ _
      have ho5 : Only nobody w w5 := by rw [← hw5]; exact ho4.alloc _
      have hs5 : Box w5 sh 130 #[.int .i64 (D : Int), .int .i64 (S : Int), .int .i64 (T : Int)] := by rw [← hw5]; exact hs4.alloc _
      have hpn : w.heap.size ≤ pb := by rw [← hpb]; exact ho4.size
      refine hK.out _ _ (hs4.alloc _) (fun hHeld => ?_)
      change wpAnyH _ _ _ _ _ _ _ _ (w4.alloc (.cells #[.slice none 0 0] 39))
      rw [hw5]
      simp only [hpb]
      clear hK K hw5
      simp only [List.setIfInBounds_toArray, List.set_cons_zero, List.set_cons_succ]
      refine one_ready 5 rfl (by kernel_rfl) (fun K hK => ?_)
      go_simp
      refine (HDl.out w5 cap (((HI.out.below (below_nob ho5 (Nat.le_refl _))).more ho5.size).less hnQ)).mono ?_
      rintro e w6 ⟨o, g, A2, cap2, hor, rfl, hir, hnu, hnw, hb⟩
      have ho : Only nobody w5 w6 := Only.of_below hb
      have hnw : ∀ b off, A2 = some ⟨b, off, none⟩ → w.heap.size ≤ b := fun b off e => Nat.le_trans ho5.size (hnw b off e)
      have hwg : w.heap.size ≤ g := Nat.le_trans ho5.size hir.old
      have ho6 := ho5.trans ho
      have hs6 := hs5.only ho (not_nobody _)
      have hp6 := hp5.only ho (not_nobody _)
      have hpg : pb ≠ g := by have := hir.old; have := hp5.lt; omega
      refine hK.out _ _ hs6 (fun hHeld => ?_)
      clear hK K hb ho
      simp only [List.setIfInBounds_toArray, List.set_cons_zero, List.set_cons_succ]
      refine wpAnyH_take (i := 6) (oi := ⟨some 16, _, _, _, _, _⟩) (v := (.tuple #[.slice (some ⟨g, 0, none⟩) n n, .slice A2 (lostO y S D T o).length cap2])) rfl (by kernel_rfl) (by kernel_rfl) (by kernel_rfl) (fun _ _ _ h => h) (Or.inl ⟨by rfl, fun w' hw => by go_simp⟩) hHeld ?_
      try simp only [Act.put, List.setIfInBounds_toArray, List.set_cons_zero, List.set_cons_succ]
      refine wpAnyH_take (i := 7) (oi := ⟨some 23, _, _, _, _, _⟩) (v := (.slice (some ⟨g, 0, none⟩) n n)) rfl (by kernel_rfl) (by kernel_rfl) (by kernel_rfl) (fun _ _ _ h => h) (Or.inl ⟨by rfl, fun w' hw => by go_simp⟩) hHeld ?_
      try simp only [Act.put, List.setIfInBounds_toArray, List.set_cons_zero, List.set_cons_succ]
      refine wpAnyH_take (i := 8) (oi := ⟨some 24, _, _, _, _, _⟩) (v := (.slice A2 (lostO y S D T o).length cap2)) rfl (by kernel_rfl) (by kernel_rfl) (by kernel_rfl) (fun _ _ _ h => h) (Or.inl ⟨by rfl, fun w' hw => by go_simp⟩) hHeld ?_
      try simp only [Act.put, List.setIfInBounds_toArray, List.set_cons_zero, List.set_cons_succ]
      refine one_ready 10 (o := ⟨none, _, _, _, _, _⟩) rfl (by kernel_rfl) (fun K hK => ?_)
      have q0 := hp6.cell 0
      have q1 := hp6.frozen 0
      go_simp
      have hpf : Box (w6.setCell ⟨pb, 0, none⟩ (.slice (some ⟨g, 0, none⟩) n n)) pb 39 #[.slice (some ⟨g, 0, none⟩) n n] := hp6.put 0 _
      have hoj : Only (just pb) w6 (w6.setCell ⟨pb, 0, none⟩ (.slice (some ⟨g, 0, none⟩) n n)) := (Only.refl _ _).setCell (p := ⟨pb, 0, none⟩) (.inl (just_self _)) _
      have hsf := hs6.only hoj (just_ne (Box.ne hs6 hp6 (by decide)))
      have hof : Only nobody w (w6.setCell ⟨pb, 0, none⟩ (.slice (some ⟨g, 0, none⟩) n n)) := ho6.setCell (p := ⟨pb, 0, none⟩) (.inr hpn) _
      have hif := hir.far (a := ⟨pb, 0, none⟩) (fun e => hpg e.symm) (.slice (some ⟨g, 0, none⟩) n n)
      have hnf : ∀ j, j < (lostO y S D T o).length → ∃ b, ∃ ob, A2 = some ⟨b, ob, none⟩ ∧ (w6.setCell ⟨pb, 0, none⟩ (.slice (some ⟨g, 0, none⟩) n n)).cell? ⟨b, ob + j, none⟩ = some (.int .i64 ((lostO y S D T o).getD j 0 : Nat)) := fun j hj => by
        obtain ⟨b, ob, e, hb, hc⟩ := hnu (by omega)
        exact ⟨b, ob, e, (World.cell?_of_block (w := w6) (hoj.block b (World.block_lt_of_cell? w6 ⟨b, ob + j, none⟩ (hc j hj)) (just_ne (nums_ne hp6 (hc j hj))))).trans (hc j hj)⟩
      refine hK.out _ _ hsf (fun hHeld => ?_)
      clear hK K q0 q1 hoj hnu hir
      simp only [List.setIfInBounds_toArray, List.set_cons_zero, List.set_cons_succ]
      generalize w6.setCell ⟨pb, 0, none⟩ (.slice (some ⟨g, 0, none⟩) n n) = w7 at hpf hsf hof hif hnf hHeld ⊢
      refine wpAnyH_take (i := 11) (oi := ⟨some 6, _, _, _, _, _⟩) (v := (.slice A2 (lostO y S D T o).length cap2)) rfl (by kernel_rfl) (by kernel_rfl) (by kernel_rfl) (fun _ _ _ h => h) (Or.inl ⟨by rfl, fun w' hw => by go_simp⟩) hHeld ?_
      try simp only [Act.put, List.setIfInBounds_toArray, List.set_cons_zero, List.set_cons_succ]
      refine wpAnyH_done (by kernel_rfl) ?_ _
      have HA := Lib.hid (PlAt.start (Q := Q) (hBB.only hof (not_nobody _)) hpf hif hnf hnw hlpw hwg)
      have HOr := Lib.hid hor
      have HO7 := Lib.hid hof
      have HR := Lib.hid (And.intro hpn (And.intro hpf.lt (And.intro hwg hif.lt)))
      clear hof hif hnf hnw hwg hpf hsf hHeld hor hBB hlpw hpn
      go_upto_region 3 with fail
      have HO8 := Lib.hid ((HO7.out.alloc (.cells (madeCells #[.int .u64 0] Q) 43)).alloc (.cells #[.slice (some ⟨w7.heap.size, 0, none⟩) Q Q] 54))
      have HS8 : Hid (((w7.alloc (.cells (madeCells #[.int .u64 0] Q) 43)).alloc (.cells #[.slice (some ⟨w7.heap.size, 0, none⟩) Q Q] 54)).heap.size = w7.heap.size + 2) := by simp [Hid]
      have HG7 := Lib.hid HO7.out.size
      obtain ⟨gg, hgg⟩ : ∃ b, w7.heap.size = b := ⟨_, rfl⟩
      rw [hgg] at HA HO8 HS8 HR HG7
      simp only [hgg]
      generalize (w7.alloc (.cells (madeCells #[.int .u64 0] Q) 43)).alloc (.cells #[.slice (some ⟨gg, 0, none⟩) Q Q] 54) = w8 at *
      go_wp2_with fail
      go_loopw [30] (fun v wr => ∃ k : Nat, v = .int .i64 k ∧ PlAt w8 lp mp f N S T ov mb pb g n Q (outP (goes y S D T o) n) A2 (lostO y S D T o) gg k wr) (fun v _ => (lostO y S D T o).length - (intOf v).toNat)
      case atStart => exact ⟨0, rfl, HA.out⟩
      case round =>
        obtain ⟨k, rfl, hS⟩ := hrel
        clear HA
        by_cases hk : k < (lostO y S D T o).length
        · have hll := lost_le (D := D) (T := T) HOr.out s1
          obtain ⟨b, ob, hAe, hb1, hb2, c0⟩ := hS.nu k hk
          have hlQ : (lostO y S D T o).getD k 0 < Q := Nat.lt_of_lt_of_le (lost_lt HOr.out hk) hnQ
          have c1 := hS.row.cell hlQ
          have f1 := hS.row.frozen ((lostO y S D T o).getD k 0)
          have c2 : wr.cell? ⟨gg + 1, 0, none⟩ = some (.slice (some ⟨gg, 0, none⟩) Q Q) := hS.xg.cell 0
          have hBm := hS.box.far (a := ⟨gg, (lostO y S D T o).getD k 0, none⟩) hS.apart.1 (.int .u64 18446744073709551615)
          have c5 : (wr.setCell ⟨gg, (lostO y S D T o).getD k 0, none⟩ (.int .u64 18446744073709551615)).cell? ⟨lp, 5, none⟩ = some (.bool (ov || decide (0 < k))) := hBm.cell 5
          have f5 := hBm.frozen 5
          have HN := Lib.hid (hS.far hk)
          subst hAe
          clear hS hBm
          generalize (lostO y S D T o).getD k 0 = q at *
          go_upto_region 7 with fail
          clear c0 c1 c2 f1
          go_wp2_with fail
          go_roundw
          case rel => exact ⟨k + 1, by go_num, HN.out⟩
          case measure => simp [intOf]; omega
        · have hle := hS.le
          obtain rfl : k = (lostO y S D T o).length := by omega
          have HS := Lib.hid hS
          clear hS hle hk
          have hgs : w.heap.size ≤ gg := HG7.out
          have hw8s := HS8.out
          have hrr := HR.out
          have HX1 := Lib.hid (place_clo (fun j => X j ∨ (w.heap.size ≤ j ∧ j < w8.heap.size)) (gg + 1) gg pb g Q n (fun j => (lostO y S D T o).contains j) (outP (goes y S D T o) n) C (by omega)
            (fun j hj => by have := outP_le (T := T) (D := D) HOr.out s1 (by have := HL.out; have := HN.out; omega) hj; omega) HCw.out ⟨.inr ⟨by omega, by omega⟩, .inr ⟨by omega, by omega⟩, .inr ⟨by omega, by omega⟩, .inr ⟨by omega, by omega⟩⟩)
          have HOw : Hid (Own wr (fun j => (X j ∨ (w.heap.size ≤ j ∧ j < w8.heap.size)) ∨ False) mp M) := Lib.hid (((HO.out.grow HO8.out).only HS.out.only (fun i hi => by
            rcases hi with rfl | rfl
            · exact .inl hX1
            · exact .inr ⟨hgs, by omega⟩)).weak (fun j hj => hj.resolve_right id))
          clear hgs hw8s hrr
          go_wp2_with fail
          refine (HEa.out (fun j => X j ∨ (w.heap.size ≤ j ∧ j < w8.heap.size)) _ _ (fun _ => False) _ _ _ HX1.out place_fn ⟨fun _ h => h, HS.out.plIn⟩ HOw.out (.inl hX1) (fun _ _ h => h) HS.out.box).mono ?_
          rintro e w9 ⟨rfl, Y', hInv, hOw, hKe, hd⟩
          have HE := Lib.hid (HS.out.last HO8.out HG7.out hX1 hKe)
          have HW := Lib.hid (hOw.weak (Y := X) (fun j hj => .inl (.inl hj)))
          clear hInv hOw hKe hd
          go_wp2_with fail
          go_end0
          exact ⟨rfl, o, HOr.out, HW.out, HE.out⟩
  · refine AllReadyH.cons rfl (fun K hK => ?_) AllReadyH.nil
    go_simp
    obtain ⟨pb, hpb⟩ : ∃ c, w3.heap.size = c := ⟨_, rfl⟩
    obtain ⟨w4, hw4⟩ : ∃ x, w3.alloc (.cells #[.slice none 0 0] 39) = x := ⟨_, rfl⟩
    have hp4 : Box w4 pb 39 #[.slice none 0 0] := by rw [← hw4, ← hpb]; exact Box.new w3 _ _
    have ho4 : Only nobody w w4 := by rw [← hw4]; exact ho3.alloc _
    have hs4 : Box w4 sh 130 #[.int .i64 (D : Int), .int .i64 (S : Int), .int .i64 (T : Int)] := by rw [← hw4]; exact hs3.alloc _
    have hpn : w.heap.size ≤ pb := by rw [← hpb]; exact ho3.size
    refine hK.out _ _ (hs3.alloc _) (fun hHeld => ?_)
    change wpAnyH _ _ _ _ _ _ _ _ (w3.alloc (.cells #[.slice none 0 0] 39))
    rw [hw4]
    simp only [hpb]
    clear hK K hw4
    simp only [List.setIfInBounds_toArray, List.set_cons_zero, List.set_cons_succ]
    refine one_ready 3 rfl (by kernel_rfl) (fun K hK => ?_)
    go_simp
    refine (HPs.out _).mono ?_
    rintro e w5 ⟨rfl, hb⟩
    have ho : Only nobody w4 w5 := Only.of_below hb
    have ho5 := ho4.trans ho
    have hs5 := hs4.only ho (not_nobody _)
    have hp5 := hp4.only ho (not_nobody _)
    refine hK.out _ _ hs5 (fun hHeld => ?_)
    clear hK K hb ho
    simp only [List.setIfInBounds_toArray, List.set_cons_zero, List.set_cons_succ]
    refine wpAnyH_take (i := 4) (oi := ⟨some 21, _, _, _, _, _⟩) (v := (.slice (some ⟨gi, off, none⟩) n cap)) rfl (by kernel_rfl) (by kernel_rfl) (by kernel_rfl) (fun _ _ _ h => h) (Or.inl ⟨by rfl, fun w' hw => by go_simp⟩) hHeld ?_
    try simp only [Act.put, List.setIfInBounds_toArray, List.set_cons_zero, List.set_cons_succ]
    refine one_ready 5 rfl (by kernel_rfl) (fun K hK => ?_)
    go_simp
    refine (HDl.out w5 cap (((HI.out.below (below_nob ho5 (Nat.le_refl _))).more ho5.size).less hnQ)).mono ?_
    rintro e w6 ⟨o, g, A2, cap2, hor, rfl, hir, hnu, hnw, hb⟩
    have ho : Only nobody w5 w6 := Only.of_below hb
    have hnw : ∀ b off, A2 = some ⟨b, off, none⟩ → w.heap.size ≤ b := fun b off e => Nat.le_trans ho5.size (hnw b off e)
    have hwg : w.heap.size ≤ g := Nat.le_trans ho5.size hir.old
    have ho6 := ho5.trans ho
    have hs6 := hs5.only ho (not_nobody _)
    have hp6 := hp5.only ho (not_nobody _)
    have hpg : pb ≠ g := by have := hir.old; have := hp5.lt; omega
    refine hK.out _ _ hs6 (fun hHeld => ?_)
    clear hK K hb ho
    simp only [List.setIfInBounds_toArray, List.set_cons_zero, List.set_cons_succ]
    refine wpAnyH_take (i := 6) (oi := ⟨some 16, _, _, _, _, _⟩) (v := (.tuple #[.slice (some ⟨g, 0, none⟩) n n, .slice A2 (lostO y S D T o).length cap2])) rfl (by kernel_rfl) (by kernel_rfl) (by kernel_rfl) (fun _ _ _ h => h) (Or.inl ⟨by rfl, fun w' hw => by go_simp⟩) hHeld ?_
    try simp only [Act.put, List.setIfInBounds_toArray, List.set_cons_zero, List.set_cons_succ]
    refine wpAnyH_take (i := 7) (oi := ⟨some 23, _, _, _, _, _⟩) (v := (.slice (some ⟨g, 0, none⟩) n n)) rfl (by kernel_rfl) (by kernel_rfl) (by kernel_rfl) (fun _ _ _ h => h) (Or.inl ⟨by rfl, fun w' hw => by go_simp⟩) hHeld ?_
    try simp only [Act.put, List.setIfInBounds_toArray, List.set_cons_zero, List.set_cons_succ]
    refine wpAnyH_take (i := 8) (oi := ⟨some 24, _, _, _, _, _⟩) (v := (.slice A2 (lostO y S D T o).length cap2)) rfl (by kernel_rfl) (by kernel_rfl) (by kernel_rfl) (fun _ _ _ h => h) (Or.inl ⟨by rfl, fun w' hw => by go_simp⟩) hHeld ?_
    try simp only [Act.put, List.setIfInBounds_toArray, List.set_cons_zero, List.set_cons_succ]
    refine one_ready 10 (o := ⟨none, _, _, _, _, _⟩) rfl (by kernel_rfl) (fun K hK => ?_)
    have q0 := hp6.cell 0
    have q1 := hp6.frozen 0
    go_simp
    have hpf : Box (w6.setCell ⟨pb, 0, none⟩ (.slice (some ⟨g, 0, none⟩) n n)) pb 39 #[.slice (some ⟨g, 0, none⟩) n n] := hp6.put 0 _
    have hoj : Only (just pb) w6 (w6.setCell ⟨pb, 0, none⟩ (.slice (some ⟨g, 0, none⟩) n n)) := (Only.refl _ _).setCell (p := ⟨pb, 0, none⟩) (.inl (just_self _)) _
    have hsf := hs6.only hoj (just_ne (Box.ne hs6 hp6 (by decide)))
    have hof : Only nobody w (w6.setCell ⟨pb, 0, none⟩ (.slice (some ⟨g, 0, none⟩) n n)) := ho6.setCell (p := ⟨pb, 0, none⟩) (.inr hpn) _
    have hif := hir.far (a := ⟨pb, 0, none⟩) (fun e => hpg e.symm) (.slice (some ⟨g, 0, none⟩) n n)
    have hnf : ∀ j, j < (lostO y S D T o).length → ∃ b, ∃ ob, A2 = some ⟨b, ob, none⟩ ∧ (w6.setCell ⟨pb, 0, none⟩ (.slice (some ⟨g, 0, none⟩) n n)).cell? ⟨b, ob + j, none⟩ = some (.int .i64 ((lostO y S D T o).getD j 0 : Nat)) := fun j hj => by
      obtain ⟨b, ob, e, hb, hc⟩ := hnu (by omega)
      exact ⟨b, ob, e, (World.cell?_of_block (w := w6) (hoj.block b (World.block_lt_of_cell? w6 ⟨b, ob + j, none⟩ (hc j hj)) (just_ne (nums_ne hp6 (hc j hj))))).trans (hc j hj)⟩
    refine hK.out _ _ hsf (fun hHeld => ?_)
    clear hK K q0 q1 hoj hnu hir
    simp only [List.setIfInBounds_toArray, List.set_cons_zero, List.set_cons_succ]
    generalize w6.setCell ⟨pb, 0, none⟩ (.slice (some ⟨g, 0, none⟩) n n) = w7 at hpf hsf hof hif hnf hHeld ⊢
    refine wpAnyH_take (i := 11) (oi := ⟨some 6, _, _, _, _, _⟩) (v := (.slice A2 (lostO y S D T o).length cap2)) rfl (by kernel_rfl) (by kernel_rfl) (by kernel_rfl) (fun _ _ _ h => h) (Or.inl ⟨by rfl, fun w' hw => by go_simp⟩) hHeld ?_
    try simp only [Act.put, List.setIfInBounds_toArray, List.set_cons_zero, List.set_cons_succ]
    refine wpAnyH_done (by kernel_rfl) ?_ _
    have HA := Lib.hid (PlAt.start (Q := Q) (hBB.only hof (not_nobody _)) hpf hif hnf hnw hlpw hwg)
    have HOr := Lib.hid hor
    have HO7 := Lib.hid hof
    have HR := Lib.hid (And.intro hpn (And.intro hpf.lt (And.intro hwg hif.lt)))
    clear hof hif hnf hnw hwg hpf hsf hHeld hor hBB hlpw hpn
    go_upto_region 3 with fail
    have HO8 := Lib.hid ((HO7.out.alloc (.cells (madeCells #[.int .u64 0] Q) 43)).alloc (.cells #[.slice (some ⟨w7.heap.size, 0, none⟩) Q Q] 54))
    have HS8 : Hid (((w7.alloc (.cells (madeCells #[.int .u64 0] Q) 43)).alloc (.cells #[.slice (some ⟨w7.heap.size, 0, none⟩) Q Q] 54)).heap.size = w7.heap.size + 2) := by simp [Hid]
    have HG7 := Lib.hid HO7.out.size
    obtain ⟨gg, hgg⟩ : ∃ b, w7.heap.size = b := ⟨_, rfl⟩
    rw [hgg] at HA HO8 HS8 HR HG7
    simp only [hgg]
    generalize (w7.alloc (.cells (madeCells #[.int .u64 0] Q) 43)).alloc (.cells #[.slice (some ⟨gg, 0, none⟩) Q Q] 54) = w8 at *
    go_wp2_with fail
    go_loopw [30] (fun v wr => ∃ k : Nat, v = .int .i64 k ∧ PlAt w8 lp mp f N S T ov mb pb g n Q (outP (goes y S D T o) n) A2 (lostO y S D T o) gg k wr) (fun v _ => (lostO y S D T o).length - (intOf v).toNat)
    case atStart => exact ⟨0, rfl, HA.out⟩
    case round =>
      obtain ⟨k, rfl, hS⟩ := hrel
      clear HA
      by_cases hk : k < (lostO y S D T o).length
      · have hll := lost_le (D := D) (T := T) HOr.out s1
        obtain ⟨b, ob, hAe, hb1, hb2, c0⟩ := hS.nu k hk
        have hlQ : (lostO y S D T o).getD k 0 < Q := Nat.lt_of_lt_of_le (lost_lt HOr.out hk) hnQ
        have c1 := hS.row.cell hlQ
        have f1 := hS.row.frozen ((lostO y S D T o).getD k 0)
        have c2 : wr.cell? ⟨gg + 1, 0, none⟩ = some (.slice (some ⟨gg, 0, none⟩) Q Q) := hS.xg.cell 0
        have hBm := hS.box.far (a := ⟨gg, (lostO y S D T o).getD k 0, none⟩) hS.apart.1 (.int .u64 18446744073709551615)
        have c5 : (wr.setCell ⟨gg, (lostO y S D T o).getD k 0, none⟩ (.int .u64 18446744073709551615)).cell? ⟨lp, 5, none⟩ = some (.bool (ov || decide (0 < k))) := hBm.cell 5
        have f5 := hBm.frozen 5
        have HN := Lib.hid (hS.far hk)
        subst hAe
        clear hS hBm
        generalize (lostO y S D T o).getD k 0 = q at *
        go_upto_region 7 with fail
        clear c0 c1 c2 f1
        go_wp2_with fail
        go_roundw
        case rel => exact ⟨k + 1, by go_num, HN.out⟩
        case measure => simp [intOf]; omega
      · have hle := hS.le
        obtain rfl : k = (lostO y S D T o).length := by omega
        have HS := Lib.hid hS
        clear hS hle hk
        have hgs : w.heap.size ≤ gg := HG7.out
        have hw8s := HS8.out
        have hrr := HR.out
        have HX1 := Lib.hid (place_clo (fun j => X j ∨ (w.heap.size ≤ j ∧ j < w8.heap.size)) (gg + 1) gg pb g Q n (fun j => (lostO y S D T o).contains j) (outP (goes y S D T o) n) C (by omega)
          (fun j hj => by have := outP_le (T := T) (D := D) HOr.out s1 (by have := HL.out; have := HN.out; omega) hj; omega) HCw.out ⟨.inr ⟨by omega, by omega⟩, .inr ⟨by omega, by omega⟩, .inr ⟨by omega, by omega⟩, .inr ⟨by omega, by omega⟩⟩)
        have HOw : Hid (Own wr (fun j => (X j ∨ (w.heap.size ≤ j ∧ j < w8.heap.size)) ∨ False) mp M) := Lib.hid (((HO.out.grow HO8.out).only HS.out.only (fun i hi => by
          rcases hi with rfl | rfl
          · exact .inl hX1
          · exact .inr ⟨hgs, by omega⟩)).weak (fun j hj => hj.resolve_right id))
        clear hgs hw8s hrr
        go_wp2_with fail
        refine (HEa.out (fun j => X j ∨ (w.heap.size ≤ j ∧ j < w8.heap.size)) _ _ (fun _ => False) _ _ _ HX1.out place_fn ⟨fun _ h => h, HS.out.plIn⟩ HOw.out (.inl hX1) (fun _ _ h => h) HS.out.box).mono ?_
        rintro e w9 ⟨rfl, Y', hInv, hOw, hKe, hd⟩
        have HE := Lib.hid (HS.out.last HO8.out HG7.out hX1 hKe)
        have HW := Lib.hid (hOw.weak (Y := X) (fun j hj => .inl (.inl hj)))
        clear hInv hOw hKe hd
        go_wp2_with fail
        go_end0
        exact ⟨rfl, o, HOr.out, HW.out, HE.out⟩
end Go.Proofs.YtdbjaaalngbpgaaGreat
