/- sort.order: two cells, as they are to stand by one word; of what was in memory nothing changes. Conditions: the key is a word's place, all words are words of 64 bits. -/
import Derived.Test.YtojdefaplekieaaSwap
import Derived.Test.YtojdefaplekieaaSortMath
import Derived.Test.YtojdefaplekieaaHeap
import Derived.Lib.Hide
namespace Go.Proofs.Ytojdefaplekieaa
open Go.RowKit Go.Shelf

/-- All words are words of 64 bits. -/
def Wd (f : Nat → Int) : Prop := ∀ j, 0 ≤ f j ∧ f j ≤ 18446744073709551615
theorem there_new (w : World) (f : Nat → Int) (t : TypeId) (b : Nat) (h : b = w.heap.size) : (w.alloc (.cells (CA f) t)).there b 0 12 := by
  intro j hj
  have r := rg_new w f t b h j (.int .u64 (f j)) (by rw [Array.getElem?_toList, CA_at f j hj])
  refine ⟨by rw [r]; rfl, ?_⟩
  subst h
  exact (Box.new w t (CA f)).frozen _
theorem Ext.there {w w' : World} (h : Ext w w') {b o n : Nat} (hb : b < w.heap.size) (ht : w.there b o n) : w'.there b o n := fun j hj => by
  obtain ⟨h1, h2⟩ := ht j hj
  exact ⟨by rw [h.cell b _ hb]; exact h1, by rw [h.froze]; exact h2⟩
theorem Ext.setCells {a : World} {b : Nat} : ∀ {w : World} (_ : Ext a w) (_ : a.heap.size ≤ b) (o : Nat) (vs : List Value), Ext a (w.setCells b o vs)
  | _, h, _, _, [] => h
  | _, h, hb, o, v :: vs => Ext.setCells (h.setCell (p := ⟨b, o, none⟩) hb v) hb (o + 1) vs
theorem CA_ones (f : Nat → Int) : (CA f).all (·.oneCell') = true := by simp [CA, Value.oneCell']
theorem step_store_cell {ops : Array Oper} {o : Oper} {a : Act} {w : World} {K : Act → World → Prop} {Q : Exit → Act → World → Prop} {E : Prop} (hgd : o.guard = none) (x y : Operand) (ho : o.op = .store 40 x y)
    (b i : Nat) (hx : a.eval x = .pointer (some ⟨b, i, none⟩)) (f : Nat → Int) (hy : a.eval y = .agg (CA f)) (ht : w.there b i 12)
    (h : K (a.put o.dst undef) (w.setCells b i (CA f).toList)) : if Region.wanted o (yielded ops a.tmps) = true then Oper.wp Try.prog o a w K Q else E := by
  have hw : Region.wanted o (yielded ops a.tmps) = true := by simp [Region.wanted, hgd]
  rw [if_pos hw]
  exact wp_store_mid 40 x y ho b i (CA f) hx hy ht (infoCellL f) (CA_ones f) h
/-- What stands while two cells are ordered. -/
structure OrS (w : World) (f g : Nat → Int) (w' : World) : Prop where
  ext : Ext w w'
  fst : w'.rangeAt w.heap.size 0 (CA f).toList
  snd : w'.rangeAt (w.heap.size + 1) 0 (CA g).toList
theorem OrS.ext' {w w1 w2 : World} {f g : Nat → Int} (h : OrS w f g w1) (hs : w.heap.size + 1 < w1.heap.size) (hx : Ext w1 w2) : OrS w f g w2 := ⟨h.1.trans hx, hx.range (by omega) h.2, hx.range hs h.3⟩
theorem OrS.far {w w1 : World} {f g : Nat → Int} (h : OrS w f g w1) (b : Nat) (hb : w.heap.size + 1 < b) (vs : List Value) : OrS w f g (w1.setCells b 0 vs) :=
  ⟨h.1.setCells (by omega) _ _, World.rangeAt_setCells_apart h.2 _ _ _ (.inl (by omega)), World.rangeAt_setCells_apart h.3 _ _ _ (.inl (by omega))⟩
theorem held_S {P : Program} {ops : Array Oper} {Q : Exit → Act → World → Prop} {S : World → Prop} {id : Nat} {a : Act} {w : World} (k : Nat) (hk : ops.size = k) (hm : P.follows .mixedOrders = true) (hS : S w.drew)
    (h : S w.drew → wpAnyH P .any ops Q S k (Array.replicate k false) a w.drew) : (Code.region id ops true).wp P Q a w := by
  subst hk
  exact wp_region_held_drew hm hS h
/-- Two results that lie in memory. -/
theorem results_two {fn : Func} {p q : Tmp} {ty : TypeId} (h : fn.results = #[.cell p ty, .cell q ty]) {tmps : Array Value} {P : Program} {w : World} {ad ad' : Addr} {v v' : Value} (hp : tmps.getD p undef = .pointer (some ad)) (hq : tmps.getD q undef = .pointer (some ad'))
    (hl : (loadVar ty ad).run P w = .ok v w) (hl' : (loadVar ty ad').run P w = .ok v' w) : (results fn tmps).run P w = .ok (.tuple #[v, v']) w := by
  have hp' : tmps[p]?.getD undef = .pointer (some ad) := by simpa using hp
  have hq' : tmps[q]?.getD undef = .pointer (some ad') := by simpa using hq
  simp only [results, h]
  simp [asAddr, hp', hq', hl, hl']
theorem load_two {w : World} {b c : Nat} {t : TypeId} {F1 F2 : Nat → Int} (h1 : w.there b 0 12) (h2 : w.there c 0 12) (hne : b ≠ c) (ht : t = 40 := by rfl) :
    (loadVar t ⟨b, 0, none⟩).run Try.prog ((w.setCells b 0 (CA F1).toList).setCells c 0 (CA F2).toList) = .ok (.agg (CA F1)) ((w.setCells b 0 (CA F1).toList).setCells c 0 (CA F2).toList) ∧
    (loadVar t ⟨c, 0, none⟩).run Try.prog ((w.setCells b 0 (CA F1).toList).setCells c 0 (CA F2).toList) = .ok (.agg (CA F2)) ((w.setCells b 0 (CA F1).toList).setCells c 0 (CA F2).toList) := by
  subst ht
  have r1 : (w.setCells b 0 (CA F1).toList).rangeAt b 0 (CA F1).toList := World.rangeAt_setCells_same w b 0 _ h1
  have r2 := World.rangeAt_setCells_apart r1 c 0 (CA F2).toList (.inl hne)
  have r3 : ((w.setCells b 0 (CA F1).toList).setCells c 0 (CA F2).toList).rangeAt c 0 (CA F2).toList := World.rangeAt_setCells_same _ c 0 _ (World.there_setCells h2 _ _ _)
  exact ⟨run_loadVar_mid _ b 0 40 (CA F1).toList _ r2 Try.underlying40 rfl (infoCellL F1), run_loadVar_mid _ c 0 40 (CA F2).toList _ r3 Try.underlying40 rfl (infoCellL F2)⟩
set_option linter.unusedSimpArgs false in
set_option maxHeartbeats 1000000 in
theorem order_up (κ : Nat) (f g F1 F2 : Nat → Int) (w : World) (hκ : κ < 12) (hf : Wd f) (hg : Wd g) (h1 : (if turned κ true f g then g else f) = F1) (h2 : (if turned κ true f g then f else g) = F2) :
    Calls Try.prog 29 #[.bool true, .int .i64 κ, .agg (CA f), .agg (CA g)] w fun e w' => e = .returned (.tuple #[.agg (CA F1), .agg (CA F2)]) ∧ Ext w w' := by
  have hf0 := (hf κ).1
  have hg0 := (hg κ).1
  have e1 : CA (fun j => pk (ml (g κ) (f κ)) (g j) (f j)) = CA F1 := CA_ext _ _ (fun j _ => by
    rw [← h1]
    rw [pk_mask _ (g j) (f j) (g κ) (f κ) (hg j).1 (hg j).2 (hf j).1 (hf j).2 rfl]
    unfold turned
    simp only [Bool.false_eq_true, if_false, if_true, decide_eq_true_eq]
    split <;> rfl)
  have e2 : CA (fun j => pk (ml (g κ) (f κ)) (f j) (g j)) = CA F2 := CA_ext _ _ (fun j _ => by
    rw [← h2]
    rw [pk_mask _ (f j) (g j) (g κ) (f κ) (hf j).1 (hf j).2 (hg j).1 (hg j).2 rfl]
    unfold turned
    simp only [Bool.false_eq_true, if_false, if_true, decide_eq_true_eq]
    split <;> rfl)
  have E1 := Lib.hid e1
  have E2 := Lib.hid e2
  clear e1 e2 hf hg h1 h2
  go_enter Try.func29, Try.ntmps29
  go_wp2
  obtain ⟨w4, h4⟩ : ∃ x, x = (((w.alloc (.cells (CA f) 40)).alloc (.cells (CA g) 40)).alloc (.cells (CA fun _ => 0) 40)).alloc (.cells (CA fun _ => 0) 40) := ⟨_, rfl⟩
  have hx : Ext w w4 := by subst h4; exact ((((Ext.refl w).alloc _ _).alloc _ _).alloc _ _).alloc _ _
  have hsz : w4.heap.size = w.heap.size + 4 := by subst h4; simp
  have rf : w4.rangeAt w.heap.size 0 (CA f).toList := by subst h4; exact World.rangeAt_alloc (World.rangeAt_alloc (World.rangeAt_alloc (rg_new _ _ _ _ rfl) _) _) _
  have rg : w4.rangeAt (w.heap.size + 1) 0 (CA g).toList := by subst h4; exact World.rangeAt_alloc (World.rangeAt_alloc (rg_new _ _ _ _ (by simp)) _) _
  have r2 : w4.there (w.heap.size + 2) 0 12 := by subst h4; exact World.there_alloc (there_new _ _ _ _ (by simp)) _
  have r3 : w4.there (w.heap.size + 3) 0 12 := by subst h4; exact there_new _ _ _ _ (by simp)
  have HX := Lib.hid hx
  have HF := Lib.hid rf
  have HG := Lib.hid rg
  have H2 := Lib.hid r2
  have H3 := Lib.hid r3
  change (Code.region _ _ true).wp _ _ _ ((((w.alloc (.cells (CA f) 40)).alloc (.cells (CA g) 40)).alloc (.cells (CA fun _ => 0) 40)).alloc (.cells (CA fun _ => 0) 40))
  rw [← h4]
  clear h4 hx rf rg r2 r3
  refine held_S (S := OrS w f g) 14 rfl (by kernel_rfl) (OrS.mk HX.out.drew (rg_drew' HF.out) (rg_drew' HG.out)) (fun hHeld => ?_)
  simp only [Array.replicate_succ, Array.replicate_zero, List.push_toArray, List.nil_append, List.cons_append]
  have cF : ∀ w', OrS w f g w' → w'.cell? ⟨w.heap.size, κ, none⟩ = some (.int .u64 (f κ)) := fun w' hw => by
    have := hw.2 κ (.int .u64 (f κ)) (by rw [Array.getElem?_toList, CA_at f κ hκ]); rwa [Nat.zero_add] at this
  have cG : ∀ w', OrS w f g w' → w'.cell? ⟨w.heap.size + 1, κ, none⟩ = some (.int .u64 (g κ)) := fun w' hw => by
    have := hw.3 κ (.int .u64 (g κ)) (by rw [Array.getElem?_toList, CA_at g κ hκ]); rwa [Nat.zero_add] at this
  have CF := Lib.hid cF
  have CG := Lib.hid cG
  clear cF cG
  refine wpAnyH_take (i := 0) (oi := ⟨some 11, _, _, _, _, _⟩) (v := .int .i64 (κ : Int)) rfl (by kernel_rfl) (by kernel_rfl) (by kernel_rfl) (fun _ _ _ h => h) (Or.inl ⟨by rfl, fun w' hw => by go_simp⟩) hHeld ?_
  try simp only [Act.put, List.setIfInBounds_toArray, List.set_cons_zero, List.set_cons_succ]
  refine wpAnyH_take (i := 1) (oi := ⟨some 12, _, _, _, _, _⟩) (v := .pointer (some ⟨w.heap.size + 1, κ, none⟩)) rfl (by kernel_rfl) (by kernel_rfl) (by kernel_rfl) (fun _ _ _ h => h) (Or.inl ⟨by rfl, fun w' hw => by go_simp; try (intro h; omega)⟩) hHeld ?_
  try simp only [Act.put, List.setIfInBounds_toArray, List.set_cons_zero, List.set_cons_succ]
  refine wpAnyH_take (i := 2) (oi := ⟨some 13, _, _, _, _, _⟩) (v := .int .u64 (g κ)) rfl (by kernel_rfl) (by kernel_rfl) (by kernel_rfl) (fun _ _ _ h => h) (Or.inl ⟨by rfl, fun w' hw => by have hc := CG.out w' hw; go_simp⟩) hHeld ?_
  try simp only [Act.put, List.setIfInBounds_toArray, List.set_cons_zero, List.set_cons_succ]
  refine wpAnyH_take (i := 3) (oi := ⟨some 14, _, _, _, _, _⟩) (v := .int .i64 (κ : Int)) rfl (by kernel_rfl) (by kernel_rfl) (by kernel_rfl) (fun _ _ _ h => h) (Or.inl ⟨by rfl, fun w' hw => by go_simp⟩) hHeld ?_
  try simp only [Act.put, List.setIfInBounds_toArray, List.set_cons_zero, List.set_cons_succ]
  refine wpAnyH_take (i := 4) (oi := ⟨some 15, _, _, _, _, _⟩) (v := .pointer (some ⟨w.heap.size, κ, none⟩)) rfl (by kernel_rfl) (by kernel_rfl) (by kernel_rfl) (fun _ _ _ h => h) (Or.inl ⟨by rfl, fun w' hw => by go_simp; try (intro h; omega)⟩) hHeld ?_
  try simp only [Act.put, List.setIfInBounds_toArray, List.set_cons_zero, List.set_cons_succ]
  refine wpAnyH_take (i := 5) (oi := ⟨some 16, _, _, _, _, _⟩) (v := .int .u64 (f κ)) rfl (by kernel_rfl) (by kernel_rfl) (by kernel_rfl) (fun _ _ _ h => h) (Or.inl ⟨by rfl, fun w' hw => by have hc := CF.out w' hw; go_simp⟩) hHeld ?_
  try simp only [Act.put, List.setIfInBounds_toArray, List.set_cons_zero, List.set_cons_succ]
  refine take_row 7 (CA f).toList rfl (by kernel_rfl) (by kernel_rfl) (by kernel_rfl) (fun _ _ _ h => h) (by rfl) _ _ rfl _ _ rfl _ (fun _ h => h.2) Try.underlying40 rfl (infoCellL f) hHeld ?_
  try simp only [Act.put, List.setIfInBounds_toArray, List.set_cons_zero, List.set_cons_succ]
  refine take_row 8 (CA g).toList rfl (by kernel_rfl) (by kernel_rfl) (by kernel_rfl) (fun _ _ _ h => h) (by rfl) _ _ rfl _ _ rfl _ (fun _ h => h.3) Try.underlying40 rfl (infoCellL g) hHeld ?_
  try simp only [Act.put, List.setIfInBounds_toArray, List.set_cons_zero, List.set_cons_succ]
  refine one_ready 6 rfl (by kernel_rfl) (fun K hK => ?_)
  go_simp
  refine (less_any (g κ) (f κ) _ (by assumption) (by assumption)).mono ?_
  rintro e w5 ⟨rfl, rfl⟩
  refine hK.out _ _ hHeld (fun hHeld => ?_)
  clear hK K
  try simp only [Act.put, List.setIfInBounds_toArray, List.set_cons_zero, List.set_cons_succ]
  refine one_ready 9 rfl (by kernel_rfl) (fun K hK => ?_)
  go_simp
  refine (swapCell_any (ml (g κ) (f κ)) f g _).mono ?_
  rw [E1.out, E2.out]
  rintro e w5 ⟨rfl, hx5⟩
  have t2 := hx5.there (by show _ < w4.drew.heap.size; simp; omega) ((World.there_drew _ _ _ _).2 H2.out)
  have t3 := hx5.there (by show _ < w4.drew.heap.size; simp; omega) ((World.there_drew _ _ _ _).2 H3.out)
  have T2 := Lib.hid t2
  have T3 := Lib.hid t3
  have hHeld2 := hHeld.ext' (by show _ < w4.drew.heap.size; simp; omega) hx5
  clear hHeld t2 t3
  refine hK.out _ _ hHeld2 (fun hHeld => ?_)
  clear hK K hHeld2 hx5
  try simp only [Act.put, List.setIfInBounds_toArray, List.set_cons_zero, List.set_cons_succ]
  refine wpAnyH_take (i := 10) (oi := ⟨some 21, _, _, _, _, _⟩) (v := .agg (CA F1)) rfl (by kernel_rfl) (by kernel_rfl) (by kernel_rfl) (fun _ _ _ h => h) (Or.inl ⟨by rfl, fun w' hw => by go_simp⟩) hHeld ?_
  try simp only [Act.put, List.setIfInBounds_toArray, List.set_cons_zero, List.set_cons_succ]
  refine wpAnyH_take (i := 11) (oi := ⟨some 22, _, _, _, _, _⟩) (v := .agg (CA F2)) rfl (by kernel_rfl) (by kernel_rfl) (by kernel_rfl) (fun _ _ _ h => h) (Or.inl ⟨by rfl, fun w' hw => by go_simp⟩) hHeld ?_
  try simp only [Act.put, List.setIfInBounds_toArray, List.set_cons_zero, List.set_cons_succ]
  have HE := Lib.hid hHeld.1
  refine one_ready 12 (o := ⟨none, .store 40 (.tmp 8) (.tmp 21), _, _, _, _⟩) rfl (by kernel_rfl) (fun K hK => ?_)
  refine step_store_cell rfl (.tmp 8) (.tmp 21) rfl (w.heap.size + 2) 0 rfl F1 rfl T2.out ?_
  have hL := load_two (t := 40) (F1 := F1) (F2 := F2) T2.out T3.out (show w.heap.size + 2 ≠ w.heap.size + 3 by omega)
  have hY := (HE.out.setCells (b := w.heap.size + 2) (by omega) 0 (CA F1).toList).setCells (b := w.heap.size + 3) (by omega) 0 (CA F2).toList
  have h6 := hHeld.far (w.heap.size + 2) (by omega) (CA F1).toList
  have h7 := h6.far (w.heap.size + 3) (by omega) (CA F2).toList
  have t4 := World.there_setCells T3.out (w.heap.size + 2) 0 (CA F1).toList
  generalize w5.setCells (w.heap.size + 2) 0 (CA F1).toList = w6 at *
  have T4 := Lib.hid t4
  have HL := Lib.hid hL
  have HY := Lib.hid hY
  have H7 := Lib.hid h7
  clear hHeld t4 hL hY h7
  refine hK.out _ _ h6 (fun hHeld => ?_)
  clear hK K h6
  try simp only [Act.put, List.setIfInBounds_toArray, List.set_cons_zero, List.set_cons_succ]
  refine one_ready 13 (o := ⟨none, .store 40 (.tmp 9) (.tmp 22), _, _, _, _⟩) rfl (by kernel_rfl) (fun K hK => ?_)
  refine step_store_cell rfl (.tmp 9) (.tmp 22) rfl (w.heap.size + 3) 0 rfl F2 rfl T4.out ?_
  generalize w6.setCells (w.heap.size + 3) 0 (CA F2).toList = w7 at *
  refine hK.out _ _ H7.out (fun hHeld => ?_)
  clear hK K
  refine wpAnyH_done (by kernel_rfl) ?_ _
  go_wp2
  refine bodyPost_ret (v := .tuple #[.agg (CA F1), .agg (CA F2)]) (results_two Try.results29 rfl rfl HL.out.1 HL.out.2) rfl ⟨rfl, HY.out⟩
set_option linter.unusedSimpArgs false in
set_option maxHeartbeats 1000000 in
theorem order_down (κ : Nat) (f g F1 F2 : Nat → Int) (w : World) (hκ : κ < 12) (hf : Wd f) (hg : Wd g) (h1 : (if turned κ false f g then g else f) = F1) (h2 : (if turned κ false f g then f else g) = F2) :
    Calls Try.prog 29 #[.bool false, .int .i64 κ, .agg (CA f), .agg (CA g)] w fun e w' => e = .returned (.tuple #[.agg (CA F1), .agg (CA F2)]) ∧ Ext w w' := by
  have hf0 := (hf κ).1
  have hg0 := (hg κ).1
  have e1 : CA (fun j => pk (ml (f κ) (g κ)) (g j) (f j)) = CA F1 := CA_ext _ _ (fun j _ => by
    rw [← h1]
    rw [pk_mask _ (g j) (f j) (f κ) (g κ) (hg j).1 (hg j).2 (hf j).1 (hf j).2 rfl]
    unfold turned
    simp only [Bool.false_eq_true, if_false, if_true, decide_eq_true_eq]
    split <;> rfl)
  have e2 : CA (fun j => pk (ml (f κ) (g κ)) (f j) (g j)) = CA F2 := CA_ext _ _ (fun j _ => by
    rw [← h2]
    rw [pk_mask _ (f j) (g j) (f κ) (g κ) (hf j).1 (hf j).2 (hg j).1 (hg j).2 rfl]
    unfold turned
    simp only [Bool.false_eq_true, if_false, if_true, decide_eq_true_eq]
    split <;> rfl)
  have E1 := Lib.hid e1
  have E2 := Lib.hid e2
  clear e1 e2 hf hg h1 h2
  go_enter Try.func29, Try.ntmps29
  go_wp2
  obtain ⟨w4, h4⟩ : ∃ x, x = (((w.alloc (.cells (CA f) 40)).alloc (.cells (CA g) 40)).alloc (.cells (CA fun _ => 0) 40)).alloc (.cells (CA fun _ => 0) 40) := ⟨_, rfl⟩
  have hx : Ext w w4 := by subst h4; exact ((((Ext.refl w).alloc _ _).alloc _ _).alloc _ _).alloc _ _
  have hsz : w4.heap.size = w.heap.size + 4 := by subst h4; simp
  have rf : w4.rangeAt w.heap.size 0 (CA f).toList := by subst h4; exact World.rangeAt_alloc (World.rangeAt_alloc (World.rangeAt_alloc (rg_new _ _ _ _ rfl) _) _) _
  have rg : w4.rangeAt (w.heap.size + 1) 0 (CA g).toList := by subst h4; exact World.rangeAt_alloc (World.rangeAt_alloc (rg_new _ _ _ _ (by simp)) _) _
  have r2 : w4.there (w.heap.size + 2) 0 12 := by subst h4; exact World.there_alloc (there_new _ _ _ _ (by simp)) _
  have r3 : w4.there (w.heap.size + 3) 0 12 := by subst h4; exact there_new _ _ _ _ (by simp)
  have HX := Lib.hid hx
  have HF := Lib.hid rf
  have HG := Lib.hid rg
  have H2 := Lib.hid r2
  have H3 := Lib.hid r3
  change (Code.region _ _ true).wp _ _ _ ((((w.alloc (.cells (CA f) 40)).alloc (.cells (CA g) 40)).alloc (.cells (CA fun _ => 0) 40)).alloc (.cells (CA fun _ => 0) 40))
  rw [← h4]
  clear h4 hx rf rg r2 r3
  refine held_S (S := OrS w f g) 14 rfl (by kernel_rfl) (OrS.mk HX.out.drew (rg_drew' HF.out) (rg_drew' HG.out)) (fun hHeld => ?_)
  simp only [Array.replicate_succ, Array.replicate_zero, List.push_toArray, List.nil_append, List.cons_append]
  have cF : ∀ w', OrS w f g w' → w'.cell? ⟨w.heap.size, κ, none⟩ = some (.int .u64 (f κ)) := fun w' hw => by
    have := hw.2 κ (.int .u64 (f κ)) (by rw [Array.getElem?_toList, CA_at f κ hκ]); rwa [Nat.zero_add] at this
  have cG : ∀ w', OrS w f g w' → w'.cell? ⟨w.heap.size + 1, κ, none⟩ = some (.int .u64 (g κ)) := fun w' hw => by
    have := hw.3 κ (.int .u64 (g κ)) (by rw [Array.getElem?_toList, CA_at g κ hκ]); rwa [Nat.zero_add] at this
  have CF := Lib.hid cF
  have CG := Lib.hid cG
  clear cF cG
  refine wpAnyH_take (i := 0) (oi := ⟨some 23, _, _, _, _, _⟩) (v := .int .i64 (κ : Int)) rfl (by kernel_rfl) (by kernel_rfl) (by kernel_rfl) (fun _ _ _ h => h) (Or.inl ⟨by rfl, fun w' hw => by go_simp⟩) hHeld ?_
  try simp only [Act.put, List.setIfInBounds_toArray, List.set_cons_zero, List.set_cons_succ]
  refine wpAnyH_take (i := 1) (oi := ⟨some 24, _, _, _, _, _⟩) (v := .pointer (some ⟨w.heap.size, κ, none⟩)) rfl (by kernel_rfl) (by kernel_rfl) (by kernel_rfl) (fun _ _ _ h => h) (Or.inl ⟨by rfl, fun w' hw => by go_simp; try (intro h; omega)⟩) hHeld ?_
  try simp only [Act.put, List.setIfInBounds_toArray, List.set_cons_zero, List.set_cons_succ]
  refine wpAnyH_take (i := 2) (oi := ⟨some 25, _, _, _, _, _⟩) (v := .int .u64 (f κ)) rfl (by kernel_rfl) (by kernel_rfl) (by kernel_rfl) (fun _ _ _ h => h) (Or.inl ⟨by rfl, fun w' hw => by have hc := CF.out w' hw; go_simp⟩) hHeld ?_
  try simp only [Act.put, List.setIfInBounds_toArray, List.set_cons_zero, List.set_cons_succ]
  refine wpAnyH_take (i := 3) (oi := ⟨some 26, _, _, _, _, _⟩) (v := .int .i64 (κ : Int)) rfl (by kernel_rfl) (by kernel_rfl) (by kernel_rfl) (fun _ _ _ h => h) (Or.inl ⟨by rfl, fun w' hw => by go_simp⟩) hHeld ?_
  try simp only [Act.put, List.setIfInBounds_toArray, List.set_cons_zero, List.set_cons_succ]
  refine wpAnyH_take (i := 4) (oi := ⟨some 27, _, _, _, _, _⟩) (v := .pointer (some ⟨w.heap.size + 1, κ, none⟩)) rfl (by kernel_rfl) (by kernel_rfl) (by kernel_rfl) (fun _ _ _ h => h) (Or.inl ⟨by rfl, fun w' hw => by go_simp; try (intro h; omega)⟩) hHeld ?_
  try simp only [Act.put, List.setIfInBounds_toArray, List.set_cons_zero, List.set_cons_succ]
  refine wpAnyH_take (i := 5) (oi := ⟨some 28, _, _, _, _, _⟩) (v := .int .u64 (g κ)) rfl (by kernel_rfl) (by kernel_rfl) (by kernel_rfl) (fun _ _ _ h => h) (Or.inl ⟨by rfl, fun w' hw => by have hc := CG.out w' hw; go_simp⟩) hHeld ?_
  try simp only [Act.put, List.setIfInBounds_toArray, List.set_cons_zero, List.set_cons_succ]
  refine take_row 7 (CA f).toList rfl (by kernel_rfl) (by kernel_rfl) (by kernel_rfl) (fun _ _ _ h => h) (by rfl) _ _ rfl _ _ rfl _ (fun _ h => h.2) Try.underlying40 rfl (infoCellL f) hHeld ?_
  try simp only [Act.put, List.setIfInBounds_toArray, List.set_cons_zero, List.set_cons_succ]
  refine take_row 8 (CA g).toList rfl (by kernel_rfl) (by kernel_rfl) (by kernel_rfl) (fun _ _ _ h => h) (by rfl) _ _ rfl _ _ rfl _ (fun _ h => h.3) Try.underlying40 rfl (infoCellL g) hHeld ?_
  try simp only [Act.put, List.setIfInBounds_toArray, List.set_cons_zero, List.set_cons_succ]
  refine one_ready 6 rfl (by kernel_rfl) (fun K hK => ?_)
  go_simp
  refine (less_any (f κ) (g κ) _ (by assumption) (by assumption)).mono ?_
  rintro e w5 ⟨rfl, rfl⟩
  refine hK.out _ _ hHeld (fun hHeld => ?_)
  clear hK K
  try simp only [Act.put, List.setIfInBounds_toArray, List.set_cons_zero, List.set_cons_succ]
  refine one_ready 9 rfl (by kernel_rfl) (fun K hK => ?_)
  go_simp
  refine (swapCell_any (ml (f κ) (g κ)) f g _).mono ?_
  rw [E1.out, E2.out]
  rintro e w5 ⟨rfl, hx5⟩
  have t2 := hx5.there (by show _ < w4.drew.heap.size; simp; omega) ((World.there_drew _ _ _ _).2 H2.out)
  have t3 := hx5.there (by show _ < w4.drew.heap.size; simp; omega) ((World.there_drew _ _ _ _).2 H3.out)
  have T2 := Lib.hid t2
  have T3 := Lib.hid t3
  have hHeld2 := hHeld.ext' (by show _ < w4.drew.heap.size; simp; omega) hx5
  clear hHeld t2 t3
  refine hK.out _ _ hHeld2 (fun hHeld => ?_)
  clear hK K hHeld2 hx5
  try simp only [Act.put, List.setIfInBounds_toArray, List.set_cons_zero, List.set_cons_succ]
  refine wpAnyH_take (i := 10) (oi := ⟨some 33, _, _, _, _, _⟩) (v := .agg (CA F1)) rfl (by kernel_rfl) (by kernel_rfl) (by kernel_rfl) (fun _ _ _ h => h) (Or.inl ⟨by rfl, fun w' hw => by go_simp⟩) hHeld ?_
  try simp only [Act.put, List.setIfInBounds_toArray, List.set_cons_zero, List.set_cons_succ]
  refine wpAnyH_take (i := 11) (oi := ⟨some 34, _, _, _, _, _⟩) (v := .agg (CA F2)) rfl (by kernel_rfl) (by kernel_rfl) (by kernel_rfl) (fun _ _ _ h => h) (Or.inl ⟨by rfl, fun w' hw => by go_simp⟩) hHeld ?_
  try simp only [Act.put, List.setIfInBounds_toArray, List.set_cons_zero, List.set_cons_succ]
  have HE := Lib.hid hHeld.1
  refine one_ready 12 (o := ⟨none, .store 40 (.tmp 8) (.tmp 33), _, _, _, _⟩) rfl (by kernel_rfl) (fun K hK => ?_)
  refine step_store_cell rfl (.tmp 8) (.tmp 33) rfl (w.heap.size + 2) 0 rfl F1 rfl T2.out ?_
  have hL := load_two (t := 40) (F1 := F1) (F2 := F2) T2.out T3.out (show w.heap.size + 2 ≠ w.heap.size + 3 by omega)
  have hY := (HE.out.setCells (b := w.heap.size + 2) (by omega) 0 (CA F1).toList).setCells (b := w.heap.size + 3) (by omega) 0 (CA F2).toList
  have h6 := hHeld.far (w.heap.size + 2) (by omega) (CA F1).toList
  have h7 := h6.far (w.heap.size + 3) (by omega) (CA F2).toList
  have t4 := World.there_setCells T3.out (w.heap.size + 2) 0 (CA F1).toList
  generalize w5.setCells (w.heap.size + 2) 0 (CA F1).toList = w6 at *
  have T4 := Lib.hid t4
  have HL := Lib.hid hL
  have HY := Lib.hid hY
  have H7 := Lib.hid h7
  clear hHeld t4 hL hY h7
  refine hK.out _ _ h6 (fun hHeld => ?_)
  clear hK K h6
  try simp only [Act.put, List.setIfInBounds_toArray, List.set_cons_zero, List.set_cons_succ]
  refine one_ready 13 (o := ⟨none, .store 40 (.tmp 9) (.tmp 34), _, _, _, _⟩) rfl (by kernel_rfl) (fun K hK => ?_)
  refine step_store_cell rfl (.tmp 9) (.tmp 34) rfl (w.heap.size + 3) 0 rfl F2 rfl T4.out ?_
  generalize w6.setCells (w.heap.size + 3) 0 (CA F2).toList = w7 at *
  refine hK.out _ _ H7.out (fun hHeld => ?_)
  clear hK K
  refine wpAnyH_done (by kernel_rfl) ?_ _
  go_wp2
  refine bodyPost_ret (v := .tuple #[.agg (CA F1), .agg (CA F2)]) (results_two Try.results29 rfl rfl HL.out.1 HL.out.2) rfl ⟨rfl, HY.out⟩
theorem order_any (u : Bool) (κ : Nat) (f g : Nat → Int) (w : World) (hκ : κ < 12) (hf : Wd f) (hg : Wd g) :
    Calls Try.prog 29 #[.bool u, .int .i64 κ, .agg (CA f), .agg (CA g)] w fun e w' => e = .returned (.tuple #[.agg (CA (if turned κ u f g then g else f)), .agg (CA (if turned κ u f g then f else g))]) ∧ Ext w w' := by
  cases u
  · exact order_down κ f g _ _ w hκ hf hg rfl rfl
  · exact order_up κ f g _ _ w hκ hf hg rfl rfl
end Go.Proofs.Ytojdefaplekieaa
