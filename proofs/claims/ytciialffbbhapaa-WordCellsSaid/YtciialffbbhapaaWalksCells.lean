/- The walk of the first chapter's law on cells that are picked and swapped whole: it returns true at every input; of what was in memory nothing changes. Conditions: the arguments are words. -/
import Derived.Test.YtciialffbbhapaaWalksPicks
import Derived.Deep.QuietTactic
import Derived.BigQuiet
namespace Go.Proofs.Ytciialffbbhapaa
open Go.RowKit Go.Shelf
attribute [local go_sem] CA_at CA_size CA_list setCell_drewN alloc_drewN equal_cell ceq_self
theorem alloc_size (w : World) (o : Obj) : (w.alloc o).heap.size = w.heap.size + 1 := by
  show (w.heap.push _).size = _
  simp
theorem rg_cell {w : World} {b : Nat} {f : Nat → Int} (h : w.rangeAt b 0 (CA f).toList) (k : Nat) (hk : k < 12) : w.cell? ⟨b, k, none⟩ = some (.int .u64 (f k)) := by
  have := h k (.int .u64 (f k)) (by rw [Array.getElem?_toList]; exact CA_at f k hk)
  rwa [Nat.zero_add] at this
set_option linter.unusedSimpArgs false
set_option linter.unusedVariables false
set_option maxHeartbeats 16000000 in
set_option maxRecDepth 100000 in
theorem wordCells_in (m a b : Int) (w : World) (m0 : 0 ≤ m) (m1 : m ≤ 18446744073709551615) :
    Calls Try.prog 8 #[.int .u64 m, .int .u64 a, .int .u64 b] w fun e w' => e = .returned (.bool true) ∧ Ext w w' := by
  have e1 : ceq (fun j => pk m (pk m (cw a j) (cw b j)) (pk m (cw b j) (cw a j))) (cw a) = true := ceq_of _ _ fun i _ => pk_back m (cw a i) (cw b i) (cw_rng a i).1 (cw_rng a i).2
  have e2 : ceq (fun j => pk m (pk m (cw b j) (cw a j)) (pk m (cw a j) (cw b j))) (cw b) = true := ceq_of _ _ fun i _ => pk_back m (cw b i) (cw a i) (cw_rng b i).1 (cw_rng b i).2
  have e3 : ceq (fun j => pk m (cw a j) (cw a j)) (cw a) = true := ceq_of _ _ fun i _ => pk_same m (cw a i) (cw_rng a i).1 (cw_rng a i).2
  have e4 : ceq (fun j => pk 0 (cw a j) (cw b j)) (cw b) = true := ceq_of _ _ fun i _ => pk_none (cw a i) (cw b i) (cw_rng b i).1 (cw_rng b i).2
  have e5 : ceq (fun j => pk 18446744073709551615 (cw a j) (cw b j)) (cw a) = true := ceq_of _ _ fun i _ => pk_all (cw a i) (cw b i) (cw_rng a i).1 (cw_rng a i).2
  go_enter Try.func8, Try.ntmps8
  go_wp2_with (first
    | (go_at_call 11; refine (shown_any _).mono ?_; rintro e w' ⟨rfl, rfl⟩)
    | (go_at_call 20; refine (cell_any _ _).mono ?_; rintro e w' ⟨rfl, rfl⟩))
  refine (swapCell_any m (cw a) (cw b) _).mono ?_
  rintro e w1 ⟨rfl, hx1⟩
  go_wp2_with fail
  refine (swapCell_any m (fun j => pk m (cw b j) (cw a j)) (fun j => pk m (cw a j) (cw b j)) _).mono ?_
  rintro e w2 ⟨rfl, hx2⟩
  go_wp2_with fail
  have y1 : Ext (((((((w).alloc (.cells (CA (cw a)) 30)).alloc (.cells (CA (cw a)) 30)).alloc (.cells (CA (cw a)) 30)).alloc (.cells (CA (cw b)) 30)).alloc (.cells (CA (cw b)) 30)).alloc (.cells (CA (cw b)) 30)) w1 := hx1
  have y2 : Ext ((w1.alloc (.cells (CA fun j => pk m (cw b j) (cw a j)) 30)).alloc (.cells (CA fun j => pk m (cw a j) (cw b j)) 30)) w2 := hx2
  clear hx1 hx2
  have s1 : w.heap.size + 6 ≤ w1.heap.size := by have := y1.size; simp only [alloc_size] at this; omega
  have s2 : w1.heap.size + 2 ≤ w2.heap.size := by have := y2.size; simp only [alloc_size] at this; omega
  have z : (((w2.alloc (.cells (CA fun j => pk m (pk m (cw a j) (cw b j)) (pk m (cw b j) (cw a j))) 30)).alloc (.cells (CA fun j => pk m (pk m (cw b j) (cw a j)) (pk m (cw a j) (cw b j))) 30)).drew).heap.size = w2.heap.size + 2 := by show ((w2.alloc _).alloc _).heap.size = _; rw [alloc_size, alloc_size]
  have zE : Ext w (((w2.alloc (.cells (CA fun j => pk m (pk m (cw a j) (cw b j)) (pk m (cw b j) (cw a j))) 30)).alloc (.cells (CA fun j => pk m (pk m (cw b j) (cw a j)) (pk m (cw a j) (cw b j))) 30)).drew) := (((Ext.trans (((((((Ext.refl _).alloc _ _).alloc _ _).alloc _ _).alloc _ _).alloc _ _).alloc _ _) y1).trans (Ext.trans (((Ext.refl _).alloc _ _).alloc _ _) y2)).alloc _ _).alloc _ _ |>.drew
  have hX : (((w2.alloc (.cells (CA fun j => pk m (pk m (cw a j) (cw b j)) (pk m (cw b j) (cw a j))) 30)).alloc (.cells (CA fun j => pk m (pk m (cw b j) (cw a j)) (pk m (cw a j) (cw b j))) 30)).drew).rangeAt (w.heap.size + 1 + 1) 0 (CA (cw a)).toList := rg_drew' (World.rangeAt_alloc (World.rangeAt_alloc (y2.range (by simp only [alloc_size]; omega) (World.rangeAt_alloc (World.rangeAt_alloc (y1.range (by simp only [alloc_size]; omega) (World.rangeAt_alloc (World.rangeAt_alloc (World.rangeAt_alloc (rg_new _ _ _ _ (by simp only [alloc_size])) _) _) _)) _) _)) _) _)
  have hY : (((w2.alloc (.cells (CA fun j => pk m (pk m (cw a j) (cw b j)) (pk m (cw b j) (cw a j))) 30)).alloc (.cells (CA fun j => pk m (pk m (cw b j) (cw a j)) (pk m (cw a j) (cw b j))) 30)).drew).rangeAt (w.heap.size + 1 + 1 + 1 + 1 + 1) 0 (CA (cw b)).toList := rg_drew' (World.rangeAt_alloc (World.rangeAt_alloc (y2.range (by simp only [alloc_size]; omega) (World.rangeAt_alloc (World.rangeAt_alloc (y1.range (by simp only [alloc_size]; omega) (rg_new _ _ _ _ (by simp only [alloc_size]))) _) _)) _) _)
  have hP : (((w2.alloc (.cells (CA fun j => pk m (pk m (cw a j) (cw b j)) (pk m (cw b j) (cw a j))) 30)).alloc (.cells (CA fun j => pk m (pk m (cw b j) (cw a j)) (pk m (cw a j) (cw b j))) 30)).drew).rangeAt w1.heap.size 0 (CA fun j => pk m (cw b j) (cw a j)).toList := rg_drew' (World.rangeAt_alloc (World.rangeAt_alloc (y2.range (by simp only [alloc_size]; omega) (World.rangeAt_alloc (rg_new _ _ _ _ rfl) _)) _) _)
  have hQ : (((w2.alloc (.cells (CA fun j => pk m (pk m (cw a j) (cw b j)) (pk m (cw b j) (cw a j))) 30)).alloc (.cells (CA fun j => pk m (pk m (cw b j) (cw a j)) (pk m (cw a j) (cw b j))) 30)).drew).rangeAt (w1.heap.size + 1) 0 (CA fun j => pk m (cw a j) (cw b j)).toList := rg_drew' (World.rangeAt_alloc (World.rangeAt_alloc (y2.range (by simp only [alloc_size]; omega) (rg_new _ _ _ _ (by simp only [alloc_size]))) _) _)
  have hR : (((w2.alloc (.cells (CA fun j => pk m (pk m (cw a j) (cw b j)) (pk m (cw b j) (cw a j))) 30)).alloc (.cells (CA fun j => pk m (pk m (cw b j) (cw a j)) (pk m (cw a j) (cw b j))) 30)).drew).rangeAt w2.heap.size 0 (CA fun j => pk m (pk m (cw a j) (cw b j)) (pk m (cw b j) (cw a j))).toList := rg_drew' (World.rangeAt_alloc (rg_new _ _ _ _ rfl) _)
  have hS : (((w2.alloc (.cells (CA fun j => pk m (pk m (cw a j) (cw b j)) (pk m (cw b j) (cw a j))) 30)).alloc (.cells (CA fun j => pk m (pk m (cw b j) (cw a j)) (pk m (cw a j) (cw b j))) 30)).drew).rangeAt (w2.heap.size + 1) 0 (CA fun j => pk m (pk m (cw b j) (cw a j)) (pk m (cw a j) (cw b j))).toList := rg_drew' (rg_new _ _ _ _ (by simp only [alloc_size]))
  have bX : w.heap.size + 1 + 1 < (((w2.alloc (.cells (CA fun j => pk m (pk m (cw a j) (cw b j)) (pk m (cw b j) (cw a j))) 30)).alloc (.cells (CA fun j => pk m (pk m (cw b j) (cw a j)) (pk m (cw a j) (cw b j))) 30)).drew).heap.size := by rw [z]; omega
  have bY : w.heap.size + 1 + 1 + 1 + 1 + 1 < (((w2.alloc (.cells (CA fun j => pk m (pk m (cw a j) (cw b j)) (pk m (cw b j) (cw a j))) 30)).alloc (.cells (CA fun j => pk m (pk m (cw b j) (cw a j)) (pk m (cw a j) (cw b j))) 30)).drew).heap.size := by rw [z]; omega
  have bP : w1.heap.size < (((w2.alloc (.cells (CA fun j => pk m (pk m (cw a j) (cw b j)) (pk m (cw b j) (cw a j))) 30)).alloc (.cells (CA fun j => pk m (pk m (cw b j) (cw a j)) (pk m (cw a j) (cw b j))) 30)).drew).heap.size := by rw [z]; omega
  have bQ : w1.heap.size + 1 < (((w2.alloc (.cells (CA fun j => pk m (pk m (cw a j) (cw b j)) (pk m (cw b j) (cw a j))) 30)).alloc (.cells (CA fun j => pk m (pk m (cw b j) (cw a j)) (pk m (cw a j) (cw b j))) 30)).drew).heap.size := by rw [z]; omega
  have bR : w2.heap.size < (((w2.alloc (.cells (CA fun j => pk m (pk m (cw a j) (cw b j)) (pk m (cw b j) (cw a j))) 30)).alloc (.cells (CA fun j => pk m (pk m (cw b j) (cw a j)) (pk m (cw a j) (cw b j))) 30)).drew).heap.size := by rw [z]; omega
  have bS : w2.heap.size + 1 < (((w2.alloc (.cells (CA fun j => pk m (pk m (cw a j) (cw b j)) (pk m (cw b j) (cw a j))) 30)).alloc (.cells (CA fun j => pk m (pk m (cw b j) (cw a j)) (pk m (cw a j) (cw b j))) 30)).drew).heap.size := by rw [z]; omega
  clear z y1 y2
  refine wp_region_held_drew (S := fun w' => Ext (((w2.alloc (.cells (CA fun j => pk m (pk m (cw a j) (cw b j)) (pk m (cw b j) (cw a j))) 30)).alloc (.cells (CA fun j => pk m (pk m (cw b j) (cw a j)) (pk m (cw a j) (cw b j))) 30)).drew) w') (by kernel_rfl) (Ext.refl _) (fun hH => ?_)
  refine wpAnyH_take (i := 0) (oi := ⟨some 34, _, _, _, _, _⟩) (v := ?_) rfl (by kernel_rfl) (by kernel_rfl) (by kernel_rfl) (fun _ _ _ h => h) (Or.inl ⟨by rfl, ?_⟩) hH ?_
  rotate_left
  · (intro w' hw'; go_simp; try with_reducible rfl)
  simp only [Act.put, List.setIfInBounds_toArray, List.set_cons_zero, List.set_cons_succ]
  refine wpAnyH_take (i := 1) (oi := ⟨some 35, _, _, _, _, _⟩) (v := ?_) rfl (by kernel_rfl) (by kernel_rfl) (by kernel_rfl) (fun _ _ _ h => h) (Or.inl ⟨by rfl, ?_⟩) hH ?_
  rotate_left
  · (intro w' hw'; go_simp; try with_reducible rfl)
  simp only [Act.put, List.setIfInBounds_toArray, List.set_cons_zero, List.set_cons_succ]
  refine wpAnyH_take (i := 2) (oi := ⟨some 36, _, _, _, _, _⟩) (v := ?_) rfl (by kernel_rfl) (by kernel_rfl) (by kernel_rfl) (fun _ _ _ h => h) (Or.inl ⟨by rfl, ?_⟩) hH ?_
  rotate_left
  · (intro w' hw'; go_simp; try with_reducible rfl)
  simp only [Act.put, List.setIfInBounds_toArray, List.set_cons_zero, List.set_cons_succ]
  refine take_cells 3 (oi := ⟨some 37, _, _, _, _, _⟩) (CA fun j => pk m (pk m (cw a j) (cw b j)) (pk m (cw b j) (cw a j))) rfl (by kernel_rfl) (by kernel_rfl) (by kernel_rfl) (fun _ _ _ h => h) (by rfl) _ _ rfl _ _ rfl _ (fun w' h => h.range bR hR) Try.underlying30 rfl (infoCell _) hH ?_
  simp only [Act.put, List.setIfInBounds_toArray, List.set_cons_zero, List.set_cons_succ]
  refine take_cells 4 (oi := ⟨some 38, _, _, _, _, _⟩) (CA (cw a)) rfl (by kernel_rfl) (by kernel_rfl) (by kernel_rfl) (fun _ _ _ h => h) (by rfl) _ _ rfl _ _ rfl _ (fun w' h => h.range bX hX) Try.underlying30 rfl (infoCell _) hH ?_
  simp only [Act.put, List.setIfInBounds_toArray, List.set_cons_zero, List.set_cons_succ]
  refine wpAnyH_take (i := 5) (oi := ⟨some 39, _, _, _, _, _⟩) (v := ?_) rfl (by kernel_rfl) (by kernel_rfl) (by kernel_rfl) (fun _ _ _ h => h) (Or.inl ⟨by rfl, ?_⟩) hH ?_
  rotate_left
  · (intro w' hw'; go_simp; try with_reducible rfl)
  simp only [Act.put, List.setIfInBounds_toArray, List.set_cons_zero, List.set_cons_succ]
  refine wpAnyH_take (i := 6) (oi := ⟨some 40, _, _, _, _, _⟩) (v := ?_) rfl (by kernel_rfl) (by kernel_rfl) (by kernel_rfl) (fun _ _ _ h => h) (Or.inl ⟨by rfl, ?_⟩) hH ?_
  rotate_left
  · (intro w' hw'; go_simp; try with_reducible rfl)
  simp only [Act.put, List.setIfInBounds_toArray, List.set_cons_zero, List.set_cons_succ]
  refine wpAnyH_take (i := 7) (oi := ⟨some 41, _, _, _, _, _⟩) (v := ?_) rfl (by kernel_rfl) (by kernel_rfl) (by kernel_rfl) (fun _ _ _ h => h) (Or.inl ⟨by rfl, ?_⟩) hH ?_
  rotate_left
  · (intro w' hw'; go_simp; try with_reducible rfl)
  simp only [Act.put, List.setIfInBounds_toArray, List.set_cons_zero, List.set_cons_succ]
  refine take_cells 8 (oi := ⟨some 42, _, _, _, _, _⟩) (CA fun j => pk m (pk m (cw b j) (cw a j)) (pk m (cw a j) (cw b j))) rfl (by kernel_rfl) (by kernel_rfl) (by kernel_rfl) (fun _ _ _ h => h) (by rfl) _ _ rfl _ _ rfl _ (fun w' h => h.range bS hS) Try.underlying30 rfl (infoCell _) hH ?_
  simp only [Act.put, List.setIfInBounds_toArray, List.set_cons_zero, List.set_cons_succ]
  refine take_cells 9 (oi := ⟨some 43, _, _, _, _, _⟩) (CA (cw b)) rfl (by kernel_rfl) (by kernel_rfl) (by kernel_rfl) (fun _ _ _ h => h) (by rfl) _ _ rfl _ _ rfl _ (fun w' h => h.range bY hY) Try.underlying30 rfl (infoCell _) hH ?_
  simp only [Act.put, List.setIfInBounds_toArray, List.set_cons_zero, List.set_cons_succ]
  refine wpAnyH_take (i := 10) (oi := ⟨some 44, _, _, _, _, _⟩) (v := ?_) rfl (by kernel_rfl) (by kernel_rfl) (by kernel_rfl) (fun _ _ _ h => h) (Or.inl ⟨by rfl, ?_⟩) hH ?_
  rotate_left
  · (intro w' hw'; go_simp; try with_reducible rfl)
  simp only [Act.put, List.setIfInBounds_toArray, List.set_cons_zero, List.set_cons_succ]
  refine wpAnyH_take (i := 11) (oi := ⟨some 45, _, _, _, _, _⟩) (v := ?_) rfl (by kernel_rfl) (by kernel_rfl) (by kernel_rfl) (fun _ _ _ h => h) (Or.inl ⟨by rfl, ?_⟩) hH ?_
  rotate_left
  · (intro w' hw'; go_simp; try with_reducible rfl)
  simp only [Act.put, List.setIfInBounds_toArray, List.set_cons_zero, List.set_cons_succ]
  refine wpAnyH_take (i := 12) (oi := ⟨some 46, _, _, _, _, _⟩) (v := ?_) rfl (by kernel_rfl) (by kernel_rfl) (by kernel_rfl) (fun _ _ _ h => h) (Or.inl ⟨by rfl, ?_⟩) hH ?_
  rotate_left
  · (intro w' hw'; go_simp; try with_reducible rfl)
  simp only [Act.put, List.setIfInBounds_toArray, List.set_cons_zero, List.set_cons_succ]
  refine wpAnyH_take (i := 13) (oi := ⟨some 47, _, _, _, _, _⟩) (v := ?_) rfl (by kernel_rfl) (by kernel_rfl) (by kernel_rfl) (fun _ _ _ h => h) (Or.inl ⟨by rfl, ?_⟩) hH ?_
  rotate_left
  · (intro w' hw'; go_simp; try with_reducible rfl)
  simp only [Act.put, List.setIfInBounds_toArray, List.set_cons_zero, List.set_cons_succ]
  refine take_cells 14 (oi := ⟨some 48, _, _, _, _, _⟩) (CA (cw a)) rfl (by kernel_rfl) (by kernel_rfl) (by kernel_rfl) (fun _ _ _ h => h) (by rfl) _ _ rfl _ _ rfl _ (fun w' h => h.range bX hX) Try.underlying30 rfl (infoCell _) hH ?_
  simp only [Act.put, List.setIfInBounds_toArray, List.set_cons_zero, List.set_cons_succ]
  refine take_cells 15 (oi := ⟨some 49, _, _, _, _, _⟩) (CA (cw a)) rfl (by kernel_rfl) (by kernel_rfl) (by kernel_rfl) (fun _ _ _ h => h) (by rfl) _ _ rfl _ _ rfl _ (fun w' h => h.range bX hX) Try.underlying30 rfl (infoCell _) hH ?_
  simp only [Act.put, List.setIfInBounds_toArray, List.set_cons_zero, List.set_cons_succ]
  refine take_cells 17 (oi := ⟨some 51, _, _, _, _, _⟩) (CA (cw a)) rfl (by kernel_rfl) (by kernel_rfl) (by kernel_rfl) (fun _ _ _ h => h) (by rfl) _ _ rfl _ _ rfl _ (fun w' h => h.range bX hX) Try.underlying30 rfl (infoCell _) hH ?_
  simp only [Act.put, List.setIfInBounds_toArray, List.set_cons_zero, List.set_cons_succ]
  refine one_ready 16 (o := ⟨some 50, _, _, _, _, _⟩) rfl (by kernel_rfl) (fun K hK => ?_)
  go_simp
  refine (pickCell_ext m (cw a) (cw a) _).mono ?_
  rintro e w' ⟨rfl, hx⟩
  refine hK.out _ _ (hH.trans hx) (fun hH2 => ?_)
  clear hK K hx hH
  have hH := hH2
  clear hH2
  refine wpAnyH_take (i := 18) (oi := ⟨some 52, _, _, _, _, _⟩) (v := ?_) rfl (by kernel_rfl) (by kernel_rfl) (by kernel_rfl) (fun _ _ _ h => h) (Or.inl ⟨by rfl, ?_⟩) hH ?_
  rotate_left
  · (intro w' hw'; go_simp; try with_reducible rfl)
  simp only [Act.put, List.setIfInBounds_toArray, List.set_cons_zero, List.set_cons_succ]
  refine wpAnyH_take (i := 19) (oi := ⟨some 53, _, _, _, _, _⟩) (v := ?_) rfl (by kernel_rfl) (by kernel_rfl) (by kernel_rfl) (fun _ _ _ h => h) (Or.inl ⟨by rfl, ?_⟩) hH ?_
  rotate_left
  · (intro w' hw'; go_simp; try with_reducible rfl)
  simp only [Act.put, List.setIfInBounds_toArray, List.set_cons_zero, List.set_cons_succ]
  refine wpAnyH_take (i := 20) (oi := ⟨some 54, _, _, _, _, _⟩) (v := ?_) rfl (by kernel_rfl) (by kernel_rfl) (by kernel_rfl) (fun _ _ _ h => h) (Or.inl ⟨by rfl, ?_⟩) hH ?_
  rotate_left
  · (intro w' hw'; go_simp; try with_reducible rfl)
  simp only [Act.put, List.setIfInBounds_toArray, List.set_cons_zero, List.set_cons_succ]
  refine take_cells 21 (oi := ⟨some 55, _, _, _, _, _⟩) (CA (cw a)) rfl (by kernel_rfl) (by kernel_rfl) (by kernel_rfl) (fun _ _ _ h => h) (by rfl) _ _ rfl _ _ rfl _ (fun w' h => h.range bX hX) Try.underlying30 rfl (infoCell _) hH ?_
  simp only [Act.put, List.setIfInBounds_toArray, List.set_cons_zero, List.set_cons_succ]
  refine take_cells 22 (oi := ⟨some 56, _, _, _, _, _⟩) (CA (cw b)) rfl (by kernel_rfl) (by kernel_rfl) (by kernel_rfl) (fun _ _ _ h => h) (by rfl) _ _ rfl _ _ rfl _ (fun w' h => h.range bY hY) Try.underlying30 rfl (infoCell _) hH ?_
  simp only [Act.put, List.setIfInBounds_toArray, List.set_cons_zero, List.set_cons_succ]
  refine take_cells 24 (oi := ⟨some 58, _, _, _, _, _⟩) (CA (cw b)) rfl (by kernel_rfl) (by kernel_rfl) (by kernel_rfl) (fun _ _ _ h => h) (by rfl) _ _ rfl _ _ rfl _ (fun w' h => h.range bY hY) Try.underlying30 rfl (infoCell _) hH ?_
  simp only [Act.put, List.setIfInBounds_toArray, List.set_cons_zero, List.set_cons_succ]
  refine one_ready 23 (o := ⟨some 57, _, _, _, _, _⟩) rfl (by kernel_rfl) (fun K hK => ?_)
  go_simp
  refine (pickCell_ext 0 (cw a) (cw b) _).mono ?_
  rintro e w' ⟨rfl, hx⟩
  refine hK.out _ _ (hH.trans hx) (fun hH2 => ?_)
  clear hK K hx hH
  have hH := hH2
  clear hH2
  refine wpAnyH_take (i := 25) (oi := ⟨some 59, _, _, _, _, _⟩) (v := ?_) rfl (by kernel_rfl) (by kernel_rfl) (by kernel_rfl) (fun _ _ _ h => h) (Or.inl ⟨by rfl, ?_⟩) hH ?_
  rotate_left
  · (intro w' hw'; go_simp; try with_reducible rfl)
  simp only [Act.put, List.setIfInBounds_toArray, List.set_cons_zero, List.set_cons_succ]
  refine wpAnyH_take (i := 26) (oi := ⟨some 60, _, _, _, _, _⟩) (v := ?_) rfl (by kernel_rfl) (by kernel_rfl) (by kernel_rfl) (fun _ _ _ h => h) (Or.inl ⟨by rfl, ?_⟩) hH ?_
  rotate_left
  · (intro w' hw'; go_simp; try with_reducible rfl)
  simp only [Act.put, List.setIfInBounds_toArray, List.set_cons_zero, List.set_cons_succ]
  refine wpAnyH_take (i := 27) (oi := ⟨some 61, _, _, _, _, _⟩) (v := ?_) rfl (by kernel_rfl) (by kernel_rfl) (by kernel_rfl) (fun _ _ _ h => h) (Or.inl ⟨by rfl, ?_⟩) hH ?_
  rotate_left
  · (intro w' hw'; go_simp; try with_reducible rfl)
  simp only [Act.put, List.setIfInBounds_toArray, List.set_cons_zero, List.set_cons_succ]
  refine take_cells 28 (oi := ⟨some 62, _, _, _, _, _⟩) (CA (cw a)) rfl (by kernel_rfl) (by kernel_rfl) (by kernel_rfl) (fun _ _ _ h => h) (by rfl) _ _ rfl _ _ rfl _ (fun w' h => h.range bX hX) Try.underlying30 rfl (infoCell _) hH ?_
  simp only [Act.put, List.setIfInBounds_toArray, List.set_cons_zero, List.set_cons_succ]
  refine take_cells 29 (oi := ⟨some 63, _, _, _, _, _⟩) (CA (cw b)) rfl (by kernel_rfl) (by kernel_rfl) (by kernel_rfl) (fun _ _ _ h => h) (by rfl) _ _ rfl _ _ rfl _ (fun w' h => h.range bY hY) Try.underlying30 rfl (infoCell _) hH ?_
  simp only [Act.put, List.setIfInBounds_toArray, List.set_cons_zero, List.set_cons_succ]
  refine take_cells 31 (oi := ⟨some 65, _, _, _, _, _⟩) (CA (cw a)) rfl (by kernel_rfl) (by kernel_rfl) (by kernel_rfl) (fun _ _ _ h => h) (by rfl) _ _ rfl _ _ rfl _ (fun w' h => h.range bX hX) Try.underlying30 rfl (infoCell _) hH ?_
  simp only [Act.put, List.setIfInBounds_toArray, List.set_cons_zero, List.set_cons_succ]
  refine one_ready 30 (o := ⟨some 64, _, _, _, _, _⟩) rfl (by kernel_rfl) (fun K hK => ?_)
  go_simp
  refine (pickCell_ext 18446744073709551615 (cw a) (cw b) _).mono ?_
  rintro e w' ⟨rfl, hx⟩
  refine hK.out _ _ (hH.trans hx) (fun hH2 => ?_)
  clear hK K hx hH
  have hH := hH2
  clear hH2
  refine wpAnyH_take (i := 32) (oi := ⟨some 66, _, _, _, _, _⟩) (v := ?_) rfl (by kernel_rfl) (by kernel_rfl) (by kernel_rfl) (fun _ _ _ h => h) (Or.inl ⟨by rfl, ?_⟩) hH ?_
  rotate_left
  · (intro w' hw'; go_simp; try with_reducible rfl)
  simp only [Act.put, List.setIfInBounds_toArray, List.set_cons_zero, List.set_cons_succ]
  refine wpAnyH_take (i := 33) (oi := ⟨some 67, _, _, _, _, _⟩) (v := ?_) rfl (by kernel_rfl) (by kernel_rfl) (by kernel_rfl) (fun _ _ _ h => h) (Or.inl ⟨by rfl, ?_⟩) hH ?_
  rotate_left
  · (intro w' hw'; go_simp; try with_reducible rfl)
  simp only [Act.put, List.setIfInBounds_toArray, List.set_cons_zero, List.set_cons_succ]
  refine wpAnyH_done (by kernel_rfl) ?_ _
  have E := zE.trans hH
  have hX := hH.range bX hX
  have hY := hH.range bY hY
  have hP := hH.range bP hP
  have hQ := hH.range bQ hQ
  clear e1 e2 e3 e4 e5 hH zE hR hS bX bY bP bQ bR bS s1 s2
  have CX := Lib.hid (rg_cell hX)
  have CY := Lib.hid (rg_cell hY)
  have CP := Lib.hid (rg_cell hP)
  have CQ := Lib.hid (rg_cell hQ)
  clear hX hY hP hQ
  go_wp2
  go_loopw [14] (fun i wr => ∃ k n : Nat, k ≤ 12 ∧ i = .int .i64 k ∧ wr = w'.drewN n) (fun i _ => 12 - (intOf i).toNat)
  case atStart => exact ⟨0, 0, by decide, rfl, rfl⟩
  case round =>
    obtain ⟨k, n, hk, rfl, rfl⟩ := hrel
    by_cases hlt : k < 12
    · have cX := CX.out k hlt
      have cY := CY.out k hlt
      have cP := CP.out k hlt
      have cQ := CQ.out k hlt
      have f1 : (bits BinOp.xor IntKind.u64 (pk m (cw b k) (cw a k)) (pk m (cw a k) (cw b k)) != bits BinOp.xor IntKind.u64 (cw a k) (cw b k)) = false := by rw [pk_xor]; simp
      have f2 : (bits BinOp.and IntKind.u64 (pk m (cw b k) (cw a k)) (pk m (cw a k) (cw b k)) != bits BinOp.and IntKind.u64 (cw a k) (cw b k)) = false := by rw [pk_and]; simp
      have f3 : (bits BinOp.or IntKind.u64 (pk m (cw b k) (cw a k)) (pk m (cw a k) (cw b k)) != bits BinOp.or IntKind.u64 (cw a k) (cw b k)) = false := by rw [pk_or]; simp
      have i0 : (0 : Int) ≤ k := by omega
      have i1 : (k : Int) < 12 := by omega
      go_wp2
      go_quiet (fail)
      go_wp2
      go_roundw
      case rel => exact ⟨k + 1, _, by omega, by go_num, rfl⟩
      case measure => simp [intOf]; omega
    · go_wp2
      go_ret
      exact ⟨rfl, E.drewN _⟩
theorem wordCells_walk (m a b : Int) (w0 : (Lit.int .u64 m).wf = true) (w1 : (Lit.int .u64 a).wf = true) (w2 : (Lit.int .u64 b).wf = true) (w : World) :
    Calls Try.prog 8 #[.int .u64 m, .int .u64 a, .int .u64 b] w fun e w' => e = .returned (.bool true) ∧ Grown w w' :=
  (wordCells_in m a b w (u64_rng w0).1 (u64_rng w0).2).mono fun _ _ ⟨he, hw⟩ => ⟨he, hw.grown⟩
end Go.Proofs.Ytciialffbbhapaa
