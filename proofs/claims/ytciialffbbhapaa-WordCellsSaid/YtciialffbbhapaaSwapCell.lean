/- The contract of SwapCell: both cells, picked word by word; of what was in memory nothing changes. No conditions. -/
import Derived.Test.YtciialffbbhapaaCellCalls
namespace Go.Proofs.Ytciialffbbhapaa
open Go.RowKit Go.Shelf
attribute [local go_sem] CA_at setCell_drewN alloc_drewN
set_option linter.unusedSimpArgs false
theorem infoCell (f : Nat → Int) : (Try.prog.info? 30).map (·.size) = some (CA f).toList.length := by kernel_rfl
set_option maxHeartbeats 4000000 in
theorem swapCell_any (m : Int) (f g : Nat → Int) (w : World) :
    Calls Try.prog 19 #[.int .u64 m, .agg (CA f), .agg (CA g)] w fun e w' => e = .returned (.tuple #[.agg (CA fun j => pk m (g j) (f j)), .agg (CA fun j => pk m (f j) (g j))]) ∧ Ext w w' := by
  go_enter Try.func19, Try.ntmps19
  go_wp2
  refine wp_region_held_drew (S := fun w' => w'.rangeAt w.heap.size 0 (CA f).toList ∧ w'.rangeAt (w.heap.size + 1) 0 (CA g).toList) (by kernel_rfl) ?_ (fun hHeld => ?_)
  · exact ⟨rg_drew' (World.rangeAt_alloc (World.rangeAt_alloc (World.rangeAt_alloc (rg_new _ _ _ _ rfl) _) _) _), rg_drew' (World.rangeAt_alloc (World.rangeAt_alloc (rg_new _ _ _ _ (by simp)) _) _)⟩
  refine wpAnyH_take (i := 0) (v := .int .u64 m) rfl (by kernel_rfl) (by kernel_rfl) (by kernel_rfl) (fun _ _ _ h => h) (Or.inl ⟨by rfl, fun w' hw => by go_simp⟩) hHeld ?_
  simp only [Act.put, List.setIfInBounds_toArray, List.set_cons_zero, List.set_cons_succ]
  refine take_row 1 (CA g).toList rfl (by kernel_rfl) (by kernel_rfl) (by kernel_rfl) (fun _ _ _ h => h) (by rfl) _ _ rfl _ _ rfl _ (fun _ h => h.2) Try.underlying30 rfl (infoCell g) hHeld ?_
  simp only [Act.put, List.setIfInBounds_toArray, List.set_cons_zero, List.set_cons_succ]
  refine take_row 2 (CA f).toList rfl (by kernel_rfl) (by kernel_rfl) (by kernel_rfl) (fun _ _ _ h => h) (by rfl) _ _ rfl _ _ rfl _ (fun _ h => h.1) Try.underlying30 rfl (infoCell f) hHeld ?_
  simp only [Act.put, List.setIfInBounds_toArray, List.set_cons_zero, List.set_cons_succ]
  refine wpAnyH_take (i := 4) (v := .int .u64 m) rfl (by kernel_rfl) (by kernel_rfl) (by kernel_rfl) (fun _ _ _ h => h) (Or.inl ⟨by rfl, fun w' hw => by go_simp⟩) hHeld ?_
  simp only [Act.put, List.setIfInBounds_toArray, List.set_cons_zero, List.set_cons_succ]
  refine take_row 5 (CA f).toList rfl (by kernel_rfl) (by kernel_rfl) (by kernel_rfl) (fun _ _ _ h => h) (by rfl) _ _ rfl _ _ rfl _ (fun _ h => h.1) Try.underlying30 rfl (infoCell f) hHeld ?_
  simp only [Act.put, List.setIfInBounds_toArray, List.set_cons_zero, List.set_cons_succ]
  refine take_row 6 (CA g).toList rfl (by kernel_rfl) (by kernel_rfl) (by kernel_rfl) (fun _ _ _ h => h) (by rfl) _ _ rfl _ _ rfl _ (fun _ h => h.2) Try.underlying30 rfl (infoCell g) hHeld ?_
  simp only [Act.put, List.setIfInBounds_toArray, List.set_cons_zero, List.set_cons_succ]
  refine one_ready 3 rfl (by kernel_rfl) (fun K hK => ?_)
  go_simp
  refine (pickCell_any m g f _).mono ?_
  rintro e w' ⟨rfl, n, rfl⟩
  refine hK.out _ _ ⟨rg_drewN' (World.rangeAt_alloc (World.rangeAt_alloc (World.rangeAt_alloc (World.rangeAt_alloc hHeld.1 _) _) _) _), rg_drewN' (World.rangeAt_alloc (World.rangeAt_alloc (World.rangeAt_alloc (World.rangeAt_alloc hHeld.2 _) _) _) _)⟩ (fun hHeld2 => ?_)
  clear hK K hHeld
  refine one_ready 7 rfl (by kernel_rfl) (fun K hK => ?_)
  go_simp
  refine (pickCell_any m f g _).mono ?_
  rintro e w' ⟨rfl, n2, rfl⟩
  refine hK.out _ _ ⟨rg_drewN' (World.rangeAt_alloc (World.rangeAt_alloc (World.rangeAt_alloc (World.rangeAt_alloc hHeld2.1 _) _) _) _), rg_drewN' (World.rangeAt_alloc (World.rangeAt_alloc (World.rangeAt_alloc (World.rangeAt_alloc hHeld2.2 _) _) _) _)⟩ (fun hHeld => ?_)
  clear hK K hHeld2
  refine one_ready 8 rfl (by kernel_rfl) (fun K hK => ?_)
  go_simp
  simp only [CA_size, CA_list]
  go_simp
  refine hK.out _ _ ⟨?_, ?_⟩ (fun hHeld2 => ?_)
  · refine rg_drewN' ?_
    iterate 11 refine World.rangeAt_alloc ?_ _
    exact rg_new _ _ _ _ rfl
  · refine rg_drewN' ?_
    iterate 10 refine World.rangeAt_alloc ?_ _
    exact rg_new _ _ _ _ (by simp)
  clear hK K hHeld
  refine one_ready 9 rfl (by kernel_rfl) (fun K hK => ?_)
  go_simp
  simp only [CA_size, CA_list]
  go_simp
  refine hK.out _ _ ⟨?_, ?_⟩ (fun hHeld => ?_)
  · refine rg_drewN' ?_
    iterate 11 refine World.rangeAt_alloc ?_ _
    exact rg_new _ _ _ _ rfl
  · refine rg_drewN' ?_
    iterate 10 refine World.rangeAt_alloc ?_ _
    exact rg_new _ _ _ _ (by simp)
  clear hK K hHeld hHeld2
  refine wpAnyH_done (by kernel_rfl) ?_ _
  go_wp2
  refine bodyPost_ret (v := .tuple #[.agg (CA fun j => pk m (g j) (f j)), .agg (CA fun j => pk m (f j) (g j))]) (by simp [results, Try.results19, go_sem]; exact ⟨rfl, rfl⟩) rfl ⟨rfl, ?_⟩
  refine Ext.drewN ?_ _
  (repeat' (first | exact Ext.refl _ | refine Ext.alloc ?_ _ _))
theorem cw_rng (n : Int) (j : Nat) : 0 ≤ cw n j ∧ cw n j ≤ 18446744073709551615 := by
  unfold cw; rw [IntKind.wrap_u64]; omega
theorem cell_ext (n : Int) (w : World) : Calls Try.prog 20 #[.int .u64 n] w fun e w' => e = .returned (.agg (CA (cw n))) ∧ Ext w w' :=
  (cell_any n w).mono fun _ _ ⟨he, hw⟩ => ⟨he, hw ▸ ((Ext.refl _).alloc _ _).alloc _ _⟩
theorem pickCell_ext (m : Int) (f g : Nat → Int) (w : World) :
    Calls Try.prog 23 #[.int .u64 m, .agg (CA f), .agg (CA g)] w fun e w' => e = .returned (.agg (CA fun j => pk m (f j) (g j))) ∧ Ext w w' :=
  (pickCell_any m f g w).mono fun _ _ ⟨he, _, hw⟩ => ⟨he, hw ▸ (((((Ext.refl _).alloc _ _).alloc _ _).alloc _ _).alloc _ _).drewN _⟩
theorem refPickCell_ext (m : Int) (f g : Nat → Int) (w : World) (m0 : 0 ≤ m) (m1 : m ≤ 18446744073709551615) (hf : ∀ j, 0 ≤ f j ∧ f j ≤ 18446744073709551615) (hg : ∀ j, 0 ≤ g j ∧ g j ≤ 18446744073709551615) :
    Calls Try.prog 24 #[.int .u64 m, .agg (CA f), .agg (CA g)] w fun e w' => e = .returned (.agg (CA fun j => pk m (f j) (g j))) ∧ Ext w w' :=
  (refPickCell_any m f g w m0 m1 hf hg).mono fun _ _ ⟨he, _, hw⟩ => ⟨he, hw ▸ (((((Ext.refl _).alloc _ _).alloc _ _).alloc _ _).alloc _ _).drewN _⟩
end Go.Proofs.Ytciialffbbhapaa
