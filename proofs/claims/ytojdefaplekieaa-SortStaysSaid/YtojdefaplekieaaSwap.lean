/- The contracts of PickCell and SwapCell: both cells, picked word by word; of what was in memory nothing changes. No conditions. -/
import Derived.Test.YtojdefaplekieaaLess
import Derived.Test.YtojdefaplekieaaCell
import Derived.RowKit3
import Derived.Deep.RegionHeld3
import Derived.Deep.Draws
namespace Go.Proofs.Ytojdefaplekieaa
open Go.RowKit Go.Shelf

theorem setCell_drewN (w : World) (n : Nat) (a : Addr) (v : Value) : (w.drewN n).setCell a v = (w.setCell a v).drewN n := by
  unfold World.setCell World.drewN
  first | rfl | (split <;> rfl) | (split <;> first | rfl | (split <;> rfl))
theorem alloc_drewN (w : World) (n : Nat) (o : Obj) : (w.drewN n).alloc o = (w.alloc o).drewN n := rfl
attribute [local go_sem] CA_at setCell_drewN alloc_drewN
set_option maxHeartbeats 1000000 in
theorem pickCell_any (m : Int) (f g : Nat → Int) (w : World) :
    Calls Try.prog 44 #[.int .u64 m, .agg (CA f), .agg (CA g)] w fun e w' => e = .returned (.agg (CA fun j => pk m (f j) (g j))) ∧ ∃ n, w' = ((((w.alloc (.cells (CA f) 40)).alloc (.cells (CA g) 40)).alloc (.cells (CA fun j => pk m (f j) (g j)) 40)).alloc (.cells (CA fun j => pk m (f j) (g j)) 40)).drewN n := by
  go_enter Try.func44, Try.ntmps44
  go_wp2
  go_loopw [9] (fun i wr => ∃ k n : Nat, k ≤ 12 ∧ i = .int .i64 k ∧ wr = ((((w.alloc (.cells (CA f) 40)).alloc (.cells (CA g) 40)).alloc (.cells (CA fun _ => 0) 40)).alloc (.cells (CA (upto k (fun j => pk m (f j) (g j)) (fun _ => 0))) 40)).drewN n) (fun i _ => 12 - (intOf i).toNat)
  case atStart => exact ⟨0, 0, by decide, rfl, rfl⟩
  case round =>
    obtain ⟨k, n, hk, rfl, rfl⟩ := hrel
    by_cases hlt : k < 12
    · go_wp2
      go_region_held3 (fun w' => w'.cell? ⟨w.heap.size, k, none⟩ = some (.int .u64 (f k)) ∧ w'.cell? ⟨w.heap.size + 1, k, none⟩ = some (.int .u64 (g k))) (simp [go_sem, World.cell?_alloc_past, CA_at, hlt])
        (first | (go_at_call 46; refine (pick_any _ _ _ _).mono ?_; rintro e w' ⟨rfl, rfl⟩))
      go_wp2
      go_roundw
      case rel => exact ⟨k + 1, n + 1, by omega, by go_num, by rw [← CA_step k hlt]⟩
      case measure => simp [intOf]; omega
    · obtain rfl : k = 12 := by omega
      rw [CA_done]
      go_wp2
      rw [CA_over _ (fun j => pk m (f j) (g j))]
      exact bodyPost_ret (v := .agg (CA fun j => pk m (f j) (g j))) (by simp [results, Try.results44, go_sem]; rfl) rfl ⟨rfl, n, rfl⟩

set_option linter.unusedSimpArgs false
theorem infoCellL (f : Nat → Int) : (Try.prog.info? 40).map (·.size) = some (CA f).toList.length := by kernel_rfl
set_option maxHeartbeats 4000000 in
theorem swapCell_any (m : Int) (f g : Nat → Int) (w : World) :
    Calls Try.prog 40 #[.int .u64 m, .agg (CA f), .agg (CA g)] w fun e w' => e = .returned (.tuple #[.agg (CA fun j => pk m (g j) (f j)), .agg (CA fun j => pk m (f j) (g j))]) ∧ Ext w w' := by
  go_enter Try.func40, Try.ntmps40
  go_wp2
  refine wp_region_held_drew (S := fun w' => w'.rangeAt w.heap.size 0 (CA f).toList ∧ w'.rangeAt (w.heap.size + 1) 0 (CA g).toList) (by kernel_rfl) ?_ (fun hHeld => ?_)
  · exact ⟨rg_drew' (World.rangeAt_alloc (World.rangeAt_alloc (World.rangeAt_alloc (rg_new _ _ _ _ rfl) _) _) _), rg_drew' (World.rangeAt_alloc (World.rangeAt_alloc (rg_new _ _ _ _ (by simp)) _) _)⟩
  refine wpAnyH_take (i := 0) (v := .int .u64 m) rfl (by kernel_rfl) (by kernel_rfl) (by kernel_rfl) (fun _ _ _ h => h) (Or.inl ⟨by rfl, fun w' hw => by go_simp⟩) hHeld ?_
  simp only [Act.put, List.setIfInBounds_toArray, List.set_cons_zero, List.set_cons_succ]
  refine take_row 1 (CA g).toList rfl (by kernel_rfl) (by kernel_rfl) (by kernel_rfl) (fun _ _ _ h => h) (by rfl) _ _ rfl _ _ rfl _ (fun _ h => h.2) Try.underlying40 rfl (infoCellL g) hHeld ?_
  simp only [Act.put, List.setIfInBounds_toArray, List.set_cons_zero, List.set_cons_succ]
  refine take_row 2 (CA f).toList rfl (by kernel_rfl) (by kernel_rfl) (by kernel_rfl) (fun _ _ _ h => h) (by rfl) _ _ rfl _ _ rfl _ (fun _ h => h.1) Try.underlying40 rfl (infoCellL f) hHeld ?_
  simp only [Act.put, List.setIfInBounds_toArray, List.set_cons_zero, List.set_cons_succ]
  refine wpAnyH_take (i := 4) (v := .int .u64 m) rfl (by kernel_rfl) (by kernel_rfl) (by kernel_rfl) (fun _ _ _ h => h) (Or.inl ⟨by rfl, fun w' hw => by go_simp⟩) hHeld ?_
  simp only [Act.put, List.setIfInBounds_toArray, List.set_cons_zero, List.set_cons_succ]
  refine take_row 5 (CA f).toList rfl (by kernel_rfl) (by kernel_rfl) (by kernel_rfl) (fun _ _ _ h => h) (by rfl) _ _ rfl _ _ rfl _ (fun _ h => h.1) Try.underlying40 rfl (infoCellL f) hHeld ?_
  simp only [Act.put, List.setIfInBounds_toArray, List.set_cons_zero, List.set_cons_succ]
  refine take_row 6 (CA g).toList rfl (by kernel_rfl) (by kernel_rfl) (by kernel_rfl) (fun _ _ _ h => h) (by rfl) _ _ rfl _ _ rfl _ (fun _ h => h.2) Try.underlying40 rfl (infoCellL g) hHeld ?_
  simp only [Act.put, List.setIfInBounds_toArray, List.set_cons_zero, List.set_cons_succ]
  refine one_ready 3 rfl (by kernel_rfl) (fun K hK => ?_)
  go_simp
  refine (pickCell_any m g f _).mono ?_
  rintro e w' ⟨rfl, n, rfl⟩
  refine hK.out _ _ ⟨rg_drewN' (World.rangeAt_alloc (World.rangeAt_alloc (World.rangeAt_alloc (World.rangeAt_alloc hHeld.1 _) _) _) _), rg_drewN' (World.rangeAt_alloc (World.rangeAt_alloc (World.rangeAt_alloc (World.rangeAt_alloc hHeld.2 _) _) _) _)⟩ (fun hHeld2 => ?_)
  clear hK K hHeld
  refine one_ready 7 rfl (by kernel_rfl) (fun K hK => ?_)
  go_simp
  refine (pickCell_any m f g _).mono ?_
  rintro e w' ⟨rfl, n2, rfl⟩
  refine hK.out _ _ ⟨rg_drewN' (World.rangeAt_alloc (World.rangeAt_alloc (World.rangeAt_alloc (World.rangeAt_alloc hHeld2.1 _) _) _) _), rg_drewN' (World.rangeAt_alloc (World.rangeAt_alloc (World.rangeAt_alloc (World.rangeAt_alloc hHeld2.2 _) _) _) _)⟩ (fun hHeld => ?_)
  clear hK K hHeld2
  refine one_ready 8 rfl (by kernel_rfl) (fun K hK => ?_)
  go_simp
  simp only [CA_size, CA_list]
  go_simp
  refine hK.out _ _ ⟨?_, ?_⟩ (fun hHeld2 => ?_)
  · refine rg_drewN' ?_
    iterate 11 refine World.rangeAt_alloc ?_ _
    exact rg_new _ _ _ _ rfl
  · refine rg_drewN' ?_
    iterate 10 refine World.rangeAt_alloc ?_ _
    exact rg_new _ _ _ _ (by simp)
  clear hK K hHeld
  refine one_ready 9 rfl (by kernel_rfl) (fun K hK => ?_)
  go_simp
  simp only [CA_size, CA_list]
  go_simp
  refine hK.out _ _ ⟨?_, ?_⟩ (fun hHeld => ?_)
  · refine rg_drewN' ?_
    iterate 11 refine World.rangeAt_alloc ?_ _
    exact rg_new _ _ _ _ rfl
  · refine rg_drewN' ?_
    iterate 10 refine World.rangeAt_alloc ?_ _
    exact rg_new _ _ _ _ (by simp)
  clear hK K hHeld hHeld2
  refine wpAnyH_done (by kernel_rfl) ?_ _
  go_wp2
  refine bodyPost_ret (v := .tuple #[.agg (CA fun j => pk m (g j) (f j)), .agg (CA fun j => pk m (f j) (g j))]) (by simp [results, Try.results40, go_sem]; exact ⟨rfl, rfl⟩) rfl ⟨rfl, ?_⟩
  refine Ext.drewN ?_ _
  (repeat' (first | exact Ext.refl _ | refine Ext.alloc ?_ _ _))
end Go.Proofs.Ytojdefaplekieaa
