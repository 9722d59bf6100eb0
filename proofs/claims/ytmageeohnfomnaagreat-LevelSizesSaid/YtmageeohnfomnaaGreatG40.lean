/- Texts of ours put together: Less, Swap, SortOrder. -/
import Derived.Below
import Derived.ChangeSlices
import Derived.Deep.Draws
import Derived.Deep.MidRow
import Derived.Deep.OwnRows
import Derived.Deep.RegionHeld
import Derived.Deep.RegionHeld3
import Derived.Laws.BitsAllLaws
import Derived.Lib.BitFns
import Derived.Lib.Hide
import Derived.OpenShut
import Derived.ProofKit
import Derived.RowKit3
import Derived.Shelf.Spec.BitsCarry
import Derived.SizedLaws
import Derived.WalkKit
import Derived.Test.YtmageeohnfomnaaGreatProg
import Derived.Test.YtmageeohnfomnaaGreatG2
import Derived.Test.YtmageeohnfomnaaGreatG9
import Derived.Test.YtmageeohnfomnaaGreatG6
import Derived.Test.YtmageeohnfomnaaGreatG0
import Derived.Test.YtmageeohnfomnaaGreatG38
import Derived.Test.YtmageeohnfomnaaGreatG14
namespace Go.Proofs.YtmageeohnfomnaaGreat
set_option maxRecDepth 100000
open Go.RowKit Go.Shelf

def dif (x y : Int) : Int := (((x.toNat + 18446744073709551616 - y.toNat) % 18446744073709551616 : Nat) : Int)
def bor (x y : Int) : Int := ((if x.toNat < y.toNat then 1 else 0 : Nat) : Int)
theorem sub64' (x y : Int) (hx : 0 ≤ x) (hy : 0 ≤ y) (w : World) : (callFunc 121 #[.int .u64 x, .int .u64 y, .int .u64 0]).run Tryz.prog w =
    .ok (.value (.tuple #[.int .u64 (dif x y), .int .u64 (bor x y)])) w := by
  obtain ⟨x, rfl⟩ := Int.eq_ofNat_of_zero_le hx
  obtain ⟨y, rfl⟩ := Int.eq_ofNat_of_zero_le hy
  rw [run_callFunc_extern Tryz.func121 (by kernel_rfl) (by kernel_rfl) (by kernel_rfl) (e := sub64Entry) (by kernel_rfl)]
  have := run_sub64 (P := Tryz.prog) x y 0 (by omega) w
  simp only [Nat.add_zero, Nat.sub_zero] at this
  rw [show ((0 : Nat) : Int) = 0 from rfl] at this
  rw [this]
  rfl
theorem less_any (a b : Int) (w : World) (h0 : 0 ≤ a) (k0 : 0 ≤ b) :
    Calls Tryz.prog 107 #[.int .u64 a, .int .u64 b] w fun e w' => e = .returned (.int .u64 (ml a b)) ∧ w = w' := by
  go_enter Tryz.func107, Tryz.ntmps107
  go_wp2_with (simp only [sub64' a b h0 k0])
  go_ret
  exact ⟨ret_int (less_eq a b h0 k0), rfl⟩
theorem pk_mask (c a b : Int) (x y : Int) (h0 : 0 ≤ a) (h1 : a ≤ 18446744073709551615) (k0 : 0 ≤ b) (k1 : b ≤ 18446744073709551615) (hc : c = ml x y) : pk c a b = if x < y then a else b := by
  subst hc
  unfold ml
  split
  · exact pk_all a b h0 h1
  · exact pk_none a b k0 k1
end Go.Proofs.YtmageeohnfomnaaGreat


namespace Go.Proofs.YtmageeohnfomnaaGreat
set_option maxRecDepth 100000
open Go.RowKit Go.Shelf

attribute [local go_sem] CA_at setCell_drewN alloc_drewN
set_option linter.unusedSimpArgs false
set_option maxHeartbeats 4000000 in
theorem swapCell_any (m : Int) (f g : Nat → Int) (w : World) :
    Calls Tryz.prog 106 #[.int .u64 m, .agg (CA f), .agg (CA g)] w fun e w' => e = .returned (.tuple #[.agg (CA fun j => pk m (g j) (f j)), .agg (CA fun j => pk m (f j) (g j))]) ∧ Ext w w' := by
  go_enter Tryz.func106, Tryz.ntmps106
  go_wp2
  refine wp_region_held_drew (S := fun w' => w'.rangeAt w.heap.size 0 (CA f).toList ∧ w'.rangeAt (w.heap.size + 1) 0 (CA g).toList) (by kernel_rfl) ?_ (fun hHeld => ?_)
  · exact ⟨rg_drew' (World.rangeAt_alloc (World.rangeAt_alloc (World.rangeAt_alloc (rg_new _ _ _ _ rfl) _) _) _), rg_drew' (World.rangeAt_alloc (World.rangeAt_alloc (rg_new _ _ _ _ (by simp)) _) _)⟩
  refine wpAnyH_take (i := 0) (v := .int .u64 m) rfl (by kernel_rfl) (by kernel_rfl) (by kernel_rfl) (fun _ _ _ h => h) (Or.inl ⟨by rfl, fun w' hw => by go_simp⟩) hHeld ?_
  simp only [Act.put, List.setIfInBounds_toArray, List.set_cons_zero, List.set_cons_succ]
  refine take_row 1 (CA g).toList rfl (by kernel_rfl) (by kernel_rfl) (by kernel_rfl) (fun _ _ _ h => h) (by rfl) _ _ rfl _ _ rfl _ (fun _ h => h.2) Tryz.underlying103 rfl (infoCellL g) hHeld ?_
  simp only [Act.put, List.setIfInBounds_toArray, List.set_cons_zero, List.set_cons_succ]
  refine take_row 2 (CA f).toList rfl (by kernel_rfl) (by kernel_rfl) (by kernel_rfl) (fun _ _ _ h => h) (by rfl) _ _ rfl _ _ rfl _ (fun _ h => h.1) Tryz.underlying103 rfl (infoCellL f) hHeld ?_
  simp only [Act.put, List.setIfInBounds_toArray, List.set_cons_zero, List.set_cons_succ]
  refine wpAnyH_take (i := 4) (v := .int .u64 m) rfl (by kernel_rfl) (by kernel_rfl) (by kernel_rfl) (fun _ _ _ h => h) (Or.inl ⟨by rfl, fun w' hw => by go_simp⟩) hHeld ?_
  simp only [Act.put, List.setIfInBounds_toArray, List.set_cons_zero, List.set_cons_succ]
  refine take_row 5 (CA f).toList rfl (by kernel_rfl) (by kernel_rfl) (by kernel_rfl) (fun _ _ _ h => h) (by rfl) _ _ rfl _ _ rfl _ (fun _ h => h.1) Tryz.underlying103 rfl (infoCellL f) hHeld ?_
  simp only [Act.put, List.setIfInBounds_toArray, List.set_cons_zero, List.set_cons_succ]
  refine take_row 6 (CA g).toList rfl (by kernel_rfl) (by kernel_rfl) (by kernel_rfl) (fun _ _ _ h => h) (by rfl) _ _ rfl _ _ rfl _ (fun _ h => h.2) Tryz.underlying103 rfl (infoCellL g) hHeld ?_
  simp only [Act.put, List.setIfInBounds_toArray, List.set_cons_zero, List.set_cons_succ]
  refine one_ready 3 rfl (by kernel_rfl) (fun K hK => ?_)
  go_simp
  refine (pickCell_any m g f _).mono ?_
  rintro e w' ⟨rfl, n, rfl⟩
  refine hK.out _ _ ⟨rg_drewN' (World.rangeAt_alloc (World.rangeAt_alloc (World.rangeAt_alloc (World.rangeAt_alloc hHeld.1 _) _) _) _), rg_drewN' (World.rangeAt_alloc (World.rangeAt_alloc (World.rangeAt_alloc (World.rangeAt_alloc hHeld.2 _) _) _) _)⟩ (fun hHeld2 => ?_)
  clear hK K hHeld
  refine one_ready 7 rfl (by kernel_rfl) (fun K hK => ?_)
  go_simp
  refine (pickCell_any m f g _).mono ?_
  rintro e w' ⟨rfl, n2, rfl⟩
  refine hK.out _ _ ⟨rg_drewN' (World.rangeAt_alloc (World.rangeAt_alloc (World.rangeAt_alloc (World.rangeAt_alloc hHeld2.1 _) _) _) _), rg_drewN' (World.rangeAt_alloc (World.rangeAt_alloc (World.rangeAt_alloc (World.rangeAt_alloc hHeld2.2 _) _) _) _)⟩ (fun hHeld => ?_)
  clear hK K hHeld2
  refine one_ready 8 rfl (by kernel_rfl) (fun K hK => ?_)
  go_simp
  simp only [CA_size, CA_list]
  go_simp
  refine hK.out _ _ ⟨?_, ?_⟩ (fun hHeld2 => ?_)
  · refine rg_drewN' ?_
    iterate 11 refine World.rangeAt_alloc ?_ _
    exact rg_new _ _ _ _ rfl
  · refine rg_drewN' ?_
    iterate 10 refine World.rangeAt_alloc ?_ _
    exact rg_new _ _ _ _ (by simp)
  clear hK K hHeld
  refine one_ready 9 rfl (by kernel_rfl) (fun K hK => ?_)
  go_simp
  simp only [CA_size, CA_list]
  go_simp
  refine hK.out _ _ ⟨?_, ?_⟩ (fun hHeld => ?_)
  · refine rg_drewN' ?_
    iterate 11 refine World.rangeAt_alloc ?_ _
    exact rg_new _ _ _ _ rfl
  · refine rg_drewN' ?_
    iterate 10 refine World.rangeAt_alloc ?_ _
    exact rg_new _ _ _ _ (by simp)
  clear hK K hHeld hHeld2
  refine wpAnyH_done (by kernel_rfl) ?_ _
  go_wp2
  refine bodyPost_ret (v := .tuple #[.agg (CA fun j => pk m (g j) (f j)), .agg (CA fun j => pk m (f j) (g j))]) (by simp [results, Tryz.results106, go_sem]; exact ⟨rfl, rfl⟩) rfl ⟨rfl, ?_⟩
  refine Ext.drewN ?_ _
  (repeat' (first | exact Ext.refl _ | refine Ext.alloc ?_ _ _))
end Go.Proofs.YtmageeohnfomnaaGreat


namespace Go.Proofs.YtmageeohnfomnaaGreat
set_option maxRecDepth 100000

open Go.RowKit Go.Shelf

structure OrS (w : World) (f g : Nat → Int) (w' : World) : Prop where
  ext : Ext w w'
  fst : w'.rangeAt w.heap.size 0 (CA f).toList
  snd : w'.rangeAt (w.heap.size + 1) 0 (CA g).toList
theorem OrS.ext' {w w1 w2 : World} {f g : Nat → Int} (h : OrS w f g w1) (hs : w.heap.size + 1 < w1.heap.size) (hx : Ext w1 w2) : OrS w f g w2 := ⟨h.1.trans hx, hx.range (by omega) h.2, hx.range hs h.3⟩
theorem OrS.far {w w1 : World} {f g : Nat → Int} (h : OrS w f g w1) (b : Nat) (hb : w.heap.size + 1 < b) (vs : List Value) : OrS w f g (w1.setCells b 0 vs) :=
  ⟨h.1.setCells (by omega) _ _, World.rangeAt_setCells_apart h.2 _ _ _ (.inl (by omega)), World.rangeAt_setCells_apart h.3 _ _ _ (.inl (by omega))⟩
set_option linter.unusedSimpArgs false in
set_option maxHeartbeats 1000000 in
theorem order_up (κ : Nat) (f g F1 F2 : Nat → Int) (w : World) (hκ : κ < 12) (hf : Wd f) (hg : Wd g) (h1 : (if turned κ true f g then g else f) = F1) (h2 : (if turned κ true f g then f else g) = F2) :
    Calls Tryz.prog 97 #[.bool true, .int .i64 κ, .agg (CA f), .agg (CA g)] w fun e w' => e = .returned (.tuple #[.agg (CA F1), .agg (CA F2)]) ∧ Ext w w' := by
  have hf0 := (hf κ).1
  have hg0 := (hg κ).1
  have e1 : CA (fun j => pk (ml (g κ) (f κ)) (g j) (f j)) = CA F1 := CA_ext _ _ (fun j _ => by
    rw [← h1]
    rw [pk_mask _ (g j) (f j) (g κ) (f κ) (hg j).1 (hg j).2 (hf j).1 (hf j).2 rfl]
    unfold turned
    simp only [Bool.false_eq_true, if_false, if_true, decide_eq_true_eq]
    split <;> rfl)
  have e2 : CA (fun j => pk (ml (g κ) (f κ)) (f j) (g j)) = CA F2 := CA_ext _ _ (fun j _ => by
    rw [← h2]
    rw [pk_mask _ (f j) (g j) (g κ) (f κ) (hf j).1 (hf j).2 (hg j).1 (hg j).2 rfl]
    unfold turned
    simp only [Bool.false_eq_true, if_false, if_true, decide_eq_true_eq]
    split <;> rfl)
  have E1 := Lib.hid e1
  have E2 := Lib.hid e2
  clear e1 e2 hf hg h1 h2
  go_enter Tryz.func97, Tryz.ntmps97
  go_wp2
  obtain ⟨w4, h4⟩ : ∃ x, x = (((w.alloc (.cells (CA f) 103)).alloc (.cells (CA g) 103)).alloc (.cells (CA fun _ => 0) 103)).alloc (.cells (CA fun _ => 0) 103) := ⟨_, rfl⟩
  have hx : Ext w w4 := by subst h4; exact ((((Ext.refl w).alloc _ _).alloc _ _).alloc _ _).alloc _ _
  have hsz : w4.heap.size = w.heap.size + 4 := by subst h4; simp
  have rf : w4.rangeAt w.heap.size 0 (CA f).toList := by subst h4; exact World.rangeAt_alloc (World.rangeAt_alloc (World.rangeAt_alloc (rg_new _ _ _ _ rfl) _) _) _
  have rg : w4.rangeAt (w.heap.size + 1) 0 (CA g).toList := by subst h4; exact World.rangeAt_alloc (World.rangeAt_alloc (rg_new _ _ _ _ (by simp)) _) _
  have r2 : w4.there (w.heap.size + 2) 0 12 := by subst h4; exact World.there_alloc (there_new _ _ _ _ (by simp)) _
  have r3 : w4.there (w.heap.size + 3) 0 12 := by subst h4; exact there_new _ _ _ _ (by simp)
  have HX := Lib.hid hx
  have HF := Lib.hid rf
  have HG := Lib.hid rg
  have H2 := Lib.hid r2
  have H3 := Lib.hid r3
  change (Code.region _ _ true).wp _ _ _ ((((w.alloc (.cells (CA f) 103)).alloc (.cells (CA g) 103)).alloc (.cells (CA fun _ => 0) 103)).alloc (.cells (CA fun _ => 0) 103))
  rw [← h4]
  clear h4 hx rf rg r2 r3
  refine held_S (S := OrS w f g) 14 rfl (by kernel_rfl) (OrS.mk HX.out.drew (rg_drew' HF.out) (rg_drew' HG.out)) (fun hHeld => ?_)
  simp only [Array.replicate_succ, Array.replicate_zero, List.push_toArray, List.nil_append, List.cons_append]
  have cF : ∀ w', OrS w f g w' → w'.cell? ⟨w.heap.size, κ, none⟩ = some (.int .u64 (f κ)) := fun w' hw => by
    have := hw.2 κ (.int .u64 (f κ)) (by rw [Array.getElem?_toList, CA_at f κ hκ]); rwa [Nat.zero_add] at this
  have cG : ∀ w', OrS w f g w' → w'.cell? ⟨w.heap.size + 1, κ, none⟩ = some (.int .u64 (g κ)) := fun w' hw => by
    have := hw.3 κ (.int .u64 (g κ)) (by rw [Array.getElem?_toList, CA_at g κ hκ]); rwa [Nat.zero_add] at this
  have CF := Lib.hid cF
  have CG := Lib.hid cG
  clear cF cG
  refine wpAnyH_take (i := 0) (oi := ⟨some 11, _, _, _, _, _⟩) (v := .int .i64 (κ : Int)) rfl (by kernel_rfl) (by kernel_rfl) (by kernel_rfl) (fun _ _ _ h => h) (Or.inl ⟨by rfl, fun w' hw => by go_simp⟩) hHeld ?_
  try simp only [Act.put, List.setIfInBounds_toArray, List.set_cons_zero, List.set_cons_succ]
  refine wpAnyH_take (i := 1) (oi := ⟨some 12, _, _, _, _, _⟩) (v := .pointer (some ⟨w.heap.size + 1, κ, none⟩)) rfl (by kernel_rfl) (by kernel_rfl) (by kernel_rfl) (fun _ _ _ h => h) (Or.inl ⟨by rfl, fun w' hw => by go_simp; try (intro h; omega)⟩) hHeld ?_
  try simp only [Act.put, List.setIfInBounds_toArray, List.set_cons_zero, List.set_cons_succ]
  refine wpAnyH_take (i := 2) (oi := ⟨some 13, _, _, _, _, _⟩) (v := .int .u64 (g κ)) rfl (by kernel_rfl) (by kernel_rfl) (by kernel_rfl) (fun _ _ _ h => h) (Or.inl ⟨by rfl, fun w' hw => by have hc := CG.out w' hw; go_simp⟩) hHeld ?_
  try simp only [Act.put, List.setIfInBounds_toArray, List.set_cons_zero, List.set_cons_succ]
  refine wpAnyH_take (i := 3) (oi := ⟨some 14, _, _, _, _, _⟩) (v := .int .i64 (κ : Int)) rfl (by kernel_rfl) (by kernel_rfl) (by kernel_rfl) (fun _ _ _ h => h) (Or.inl ⟨by rfl, fun w' hw => by go_simp⟩) hHeld ?_
  try simp only [Act.put, List.setIfInBounds_toArray, List.set_cons_zero, List.set_cons_succ]
  refine wpAnyH_take (i := 4) (oi := ⟨some 15, _, _, _, _, _⟩) (v := .pointer (some ⟨w.heap.size, κ, none⟩)) rfl (by kernel_rfl) (by kernel_rfl) (by kernel_rfl) (fun _ _ _ h => h) (Or.inl ⟨by rfl, fun w' hw => by go_simp; try (intro h; omega)⟩) hHeld ?_
  try simp only [Act.put, List.setIfInBounds_toArray, List.set_cons_zero, List.set_cons_succ]
  refine wpAnyH_take (i := 5) (oi := ⟨some 16, _, _, _, _, _⟩) (v := .int .u64 (f κ)) rfl (by kernel_rfl) (by kernel_rfl) (by kernel_rfl) (fun _ _ _ h => h) (Or.inl ⟨by rfl, fun w' hw => by have hc := CF.out w' hw; go_simp⟩) hHeld ?_
  try simp only [Act.put, List.setIfInBounds_toArray, List.set_cons_zero, List.set_cons_succ]
  refine take_row 7 (CA f).toList rfl (by kernel_rfl) (by kernel_rfl) (by kernel_rfl) (fun _ _ _ h => h) (by rfl) _ _ rfl _ _ rfl _ (fun _ h => h.2) Tryz.underlying103 rfl (infoCellL f) hHeld ?_
  try simp only [Act.put, List.setIfInBounds_toArray, List.set_cons_zero, List.set_cons_succ]
  refine take_row 8 (CA g).toList rfl (by kernel_rfl) (by kernel_rfl) (by kernel_rfl) (fun _ _ _ h => h) (by rfl) _ _ rfl _ _ rfl _ (fun _ h => h.3) Tryz.underlying103 rfl (infoCellL g) hHeld ?_
  try simp only [Act.put, List.setIfInBounds_toArray, List.set_cons_zero, List.set_cons_succ]
  refine one_ready 6 rfl (by kernel_rfl) (fun K hK => ?_)
  go_simp
  refine (less_any (g κ) (f κ) _ (by assumption) (by assumption)).mono ?_
  rintro e w5 ⟨rfl, rfl⟩
  refine hK.out _ _ hHeld (fun hHeld => ?_)
  clear hK K
  try simp only [Act.put, List.setIfInBounds_toArray, List.set_cons_zero, List.set_cons_succ]
  refine one_ready 9 rfl (by kernel_rfl) (fun K hK => ?_)
  go_simp
  refine (swapCell_any (ml (g κ) (f κ)) f g _).mono ?_
  rw [E1.out, E2.out]
  rintro e w5 ⟨rfl, hx5⟩
  have t2 := hx5.there (by show _ < w4.drew.heap.size; simp; omega) ((World.there_drew _ _ _ _).2 H2.out)
  have t3 := hx5.there (by show _ < w4.drew.heap.size; simp; omega) ((World.there_drew _ _ _ _).2 H3.out)
  have T2 := Lib.hid t2
  have T3 := Lib.hid t3
  have hHeld2 := hHeld.ext' (by show _ < w4.drew.heap.size; simp; omega) hx5
  clear hHeld t2 t3
  refine hK.out _ _ hHeld2 (fun hHeld => ?_)
  clear hK K hHeld2 hx5
  try simp only [Act.put, List.setIfInBounds_toArray, List.set_cons_zero, List.set_cons_succ]
  refine wpAnyH_take (i := 10) (oi := ⟨some 21, _, _, _, _, _⟩) (v := .agg (CA F1)) rfl (by kernel_rfl) (by kernel_rfl) (by kernel_rfl) (fun _ _ _ h => h) (Or.inl ⟨by rfl, fun w' hw => by go_simp⟩) hHeld ?_
  try simp only [Act.put, List.setIfInBounds_toArray, List.set_cons_zero, List.set_cons_succ]
  refine wpAnyH_take (i := 11) (oi := ⟨some 22, _, _, _, _, _⟩) (v := .agg (CA F2)) rfl (by kernel_rfl) (by kernel_rfl) (by kernel_rfl) (fun _ _ _ h => h) (Or.inl ⟨by rfl, fun w' hw => by go_simp⟩) hHeld ?_
  try simp only [Act.put, List.setIfInBounds_toArray, List.set_cons_zero, List.set_cons_succ]
  have HE := Lib.hid hHeld.1
  refine one_ready 12 (o := ⟨none, .store 103 (.tmp 8) (.tmp 21), _, _, _, _⟩) rfl (by kernel_rfl) (fun K hK => ?_)
  refine step_store_cell rfl (.tmp 8) (.tmp 21) rfl (w.heap.size + 2) 0 rfl F1 rfl T2.out ?_
  have hL := load_two (t := 103) (F1 := F1) (F2 := F2) T2.out T3.out (show w.heap.size + 2 ≠ w.heap.size + 3 by omega)
  have hY := (HE.out.setCells (b := w.heap.size + 2) (by omega) 0 (CA F1).toList).setCells (b := w.heap.size + 3) (by omega) 0 (CA F2).toList
  have h6 := hHeld.far (w.heap.size + 2) (by omega) (CA F1).toList
  have h7 := h6.far (w.heap.size + 3) (by omega) (CA F2).toList
  have t4 := World.there_setCells T3.out (w.heap.size + 2) 0 (CA F1).toList
  generalize w5.setCells (w.heap.size + 2) 0 (CA F1).toList = w6 at *
  have T4 := Lib.hid t4
  have HL := Lib.hid hL
  have HY := Lib.hid hY
  have H7 := Lib.hid h7
  clear hHeld t4 hL hY h7
  refine hK.out _ _ h6 (fun hHeld => ?_)
  clear hK K h6
  try simp only [Act.put, List.setIfInBounds_toArray, List.set_cons_zero, List.set_cons_succ]
  refine one_ready 13 (o := ⟨none, .store 103 (.tmp 9) (.tmp 22), _, _, _, _⟩) rfl (by kernel_rfl) (fun K hK => ?_)
  refine step_store_cell rfl (.tmp 9) (.tmp 22) rfl (w.heap.size + 3) 0 rfl F2 rfl T4.out ?_
  generalize w6.setCells (w.heap.size + 3) 0 (CA F2).toList = w7 at *
  refine hK.out _ _ H7.out (fun hHeld => ?_)
  clear hK K
  refine wpAnyH_done (by kernel_rfl) ?_ _
  go_wp2
  refine bodyPost_ret (v := .tuple #[.agg (CA F1), .agg (CA F2)]) (results_two Tryz.results97 rfl rfl HL.out.1 HL.out.2) rfl ⟨rfl, HY.out⟩
set_option linter.unusedSimpArgs false in
set_option maxHeartbeats 1000000 in
theorem order_down (κ : Nat) (f g F1 F2 : Nat → Int) (w : World) (hκ : κ < 12) (hf : Wd f) (hg : Wd g) (h1 : (if turned κ false f g then g else f) = F1) (h2 : (if turned κ false f g then f else g) = F2) :
    Calls Tryz.prog 97 #[.bool false, .int .i64 κ, .agg (CA f), .agg (CA g)] w fun e w' => e = .returned (.tuple #[.agg (CA F1), .agg (CA F2)]) ∧ Ext w w' := by
  have hf0 := (hf κ).1
  have hg0 := (hg κ).1
  have e1 : CA (fun j => pk (ml (f κ) (g κ)) (g j) (f j)) = CA F1 := CA_ext _ _ (fun j _ => by
    rw [← h1]
    rw [pk_mask _ (g j) (f j) (f κ) (g κ) (hg j).1 (hg j).2 (hf j).1 (hf j).2 rfl]
    unfold turned
    simp only [Bool.false_eq_true, if_false, if_true, decide_eq_true_eq]
    split <;> rfl)
  have e2 : CA (fun j => pk (ml (f κ) (g κ)) (f j) (g j)) = CA F2 := CA_ext _ _ (fun j _ => by
    rw [← h2]
    rw [pk_mask _ (f j) (g j) (f κ) (g κ) (hf j).1 (hf j).2 (hg j).1 (hg j).2 rfl]
    unfold turned
    simp only [Bool.false_eq_true, if_false, if_true, decide_eq_true_eq]
    split <;> rfl)
  have E1 := Lib.hid e1
  have E2 := Lib.hid e2
  clear e1 e2 hf hg h1 h2
  go_enter Tryz.func97, Tryz.ntmps97
  go_wp2
  obtain ⟨w4, h4⟩ : ∃ x, x = (((w.alloc (.cells (CA f) 103)).alloc (.cells (CA g) 103)).alloc (.cells (CA fun _ => 0) 103)).alloc (.cells (CA fun _ => 0) 103) := ⟨_, rfl⟩
  have hx : Ext w w4 := by subst h4; exact ((((Ext.refl w).alloc _ _).alloc _ _).alloc _ _).alloc _ _
  have hsz : w4.heap.size = w.heap.size + 4 := by subst h4; simp
  have rf : w4.rangeAt w.heap.size 0 (CA f).toList := by subst h4; exact World.rangeAt_alloc (World.rangeAt_alloc (World.rangeAt_alloc (rg_new _ _ _ _ rfl) _) _) _
  have rg : w4.rangeAt (w.heap.size + 1) 0 (CA g).toList := by subst h4; exact World.rangeAt_alloc (World.rangeAt_alloc (rg_new _ _ _ _ (by simp)) _) _
  have r2 : w4.there (w.heap.size + 2) 0 12 := by subst h4; exact World.there_alloc (there_new _ _ _ _ (by simp)) _
  have r3 : w4.there (w.heap.size + 3) 0 12 := by subst h4; exact there_new _ _ _ _ (by simp)
  have HX := Lib.hid hx
  have HF := Lib.hid rf
  have HG := Lib.hid rg
  have H2 := Lib.hid r2
  have H3 := Lib.hid r3
  change (Code.region _ _ true).wp _ _ _ ((((w.alloc (.cells (CA f) 103)).alloc (.cells (CA g) 103)).alloc (.cells (CA fun _ => 0) 103)).alloc (.cells (CA fun _ => 0) 103))
  rw [← h4]
  clear h4 hx rf rg r2 r3
  refine held_S (S := OrS w f g) 14 rfl (by kernel_rfl) (OrS.mk HX.out.drew (rg_drew' HF.out) (rg_drew' HG.out)) (fun hHeld => ?_)
  simp only [Array.replicate_succ, Array.replicate_zero, List.push_toArray, List.nil_append, List.cons_append]
  have cF : ∀ w', OrS w f g w' → w'.cell? ⟨w.heap.size, κ, none⟩ = some (.int .u64 (f κ)) := fun w' hw => by
    have := hw.2 κ (.int .u64 (f κ)) (by rw [Array.getElem?_toList, CA_at f κ hκ]); rwa [Nat.zero_add] at this
  have cG : ∀ w', OrS w f g w' → w'.cell? ⟨w.heap.size + 1, κ, none⟩ = some (.int .u64 (g κ)) := fun w' hw => by
    have := hw.3 κ (.int .u64 (g κ)) (by rw [Array.getElem?_toList, CA_at g κ hκ]); rwa [Nat.zero_add] at this
  have CF := Lib.hid cF
  have CG := Lib.hid cG
  clear cF cG
  refine wpAnyH_take (i := 0) (oi := ⟨some 23, _, _, _, _, _⟩) (v := .int .i64 (κ : Int)) rfl (by kernel_rfl) (by kernel_rfl) (by kernel_rfl) (fun _ _ _ h => h) (Or.inl ⟨by rfl, fun w' hw => by go_simp⟩) hHeld ?_
  try simp only [Act.put, List.setIfInBounds_toArray, List.set_cons_zero, List.set_cons_succ]
  refine wpAnyH_take (i := 1) (oi := ⟨some 24, _, _, _, _, _⟩) (v := .pointer (some ⟨w.heap.size, κ, none⟩)) rfl (by kernel_rfl) (by kernel_rfl) (by kernel_rfl) (fun _ _ _ h => h) (Or.inl ⟨by rfl, fun w' hw => by go_simp; try (intro h; omega)⟩) hHeld ?_
  try simp only [Act.put, List.setIfInBounds_toArray, List.set_cons_zero, List.set_cons_succ]
  refine wpAnyH_take (i := 2) (oi := ⟨some 25, _, _, _, _, _⟩) (v := .int .u64 (f κ)) rfl (by kernel_rfl) (by kernel_rfl) (by kernel_rfl) (fun _ _ _ h => h) (Or.inl ⟨by rfl, fun w' hw => by have hc := CF.out w' hw; go_simp⟩) hHeld ?_
  try simp only [Act.put, List.setIfInBounds_toArray, List.set_cons_zero, List.set_cons_succ]
  refine wpAnyH_take (i := 3) (oi := ⟨some 26, _, _, _, _, _⟩) (v := .int .i64 (κ : Int)) rfl (by kernel_rfl) (by kernel_rfl) (by kernel_rfl) (fun _ _ _ h => h) (Or.inl ⟨by rfl, fun w' hw => by go_simp⟩) hHeld ?_
  try simp only [Act.put, List.setIfInBounds_toArray, List.set_cons_zero, List.set_cons_succ]
  refine wpAnyH_take (i := 4) (oi := ⟨some 27, _, _, _, _, _⟩) (v := .pointer (some ⟨w.heap.size + 1, κ, none⟩)) rfl (by kernel_rfl) (by kernel_rfl) (by kernel_rfl) (fun _ _ _ h => h) (Or.inl ⟨by rfl, fun w' hw => by go_simp; try (intro h; omega)⟩) hHeld ?_
  try simp only [Act.put, List.setIfInBounds_toArray, List.set_cons_zero, List.set_cons_succ]
  refine wpAnyH_take (i := 5) (oi := ⟨some 28, _, _, _, _, _⟩) (v := .int .u64 (g κ)) rfl (by kernel_rfl) (by kernel_rfl) (by kernel_rfl) (fun _ _ _ h => h) (Or.inl ⟨by rfl, fun w' hw => by have hc := CG.out w' hw; go_simp⟩) hHeld ?_
  try simp only [Act.put, List.setIfInBounds_toArray, List.set_cons_zero, List.set_cons_succ]
  refine take_row 7 (CA f).toList rfl (by kernel_rfl) (by kernel_rfl) (by kernel_rfl) (fun _ _ _ h => h) (by rfl) _ _ rfl _ _ rfl _ (fun _ h => h.2) Tryz.underlying103 rfl (infoCellL f) hHeld ?_
  try simp only [Act.put, List.setIfInBounds_toArray, List.set_cons_zero, List.set_cons_succ]
  refine take_row 8 (CA g).toList rfl (by kernel_rfl) (by kernel_rfl) (by kernel_rfl) (fun _ _ _ h => h) (by rfl) _ _ rfl _ _ rfl _ (fun _ h => h.3) Tryz.underlying103 rfl (infoCellL g) hHeld ?_
  try simp only [Act.put, List.setIfInBounds_toArray, List.set_cons_zero, List.set_cons_succ]
  refine one_ready 6 rfl (by kernel_rfl) (fun K hK => ?_)
  go_simp
  refine (less_any (f κ) (g κ) _ (by assumption) (by assumption)).mono ?_
  rintro e w5 ⟨rfl, rfl⟩
  refine hK.out _ _ hHeld (fun hHeld => ?_)
  clear hK K
  try simp only [Act.put, List.setIfInBounds_toArray, List.set_cons_zero, List.set_cons_succ]
  refine one_ready 9 rfl (by kernel_rfl) (fun K hK => ?_)
  go_simp
  refine (swapCell_any (ml (f κ) (g κ)) f g _).mono ?_
  rw [E1.out, E2.out]
  rintro e w5 ⟨rfl, hx5⟩
  have t2 := hx5.there (by show _ < w4.drew.heap.size; simp; omega) ((World.there_drew _ _ _ _).2 H2.out)
  have t3 := hx5.there (by show _ < w4.drew.heap.size; simp; omega) ((World.there_drew _ _ _ _).2 H3.out)
  have T2 := Lib.hid t2
  have T3 := Lib.hid t3
  have hHeld2 := hHeld.ext' (by show _ < w4.drew.heap.size; simp; omega) hx5
  clear hHeld t2 t3
  refine hK.out _ _ hHeld2 (fun hHeld => ?_)
  clear hK K hHeld2 hx5
  try simp only [Act.put, List.setIfInBounds_toArray, List.set_cons_zero, List.set_cons_succ]
  refine wpAnyH_take (i := 10) (oi := ⟨some 33, _, _, _, _, _⟩) (v := .agg (CA F1)) rfl (by kernel_rfl) (by kernel_rfl) (by kernel_rfl) (fun _ _ _ h => h) (Or.inl ⟨by rfl, fun w' hw => by go_simp⟩) hHeld ?_
  try simp only [Act.put, List.setIfInBounds_toArray, List.set_cons_zero, List.set_cons_succ]
  refine wpAnyH_take (i := 11) (oi := ⟨some 34, _, _, _, _, _⟩) (v := .agg (CA F2)) rfl (by kernel_rfl) (by kernel_rfl) (by kernel_rfl) (fun _ _ _ h => h) (Or.inl ⟨by rfl, fun w' hw => by go_simp⟩) hHeld ?_
  try simp only [Act.put, List.setIfInBounds_toArray, List.set_cons_zero, List.set_cons_succ]
  have HE := Lib.hid hHeld.1
  refine one_ready 12 (o := ⟨none, .store 103 (.tmp 8) (.tmp 33), _, _, _, _⟩) rfl (by kernel_rfl) (fun K hK => ?_)
  refine step_store_cell rfl (.tmp 8) (.tmp 33) rfl (w.heap.size + 2) 0 rfl F1 rfl T2.out ?_
  have hL := load_two (t := 103) (F1 := F1) (F2 := F2) T2.out T3.out (show w.heap.size + 2 ≠ w.heap.size + 3 by omega)
  have hY := (HE.out.setCells (b := w.heap.size + 2) (by omega) 0 (CA F1).toList).setCells (b := w.heap.size + 3) (by omega) 0 (CA F2).toList
  have h6 := hHeld.far (w.heap.size + 2) (by omega) (CA F1).toList
  have h7 := h6.far (w.heap.size + 3) (by omega) (CA F2).toList
  have t4 := World.there_setCells T3.out (w.heap.size + 2) 0 (CA F1).toList
  generalize w5.setCells (w.heap.size + 2) 0 (CA F1).toList = w6 at *
  have T4 := Lib.hid t4
  have HL := Lib.hid hL
  have HY := Lib.hid hY
  have H7 := Lib.hid h7
  clear hHeld t4 hL hY h7
  refine hK.out _ _ h6 (fun hHeld => ?_)
  clear hK K h6
  try simp only [Act.put, List.setIfInBounds_toArray, List.set_cons_zero, List.set_cons_succ]
  refine one_ready 13 (o := ⟨none, .store 103 (.tmp 9) (.tmp 34), _, _, _, _⟩) rfl (by kernel_rfl) (fun K hK => ?_)
  refine step_store_cell rfl (.tmp 9) (.tmp 34) rfl (w.heap.size + 3) 0 rfl F2 rfl T4.out ?_
  generalize w6.setCells (w.heap.size + 3) 0 (CA F2).toList = w7 at *
  refine hK.out _ _ H7.out (fun hHeld => ?_)
  clear hK K
  refine wpAnyH_done (by kernel_rfl) ?_ _
  go_wp2
  refine bodyPost_ret (v := .tuple #[.agg (CA F1), .agg (CA F2)]) (results_two Tryz.results97 rfl rfl HL.out.1 HL.out.2) rfl ⟨rfl, HY.out⟩
theorem order_any (u : Bool) (κ : Nat) (f g : Nat → Int) (w : World) (hκ : κ < 12) (hf : Wd f) (hg : Wd g) :
    Calls Tryz.prog 97 #[.bool u, .int .i64 κ, .agg (CA f), .agg (CA g)] w fun e w' => e = .returned (.tuple #[.agg (CA (if turned κ u f g then g else f)), .agg (CA (if turned κ u f g then f else g))]) ∧ Ext w w' := by
  cases u
  · exact order_down κ f g _ _ w hκ hf hg rfl rfl
  · exact order_up κ f g _ _ w hκ hf hg rfl rfl
end Go.Proofs.YtmageeohnfomnaaGreat

