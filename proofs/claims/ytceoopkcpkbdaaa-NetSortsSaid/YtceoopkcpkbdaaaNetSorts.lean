/- NetSorts: for every slice of words the law returns true, and of what was in memory nothing changes. -/
import Derived.Test.YtceoopkcpkbdaaaNetSorted
namespace Go.Proofs.Ytceoopkcpkbdaaa
open Go.RowKit Go.Shelf Go.ChangeShapes Go.WideShapes Go.ChangeAt

set_option maxHeartbeats 1000000 in
theorem sorts_long (a : Option Addr) (n c : Nat) (w : World) (h : 300 < n) : Calls Try.prog 4 #[.slice a n c] w fun e w' => e = .returned (.bool true) ∧ Below w.heap.size w w' := by
  go_enter Try.func4, Try.ntmps4
  go_wp2_with fail
  refine (shown_any _).mono ?_
  rintro e w1 ⟨rfl, hb1⟩
  have HB := Lib.hid hb1
  clear hb1
  go_wp2_with fail
  go_ret
  exact ⟨rfl, HB.out⟩
theorem nums_none (w : World) (B : Nat) (z : Nat → Int) : Nums .u64 w B none 0 z := fun h => by omega
set_option maxRecDepth 100000 in
set_option maxHeartbeats 1000000 in
theorem sorts_wrong (a : Option Addr) (n c : Nat) (w : World) (h : n ≤ 300) (hR : isNet (n : Int) = false) : Calls Try.prog 4 #[.slice a n c] w fun e w' => e = .returned (.bool true) ∧ Below w.heap.size w w' := by
  go_enter Try.func4, Try.ntmps4
  go_wp2_with fail
  refine (shown_any _).mono ?_
  rintro e w1 ⟨rfl, hb1⟩
  have HB := Lib.hid hb1
  clear hb1
  go_wp2_with fail
  with_reducible refine (sort_wrong a n c _ hR).mono ?_
  rintro e w2 ⟨rfl, hb2⟩
  have HB2 := Lib.hid (HB.out.trans (hb2.mono HB.out.size))
  clear HB hb2
  go_wp2_with fail
  with_reducible refine (refSort_wrong a n c _ hR).mono ?_
  rintro e w3 ⟨rfl, hb3⟩
  have HB3 := Lib.hid (HB2.out.trans (hb3.mono HB2.out.size))
  clear HB2 hb3
  go_wp2_with fail
  with_reducible refine (same_yes none none 0 0 0 0 0 (fun _ => 0) _ (by omega) (nums_none _ _ _) (nums_none _ _ _)).mono ?_
  rintro e w4 ⟨rfl, k, hk⟩
  have HB4 : Hid (Below w.heap.size w w4) := Lib.hid (by rw [hk]; exact below_drewN HB3.out k)
  clear hk
  go_wp2_with fail
  go_ret
  exact ⟨rfl, HB4.out⟩
set_option maxRecDepth 100000 in
set_option maxHeartbeats 1000000 in
theorem sorts_right (P b off n c : Nat) (z : Nat → Int) (w : World) (h : n ≤ 300) (hP : P ≤ 10) (hn : 2 ^ P = n) (hbw : b < w.heap.size) (hc : ∀ j, j < n → w.cell? ⟨b, off + j, none⟩ = some (.int .u64 (z j))) (hz : ∀ j, j < n → 0 ≤ z j ∧ z j ≤ 18446744073709551615) :
    Calls Try.prog 4 #[.slice (some ⟨b, off, none⟩) n c] w fun e w' => e = .returned (.bool true) ∧ Below w.heap.size w w' := by
  have hfr := fill_rng n z hz
  have hn0 : 0 < n := by rw [← hn]; exact two_pos P
  have hcf : ∀ j, j < n → w.cell? ⟨b, off + j, none⟩ = some (.int .u64 (fill z n j)) := fun j hj => by rw [hc j hj]; unfold fill; rw [if_pos hj]
  have HC := Lib.hid hcf
  have HN := Lib.hid hn
  have HF := Lib.hid hfr
  clear hc hz hn hcf hfr
  go_enter Try.func4, Try.ntmps4
  go_wp2_with fail
  refine (shown_any _).mono ?_
  rintro e w1 ⟨rfl, hb1⟩
  have HB := Lib.hid hb1
  clear hb1
  go_wp2_with fail
  with_reducible refine (sort_right P b off n c (fill z n) _ hP HN.out (fun j hj => (HB.out.cell (p := ⟨b, off + j, none⟩) hbw).trans (HC.out j hj)) HF.out).mono ?_
  rintro e w2 ⟨g1, c1, rfl, _, _, hx, hb2⟩
  have HB2 := Lib.hid (HB.out.trans (hb2.mono HB.out.size))
  have NX := Lib.hid (hx.nums (B := w2.heap.size) hx.lt)
  clear HB hb2 hx
  go_wp2_with fail
  with_reducible refine (refSort_right P b off n c (fill z n) _ hP HN.out (fun j hj => (HB2.out.cell (p := ⟨b, off + j, none⟩) hbw).trans (HC.out j hj))).mono ?_
  rintro e w3 ⟨g2, c2, rfl, _, hy, hb3⟩
  have HB3 := Lib.hid (HB2.out.trans (hb3.mono HB2.out.size))
  have NX3 := Lib.hid (NX.out.below hb3)
  have NY := Lib.hid hy
  clear HB2 hb3 hy NX
  go_wp2_with fail
  with_reducible refine (same_yes _ _ n _ _ _ _ _ _ (by omega) NX3.out NY.out).mono ?_
  rintro e w4 ⟨rfl, k, hk⟩
  have HB4 : Hid (Below w.heap.size w w4) := Lib.hid (by rw [hk]; exact below_drewN HB3.out k)
  clear hk
  go_wp2_with fail
  go_ret
  exact ⟨rfl, HB4.out⟩
theorem sorts_law (a : Option Addr) (n c : Nat) (z : Nat → Int) (w : World) (hl : Nums .u64 w w.heap.size a n z) (hw : ∀ j, j < n → (Lit.int .u64 (z j)).wf = true) : Calls Try.prog 4 #[.slice a n c] w fun e w' => e = .returned (.bool true) ∧ Below w.heap.size w w' := by
  by_cases h : 300 < n
  · exact sorts_long a n c w h
  · cases hR : isNet (n : Int)
    · exact sorts_wrong a n c w (by omega) hR
    · obtain ⟨P, hP, e⟩ := (isNet_iff _).1 hR
      have hn : 2 ^ P = n := by omega
      have hn0 : 0 < n := by rw [← hn]; exact two_pos P
      obtain ⟨b, off, rfl, hb, hc⟩ := hl hn0
      exact sorts_right P b off n c z w (by omega) hP hn hb hc (fun j hj => u64_rng (hw j hj))
end Go.Proofs.Ytceoopkcpkbdaaa
