/- PathTrees and PathMeets: for every input the law returns true, and of what was in memory nothing changes. Conditions: each argument is an int. -/
import Derived.Test.YtelcgkjaiicaeaaPathMeet
namespace Go.Proofs.Ytelcgkjaiicaeaa
open Go.RowKit Go.Shelf Go.ChangeShapes Go.WideShapes Go.ChangeAt

theorem meets_law (n a b : Int) (w : World) (hw : (Lit.int .i64 n).wf = true) : Calls Try.prog 4 #[.int .i64 n, .int .i64 a, .int .i64 b] w fun e w' => e = .returned (.bool true) ∧ Below w.heap.size w w' := by
  obtain ⟨h0, h1⟩ := i64_rng hw
  go_enter Try.func4, Try.ntmps4
  go_wp2_with fail
  refine (shown_any _).mono ?_
  rintro e w1 ⟨rfl, hb1⟩
  have HB := Lib.hid hb1
  clear hb1
  go_wp2_with fail
  refine (path_deep n a b _ h0 h1).mono ?_
  rintro e w2 ⟨rfl, rfl⟩
  go_wp2_with fail
  refine (rpath_deep n a b _).mono ?_
  rintro e w3 ⟨rfl, hb3⟩
  have HB3 := Lib.hid (HB.out.trans (hb3.mono HB.out.size))
  clear hb3
  go_wp2_with fail
  go_ret
  exact ⟨rfl, HB3.out⟩
set_option maxHeartbeats 1000000 in
theorem trees_law (n l k : Int) (w : World) (hw : (Lit.int .i64 n).wf = true) : Calls Try.prog 3 #[.int .i64 n, .int .i64 l, .int .i64 k] w fun e w' => e = .returned (.bool true) ∧ Below w.heap.size w w' := by
  obtain ⟨h0, h1⟩ := i64_rng hw
  go_enter Try.func3, Try.ntmps3
  go_wp2_with fail
  refine (shown_any _).mono ?_
  rintro e w1 ⟨rfl, hb1⟩
  have HB := Lib.hid hb1
  clear hb1
  go_wp2_with fail
  refine (path_right n _ h0 h1).mono ?_
  rintro e w2 ⟨rfl, rfl⟩
  go_wp2_with fail
  refine (rpath_right n _).mono ?_
  rintro e w3 ⟨rfl, rfl⟩
  go_wp2_with fail
  refine (path_depth n _ h0 h1).mono ?_
  rintro e w4 ⟨rfl, rfl⟩
  go_wp2_with fail
  refine (rpath_depth n _).mono ?_
  rintro e w5 ⟨rfl, rfl⟩
  go_wp2_with fail
  refine (path_nodes n _ h0 h1).mono ?_
  rintro e w6 ⟨rfl, rfl⟩
  go_wp2_with fail
  refine (rpath_nodes n _).mono ?_
  rintro e w7 ⟨rfl, rfl⟩
  go_wp2_with fail
  refine (path_node n l k _ h0 h1).mono ?_
  rintro e w8 ⟨rfl, rfl⟩
  go_wp2_with fail
  refine (rpath_node n l k _).mono ?_
  rintro e w9 ⟨rfl, hb9⟩
  have HB9 := Lib.hid (HB.out.trans (hb9.mono HB.out.size))
  clear hb9
  go_wp2_with fail
  cases ht : inT n l
  · refine (way_no n l _ h0 h1 ht).mono ?_
    rintro e w10 ⟨rfl, rfl⟩
    go_wp2_with fail
    refine (rway_no n l _ ht).mono ?_
    rintro e w11 ⟨rfl, rfl⟩
    go_wp2_with fail
    refine (same_nums none none 0 0 0 0 0 (fun _ => 0) _ (by decide) (fun h => absurd h (by decide)) (fun h => absurd h (by decide))).mono ?_
    rintro e w12 ⟨rfl, hw12⟩
    have HB12 := Lib.hid (HB9.out.trans (below_same hw12))
    clear hw12
    go_wp2_with fail
    go_ret
    exact ⟨rfl, HB12.out⟩
  · obtain ⟨D, m, hD, hn, hl, hm⟩ := (inT_iff n l).1 ht
    have hwy : ∀ W, Calls Try.prog 19 #[.int .i64 n, .int .i64 l] W (WayPost W D m) := fun W => by rw [hn, hl]; exact way_in D _ m W hD rfl hm
    have hry : ∀ W, Calls Try.prog 20 #[.int .i64 n, .int .i64 l] W (WayPost W D m) := fun W => by rw [hn, hl]; exact rway_in D _ m W hD rfl hm
    have HW := Lib.hid hwy
    have HR := Lib.hid hry
    clear hwy hry hn hl ht hm
    refine (HW.out _).mono ?_
    rintro e w10 ⟨g1, c1, rfl, hc1, hi1, hb1⟩
    have HI1 := Lib.hid hi1
    have HB10 := Lib.hid (HB9.out.trans (hb1.mono HB9.out.size))
    clear hi1 hb1
    go_wp2_with fail
    refine (HR.out _).mono ?_
    rintro e w11 ⟨g2, c2, rfl, hc2, hi2, hb2⟩
    have HI2 := Lib.hid (And.intro (HI1.out.below hb2 (Nat.le_refl _)) hi2)
    have HB11 := Lib.hid (HB10.out.trans (hb2.mono HB10.out.size))
    clear hi2 hb2
    go_wp2_with fail
    refine (same_nums _ _ (D + 1) c1 c2 _ _ (fun k => (nd D m k : Int)) _ (by omega) (HI2.out.1.nums (Nat.le_refl _)) (HI2.out.2.nums (Nat.le_refl _))).mono ?_
    rintro e w12 ⟨rfl, hw12⟩
    have HB12 := Lib.hid (HB11.out.trans (below_same hw12))
    clear hw12
    go_wp2_with fail
    go_ret
    exact ⟨rfl, HB12.out⟩
end Go.Proofs.Ytelcgkjaiicaeaa
