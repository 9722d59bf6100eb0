/- The document's Places and ahead. Nothing that was in memory changes. -/
import Derived.Test.YtnpddimepcblkaaDealHelp
namespace Go.Proofs.Ytnpddimepcblkaa
open Go.RowKit Go.ChangeShapes Go.WideShapes Go.ChangeAt

set_option maxHeartbeats 1000000 in
theorem ref_places (D S T L n : Nat) (h1 : D ≤ 10) (h2 : 1 ≤ S) (h3 : S ≤ 8) (h4 : 1 ≤ T) (h5 : T ≤ 64) (hL : (D + 1) * S = L) (hn : L + T + 1 = n) (w : World) :
    Calls Try.prog 7 #[.agg #[.int .i64 (D : Int), .int .i64 (S : Int), .int .i64 (T : Int)]] w fun e w' => e = .returned (.int .i64 (n : Int)) ∧ Below w.heap.size w w' := by
  have hr := isSh_yes h1 h2 h3 h4 h5
  have hl := mul_places h1 h3 hL
  have hmul := hl.1
  have hl2 := hl.2
  clear hL hl
  go_enter Try.func7, Try.ntmps7
  go_wp2_with fail
  refine (ref_right (D : Int) (S : Int) (T : Int) _).mono ?_
  rintro e w1 ⟨rfl, hb1⟩
  rw [hr]
  have hbx := (Box.new w 26 #[.int .i64 (D : Int), .int .i64 (S : Int), .int .i64 (T : Int)]).of (hb1.block _ (by simp))
  have HB := Lib.hid (((Below.refl _ w).alloc (Nat.le_refl _) (.cells #[.int .i64 (D : Int), .int .i64 (S : Int), .int .i64 (T : Int)] 26)).trans (hb1.mono (by simp)))
  have c0 := hbx.cell 0
  have c1 := hbx.cell 1
  have c2 := hbx.cell 2
  clear hb1 hbx hr
  go_wp2_with fail
  go_ret
  exact ⟨ret_int (by omega), HB.out⟩
set_option maxHeartbeats 1000000 in
theorem ref_places_no (D S T : Int) (h : isSh D S T = false) (w : World) :
    Calls Try.prog 7 #[.agg #[.int .i64 D, .int .i64 S, .int .i64 T]] w fun e w' => e = .returned (.int .i64 0) ∧ Below w.heap.size w w' := by
  go_enter Try.func7, Try.ntmps7
  go_wp2_with fail
  refine (ref_right D S T _).mono ?_
  rintro e w1 ⟨rfl, hb1⟩
  rw [h]
  have HB := Lib.hid (((Below.refl _ w).alloc (Nat.le_refl _) (.cells #[.int .i64 D, .int .i64 S, .int .i64 T] 26)).trans (hb1.mono (by simp)))
  clear hb1
  go_wp2_with fail
  go_ret
  exact ⟨rfl, HB.out⟩
/-- Is an item dealt ahead of another one? -/
def ahd (x y : It) : Bool := decide (y.2 < x.2) || (decide (x.2 = y.2) && decide (x.1 < y.1))
set_option maxHeartbeats 1000000 in
theorem ref_ahead (x y : It) (w : World) : Calls Try.prog 23 #[.agg #[.int .u64 x.1, .int .i64 x.2], .agg #[.int .u64 y.1, .int .i64 y.2]] w fun e w' => e = .returned (.bool (ahd x y)) ∧ Below w.heap.size w w' := by
  obtain ⟨x1, x2⟩ := x
  obtain ⟨y1, y2⟩ := y
  unfold ahd
  dsimp only
  by_cases h1 : y2 < x2
  · have e1 : decide (y2 < x2) = true := decide_eq_true h1
    rw [e1]
    go_enter Try.func23, Try.ntmps23
    go_wp2_with fail
    go_ret
    exact ⟨rfl, ((Below.refl _ w).alloc (Nat.le_refl _) _).alloc (by simp) _⟩
  · have e1 : decide (y2 < x2) = false := decide_eq_false h1
    rw [e1]
    by_cases h2 : x2 = y2
    · subst h2
      have e2 : decide (x2 = x2) = true := decide_eq_true rfl
      rw [e2]
      cases h3 : decide (x1 < y1)
      · go_enter Try.func23, Try.ntmps23
        go_wp2_with fail
        go_ret
        exact ⟨rfl, ((Below.refl _ w).alloc (Nat.le_refl _) _).alloc (by simp) _⟩
      · go_enter Try.func23, Try.ntmps23
        go_wp2_with fail
        go_ret
        exact ⟨rfl, ((Below.refl _ w).alloc (Nat.le_refl _) _).alloc (by simp) _⟩
    · have e2 : decide (x2 = y2) = false := decide_eq_false h2
      have e3 : (x2 == y2) = false := by rw [beq_eq_false_iff_ne]; exact h2
      rw [e2]
      go_enter Try.func23, Try.ntmps23
      go_wp2_with fail
      go_ret
      exact ⟨rfl, ((Below.refl _ w).alloc (Nat.le_refl _) _).alloc (by simp) _⟩
end Go.Proofs.Ytnpddimepcblkaa
