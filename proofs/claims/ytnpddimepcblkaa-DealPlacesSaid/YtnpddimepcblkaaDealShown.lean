/- The chapter's example. Of what was in memory nothing changes. -/
import Derived.Test.YtnpddimepcblkaaDealFilled
namespace Go.Proofs.Ytnpddimepcblkaa
open Go.RowKit Go.ChangeShapes Go.WideShapes Go.ChangeAt

def exY (j : Nat) : It := if j = 0 then (1, 1) else if j = 1 then (2, 0) else if j = 2 then (3, 1) else (0, -1)
theorem exOrd : IsOrd exY 4 [0, 2, 1, 3] := by
  refine ⟨by decide, ?_⟩
  simp [bef, dk0, dk1, dk2, exY]
theorem exPlaces : ∀ i, i < 4 → outP (goes exY 1 1 1 [0, 2, 1, 3]) 4 i = if i = 0 then 1 else if i = 1 then 2 else if i = 2 then 0 else 3 := by decide
theorem exLost : lostO exY 1 1 1 [0, 2, 1, 3] = [] := by decide
set_option maxRecDepth 100000 in
set_option maxHeartbeats 1000000 in
theorem shown_any (w : World) : Calls Try.prog 4 #[] w fun e w' => e = .returned (.bool true) ∧ Below w.heap.size w w' := by
  have HD := Lib.hid (fun W c (a : Option Addr) (hI : Its W W.heap.size a 4 exY) => deal_in 1 1 1 2 4 c a exY W (by decide) (by decide) (by decide) (by decide) (by decide) (by decide) (by decide) hI (by decide))
  go_enter Try.func4, Try.ntmps4
  go_wp2_with fail
  have hb : Box (w.alloc (.cells #[.int .u64 1, .int .i64 1, .int .u64 2, .int .i64 0, .int .u64 3, .int .i64 1, .int .u64 0, .int .i64 (-1)] 44)) w.heap.size 44 #[.int .u64 1, .int .i64 1, .int .u64 2, .int .i64 0, .int .u64 3, .int .i64 1, .int .u64 0, .int .i64 (-1)] := Box.new w _ _
  refine (HD.out _ _ _ (fun _ => ⟨w.heap.size, 0, rfl, by simp, fun j hj => ?_⟩)).mono ?_
  · rw [Nat.zero_add, hb.cell, hb.cell]
    match j, hj with
    | 0, _ => exact ⟨rfl, rfl⟩
    | 1, _ => exact ⟨rfl, rfl⟩
    | 2, _ => exact ⟨rfl, rfl⟩
    | 3, _ => exact ⟨rfl, rfl⟩
  rintro e w1 ⟨o, g, A, cap, ho, rfl, hir, hnum, hb1⟩
  obtain rfl := ho.only exOrd
  rw [exLost] at hnum ⊢
  have HB := Lib.hid ((((Below.refl _ w).alloc (Nat.le_refl _) (.cells #[.int .u64 1, .int .i64 1, .int .u64 2, .int .i64 0, .int .u64 3, .int .i64 1, .int .u64 0, .int .i64 (-1)] 44)).trans (hb1.mono (by simp))))
  have HI := Lib.hid hir
  clear hb hb1 hir hnum
  go_wp2_with fail
  have hb2 := Box.new w1 3 #[.int .i64 1, .int .i64 2, .int .i64 0, .int .i64 3]
  refine (same_nums _ _ 4 4 4 _ (w1.heap.size + 1) (fun i => ((if i = 0 then 1 else if i = 1 then 2 else if i = 2 then 0 else 3 : Nat) : Int)) _ (by decide) ((HI.out.alloc _).nums (Nat.le_refl _) |>.congr9 (fun i hi => by rw [exPlaces i hi])) (fun _ => ⟨w1.heap.size, 0, rfl, by omega, fun j hj => ?_⟩)).mono ?_
  · rw [Nat.zero_add, hb2.cell j]
    match j, hj with
    | 0, _ => rfl
    | 1, _ => rfl
    | 2, _ => rfl
    | 3, _ => rfl
  rintro e w2 ⟨rfl, hw2⟩
  have HB2 := Lib.hid ((HB.out.alloc HB.out.size (.cells #[.int .i64 1, .int .i64 2, .int .i64 0, .int .i64 3] 3)).trans (below_same hw2))
  clear hw2 hb2 HI HB
  go_wp2_with fail
  go_ret
  exact ⟨rfl, HB2.out⟩
end Go.Proofs.Ytnpddimepcblkaa
