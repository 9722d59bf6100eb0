/- The laws on policy: two slices of numbers that are the same; the chapter's examples. Of what was in memory nothing changes. -/
import Derived.Test.YtigifbijmchdcaaPolVic
import Derived.BigQuiet
namespace Go.Proofs.Ytigifbijmchdcaa
open Go.RowKit Go.ChangeShapes Go.WideShapes Go.ChangeAt
set_option maxHeartbeats 1000000 in
theorem psame_nums (a b : Option Addr) (n c d B C : Nat) (z : Nat → Int) (w : World) (hn : n ≤ 9223372036854775807) (ha : Nums .i64 w B a n z) (hb : Nums .i64 w C b n z) :
    Calls Try.prog 17 #[.slice a n c, .slice b n d] w fun e w' => e = .returned (.bool true) ∧ ∃ k, w' = w.drewN k := by
  have HA := Lib.hid ha
  have HB := Lib.hid hb
  clear ha hb
  go_enter Try.func17, Try.ntmps17
  go_wp2_with fail
  go_loopw [5] (fun v wr => ∃ i : Nat, v = .int .i64 i ∧ i ≤ n ∧ ∃ k, wr = w.drewN k) (fun v _ => n - (intOf v).toNat)
  case atStart => exact ⟨0, rfl, by omega, 0, rfl⟩
  case round =>
    obtain ⟨i, rfl, hle, hwk⟩ := hrel
    have HW := Lib.hid hwk
    by_cases hlt : i < n
    · obtain ⟨k, hk⟩ := hwk
      obtain ⟨b1, o1, rfl, _, c1⟩ := (show Nums .i64 (w.drewN k) B a n z from HA.out).at hlt
      obtain ⟨b2, o2, rfl, _, c2⟩ := (show Nums .i64 (w.drewN k) C b n z from HB.out).at hlt
      rw [← hk] at c1 c2
      clear hk
      go_wp2_with fail
      go_quiet (fail)
      go_wp2_with fail
      go_roundw
      case rel =>
        obtain ⟨k, hk⟩ := HW.out
        exact ⟨i + 1, by go_num, by omega, k + nq, by rw [hk]; simp [World.drewN, Nat.add_assoc]⟩
      case measure => simp [intOf]; omega
    · clear hwk
      go_wp2_with fail
      go_ret
      exact ⟨rfl, HW.out⟩
theorem Nums.same16 {k : IntKind} {w : World} {B : Nat} {a : Option Addr} {n : Nat} {z z' : Nat → Int} (h : Nums k w B a n z) (e : ∀ j, j < n → z j = z' j) : Nums k w B a n z' := fun hn => by
  obtain ⟨b, off, ea, hb, hc⟩ := h hn
  exact ⟨b, off, ea, hb, fun j hj => by rw [← e j hj]; exact hc j hj⟩
theorem below_drawn {B : Nat} {w w' : World} (h : ∃ k, w' = w.drewN k) : Below B w w' := by
  obtain ⟨k, rfl⟩ := h
  exact below_drewN (Below.refl _ _) k
def exP (j : Nat) : Pi := if j = 0 then (0, 5, false) else if j = 1 then (1, 3, false) else (2, 9, true)
def exQ (j : Nat) : Pi := if j = 0 then (0, 5, false) else if j = 1 then (1, 3, false) else if j = 2 then (2, 9, false) else (3, 4, false)
theorem exP_ranked : ranked (lsP 3 exP) = [(9, 2), (4611686018427387907, 1), (4611686018427387909, 0)] := (ranked_only (by decide) (by decide)).symm
theorem exQ_ranked : ranked (lsP 4 exQ) = [(4611686018427387907, 1), (4611686018427387908, 3), (4611686018427387909, 0), (4611686018427387913, 2)] := (ranked_only (by decide) (by decide)).symm
theorem exP_many : kMany (lsP 3 exP) 2 2 = 1 := by decide
theorem exQ_many : kMany (lsP 4 exQ) 2 2 = 2 := by decide
theorem exP_vic : victims (lsP 3 exP) 2 2 = [2] := by unfold victims; rw [exP_ranked, exP_many]; rfl
theorem exQ_vic : victims (lsP 4 exQ) 2 2 = [1, 3] := by unfold victims; rw [exQ_ranked, exQ_many]; rfl
theorem vic_exP (w : World) (cap : Nat) (a : Option Addr) (ha : a ≠ none) (hP : Pits w w.heap.size a 3 exP) : Calls Try.prog 18 #[.slice a 3 cap, .int .i64 2, .int .i64 2] w fun e w' => ∃ g, e = .returned (.slice (some ⟨g, 0, none⟩) 1 1) ∧ Ir w' w.heap.size g 1 (fun j => [(2 : Int)].getD j 0) ∧ Below w.heap.size w w' := by
  have := victims_any a 3 cap exP 2 2 w (by decide) (fun h => absurd h ha) hP
  unfold VicPost at this
  rw [exP_many, exP_vic] at this
  exact this
theorem vic_exQ (w : World) (cap : Nat) (a : Option Addr) (ha : a ≠ none) (hP : Pits w w.heap.size a 4 exQ) : Calls Try.prog 18 #[.slice a 4 cap, .int .i64 2, .int .i64 2] w fun e w' => ∃ g, e = .returned (.slice (some ⟨g, 0, none⟩) 2 2) ∧ Ir w' w.heap.size g 2 (fun j => [(1 : Int), 3].getD j 0) ∧ Below w.heap.size w w' := by
  have := victims_any a 4 cap exQ 2 2 w (by decide) (fun h => absurd h ha) hP
  unfold VicPost at this
  rw [exQ_many, exQ_vic] at this
  exact this
set_option maxRecDepth 100000 in
set_option maxHeartbeats 1000000 in
theorem pshown_any (w : World) : Calls Try.prog 9 #[] w fun e w' => e = .returned (.bool true) ∧ Below w.heap.size w w' := by
  go_enter Try.func9, Try.ntmps9
  go_wp2_with fail
  have hb := Box.new w 29 #[.int .i64 0, .int .u64 5, .bool false, .int .i64 1, .int .u64 3, .bool false, .int .i64 2, .int .u64 9, .bool true]
  refine (vic_exP _ _ _ (by simp) (fun _ => ⟨w.heap.size, 0, rfl, by simp, fun j hj => ?_⟩)).mono ?_
  · rw [Nat.zero_add, hb.cell, hb.cell, hb.cell]
    match j, hj with
    | 0, _ => exact ⟨rfl, rfl, rfl⟩
    | 1, _ => exact ⟨rfl, rfl, rfl⟩
    | 2, _ => exact ⟨rfl, rfl, rfl⟩
  rintro e w1 ⟨g1, rfl, hir, hb1⟩
  have HB := Lib.hid ((((Below.refl _ w).alloc (Nat.le_refl _) (.cells #[.int .i64 0, .int .u64 5, .bool false, .int .i64 1, .int .u64 3, .bool false, .int .i64 2, .int .u64 9, .bool true] 29)).trans (hb1.mono (by simp))))
  have HI := Lib.hid hir
  clear hb hb1 hir
  go_wp2_with fail
  have hb := Box.new w1 29 #[.int .i64 0, .int .u64 5, .bool false, .int .i64 1, .int .u64 3, .bool false, .int .i64 2, .int .u64 9, .bool false, .int .i64 3, .int .u64 4, .bool false]
  refine (vic_exQ _ _ _ (by simp) (fun _ => ⟨w1.heap.size, 0, rfl, by simp, fun j hj => ?_⟩)).mono ?_
  · rw [Nat.zero_add, hb.cell, hb.cell, hb.cell]
    match j, hj with
    | 0, _ => exact ⟨rfl, rfl, rfl⟩
    | 1, _ => exact ⟨rfl, rfl, rfl⟩
    | 2, _ => exact ⟨rfl, rfl, rfl⟩
    | 3, _ => exact ⟨rfl, rfl, rfl⟩
  rintro e w2 ⟨g2, rfl, hir2, hb2⟩
  have hb3 := ((Below.refl _ w1).alloc (Nat.le_refl _) (.cells #[.int .i64 0, .int .u64 5, .bool false, .int .i64 1, .int .u64 3, .bool false, .int .i64 2, .int .u64 9, .bool false, .int .i64 3, .int .u64 4, .bool false] 29)).trans (hb2.mono (by simp))
  have HB2 := Lib.hid (HB.out.trans (hb3.mono HB.out.size))
  have HI1 := Lib.hid (HI.out.below hb3 (Nat.le_refl _))
  have HI2 := Lib.hid hir2
  clear hb hb2 hb3 hir2 HB HI
  go_wp2_with fail
  have hb := Box.new w2 3 #[.int .i64 2]
  refine (psame_nums _ _ 1 1 1 _ (w2.heap.size + 1) (fun j => [(2 : Int)].getD j 0) _ (by decide) ((HI1.out.alloc _).nums (Nat.le_refl _)) (fun _ => ⟨w2.heap.size, 0, rfl, by omega, fun j hj => ?_⟩)).mono ?_
  · rw [Nat.zero_add, hb.cell j]
    match j, hj with
    | 0, _ => rfl
  rintro e w3 ⟨rfl, hw3⟩
  have hb3 := ((Below.refl _ w2).alloc (Nat.le_refl _) (.cells #[.int .i64 2] 3)).trans (below_drawn hw3)
  have HB3 := Lib.hid (HB2.out.trans (hb3.mono HB2.out.size))
  have HI3 := Lib.hid (HI2.out.below hb3 (Nat.le_refl _))
  clear hb hb3 hw3 HB2 HI1 HI2
  go_wp2_with fail
  have hb := Box.new w3 3 #[.int .i64 1, .int .i64 3]
  refine (psame_nums _ _ 2 2 2 _ (w3.heap.size + 1) (fun j => [(1 : Int), 3].getD j 0) _ (by decide) ((HI3.out.alloc _).nums (Nat.le_refl _)) (fun _ => ⟨w3.heap.size, 0, rfl, by omega, fun j hj => ?_⟩)).mono ?_
  · rw [Nat.zero_add, hb.cell j]
    match j, hj with
    | 0, _ => rfl
    | 1, _ => rfl
  rintro e w4 ⟨rfl, hw4⟩
  have hb3 := ((Below.refl _ w3).alloc (Nat.le_refl _) (.cells #[.int .i64 1, .int .i64 3] 3)).trans (below_drawn hw4)
  have HB4 := Lib.hid (HB3.out.trans (hb3.mono HB3.out.size))
  clear hb hb3 hw4 HB3 HI3
  go_wp2_with fail
  go_ret
  exact ⟨rfl, HB4.out⟩
end Go.Proofs.Ytigifbijmchdcaa
