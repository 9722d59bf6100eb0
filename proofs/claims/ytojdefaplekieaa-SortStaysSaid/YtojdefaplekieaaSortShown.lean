/- The sixth chapter's example, as the law texts ask it first: it returns true; nothing that was there turns. -/
import Derived.Test.YtojdefaplekieaaLaid
import Derived.Test.YtojdefaplekieaaSortWrong
namespace Go.Proofs.Ytojdefaplekieaa
open Go.RowKit Go.ChangeShapes Go.WideShapes Go.ChangeAt

def zz (j : Nat) : Int := if j = 0 then 5 else 3
/-- What the example makes of a memory. -/
theorem shown_mem : ∃ M0 M1 M2 : MS, laidM 1 2 zz (min 2 2) = M0 ∧ M0.sorted 0 0 (netL 1) = M1 ∧ M1.read 0 0 = M2 ∧ M0.es.length = 2 ∧ M1.es.length = 6 ∧ M2.es.length = 7 ∧ M1.cell 0 0 = cw 3 ∧ M2.cell 0 1 = cw 5 := by
  refine ⟨_, _, _, rfl, rfl, rfl, by decide, by decide, by decide, ?_, ?_⟩
  · have h : (MS.sorted (laidM 1 2 zz (min 2 2)) 0 0 (netL 1)).hit 0 0 = true := by decide
    unfold MS.cell
    rw [if_pos h]
    rfl
  · have h : (MS.read (MS.sorted (laidM 1 2 zz (min 2 2)) 0 0 (netL 1)) 0 0).hit 0 1 = true := by decide
    unfold MS.cell
    rw [if_pos h]
    rfl
set_option maxRecDepth 100000 in
set_option maxHeartbeats 1000000 in
theorem shown_any (w : World) : Calls Try.prog 8 #[] w (Yes w) := by
  obtain ⟨M0, M1, M2, e0, e1, e2, l0, l1, l2, c1, c2⟩ := shown_mem
  have E0 := Lib.hid e0
  have E1 := Lib.hid e1
  have E2 := Lib.hid e2
  have C1 := Lib.hid c1
  have C2 := Lib.hid c2
  have HR : Hid (0 < M0.k ∧ 2 ≤ M0.sz 0 ∧ M0.wd) := by
    show 0 < M0.k ∧ 2 ≤ M0.sz 0 ∧ M0.wd
    rw [← e0]; exact ⟨by decide, by decide, laidM_wd _ _ _ _⟩
  clear e0 e1 e2 c1 c2
  have hz : Nums .u64 (w.alloc (.cells #[.int .u64 5, .int .u64 3] 38)) (w.heap.size + 1) (some ⟨w.heap.size, 0, none⟩) 2 zz := fun _ => ⟨_, 0, rfl, by omega, fun j hj => by
    rw [Nat.zero_add, (Box.new w _ _).cell j]
    match j, hj with
    | 0, _ => rfl
    | 1, _ => rfl⟩
  have HZ := Lib.hid hz
  clear hz
  go_enter Try.func8, Try.ntmps8
  go_wp2_with fail
  refine (laid_any 1 2 _ 2 2 (w.heap.size + 1) zz _ (by decide) (by decide) (by decide) (by decide) HZ.out (by simp)).mono ?_
  rintro e w1 ⟨p, q, rfl, hm, ho⟩
  rw [E0.out] at hm
  have O1 := Lib.hid (hm.left.weak (Y := old w) (fun i (hi : i < w.heap.size) => by show i < _; simp; omega))
  have K1 : Hid (Kept (old w) w w1) := (Kept.alloc (Kept.refl _ w) _).trans (Kept.of_none ho)
  clear hm ho
  go_wp2_with fail
  refine (own_many _ p M0 _ O1.out).mono ?_
  rintro e w' ⟨rfl, rfl⟩
  rw [l0]
  go_wp2_with fail
  refine (run_net _ p M0 0 0 1 _ O1.out (by decide) HR.out.1 HR.out.2.1 (by decide) HR.out.2.2 (by rw [l0]; decide)).mono ?_
  rintro e w2 ⟨rfl, ho, hk⟩
  rw [E1.out] at ho
  have O2 := Lib.hid ho
  have K2 := Lib.hid (K1.out.trans hk)
  clear ho hk O1 K1
  go_wp2_with fail
  refine (own_many _ p M1 _ O2.out).mono ?_
  rintro e w' ⟨rfl, rfl⟩
  rw [l1]
  go_wp2_with fail
  refine (own_read _ p M1 _ 0 0 O2.out (by rw [l1]; decide)).mono ?_
  rw [E2.out, C1.out]
  rintro e w3 ⟨rfl, ho, hk⟩
  have O3 := Lib.hid ho
  have K3 := Lib.hid (K2.out.trans hk)
  clear ho hk O2 K2
  have hq := eql_cell (cw 3) (cw 3)
  rw [ceq_self] at hq
  go_wp2_with fail
  refine (cell_only 3 _).mono ?_
  rintro e w4 ⟨rfl, ho⟩
  have O4 := Lib.hid (O3.out.none ho)
  have K4 := Lib.hid (K3.out.trans (Kept.of_none ho))
  clear ho O3 K3
  go_wp2_with fail
  refine (own_read _ p M2 _ 0 1 O4.out (by rw [l2]; decide)).mono ?_
  rw [C2.out]
  rintro e w5 ⟨rfl, ho, hk⟩
  have K5 := Lib.hid (K4.out.trans hk)
  clear ho hk O4 K4
  have hq := eql_cell (cw 5) (cw 5)
  rw [ceq_self] at hq
  go_wp2_with fail
  refine (cell_only 5 _).mono ?_
  rintro e w6 ⟨rfl, ho⟩
  have K6 := Lib.hid (K5.out.trans (Kept.of_none ho))
  clear ho K5
  go_wp2_with fail
  go_ret
  exact ⟨rfl, K6.out.below (Nat.le_refl _) (fun i hi => hi)⟩
end Go.Proofs.Ytojdefaplekieaa
