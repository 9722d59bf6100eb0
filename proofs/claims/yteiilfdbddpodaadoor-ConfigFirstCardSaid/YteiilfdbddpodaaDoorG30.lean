/- Texts of ours put together: CfSet, CfSl. -/
import Derived.Test.YteiilfdbddpodaaDoorG29
/- What the laws of layer 13 share: set. Nothing that was in memory changes. -/
namespace Go.Proofs.YteiilfdbddpodaaDoor
set_option maxRecDepth 100000
open Go.RowKit Go.ChangeShapes Go.WideShapes Go.ChangeAt

/-- With a field as a number. -/
def setC (c : Cfg) (i n : Int) : Cfg := if i = 0 then { c with A := n } else if i = 1 then { c with B := n } else if i = 2 then { c with K := n } else if i = 3 then { c with P := n } else { c with O := n }
set_option maxRecDepth 100000 in
set_option maxHeartbeats 2000000 in
theorem set_0 (A B K P T S H V O n : Int) (w : World) : Calls Tryd.prog 28 #[.agg #[.int .i64 A, .int .i64 B, .int .i64 K, .int .i64 P, .int .i64 T, .int .i64 S, .int .i64 H, .int .i64 V, .int .i64 O], .int .i64 0, .int .i64 n] w fun e w' => e = .returned (.agg #[.int .i64 n, .int .i64 B, .int .i64 K, .int .i64 P, .int .i64 T, .int .i64 S, .int .i64 H, .int .i64 V, .int .i64 O]) ∧ Below w.heap.size w w' := by
  obtain ⟨p, hp⟩ : ∃ p, w.heap.size = p := ⟨_, rfl⟩
  obtain ⟨w2, hw2⟩ : ∃ w2, ((w.alloc (.cells #[.int .i64 A, .int .i64 B, .int .i64 K, .int .i64 P, .int .i64 T, .int .i64 S, .int .i64 H, .int .i64 V, .int .i64 O] 23)).alloc (.cells #[.int .i64 0, .int .i64 0, .int .i64 0, .int .i64 0, .int .i64 0, .int .i64 0, .int .i64 0, .int .i64 0, .int .i64 0] 23)) = w2 := ⟨_, rfl⟩
  have hx : Box w2 p 23 #[.int .i64 A, .int .i64 B, .int .i64 K, .int .i64 P, .int .i64 T, .int .i64 S, .int .i64 H, .int .i64 V, .int .i64 O] := by rw [← hw2, ← hp]; exact (Box.new w _ _).alloc _
  have hy : Box w2 (p + 1) 23 #[.int .i64 0, .int .i64 0, .int .i64 0, .int .i64 0, .int .i64 0, .int .i64 0, .int .i64 0, .int .i64 0, .int .i64 0] := by
    rw [← hw2, ← hp]
    have := Box.new (w.alloc (.cells #[.int .i64 A, .int .i64 B, .int .i64 K, .int .i64 P, .int .i64 T, .int .i64 S, .int .i64 H, .int .i64 V, .int .i64 O] 23)) 23 #[.int .i64 0, .int .i64 0, .int .i64 0, .int .i64 0, .int .i64 0, .int .i64 0, .int .i64 0, .int .i64 0, .int .i64 0]
    simpa using this
  have HB := Lib.hid (show Below w.heap.size w w2 by rw [← hw2]; exact ((Below.refl _ w).alloc (Nat.le_refl _) _).alloc (by simp) _)
  have HPP := Lib.hid hp
  have HWW := Lib.hid hw2
  have kF := hx.cell 0
  have gF := hx.frozen 0
  obtain ⟨w3, hw3⟩ : ∃ w3, w2.setCell ⟨p, 0, none⟩ (.int .i64 n) = w3 := ⟨_, rfl⟩
  have hx3 : Box w3 p 23 #[.int .i64 n, .int .i64 B, .int .i64 K, .int .i64 P, .int .i64 T, .int .i64 S, .int .i64 H, .int .i64 V, .int .i64 O] := by rw [← hw3]; exact hx.put 0 (.int .i64 n)
  have hy3 : Box w3 (p + 1) 23 #[.int .i64 0, .int .i64 0, .int .i64 0, .int .i64 0, .int .i64 0, .int .i64 0, .int .i64 0, .int .i64 0, .int .i64 0] := by rw [← hw3]; exact hy.far (by simp) _
  have HB3 := Lib.hid (show Below w.heap.size w w3 by rw [← hw3]; exact HB.out.setCell (p := ⟨p, 0, none⟩) (by simp; omega) _)
  have k0 := hx3.cell 0
  have k1 := hx3.cell 1
  have k2 := hx3.cell 2
  have k3 := hx3.cell 3
  have k4 := hx3.cell 4
  have k5 := hx3.cell 5
  have k6 := hx3.cell 6
  have k7 := hx3.cell 7
  have k8 := hx3.cell 8
  have y0 := hy3.cell 0
  have y1 := hy3.cell 1
  have y2 := hy3.cell 2
  have y3 := hy3.cell 3
  have y4 := hy3.cell 4
  have y5 := hy3.cell 5
  have y6 := hy3.cell 6
  have y7 := hy3.cell 7
  have y8 := hy3.cell 8
  have f0 := hy3.frozen 0
  have f1 := hy3.frozen 1
  have f2 := hy3.frozen 2
  have f3 := hy3.frozen 3
  have f4 := hy3.frozen 4
  have f5 := hy3.frozen 5
  have f6 := hy3.frozen 6
  have f7 := hy3.frozen 7
  have f8 := hy3.frozen 8
  have z0 : Box (w3.setCell ⟨p + 1, 0, none⟩ (.int .i64 n)) (p + 1) 23 #[.int .i64 n, .int .i64 0, .int .i64 0, .int .i64 0, .int .i64 0, .int .i64 0, .int .i64 0, .int .i64 0, .int .i64 0] := hy3.put 0 (.int .i64 n)
  have z1 : Box ((w3.setCell ⟨p + 1, 0, none⟩ (.int .i64 n)).setCell ⟨p + 1, 1, none⟩ (.int .i64 B)) (p + 1) 23 #[.int .i64 n, .int .i64 B, .int .i64 0, .int .i64 0, .int .i64 0, .int .i64 0, .int .i64 0, .int .i64 0, .int .i64 0] := z0.put 1 (.int .i64 B)
  have z2 : Box (((w3.setCell ⟨p + 1, 0, none⟩ (.int .i64 n)).setCell ⟨p + 1, 1, none⟩ (.int .i64 B)).setCell ⟨p + 1, 2, none⟩ (.int .i64 K)) (p + 1) 23 #[.int .i64 n, .int .i64 B, .int .i64 K, .int .i64 0, .int .i64 0, .int .i64 0, .int .i64 0, .int .i64 0, .int .i64 0] := z1.put 2 (.int .i64 K)
  have z3 : Box ((((w3.setCell ⟨p + 1, 0, none⟩ (.int .i64 n)).setCell ⟨p + 1, 1, none⟩ (.int .i64 B)).setCell ⟨p + 1, 2, none⟩ (.int .i64 K)).setCell ⟨p + 1, 3, none⟩ (.int .i64 P)) (p + 1) 23 #[.int .i64 n, .int .i64 B, .int .i64 K, .int .i64 P, .int .i64 0, .int .i64 0, .int .i64 0, .int .i64 0, .int .i64 0] := z2.put 3 (.int .i64 P)
  have z4 : Box (((((w3.setCell ⟨p + 1, 0, none⟩ (.int .i64 n)).setCell ⟨p + 1, 1, none⟩ (.int .i64 B)).setCell ⟨p + 1, 2, none⟩ (.int .i64 K)).setCell ⟨p + 1, 3, none⟩ (.int .i64 P)).setCell ⟨p + 1, 4, none⟩ (.int .i64 T)) (p + 1) 23 #[.int .i64 n, .int .i64 B, .int .i64 K, .int .i64 P, .int .i64 T, .int .i64 0, .int .i64 0, .int .i64 0, .int .i64 0] := z3.put 4 (.int .i64 T)
  have z5 : Box ((((((w3.setCell ⟨p + 1, 0, none⟩ (.int .i64 n)).setCell ⟨p + 1, 1, none⟩ (.int .i64 B)).setCell ⟨p + 1, 2, none⟩ (.int .i64 K)).setCell ⟨p + 1, 3, none⟩ (.int .i64 P)).setCell ⟨p + 1, 4, none⟩ (.int .i64 T)).setCell ⟨p + 1, 5, none⟩ (.int .i64 S)) (p + 1) 23 #[.int .i64 n, .int .i64 B, .int .i64 K, .int .i64 P, .int .i64 T, .int .i64 S, .int .i64 0, .int .i64 0, .int .i64 0] := z4.put 5 (.int .i64 S)
  have z6 : Box (((((((w3.setCell ⟨p + 1, 0, none⟩ (.int .i64 n)).setCell ⟨p + 1, 1, none⟩ (.int .i64 B)).setCell ⟨p + 1, 2, none⟩ (.int .i64 K)).setCell ⟨p + 1, 3, none⟩ (.int .i64 P)).setCell ⟨p + 1, 4, none⟩ (.int .i64 T)).setCell ⟨p + 1, 5, none⟩ (.int .i64 S)).setCell ⟨p + 1, 6, none⟩ (.int .i64 H)) (p + 1) 23 #[.int .i64 n, .int .i64 B, .int .i64 K, .int .i64 P, .int .i64 T, .int .i64 S, .int .i64 H, .int .i64 0, .int .i64 0] := z5.put 6 (.int .i64 H)
  have z7 : Box ((((((((w3.setCell ⟨p + 1, 0, none⟩ (.int .i64 n)).setCell ⟨p + 1, 1, none⟩ (.int .i64 B)).setCell ⟨p + 1, 2, none⟩ (.int .i64 K)).setCell ⟨p + 1, 3, none⟩ (.int .i64 P)).setCell ⟨p + 1, 4, none⟩ (.int .i64 T)).setCell ⟨p + 1, 5, none⟩ (.int .i64 S)).setCell ⟨p + 1, 6, none⟩ (.int .i64 H)).setCell ⟨p + 1, 7, none⟩ (.int .i64 V)) (p + 1) 23 #[.int .i64 n, .int .i64 B, .int .i64 K, .int .i64 P, .int .i64 T, .int .i64 S, .int .i64 H, .int .i64 V, .int .i64 0] := z6.put 7 (.int .i64 V)
  have z8 : Box (((((((((w3.setCell ⟨p + 1, 0, none⟩ (.int .i64 n)).setCell ⟨p + 1, 1, none⟩ (.int .i64 B)).setCell ⟨p + 1, 2, none⟩ (.int .i64 K)).setCell ⟨p + 1, 3, none⟩ (.int .i64 P)).setCell ⟨p + 1, 4, none⟩ (.int .i64 T)).setCell ⟨p + 1, 5, none⟩ (.int .i64 S)).setCell ⟨p + 1, 6, none⟩ (.int .i64 H)).setCell ⟨p + 1, 7, none⟩ (.int .i64 V)).setCell ⟨p + 1, 8, none⟩ (.int .i64 O)) (p + 1) 23 #[.int .i64 n, .int .i64 B, .int .i64 K, .int .i64 P, .int .i64 T, .int .i64 S, .int .i64 H, .int .i64 V, .int .i64 O] := z7.put 8 (.int .i64 O)
  have HZ := Lib.hid z8
  clear z0 z1 z2 z3 z4 z5 z6 z7 z8
  have HE := Lib.hid (below_only HB3.out ((((((((((Only.refl (just (p + 1)) w3).setCell (p := ⟨p + 1, 0, none⟩) (.inl (just_self _)) (.int .i64 n)).setCell (p := ⟨p + 1, 1, none⟩) (.inl (just_self _)) (.int .i64 B)).setCell (p := ⟨p + 1, 2, none⟩) (.inl (just_self _)) (.int .i64 K)).setCell (p := ⟨p + 1, 3, none⟩) (.inl (just_self _)) (.int .i64 P)).setCell (p := ⟨p + 1, 4, none⟩) (.inl (just_self _)) (.int .i64 T)).setCell (p := ⟨p + 1, 5, none⟩) (.inl (just_self _)) (.int .i64 S)).setCell (p := ⟨p + 1, 6, none⟩) (.inl (just_self _)) (.int .i64 H)).setCell (p := ⟨p + 1, 7, none⟩) (.inl (just_self _)) (.int .i64 V)).setCell (p := ⟨p + 1, 8, none⟩) (.inl (just_self _)) (.int .i64 O)) HB3.out.size (fun i hi e => by have e : i = p + 1 := e; omega))
  clear hx hy hw2 hx3 hy3
  go_enter Tryd.func28, Tryd.ntmps28
  go_upto_region 1 with fail
  rw [HWW.out]
  go_upto_region 11 with fail
  clear kF gF hw3
  go_wp2_with fail
  exact bodyPost_ret (v := .agg #[.int .i64 n, .int .i64 B, .int .i64 K, .int .i64 P, .int .i64 T, .int .i64 S, .int .i64 H, .int .i64 V, .int .i64 O]) (results_one Tryd.results28 rfl (load_box HZ.out Tryd.underlying23 rfl (by kernel_rfl))) rfl ⟨rfl, HE.out⟩
set_option maxRecDepth 100000 in
set_option maxHeartbeats 2000000 in
theorem set_1 (A B K P T S H V O n : Int) (w : World) : Calls Tryd.prog 28 #[.agg #[.int .i64 A, .int .i64 B, .int .i64 K, .int .i64 P, .int .i64 T, .int .i64 S, .int .i64 H, .int .i64 V, .int .i64 O], .int .i64 1, .int .i64 n] w fun e w' => e = .returned (.agg #[.int .i64 A, .int .i64 n, .int .i64 K, .int .i64 P, .int .i64 T, .int .i64 S, .int .i64 H, .int .i64 V, .int .i64 O]) ∧ Below w.heap.size w w' := by
  obtain ⟨p, hp⟩ : ∃ p, w.heap.size = p := ⟨_, rfl⟩
  obtain ⟨w2, hw2⟩ : ∃ w2, ((w.alloc (.cells #[.int .i64 A, .int .i64 B, .int .i64 K, .int .i64 P, .int .i64 T, .int .i64 S, .int .i64 H, .int .i64 V, .int .i64 O] 23)).alloc (.cells #[.int .i64 0, .int .i64 0, .int .i64 0, .int .i64 0, .int .i64 0, .int .i64 0, .int .i64 0, .int .i64 0, .int .i64 0] 23)) = w2 := ⟨_, rfl⟩
  have hx : Box w2 p 23 #[.int .i64 A, .int .i64 B, .int .i64 K, .int .i64 P, .int .i64 T, .int .i64 S, .int .i64 H, .int .i64 V, .int .i64 O] := by rw [← hw2, ← hp]; exact (Box.new w _ _).alloc _
  have hy : Box w2 (p + 1) 23 #[.int .i64 0, .int .i64 0, .int .i64 0, .int .i64 0, .int .i64 0, .int .i64 0, .int .i64 0, .int .i64 0, .int .i64 0] := by
    rw [← hw2, ← hp]
    have := Box.new (w.alloc (.cells #[.int .i64 A, .int .i64 B, .int .i64 K, .int .i64 P, .int .i64 T, .int .i64 S, .int .i64 H, .int .i64 V, .int .i64 O] 23)) 23 #[.int .i64 0, .int .i64 0, .int .i64 0, .int .i64 0, .int .i64 0, .int .i64 0, .int .i64 0, .int .i64 0, .int .i64 0]
    simpa using this
  have HB := Lib.hid (show Below w.heap.size w w2 by rw [← hw2]; exact ((Below.refl _ w).alloc (Nat.le_refl _) _).alloc (by simp) _)
  have HPP := Lib.hid hp
  have HWW := Lib.hid hw2
  have kF := hx.cell 1
  have gF := hx.frozen 1
  obtain ⟨w3, hw3⟩ : ∃ w3, w2.setCell ⟨p, 1, none⟩ (.int .i64 n) = w3 := ⟨_, rfl⟩
  have hx3 : Box w3 p 23 #[.int .i64 A, .int .i64 n, .int .i64 K, .int .i64 P, .int .i64 T, .int .i64 S, .int .i64 H, .int .i64 V, .int .i64 O] := by rw [← hw3]; exact hx.put 1 (.int .i64 n)
  have hy3 : Box w3 (p + 1) 23 #[.int .i64 0, .int .i64 0, .int .i64 0, .int .i64 0, .int .i64 0, .int .i64 0, .int .i64 0, .int .i64 0, .int .i64 0] := by rw [← hw3]; exact hy.far (by simp) _
  have HB3 := Lib.hid (show Below w.heap.size w w3 by rw [← hw3]; exact HB.out.setCell (p := ⟨p, 1, none⟩) (by simp; omega) _)
  have k0 := hx3.cell 0
  have k1 := hx3.cell 1
  have k2 := hx3.cell 2
  have k3 := hx3.cell 3
  have k4 := hx3.cell 4
  have k5 := hx3.cell 5
  have k6 := hx3.cell 6
  have k7 := hx3.cell 7
  have k8 := hx3.cell 8
  have y0 := hy3.cell 0
  have y1 := hy3.cell 1
  have y2 := hy3.cell 2
  have y3 := hy3.cell 3
  have y4 := hy3.cell 4
  have y5 := hy3.cell 5
  have y6 := hy3.cell 6
  have y7 := hy3.cell 7
  have y8 := hy3.cell 8
  have f0 := hy3.frozen 0
  have f1 := hy3.frozen 1
  have f2 := hy3.frozen 2
  have f3 := hy3.frozen 3
  have f4 := hy3.frozen 4
  have f5 := hy3.frozen 5
  have f6 := hy3.frozen 6
  have f7 := hy3.frozen 7
  have f8 := hy3.frozen 8
  have z0 : Box (w3.setCell ⟨p + 1, 0, none⟩ (.int .i64 A)) (p + 1) 23 #[.int .i64 A, .int .i64 0, .int .i64 0, .int .i64 0, .int .i64 0, .int .i64 0, .int .i64 0, .int .i64 0, .int .i64 0] := hy3.put 0 (.int .i64 A)
  have z1 : Box ((w3.setCell ⟨p + 1, 0, none⟩ (.int .i64 A)).setCell ⟨p + 1, 1, none⟩ (.int .i64 n)) (p + 1) 23 #[.int .i64 A, .int .i64 n, .int .i64 0, .int .i64 0, .int .i64 0, .int .i64 0, .int .i64 0, .int .i64 0, .int .i64 0] := z0.put 1 (.int .i64 n)
  have z2 : Box (((w3.setCell ⟨p + 1, 0, none⟩ (.int .i64 A)).setCell ⟨p + 1, 1, none⟩ (.int .i64 n)).setCell ⟨p + 1, 2, none⟩ (.int .i64 K)) (p + 1) 23 #[.int .i64 A, .int .i64 n, .int .i64 K, .int .i64 0, .int .i64 0, .int .i64 0, .int .i64 0, .int .i64 0, .int .i64 0] := z1.put 2 (.int .i64 K)
  have z3 : Box ((((w3.setCell ⟨p + 1, 0, none⟩ (.int .i64 A)).setCell ⟨p + 1, 1, none⟩ (.int .i64 n)).setCell ⟨p + 1, 2, none⟩ (.int .i64 K)).setCell ⟨p + 1, 3, none⟩ (.int .i64 P)) (p + 1) 23 #[.int .i64 A, .int .i64 n, .int .i64 K, .int .i64 P, .int .i64 0, .int .i64 0, .int .i64 0, .int .i64 0, .int .i64 0] := z2.put 3 (.int .i64 P)
  have z4 : Box (((((w3.setCell ⟨p + 1, 0, none⟩ (.int .i64 A)).setCell ⟨p + 1, 1, none⟩ (.int .i64 n)).setCell ⟨p + 1, 2, none⟩ (.int .i64 K)).setCell ⟨p + 1, 3, none⟩ (.int .i64 P)).setCell ⟨p + 1, 4, none⟩ (.int .i64 T)) (p + 1) 23 #[.int .i64 A, .int .i64 n, .int .i64 K, .int .i64 P, .int .i64 T, .int .i64 0, .int .i64 0, .int .i64 0, .int .i64 0] := z3.put 4 (.int .i64 T)
  have z5 : Box ((((((w3.setCell ⟨p + 1, 0, none⟩ (.int .i64 A)).setCell ⟨p + 1, 1, none⟩ (.int .i64 n)).setCell ⟨p + 1, 2, none⟩ (.int .i64 K)).setCell ⟨p + 1, 3, none⟩ (.int .i64 P)).setCell ⟨p + 1, 4, none⟩ (.int .i64 T)).setCell ⟨p + 1, 5, none⟩ (.int .i64 S)) (p + 1) 23 #[.int .i64 A, .int .i64 n, .int .i64 K, .int .i64 P, .int .i64 T, .int .i64 S, .int .i64 0, .int .i64 0, .int .i64 0] := z4.put 5 (.int .i64 S)
  have z6 : Box (((((((w3.setCell ⟨p + 1, 0, none⟩ (.int .i64 A)).setCell ⟨p + 1, 1, none⟩ (.int .i64 n)).setCell ⟨p + 1, 2, none⟩ (.int .i64 K)).setCell ⟨p + 1, 3, none⟩ (.int .i64 P)).setCell ⟨p + 1, 4, none⟩ (.int .i64 T)).setCell ⟨p + 1, 5, none⟩ (.int .i64 S)).setCell ⟨p + 1, 6, none⟩ (.int .i64 H)) (p + 1) 23 #[.int .i64 A, .int .i64 n, .int .i64 K, .int .i64 P, .int .i64 T, .int .i64 S, .int .i64 H, .int .i64 0, .int .i64 0] := z5.put 6 (.int .i64 H)
  have z7 : Box ((((((((w3.setCell ⟨p + 1, 0, none⟩ (.int .i64 A)).setCell ⟨p + 1, 1, none⟩ (.int .i64 n)).setCell ⟨p + 1, 2, none⟩ (.int .i64 K)).setCell ⟨p + 1, 3, none⟩ (.int .i64 P)).setCell ⟨p + 1, 4, none⟩ (.int .i64 T)).setCell ⟨p + 1, 5, none⟩ (.int .i64 S)).setCell ⟨p + 1, 6, none⟩ (.int .i64 H)).setCell ⟨p + 1, 7, none⟩ (.int .i64 V)) (p + 1) 23 #[.int .i64 A, .int .i64 n, .int .i64 K, .int .i64 P, .int .i64 T, .int .i64 S, .int .i64 H, .int .i64 V, .int .i64 0] := z6.put 7 (.int .i64 V)
  have z8 : Box (((((((((w3.setCell ⟨p + 1, 0, none⟩ (.int .i64 A)).setCell ⟨p + 1, 1, none⟩ (.int .i64 n)).setCell ⟨p + 1, 2, none⟩ (.int .i64 K)).setCell ⟨p + 1, 3, none⟩ (.int .i64 P)).setCell ⟨p + 1, 4, none⟩ (.int .i64 T)).setCell ⟨p + 1, 5, none⟩ (.int .i64 S)).setCell ⟨p + 1, 6, none⟩ (.int .i64 H)).setCell ⟨p + 1, 7, none⟩ (.int .i64 V)).setCell ⟨p + 1, 8, none⟩ (.int .i64 O)) (p + 1) 23 #[.int .i64 A, .int .i64 n, .int .i64 K, .int .i64 P, .int .i64 T, .int .i64 S, .int .i64 H, .int .i64 V, .int .i64 O] := z7.put 8 (.int .i64 O)
  have HZ := Lib.hid z8
  clear z0 z1 z2 z3 z4 z5 z6 z7 z8
  have HE := Lib.hid (below_only HB3.out ((((((((((Only.refl (just (p + 1)) w3).setCell (p := ⟨p + 1, 0, none⟩) (.inl (just_self _)) (.int .i64 A)).setCell (p := ⟨p + 1, 1, none⟩) (.inl (just_self _)) (.int .i64 n)).setCell (p := ⟨p + 1, 2, none⟩) (.inl (just_self _)) (.int .i64 K)).setCell (p := ⟨p + 1, 3, none⟩) (.inl (just_self _)) (.int .i64 P)).setCell (p := ⟨p + 1, 4, none⟩) (.inl (just_self _)) (.int .i64 T)).setCell (p := ⟨p + 1, 5, none⟩) (.inl (just_self _)) (.int .i64 S)).setCell (p := ⟨p + 1, 6, none⟩) (.inl (just_self _)) (.int .i64 H)).setCell (p := ⟨p + 1, 7, none⟩) (.inl (just_self _)) (.int .i64 V)).setCell (p := ⟨p + 1, 8, none⟩) (.inl (just_self _)) (.int .i64 O)) HB3.out.size (fun i hi e => by have e : i = p + 1 := e; omega))
  clear hx hy hw2 hx3 hy3
  go_enter Tryd.func28, Tryd.ntmps28
  go_upto_region 1 with fail
  rw [HWW.out]
  go_upto_region 11 with fail
  clear kF gF hw3
  go_wp2_with fail
  exact bodyPost_ret (v := .agg #[.int .i64 A, .int .i64 n, .int .i64 K, .int .i64 P, .int .i64 T, .int .i64 S, .int .i64 H, .int .i64 V, .int .i64 O]) (results_one Tryd.results28 rfl (load_box HZ.out Tryd.underlying23 rfl (by kernel_rfl))) rfl ⟨rfl, HE.out⟩
set_option maxRecDepth 100000 in
set_option maxHeartbeats 2000000 in
theorem set_2 (A B K P T S H V O n : Int) (w : World) : Calls Tryd.prog 28 #[.agg #[.int .i64 A, .int .i64 B, .int .i64 K, .int .i64 P, .int .i64 T, .int .i64 S, .int .i64 H, .int .i64 V, .int .i64 O], .int .i64 2, .int .i64 n] w fun e w' => e = .returned (.agg #[.int .i64 A, .int .i64 B, .int .i64 n, .int .i64 P, .int .i64 T, .int .i64 S, .int .i64 H, .int .i64 V, .int .i64 O]) ∧ Below w.heap.size w w' := by
  obtain ⟨p, hp⟩ : ∃ p, w.heap.size = p := ⟨_, rfl⟩
  obtain ⟨w2, hw2⟩ : ∃ w2, ((w.alloc (.cells #[.int .i64 A, .int .i64 B, .int .i64 K, .int .i64 P, .int .i64 T, .int .i64 S, .int .i64 H, .int .i64 V, .int .i64 O] 23)).alloc (.cells #[.int .i64 0, .int .i64 0, .int .i64 0, .int .i64 0, .int .i64 0, .int .i64 0, .int .i64 0, .int .i64 0, .int .i64 0] 23)) = w2 := ⟨_, rfl⟩
  have hx : Box w2 p 23 #[.int .i64 A, .int .i64 B, .int .i64 K, .int .i64 P, .int .i64 T, .int .i64 S, .int .i64 H, .int .i64 V, .int .i64 O] := by rw [← hw2, ← hp]; exact (Box.new w _ _).alloc _
  have hy : Box w2 (p + 1) 23 #[.int .i64 0, .int .i64 0, .int .i64 0, .int .i64 0, .int .i64 0, .int .i64 0, .int .i64 0, .int .i64 0, .int .i64 0] := by
    rw [← hw2, ← hp]
    have := Box.new (w.alloc (.cells #[.int .i64 A, .int .i64 B, .int .i64 K, .int .i64 P, .int .i64 T, .int .i64 S, .int .i64 H, .int .i64 V, .int .i64 O] 23)) 23 #[.int .i64 0, .int .i64 0, .int .i64 0, .int .i64 0, .int .i64 0, .int .i64 0, .int .i64 0, .int .i64 0, .int .i64 0]
    simpa using this
  have HB := Lib.hid (show Below w.heap.size w w2 by rw [← hw2]; exact ((Below.refl _ w).alloc (Nat.le_refl _) _).alloc (by simp) _)
  have HPP := Lib.hid hp
  have HWW := Lib.hid hw2
  have kF := hx.cell 2
  have gF := hx.frozen 2
  obtain ⟨w3, hw3⟩ : ∃ w3, w2.setCell ⟨p, 2, none⟩ (.int .i64 n) = w3 := ⟨_, rfl⟩
  have hx3 : Box w3 p 23 #[.int .i64 A, .int .i64 B, .int .i64 n, .int .i64 P, .int .i64 T, .int .i64 S, .int .i64 H, .int .i64 V, .int .i64 O] := by rw [← hw3]; exact hx.put 2 (.int .i64 n)
  have hy3 : Box w3 (p + 1) 23 #[.int .i64 0, .int .i64 0, .int .i64 0, .int .i64 0, .int .i64 0, .int .i64 0, .int .i64 0, .int .i64 0, .int .i64 0] := by rw [← hw3]; exact hy.far (by simp) _
  have HB3 := Lib.hid (show Below w.heap.size w w3 by rw [← hw3]; exact HB.out.setCell (p := ⟨p, 2, none⟩) (by simp; omega) _)
  have k0 := hx3.cell 0
  have k1 := hx3.cell 1
  have k2 := hx3.cell 2
  have k3 := hx3.cell 3
  have k4 := hx3.cell 4
  have k5 := hx3.cell 5
  have k6 := hx3.cell 6
  have k7 := hx3.cell 7
  have k8 := hx3.cell 8
  have y0 := hy3.cell 0
  have y1 := hy3.cell 1
  have y2 := hy3.cell 2
  have y3 := hy3.cell 3
  have y4 := hy3.cell 4
  have y5 := hy3.cell 5
  have y6 := hy3.cell 6
  have y7 := hy3.cell 7
  have y8 := hy3.cell 8
  have f0 := hy3.frozen 0
  have f1 := hy3.frozen 1
  have f2 := hy3.frozen 2
  have f3 := hy3.frozen 3
  have f4 := hy3.frozen 4
  have f5 := hy3.frozen 5
  have f6 := hy3.frozen 6
  have f7 := hy3.frozen 7
  have f8 := hy3.frozen 8
  have z0 : Box (w3.setCell ⟨p + 1, 0, none⟩ (.int .i64 A)) (p + 1) 23 #[.int .i64 A, .int .i64 0, .int .i64 0, .int .i64 0, .int .i64 0, .int .i64 0, .int .i64 0, .int .i64 0, .int .i64 0] := hy3.put 0 (.int .i64 A)
  have z1 : Box ((w3.setCell ⟨p + 1, 0, none⟩ (.int .i64 A)).setCell ⟨p + 1, 1, none⟩ (.int .i64 B)) (p + 1) 23 #[.int .i64 A, .int .i64 B, .int .i64 0, .int .i64 0, .int .i64 0, .int .i64 0, .int .i64 0, .int .i64 0, .int .i64 0] := z0.put 1 (.int .i64 B)
  have z2 : Box (((w3.setCell ⟨p + 1, 0, none⟩ (.int .i64 A)).setCell ⟨p + 1, 1, none⟩ (.int .i64 B)).setCell ⟨p + 1, 2, none⟩ (.int .i64 n)) (p + 1) 23 #[.int .i64 A, .int .i64 B, .int .i64 n, .int .i64 0, .int .i64 0, .int .i64 0, .int .i64 0, .int .i64 0, .int .i64 0] := z1.put 2 (.int .i64 n)
  have z3 : Box ((((w3.setCell ⟨p + 1, 0, none⟩ (.int .i64 A)).setCell ⟨p + 1, 1, none⟩ (.int .i64 B)).setCell ⟨p + 1, 2, none⟩ (.int .i64 n)).setCell ⟨p + 1, 3, none⟩ (.int .i64 P)) (p + 1) 23 #[.int .i64 A, .int .i64 B, .int .i64 n, .int .i64 P, .int .i64 0, .int .i64 0, .int .i64 0, .int .i64 0, .int .i64 0] := z2.put 3 (.int .i64 P)
  have z4 : Box (((((w3.setCell ⟨p + 1, 0, none⟩ (.int .i64 A)).setCell ⟨p + 1, 1, none⟩ (.int .i64 B)).setCell ⟨p + 1, 2, none⟩ (.int .i64 n)).setCell ⟨p + 1, 3, none⟩ (.int .i64 P)).setCell ⟨p + 1, 4, none⟩ (.int .i64 T)) (p + 1) 23 #[.int .i64 A, .int .i64 B, .int .i64 n, .int .i64 P, .int .i64 T, .int .i64 0, .int .i64 0, .int .i64 0, .int .i64 0] := z3.put 4 (.int .i64 T)
  have z5 : Box ((((((w3.setCell ⟨p + 1, 0, none⟩ (.int .i64 A)).setCell ⟨p + 1, 1, none⟩ (.int .i64 B)).setCell ⟨p + 1, 2, none⟩ (.int .i64 n)).setCell ⟨p + 1, 3, none⟩ (.int .i64 P)).setCell ⟨p + 1, 4, none⟩ (.int .i64 T)).setCell ⟨p + 1, 5, none⟩ (.int .i64 S)) (p + 1) 23 #[.int .i64 A, .int .i64 B, .int .i64 n, .int .i64 P, .int .i64 T, .int .i64 S, .int .i64 0, .int .i64 0, .int .i64 0] := z4.put 5 (.int .i64 S)
  have z6 : Box (((((((w3.setCell ⟨p + 1, 0, none⟩ (.int .i64 A)).setCell ⟨p + 1, 1, none⟩ (.int .i64 B)).setCell ⟨p + 1, 2, none⟩ (.int .i64 n)).setCell ⟨p + 1, 3, none⟩ (.int .i64 P)).setCell ⟨p + 1, 4, none⟩ (.int .i64 T)).setCell ⟨p + 1, 5, none⟩ (.int .i64 S)).setCell ⟨p + 1, 6, none⟩ (.int .i64 H)) (p + 1) 23 #[.int .i64 A, .int .i64 B, .int .i64 n, .int .i64 P, .int .i64 T, .int .i64 S, .int .i64 H, .int .i64 0, .int .i64 0] := z5.put 6 (.int .i64 H)
  have z7 : Box ((((((((w3.setCell ⟨p + 1, 0, none⟩ (.int .i64 A)).setCell ⟨p + 1, 1, none⟩ (.int .i64 B)).setCell ⟨p + 1, 2, none⟩ (.int .i64 n)).setCell ⟨p + 1, 3, none⟩ (.int .i64 P)).setCell ⟨p + 1, 4, none⟩ (.int .i64 T)).setCell ⟨p + 1, 5, none⟩ (.int .i64 S)).setCell ⟨p + 1, 6, none⟩ (.int .i64 H)).setCell ⟨p + 1, 7, none⟩ (.int .i64 V)) (p + 1) 23 #[.int .i64 A, .int .i64 B, .int .i64 n, .int .i64 P, .int .i64 T, .int .i64 S, .int .i64 H, .int .i64 V, .int .i64 0] := z6.put 7 (.int .i64 V)
  have z8 : Box (((((((((w3.setCell ⟨p + 1, 0, none⟩ (.int .i64 A)).setCell ⟨p + 1, 1, none⟩ (.int .i64 B)).setCell ⟨p + 1, 2, none⟩ (.int .i64 n)).setCell ⟨p + 1, 3, none⟩ (.int .i64 P)).setCell ⟨p + 1, 4, none⟩ (.int .i64 T)).setCell ⟨p + 1, 5, none⟩ (.int .i64 S)).setCell ⟨p + 1, 6, none⟩ (.int .i64 H)).setCell ⟨p + 1, 7, none⟩ (.int .i64 V)).setCell ⟨p + 1, 8, none⟩ (.int .i64 O)) (p + 1) 23 #[.int .i64 A, .int .i64 B, .int .i64 n, .int .i64 P, .int .i64 T, .int .i64 S, .int .i64 H, .int .i64 V, .int .i64 O] := z7.put 8 (.int .i64 O)
  have HZ := Lib.hid z8
  clear z0 z1 z2 z3 z4 z5 z6 z7 z8
  have HE := Lib.hid (below_only HB3.out ((((((((((Only.refl (just (p + 1)) w3).setCell (p := ⟨p + 1, 0, none⟩) (.inl (just_self _)) (.int .i64 A)).setCell (p := ⟨p + 1, 1, none⟩) (.inl (just_self _)) (.int .i64 B)).setCell (p := ⟨p + 1, 2, none⟩) (.inl (just_self _)) (.int .i64 n)).setCell (p := ⟨p + 1, 3, none⟩) (.inl (just_self _)) (.int .i64 P)).setCell (p := ⟨p + 1, 4, none⟩) (.inl (just_self _)) (.int .i64 T)).setCell (p := ⟨p + 1, 5, none⟩) (.inl (just_self _)) (.int .i64 S)).setCell (p := ⟨p + 1, 6, none⟩) (.inl (just_self _)) (.int .i64 H)).setCell (p := ⟨p + 1, 7, none⟩) (.inl (just_self _)) (.int .i64 V)).setCell (p := ⟨p + 1, 8, none⟩) (.inl (just_self _)) (.int .i64 O)) HB3.out.size (fun i hi e => by have e : i = p + 1 := e; omega))
  clear hx hy hw2 hx3 hy3
  go_enter Tryd.func28, Tryd.ntmps28
  go_upto_region 1 with fail
  rw [HWW.out]
  go_upto_region 11 with fail
  clear kF gF hw3
  go_wp2_with fail
  exact bodyPost_ret (v := .agg #[.int .i64 A, .int .i64 B, .int .i64 n, .int .i64 P, .int .i64 T, .int .i64 S, .int .i64 H, .int .i64 V, .int .i64 O]) (results_one Tryd.results28 rfl (load_box HZ.out Tryd.underlying23 rfl (by kernel_rfl))) rfl ⟨rfl, HE.out⟩
set_option maxRecDepth 100000 in
set_option maxHeartbeats 2000000 in
theorem set_3 (A B K P T S H V O n : Int) (w : World) : Calls Tryd.prog 28 #[.agg #[.int .i64 A, .int .i64 B, .int .i64 K, .int .i64 P, .int .i64 T, .int .i64 S, .int .i64 H, .int .i64 V, .int .i64 O], .int .i64 3, .int .i64 n] w fun e w' => e = .returned (.agg #[.int .i64 A, .int .i64 B, .int .i64 K, .int .i64 n, .int .i64 T, .int .i64 S, .int .i64 H, .int .i64 V, .int .i64 O]) ∧ Below w.heap.size w w' := by
  obtain ⟨p, hp⟩ : ∃ p, w.heap.size = p := ⟨_, rfl⟩
  obtain ⟨w2, hw2⟩ : ∃ w2, ((w.alloc (.cells #[.int .i64 A, .int .i64 B, .int .i64 K, .int .i64 P, .int .i64 T, .int .i64 S, .int .i64 H, .int .i64 V, .int .i64 O] 23)).alloc (.cells #[.int .i64 0, .int .i64 0, .int .i64 0, .int .i64 0, .int .i64 0, .int .i64 0, .int .i64 0, .int .i64 0, .int .i64 0] 23)) = w2 := ⟨_, rfl⟩
  have hx : Box w2 p 23 #[.int .i64 A, .int .i64 B, .int .i64 K, .int .i64 P, .int .i64 T, .int .i64 S, .int .i64 H, .int .i64 V, .int .i64 O] := by rw [← hw2, ← hp]; exact (Box.new w _ _).alloc _
  have hy : Box w2 (p + 1) 23 #[.int .i64 0, .int .i64 0, .int .i64 0, .int .i64 0, .int .i64 0, .int .i64 0, .int .i64 0, .int .i64 0, .int .i64 0] := by
    rw [← hw2, ← hp]
    have := Box.new (w.alloc (.cells #[.int .i64 A, .int .i64 B, .int .i64 K, .int .i64 P, .int .i64 T, .int .i64 S, .int .i64 H, .int .i64 V, .int .i64 O] 23)) 23 #[.int .i64 0, .int .i64 0, .int .i64 0, .int .i64 0, .int .i64 0, .int .i64 0, .int .i64 0, .int .i64 0, .int .i64 0]
    simpa using this
  have HB := Lib.hid (show Below w.heap.size w w2 by rw [← hw2]; exact ((Below.refl _ w).alloc (Nat.le_refl _) _).alloc (by simp) _)
  have HPP := Lib.hid hp
  have HWW := Lib.hid hw2
  have kF := hx.cell 3
  have gF := hx.frozen 3
  obtain ⟨w3, hw3⟩ : ∃ w3, w2.setCell ⟨p, 3, none⟩ (.int .i64 n) = w3 := ⟨_, rfl⟩
  have hx3 : Box w3 p 23 #[.int .i64 A, .int .i64 B, .int .i64 K, .int .i64 n, .int .i64 T, .int .i64 S, .int .i64 H, .int .i64 V, .int .i64 O] := by rw [← hw3]; exact hx.put 3 (.int .i64 n)
  have hy3 : Box w3 (p + 1) 23 #[.int .i64 0, .int .i64 0, .int .i64 0, .int .i64 0, .int .i64 0, .int .i64 0, .int .i64 0, .int .i64 0, .int .i64 0] := by rw [← hw3]; exact hy.far (by simp) _
  have HB3 := Lib.hid (show Below w.heap.size w w3 by rw [← hw3]; exact HB.out.setCell (p := ⟨p, 3, none⟩) (by simp; omega) _)
  have k0 := hx3.cell 0
  have k1 := hx3.cell 1
  have k2 := hx3.cell 2
  have k3 := hx3.cell 3
  have k4 := hx3.cell 4
  have k5 := hx3.cell 5
  have k6 := hx3.cell 6
  have k7 := hx3.cell 7
  have k8 := hx3.cell 8
  have y0 := hy3.cell 0
  have y1 := hy3.cell 1
  have y2 := hy3.cell 2
  have y3 := hy3.cell 3
  have y4 := hy3.cell 4
  have y5 := hy3.cell 5
  have y6 := hy3.cell 6
  have y7 := hy3.cell 7
  have y8 := hy3.cell 8
  have f0 := hy3.frozen 0
  have f1 := hy3.frozen 1
  have f2 := hy3.frozen 2
  have f3 := hy3.frozen 3
  have f4 := hy3.frozen 4
  have f5 := hy3.frozen 5
  have f6 := hy3.frozen 6
  have f7 := hy3.frozen 7
  have f8 := hy3.frozen 8
  have z0 : Box (w3.setCell ⟨p + 1, 0, none⟩ (.int .i64 A)) (p + 1) 23 #[.int .i64 A, .int .i64 0, .int .i64 0, .int .i64 0, .int .i64 0, .int .i64 0, .int .i64 0, .int .i64 0, .int .i64 0] := hy3.put 0 (.int .i64 A)
  have z1 : Box ((w3.setCell ⟨p + 1, 0, none⟩ (.int .i64 A)).setCell ⟨p + 1, 1, none⟩ (.int .i64 B)) (p + 1) 23 #[.int .i64 A, .int .i64 B, .int .i64 0, .int .i64 0, .int .i64 0, .int .i64 0, .int .i64 0, .int .i64 0, .int .i64 0] := z0.put 1 (.int .i64 B)
  have z2 : Box (((w3.setCell ⟨p + 1, 0, none⟩ (.int .i64 A)).setCell ⟨p + 1, 1, none⟩ (.int .i64 B)).setCell ⟨p + 1, 2, none⟩ (.int .i64 K)) (p + 1) 23 #[.int .i64 A, .int .i64 B, .int .i64 K, .int .i64 0, .int .i64 0, .int .i64 0, .int .i64 0, .int .i64 0, .int .i64 0] := z1.put 2 (.int .i64 K)
  have z3 : Box ((((w3.setCell ⟨p + 1, 0, none⟩ (.int .i64 A)).setCell ⟨p + 1, 1, none⟩ (.int .i64 B)).setCell ⟨p + 1, 2, none⟩ (.int .i64 K)).setCell ⟨p + 1, 3, none⟩ (.int .i64 n)) (p + 1) 23 #[.int .i64 A, .int .i64 B, .int .i64 K, .int .i64 n, .int .i64 0, .int .i64 0, .int .i64 0, .int .i64 0, .int .i64 0] := z2.put 3 (.int .i64 n)
  have z4 : Box (((((w3.setCell ⟨p + 1, 0, none⟩ (.int .i64 A)).setCell ⟨p + 1, 1, none⟩ (.int .i64 B)).setCell ⟨p + 1, 2, none⟩ (.int .i64 K)).setCell ⟨p + 1, 3, none⟩ (.int .i64 n)).setCell ⟨p + 1, 4, none⟩ (.int .i64 T)) (p + 1) 23 #[.int .i64 A, .int .i64 B, .int .i64 K, .int .i64 n, .int .i64 T, .int .i64 0, .int .i64 0, .int .i64 0, .int .i64 0] := z3.put 4 (.int .i64 T)
  have z5 : Box ((((((w3.setCell ⟨p + 1, 0, none⟩ (.int .i64 A)).setCell ⟨p + 1, 1, none⟩ (.int .i64 B)).setCell ⟨p + 1, 2, none⟩ (.int .i64 K)).setCell ⟨p + 1, 3, none⟩ (.int .i64 n)).setCell ⟨p + 1, 4, none⟩ (.int .i64 T)).setCell ⟨p + 1, 5, none⟩ (.int .i64 S)) (p + 1) 23 #[.int .i64 A, .int .i64 B, .int .i64 K, .int .i64 n, .int .i64 T, .int .i64 S, .int .i64 0, .int .i64 0, .int .i64 0] := z4.put 5 (.int .i64 S)
  have z6 : Box (((((((w3.setCell ⟨p + 1, 0, none⟩ (.int .i64 A)).setCell ⟨p + 1, 1, none⟩ (.int .i64 B)).setCell ⟨p + 1, 2, none⟩ (.int .i64 K)).setCell ⟨p + 1, 3, none⟩ (.int .i64 n)).setCell ⟨p + 1, 4, none⟩ (.int .i64 T)).setCell ⟨p + 1, 5, none⟩ (.int .i64 S)).setCell ⟨p + 1, 6, none⟩ (.int .i64 H)) (p + 1) 23 #[.int .i64 A, .int .i64 B, .int .i64 K, .int .i64 n, .int .i64 T, .int .i64 S, .int .i64 H, .int .i64 0, .int .i64 0] := z5.put 6 (.int .i64 H)
  have z7 : Box ((((((((w3.setCell ⟨p + 1, 0, none⟩ (.int .i64 A)).setCell ⟨p + 1, 1, none⟩ (.int .i64 B)).setCell ⟨p + 1, 2, none⟩ (.int .i64 K)).setCell ⟨p + 1, 3, none⟩ (.int .i64 n)).setCell ⟨p + 1, 4, none⟩ (.int .i64 T)).setCell ⟨p + 1, 5, none⟩ (.int .i64 S)).setCell ⟨p + 1, 6, none⟩ (.int .i64 H)).setCell ⟨p + 1, 7, none⟩ (.int .i64 V)) (p + 1) 23 #[.int .i64 A, .int .i64 B, .int .i64 K, .int .i64 n, .int .i64 T, .int .i64 S, .int .i64 H, .int .i64 V, .int .i64 0] := z6.put 7 (.int .i64 V)
  have z8 : Box (((((((((w3.setCell ⟨p + 1, 0, none⟩ (.int .i64 A)).setCell ⟨p + 1, 1, none⟩ (.int .i64 B)).setCell ⟨p + 1, 2, none⟩ (.int .i64 K)).setCell ⟨p + 1, 3, none⟩ (.int .i64 n)).setCell ⟨p + 1, 4, none⟩ (.int .i64 T)).setCell ⟨p + 1, 5, none⟩ (.int .i64 S)).setCell ⟨p + 1, 6, none⟩ (.int .i64 H)).setCell ⟨p + 1, 7, none⟩ (.int .i64 V)).setCell ⟨p + 1, 8, none⟩ (.int .i64 O)) (p + 1) 23 #[.int .i64 A, .int .i64 B, .int .i64 K, .int .i64 n, .int .i64 T, .int .i64 S, .int .i64 H, .int .i64 V, .int .i64 O] := z7.put 8 (.int .i64 O)
  have HZ := Lib.hid z8
  clear z0 z1 z2 z3 z4 z5 z6 z7 z8
  have HE := Lib.hid (below_only HB3.out ((((((((((Only.refl (just (p + 1)) w3).setCell (p := ⟨p + 1, 0, none⟩) (.inl (just_self _)) (.int .i64 A)).setCell (p := ⟨p + 1, 1, none⟩) (.inl (just_self _)) (.int .i64 B)).setCell (p := ⟨p + 1, 2, none⟩) (.inl (just_self _)) (.int .i64 K)).setCell (p := ⟨p + 1, 3, none⟩) (.inl (just_self _)) (.int .i64 n)).setCell (p := ⟨p + 1, 4, none⟩) (.inl (just_self _)) (.int .i64 T)).setCell (p := ⟨p + 1, 5, none⟩) (.inl (just_self _)) (.int .i64 S)).setCell (p := ⟨p + 1, 6, none⟩) (.inl (just_self _)) (.int .i64 H)).setCell (p := ⟨p + 1, 7, none⟩) (.inl (just_self _)) (.int .i64 V)).setCell (p := ⟨p + 1, 8, none⟩) (.inl (just_self _)) (.int .i64 O)) HB3.out.size (fun i hi e => by have e : i = p + 1 := e; omega))
  clear hx hy hw2 hx3 hy3
  go_enter Tryd.func28, Tryd.ntmps28
  go_upto_region 1 with fail
  rw [HWW.out]
  go_upto_region 11 with fail
  clear kF gF hw3
  go_wp2_with fail
  exact bodyPost_ret (v := .agg #[.int .i64 A, .int .i64 B, .int .i64 K, .int .i64 n, .int .i64 T, .int .i64 S, .int .i64 H, .int .i64 V, .int .i64 O]) (results_one Tryd.results28 rfl (load_box HZ.out Tryd.underlying23 rfl (by kernel_rfl))) rfl ⟨rfl, HE.out⟩
set_option maxRecDepth 100000 in
set_option maxHeartbeats 2000000 in
theorem set_4 (A B K P T S H V O n : Int) (w : World) : Calls Tryd.prog 28 #[.agg #[.int .i64 A, .int .i64 B, .int .i64 K, .int .i64 P, .int .i64 T, .int .i64 S, .int .i64 H, .int .i64 V, .int .i64 O], .int .i64 4, .int .i64 n] w fun e w' => e = .returned (.agg #[.int .i64 A, .int .i64 B, .int .i64 K, .int .i64 P, .int .i64 T, .int .i64 S, .int .i64 H, .int .i64 V, .int .i64 n]) ∧ Below w.heap.size w w' := by
  obtain ⟨p, hp⟩ : ∃ p, w.heap.size = p := ⟨_, rfl⟩
  obtain ⟨w2, hw2⟩ : ∃ w2, ((w.alloc (.cells #[.int .i64 A, .int .i64 B, .int .i64 K, .int .i64 P, .int .i64 T, .int .i64 S, .int .i64 H, .int .i64 V, .int .i64 O] 23)).alloc (.cells #[.int .i64 0, .int .i64 0, .int .i64 0, .int .i64 0, .int .i64 0, .int .i64 0, .int .i64 0, .int .i64 0, .int .i64 0] 23)) = w2 := ⟨_, rfl⟩
  have hx : Box w2 p 23 #[.int .i64 A, .int .i64 B, .int .i64 K, .int .i64 P, .int .i64 T, .int .i64 S, .int .i64 H, .int .i64 V, .int .i64 O] := by rw [← hw2, ← hp]; exact (Box.new w _ _).alloc _
  have hy : Box w2 (p + 1) 23 #[.int .i64 0, .int .i64 0, .int .i64 0, .int .i64 0, .int .i64 0, .int .i64 0, .int .i64 0, .int .i64 0, .int .i64 0] := by
    rw [← hw2, ← hp]
    have := Box.new (w.alloc (.cells #[.int .i64 A, .int .i64 B, .int .i64 K, .int .i64 P, .int .i64 T, .int .i64 S, .int .i64 H, .int .i64 V, .int .i64 O] 23)) 23 #[.int .i64 0, .int .i64 0, .int .i64 0, .int .i64 0, .int .i64 0, .int .i64 0, .int .i64 0, .int .i64 0, .int .i64 0]
    simpa using this
  have HB := Lib.hid (show Below w.heap.size w w2 by rw [← hw2]; exact ((Below.refl _ w).alloc (Nat.le_refl _) _).alloc (by simp) _)
  have HPP := Lib.hid hp
  have HWW := Lib.hid hw2
  have kF := hx.cell 8
  have gF := hx.frozen 8
  obtain ⟨w3, hw3⟩ : ∃ w3, w2.setCell ⟨p, 8, none⟩ (.int .i64 n) = w3 := ⟨_, rfl⟩
  have hx3 : Box w3 p 23 #[.int .i64 A, .int .i64 B, .int .i64 K, .int .i64 P, .int .i64 T, .int .i64 S, .int .i64 H, .int .i64 V, .int .i64 n] := by rw [← hw3]; exact hx.put 8 (.int .i64 n)
  have hy3 : Box w3 (p + 1) 23 #[.int .i64 0, .int .i64 0, .int .i64 0, .int .i64 0, .int .i64 0, .int .i64 0, .int .i64 0, .int .i64 0, .int .i64 0] := by rw [← hw3]; exact hy.far (by simp) _
  have HB3 := Lib.hid (show Below w.heap.size w w3 by rw [← hw3]; exact HB.out.setCell (p := ⟨p, 8, none⟩) (by simp; omega) _)
  have k0 := hx3.cell 0
  have k1 := hx3.cell 1
  have k2 := hx3.cell 2
  have k3 := hx3.cell 3
  have k4 := hx3.cell 4
  have k5 := hx3.cell 5
  have k6 := hx3.cell 6
  have k7 := hx3.cell 7
  have k8 := hx3.cell 8
  have y0 := hy3.cell 0
  have y1 := hy3.cell 1
  have y2 := hy3.cell 2
  have y3 := hy3.cell 3
  have y4 := hy3.cell 4
  have y5 := hy3.cell 5
  have y6 := hy3.cell 6
  have y7 := hy3.cell 7
  have y8 := hy3.cell 8
  have f0 := hy3.frozen 0
  have f1 := hy3.frozen 1
  have f2 := hy3.frozen 2
  have f3 := hy3.frozen 3
  have f4 := hy3.frozen 4
  have f5 := hy3.frozen 5
  have f6 := hy3.frozen 6
  have f7 := hy3.frozen 7
  have f8 := hy3.frozen 8
  have z0 : Box (w3.setCell ⟨p + 1, 0, none⟩ (.int .i64 A)) (p + 1) 23 #[.int .i64 A, .int .i64 0, .int .i64 0, .int .i64 0, .int .i64 0, .int .i64 0, .int .i64 0, .int .i64 0, .int .i64 0] := hy3.put 0 (.int .i64 A)
  have z1 : Box ((w3.setCell ⟨p + 1, 0, none⟩ (.int .i64 A)).setCell ⟨p + 1, 1, none⟩ (.int .i64 B)) (p + 1) 23 #[.int .i64 A, .int .i64 B, .int .i64 0, .int .i64 0, .int .i64 0, .int .i64 0, .int .i64 0, .int .i64 0, .int .i64 0] := z0.put 1 (.int .i64 B)
  have z2 : Box (((w3.setCell ⟨p + 1, 0, none⟩ (.int .i64 A)).setCell ⟨p + 1, 1, none⟩ (.int .i64 B)).setCell ⟨p + 1, 2, none⟩ (.int .i64 K)) (p + 1) 23 #[.int .i64 A, .int .i64 B, .int .i64 K, .int .i64 0, .int .i64 0, .int .i64 0, .int .i64 0, .int .i64 0, .int .i64 0] := z1.put 2 (.int .i64 K)
  have z3 : Box ((((w3.setCell ⟨p + 1, 0, none⟩ (.int .i64 A)).setCell ⟨p + 1, 1, none⟩ (.int .i64 B)).setCell ⟨p + 1, 2, none⟩ (.int .i64 K)).setCell ⟨p + 1, 3, none⟩ (.int .i64 P)) (p + 1) 23 #[.int .i64 A, .int .i64 B, .int .i64 K, .int .i64 P, .int .i64 0, .int .i64 0, .int .i64 0, .int .i64 0, .int .i64 0] := z2.put 3 (.int .i64 P)
  have z4 : Box (((((w3.setCell ⟨p + 1, 0, none⟩ (.int .i64 A)).setCell ⟨p + 1, 1, none⟩ (.int .i64 B)).setCell ⟨p + 1, 2, none⟩ (.int .i64 K)).setCell ⟨p + 1, 3, none⟩ (.int .i64 P)).setCell ⟨p + 1, 4, none⟩ (.int .i64 T)) (p + 1) 23 #[.int .i64 A, .int .i64 B, .int .i64 K, .int .i64 P, .int .i64 T, .int .i64 0, .int .i64 0, .int .i64 0, .int .i64 0] := z3.put 4 (.int .i64 T)
  have z5 : Box ((((((w3.setCell ⟨p + 1, 0, none⟩ (.int .i64 A)).setCell ⟨p + 1, 1, none⟩ (.int .i64 B)).setCell ⟨p + 1, 2, none⟩ (.int .i64 K)).setCell ⟨p + 1, 3, none⟩ (.int .i64 P)).setCell ⟨p + 1, 4, none⟩ (.int .i64 T)).setCell ⟨p + 1, 5, none⟩ (.int .i64 S)) (p + 1) 23 #[.int .i64 A, .int .i64 B, .int .i64 K, .int .i64 P, .int .i64 T, .int .i64 S, .int .i64 0, .int .i64 0, .int .i64 0] := z4.put 5 (.int .i64 S)
  have z6 : Box (((((((w3.setCell ⟨p + 1, 0, none⟩ (.int .i64 A)).setCell ⟨p + 1, 1, none⟩ (.int .i64 B)).setCell ⟨p + 1, 2, none⟩ (.int .i64 K)).setCell ⟨p + 1, 3, none⟩ (.int .i64 P)).setCell ⟨p + 1, 4, none⟩ (.int .i64 T)).setCell ⟨p + 1, 5, none⟩ (.int .i64 S)).setCell ⟨p + 1, 6, none⟩ (.int .i64 H)) (p + 1) 23 #[.int .i64 A, .int .i64 B, .int .i64 K, .int .i64 P, .int .i64 T, .int .i64 S, .int .i64 H, .int .i64 0, .int .i64 0] := z5.put 6 (.int .i64 H)
  have z7 : Box ((((((((w3.setCell ⟨p + 1, 0, none⟩ (.int .i64 A)).setCell ⟨p + 1, 1, none⟩ (.int .i64 B)).setCell ⟨p + 1, 2, none⟩ (.int .i64 K)).setCell ⟨p + 1, 3, none⟩ (.int .i64 P)).setCell ⟨p + 1, 4, none⟩ (.int .i64 T)).setCell ⟨p + 1, 5, none⟩ (.int .i64 S)).setCell ⟨p + 1, 6, none⟩ (.int .i64 H)).setCell ⟨p + 1, 7, none⟩ (.int .i64 V)) (p + 1) 23 #[.int .i64 A, .int .i64 B, .int .i64 K, .int .i64 P, .int .i64 T, .int .i64 S, .int .i64 H, .int .i64 V, .int .i64 0] := z6.put 7 (.int .i64 V)
  have z8 : Box (((((((((w3.setCell ⟨p + 1, 0, none⟩ (.int .i64 A)).setCell ⟨p + 1, 1, none⟩ (.int .i64 B)).setCell ⟨p + 1, 2, none⟩ (.int .i64 K)).setCell ⟨p + 1, 3, none⟩ (.int .i64 P)).setCell ⟨p + 1, 4, none⟩ (.int .i64 T)).setCell ⟨p + 1, 5, none⟩ (.int .i64 S)).setCell ⟨p + 1, 6, none⟩ (.int .i64 H)).setCell ⟨p + 1, 7, none⟩ (.int .i64 V)).setCell ⟨p + 1, 8, none⟩ (.int .i64 n)) (p + 1) 23 #[.int .i64 A, .int .i64 B, .int .i64 K, .int .i64 P, .int .i64 T, .int .i64 S, .int .i64 H, .int .i64 V, .int .i64 n] := z7.put 8 (.int .i64 n)
  have HZ := Lib.hid z8
  clear z0 z1 z2 z3 z4 z5 z6 z7 z8
  have HE := Lib.hid (below_only HB3.out ((((((((((Only.refl (just (p + 1)) w3).setCell (p := ⟨p + 1, 0, none⟩) (.inl (just_self _)) (.int .i64 A)).setCell (p := ⟨p + 1, 1, none⟩) (.inl (just_self _)) (.int .i64 B)).setCell (p := ⟨p + 1, 2, none⟩) (.inl (just_self _)) (.int .i64 K)).setCell (p := ⟨p + 1, 3, none⟩) (.inl (just_self _)) (.int .i64 P)).setCell (p := ⟨p + 1, 4, none⟩) (.inl (just_self _)) (.int .i64 T)).setCell (p := ⟨p + 1, 5, none⟩) (.inl (just_self _)) (.int .i64 S)).setCell (p := ⟨p + 1, 6, none⟩) (.inl (just_self _)) (.int .i64 H)).setCell (p := ⟨p + 1, 7, none⟩) (.inl (just_self _)) (.int .i64 V)).setCell (p := ⟨p + 1, 8, none⟩) (.inl (just_self _)) (.int .i64 n)) HB3.out.size (fun i hi e => by have e : i = p + 1 := e; omega))
  clear hx hy hw2 hx3 hy3
  go_enter Tryd.func28, Tryd.ntmps28
  go_upto_region 1 with fail
  rw [HWW.out]
  go_upto_region 11 with fail
  clear kF gF hw3
  go_wp2_with fail
  exact bodyPost_ret (v := .agg #[.int .i64 A, .int .i64 B, .int .i64 K, .int .i64 P, .int .i64 T, .int .i64 S, .int .i64 H, .int .i64 V, .int .i64 n]) (results_one Tryd.results28 rfl (load_box HZ.out Tryd.underlying23 rfl (by kernel_rfl))) rfl ⟨rfl, HE.out⟩
end Go.Proofs.YteiilfdbddpodaaDoor

/- Calls that return slices of numbers; the numbers of a right config's sizes and words. -/
namespace Go.Proofs.YteiilfdbddpodaaDoor
set_option maxRecDepth 100000
open Go.RowKit Go.ChangeShapes Go.WideShapes Go.ChangeAt

/-- A call that returns a slice of numbers. -/
def SlPost (w : World) (n : Nat) (z : Nat → Int) (e : Ending) (w' : World) : Prop := ∃ a cap, e = .returned (.slice a n cap) ∧ Nums .i64 w' w'.heap.size a n z ∧ Below w.heap.size w w'
theorem SzPost.sl {w : World} {l : List Int} {e : Ending} {w' : World} (h : SzPost w l e w') : SlPost w l.length (fun j => l.getD j 0) e w' := by
  obtain ⟨v, rfl, hI⟩ := h
  rcases Nat.eq_zero_or_pos l.length with h0 | hl
  · rcases hI.own.2 with ⟨rfl, _⟩ | ⟨g, cap, cur, rfl, _⟩
    · exact ⟨none, 0, by rw [h0], fun hn => absurd hn (by omega), hI.below⟩
    · exact ⟨some ⟨g, 0, none⟩, cap, rfl, fun hn => absurd hn (by omega), hI.below⟩
  · obtain ⟨g, cap, rfl, _, hr⟩ := hI.out hl (fun j => l.getD j 0) (fun j hj => by simp [List.getD_eq_getElem?_getD, hj])
    exact ⟨some ⟨g, 0, none⟩, cap, rfl, hr.nums (Nat.le_refl _), hI.below⟩
/-- Such a slice, new, of at least one number. -/
def SnPost (w : World) (m : Nat) (z : Nat → Int) (e : Ending) (w' : World) : Prop := ∃ g cap, e = .returned (.slice (some ⟨g, 0, none⟩) m cap) ∧ m ≤ cap ∧ Ir w' w.heap.size g m z ∧ Below w.heap.size w w'
theorem SzPost.sn {w : World} {l : List Int} {e : Ending} {w' : World} (h : SzPost w l e w') (hl : 0 < l.length) : SnPost w l.length (fun j => l.getD j 0) e w' := by
  obtain ⟨v, rfl, hI⟩ := h
  obtain ⟨g, cap, rfl, hc, hr⟩ := hI.out hl (fun j => l.getD j 0) (fun j hj => by simp [List.getD_eq_getElem?_getD, hj])
  exact ⟨g, cap, rfl, hc, hr, hI.below⟩
theorem szOf_pos {b s t h : Nat} (s1 : 1 ≤ s) (t1 : 1 ≤ t) : ∀ x ∈ szOf b s t h, 1 ≤ x := by
  intro x hx
  unfold szOf at hx
  have hp : 1 ≤ 2 ^ (b - 2 * h) := Nat.one_le_two_pow
  have hq : 1 ≤ qOf (b - 2 * h) s t := rd_pos _
  have hm : 1 ≤ s * (2 * 2 ^ (b - 2 * h) - 1) := Nat.mul_pos s1 (by omega)
  have hm' := Int.ofNat_le.2 hm
  simp only [List.mem_cons, List.not_mem_nil, or_false] at hx
  rcases hx with rfl | rfl | rfl
  · exact hm'
  · omega
  · exact hq
theorem szL_pos {b s t : Nat} (s1 : 1 ≤ s) (t1 : 1 ≤ t) : ∀ n, ∀ x ∈ szL b s t n, 1 ≤ x
  | 0, x, hx => absurd hx (by simp [szL])
  | n + 1, x, hx => by
    rcases List.mem_append.1 (show x ∈ szL b s t n ++ szOf b s t n from hx) with h | h
    · exact szL_pos s1 t1 n x h
    · exact szOf_pos s1 t1 x h
theorem szI_pos {N S H V : Int} (h : stR N S H V = true) : ∀ x ∈ szI N S H V, 1 ≤ x := by
  obtain ⟨b, s, t, n, hb, rfl, rfl, rfl, rfl, s1, s8, t1, t64, n1, n4⟩ := (stR_iff _ _ _ _).1 h
  rw [szI_yes hb s1 s8 t1 t64 n1 n4]
  intro x hx
  rcases List.mem_cons.1 (show x ∈ ((blN b (n - 1) : Nat) : Int) :: szL b s t n from hx) with rfl | h
  · exact Int.ofNat_le.2 (show 1 ≤ 2 ^ (b - 2 * (n - 1)) from Nat.one_le_two_pow)
  · exact szL_pos s1 t1 n x h
theorem szC_in {c : Cfg} (h : OkC c) : ∀ j, j < (szC c).length → 1 ≤ (szC c).getD j 0 ∧ (szC c).getD j 0 ≤ 4096 := by
  intro j hj
  have e : (szC c).getD j 0 = (szC c)[j] := by simp [List.getD_eq_getElem?_getD, hj]
  rw [e]
  have hm := List.getElem_mem hj
  obtain ⟨x, hx⟩ : ∃ x, (szC c)[j] = x := ⟨_, rfl⟩
  rw [hx] at hm ⊢
  clear hx e
  have hA := h.A
  have hB := h.B
  have hP := h.P
  rcases List.mem_append.1 (show x ∈ [1, c.P, rd (c.A + c.B)] ++ szI (nB c) c.S c.H c.V from hm) with h1 | h1
  · have hr := rd_mid (c.A + c.B) (by omega) (by omega)
    have hr2 := hr.2 (by omega)
    simp only [List.mem_cons, List.not_mem_nil, or_false] at h1
    rcases h1 with rfl | rfl | rfl <;> omega
  · refine ⟨szI_pos h.st x h1, ?_⟩
    have := List.any_eq_false.1 h.sz x h1
    simp only [decide_eq_true_eq] at this
    omega
theorem words_step (k B u v y : Int) (hB : 1 ≤ B) : 4 + ((k + 1) * u + (k + 1) / B * v) * y - (4 + (k * u + k / B * v) * y) = (if (k + 1) % B = 0 then u + v else u) * y := by
  obtain ⟨q, hq⟩ : ∃ q, k / B = q := ⟨_, rfl⟩
  obtain ⟨r, hr⟩ : ∃ r, k % B = r := ⟨_, rfl⟩
  obtain ⟨e, r0, r1⟩ := (Int.ediv_emod_unique (show 0 < B by omega)).1 ⟨hq, hr⟩
  have hu : (k + 1) * u = k * u + u := by rw [Int.add_mul, Int.one_mul]
  by_cases h : r + 1 = B
  · obtain ⟨d, m⟩ := (Int.ediv_emod_unique (a := k + 1) (b := B) (r := 0) (q := q + 1) (by omega)).2 ⟨by rw [Int.mul_add]; omega, by omega, by omega⟩
    rw [d, m, hq, if_pos rfl, hu, show k * u + u + (q + 1) * v = (k * u + q * v) + (u + v) by rw [Int.add_mul, Int.one_mul]; omega, Int.add_mul (k * u + q * v)]
    omega
  · obtain ⟨d, m⟩ := (Int.ediv_emod_unique (a := k + 1) (b := B) (r := r + 1) (q := q) (by omega)).2 ⟨by omega, by omega, by omega⟩
    rw [d, m, hq, if_neg (by omega), hu, show k * u + u + q * v = (k * u + q * v) + u by omega, Int.add_mul (k * u + q * v)]
    omega
theorem cntN_is {k : Int} (h0 : 0 ≤ k) (h1 : k ≤ 1001) : cntN k = k := by unfold cntN; omega
theorem wdC_in {c : Cfg} (h : OkC c) {k : Int} (h0 : 0 ≤ k) (h1 : k ≤ 1001) : 0 ≤ wdC c k ∧ wdC c k ≤ 10000000 := by
  have hA := h.A
  have hB := h.B
  have hK := h.K
  have hV := h.V
  unfold wdC
  rw [cntN_is h0 h1]
  have hq : 0 ≤ k / c.B ∧ k / c.B ≤ 1001 := ⟨Int.ediv_nonneg h0 (by omega), by have := Int.ediv_le_self c.B h0; omega⟩
  have m1 := mul_rng (show 0 ≤ k ∧ k ≤ 1001 from ⟨h0, h1⟩) (show 0 ≤ 2 * c.K + 5 ∧ 2 * c.K + 5 ≤ 37 by omega)
  have m2 := mul_rng hq (show 0 ≤ c.A + 5 * c.B ∧ c.A + 5 * c.B ≤ 144 by omega)
  have m3 := mul_rng (x := k * (2 * c.K + 5) + k / c.B * (c.A + 5 * c.B)) (X := 181181) (show _ by omega) (show 0 ≤ 2 * c.V ∧ 2 * c.V ≤ 8 by omega)
  omega
theorem wdC_step {c : Cfg} (h : OkC c) {k : Int} (h0 : 0 ≤ k) (h1 : k ≤ 1000) : wdC c (k + 1) - wdC c k = (if (k + 1) % c.B = 0 then 2 * c.K + 5 + (c.A + 5 * c.B) else 2 * c.K + 5) * (2 * c.V) := by
  unfold wdC
  rw [cntN_is h0 (by omega), cntN_is (by omega) (by omega)]
  exact words_step k c.B _ _ _ h.B.1
end Go.Proofs.YteiilfdbddpodaaDoor
