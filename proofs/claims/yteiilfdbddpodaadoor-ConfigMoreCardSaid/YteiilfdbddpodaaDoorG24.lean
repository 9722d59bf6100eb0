/- Texts of ours put together: CfRefC. -/
import Derived.Test.YteiilfdbddpodaaDoorG23
/- The document's answers on configs: the store's config, Why, Right, and what follows: the same plain words as the program's. Nothing that was in memory changes. Conditions: each number is an int. -/
namespace Go.Proofs.YteiilfdbddpodaaDoor
set_option maxRecDepth 100000
open Go.RowKit Go.ChangeShapes Go.WideShapes Go.ChangeAt

set_option maxRecDepth 100000 in
set_option maxHeartbeats 2000000 in
theorem rstore_any (c : Cfg) (w : World) : Calls Tryd.prog 35 #[.agg c.a] w fun e w' => e = .returned (.agg #[.int .i64 (nB c), .int .i64 c.S, .int .i64 c.H, .int .i64 c.V]) ∧ Below w.heap.size w w' := by
  have hN : nB c = rd (wrap64 (wrap64 (wrap64 (2 * c.T) + c.A) + c.B)) := by
    have e : wrap64 (wrap64 (2 * c.T) + wA c) = wrap64 (wrap64 (wrap64 (2 * c.T) + c.A) + c.B) := by
      unfold wA wrap64
      omega
    unfold nB
    rw [e]
  have HR : Hid (∀ W, Calls Tryd.prog 40 #[.int .i64 (wrap64 (wrap64 (wrap64 (2 * c.T) + c.A) + c.B))] W fun e w' => e = .returned (.int .i64 (nB c)) ∧ w' = W) := Lib.hid (fun W => by rw [hN]; exact rround_any _ W)
  clear hN
  generalize nB c = N at *
  obtain ⟨A, B, K, P, T, S, H, V, O⟩ := c
  simp only [Cfg.a] at *
  obtain ⟨x1, h1⟩ : ∃ x1, wrap64 (2 * T) = x1 := ⟨_, rfl⟩
  obtain ⟨x2, h2⟩ : ∃ x2, wrap64 (x1 + A) = x2 := ⟨_, rfl⟩
  obtain ⟨x3, h3⟩ : ∃ x3, wrap64 (x2 + B) = x3 := ⟨_, rfl⟩
  rw [h1, h2, h3] at HR
  obtain ⟨p, hp⟩ : ∃ p, w.heap.size = p := ⟨_, rfl⟩
  obtain ⟨w2, hw2⟩ : ∃ w2, ((w.alloc (.cells #[.int .i64 A, .int .i64 B, .int .i64 K, .int .i64 P, .int .i64 T, .int .i64 S, .int .i64 H, .int .i64 V, .int .i64 O] 29)).alloc (.cells #[.int .i64 0, .int .i64 0, .int .i64 0, .int .i64 0] 34)) = w2 := ⟨_, rfl⟩
  have hx : Box w2 p 29 #[.int .i64 A, .int .i64 B, .int .i64 K, .int .i64 P, .int .i64 T, .int .i64 S, .int .i64 H, .int .i64 V, .int .i64 O] := by rw [← hw2, ← hp]; exact (Box.new w _ _).alloc _
  have hy : Box w2 (p + 1) 34 #[.int .i64 0, .int .i64 0, .int .i64 0, .int .i64 0] := by
    rw [← hw2, ← hp]
    have := Box.new (w.alloc (.cells #[.int .i64 A, .int .i64 B, .int .i64 K, .int .i64 P, .int .i64 T, .int .i64 S, .int .i64 H, .int .i64 V, .int .i64 O] 29)) 34 #[.int .i64 0, .int .i64 0, .int .i64 0, .int .i64 0]
    simpa using this
  have HB := Lib.hid (show Below w.heap.size w w2 by rw [← hw2]; exact ((Below.refl _ w).alloc (Nat.le_refl _) _).alloc (by simp) _)
  have HX := Lib.hid hx
  have HY := Lib.hid hy
  have HPP := Lib.hid hp
  have HWW := Lib.hid hw2
  have k0 := hx.cell 0
  have k1 := hx.cell 1
  have k2 := hx.cell 2
  have k3 := hx.cell 3
  have k4 := hx.cell 4
  have k5 := hx.cell 5
  have k6 := hx.cell 6
  have k7 := hx.cell 7
  have k8 := hx.cell 8
  clear hx hy hw2
  go_enter Tryd.func35, Tryd.ntmps35
  go_upto_region 1 with fail
  rw [HWW.out]
  have hxx := HX.out
  have hBB := HB.out
  have hyy := HY.out
  clear k0 k1 k2 k3 k4 k5 k6 k7 k8
  refine held_s (S := fun w' => Box w' p 29 #[.int .i64 A, .int .i64 B, .int .i64 K, .int .i64 P, .int .i64 T, .int .i64 S, .int .i64 H, .int .i64 V, .int .i64 O] ∧ Below w.heap.size w w') 18 rfl (by kernel_rfl) ⟨hxx.drewN 1, hBB.trans ((Below.refl _ _).drew)⟩ (fun hHeld => ?_)
  have hyd : Box w2.drew (p + 1) 34 #[.int .i64 0, .int .i64 0, .int .i64 0, .int .i64 0] := hyy.drewN 1
  clear hxx hBB hyy
  simp only [Array.replicate_succ, Array.replicate_zero, List.push_toArray, List.nil_append, List.cons_append]
  generalize w2.drew = w4 at *
  refine wpAnyH_take (i := 0) (oi := ⟨some 3, _, _, _, _, _⟩) (v := (.pointer (some ⟨p, 4, none⟩))) rfl (by kernel_rfl) (by kernel_rfl) (by kernel_rfl) (fun _ _ _ h => h) (Or.inl ⟨by rfl, fun w' hw => by go_simp⟩) hHeld ?_
  try simp only [Act.put, List.setIfInBounds_toArray, List.set_cons_zero, List.set_cons_succ]
  refine wpAnyH_take (i := 1) (oi := ⟨some 4, _, _, _, _, _⟩) (v := (.int .i64 T)) rfl (by kernel_rfl) (by kernel_rfl) (by kernel_rfl) (fun _ _ _ h => h) (Or.inl ⟨by rfl, fun w' hw => by (have k3 := hw.1.cell 4; go_simp)⟩) hHeld ?_
  try simp only [Act.put, List.setIfInBounds_toArray, List.set_cons_zero, List.set_cons_succ]
  refine wpAnyH_take (i := 2) (oi := ⟨some 5, _, _, _, _, _⟩) (v := (.int .i64 x1)) rfl (by kernel_rfl) (by kernel_rfl) (by kernel_rfl) (fun _ _ _ h => h) (Or.inl ⟨by rfl, fun w' hw => by (go_simp; first | rw [h1] | (rw [IntKind.wrap_i64, ← h1]; unfold wrap64; omega))⟩) hHeld ?_
  try simp only [Act.put, List.setIfInBounds_toArray, List.set_cons_zero, List.set_cons_succ]
  refine wpAnyH_take (i := 3) (oi := ⟨some 6, _, _, _, _, _⟩) (v := (.pointer (some ⟨p, 0, none⟩))) rfl (by kernel_rfl) (by kernel_rfl) (by kernel_rfl) (fun _ _ _ h => h) (Or.inl ⟨by rfl, fun w' hw => by go_simp⟩) hHeld ?_
  try simp only [Act.put, List.setIfInBounds_toArray, List.set_cons_zero, List.set_cons_succ]
  refine wpAnyH_take (i := 4) (oi := ⟨some 7, _, _, _, _, _⟩) (v := (.int .i64 A)) rfl (by kernel_rfl) (by kernel_rfl) (by kernel_rfl) (fun _ _ _ h => h) (Or.inl ⟨by rfl, fun w' hw => by (have k3 := hw.1.cell 0; go_simp)⟩) hHeld ?_
  try simp only [Act.put, List.setIfInBounds_toArray, List.set_cons_zero, List.set_cons_succ]
  refine wpAnyH_take (i := 5) (oi := ⟨some 8, _, _, _, _, _⟩) (v := (.int .i64 x2)) rfl (by kernel_rfl) (by kernel_rfl) (by kernel_rfl) (fun _ _ _ h => h) (Or.inl ⟨by rfl, fun w' hw => by (go_simp; first | rw [h2] | (rw [IntKind.wrap_i64, ← h2]; unfold wrap64; omega))⟩) hHeld ?_
  try simp only [Act.put, List.setIfInBounds_toArray, List.set_cons_zero, List.set_cons_succ]
  refine wpAnyH_take (i := 6) (oi := ⟨some 9, _, _, _, _, _⟩) (v := (.pointer (some ⟨p, 1, none⟩))) rfl (by kernel_rfl) (by kernel_rfl) (by kernel_rfl) (fun _ _ _ h => h) (Or.inl ⟨by rfl, fun w' hw => by go_simp⟩) hHeld ?_
  try simp only [Act.put, List.setIfInBounds_toArray, List.set_cons_zero, List.set_cons_succ]
  refine wpAnyH_take (i := 7) (oi := ⟨some 10, _, _, _, _, _⟩) (v := (.int .i64 B)) rfl (by kernel_rfl) (by kernel_rfl) (by kernel_rfl) (fun _ _ _ h => h) (Or.inl ⟨by rfl, fun w' hw => by (have k3 := hw.1.cell 1; go_simp)⟩) hHeld ?_
  try simp only [Act.put, List.setIfInBounds_toArray, List.set_cons_zero, List.set_cons_succ]
  refine wpAnyH_take (i := 8) (oi := ⟨some 11, _, _, _, _, _⟩) (v := (.int .i64 x3)) rfl (by kernel_rfl) (by kernel_rfl) (by kernel_rfl) (fun _ _ _ h => h) (Or.inl ⟨by rfl, fun w' hw => by (go_simp; first | rw [h3] | (rw [IntKind.wrap_i64, ← h3]; unfold wrap64; omega))⟩) hHeld ?_
  try simp only [Act.put, List.setIfInBounds_toArray, List.set_cons_zero, List.set_cons_succ]
  refine wpAnyH_take (i := 10) (oi := ⟨some 13, _, _, _, _, _⟩) (v := (.pointer (some ⟨p, 5, none⟩))) rfl (by kernel_rfl) (by kernel_rfl) (by kernel_rfl) (fun _ _ _ h => h) (Or.inl ⟨by rfl, fun w' hw => by go_simp⟩) hHeld ?_
  try simp only [Act.put, List.setIfInBounds_toArray, List.set_cons_zero, List.set_cons_succ]
  refine wpAnyH_take (i := 11) (oi := ⟨some 14, _, _, _, _, _⟩) (v := (.int .i64 S)) rfl (by kernel_rfl) (by kernel_rfl) (by kernel_rfl) (fun _ _ _ h => h) (Or.inl ⟨by rfl, fun w' hw => by (have k3 := hw.1.cell 5; go_simp)⟩) hHeld ?_
  try simp only [Act.put, List.setIfInBounds_toArray, List.set_cons_zero, List.set_cons_succ]
  refine wpAnyH_take (i := 12) (oi := ⟨some 15, _, _, _, _, _⟩) (v := (.pointer (some ⟨p, 6, none⟩))) rfl (by kernel_rfl) (by kernel_rfl) (by kernel_rfl) (fun _ _ _ h => h) (Or.inl ⟨by rfl, fun w' hw => by go_simp⟩) hHeld ?_
  try simp only [Act.put, List.setIfInBounds_toArray, List.set_cons_zero, List.set_cons_succ]
  refine wpAnyH_take (i := 13) (oi := ⟨some 16, _, _, _, _, _⟩) (v := (.int .i64 H)) rfl (by kernel_rfl) (by kernel_rfl) (by kernel_rfl) (fun _ _ _ h => h) (Or.inl ⟨by rfl, fun w' hw => by (have k3 := hw.1.cell 6; go_simp)⟩) hHeld ?_
  try simp only [Act.put, List.setIfInBounds_toArray, List.set_cons_zero, List.set_cons_succ]
  refine wpAnyH_take (i := 14) (oi := ⟨some 17, _, _, _, _, _⟩) (v := (.pointer (some ⟨p, 7, none⟩))) rfl (by kernel_rfl) (by kernel_rfl) (by kernel_rfl) (fun _ _ _ h => h) (Or.inl ⟨by rfl, fun w' hw => by go_simp⟩) hHeld ?_
  try simp only [Act.put, List.setIfInBounds_toArray, List.set_cons_zero, List.set_cons_succ]
  refine wpAnyH_take (i := 15) (oi := ⟨some 18, _, _, _, _, _⟩) (v := (.int .i64 V)) rfl (by kernel_rfl) (by kernel_rfl) (by kernel_rfl) (fun _ _ _ h => h) (Or.inl ⟨by rfl, fun w' hw => by (have k3 := hw.1.cell 7; go_simp)⟩) hHeld ?_
  try simp only [Act.put, List.setIfInBounds_toArray, List.set_cons_zero, List.set_cons_succ]
  refine one_ready 9 rfl (by kernel_rfl) (fun K9 hK => ?_)
  go_simp
  refine (HR.out _).mono ?_
  rintro e w5 ⟨rfl, rfl⟩
  refine hK.out _ _ hHeld (fun hHeld => ?_)
  clear hK K9
  simp only [List.setIfInBounds_toArray, List.set_cons_zero, List.set_cons_succ]
  refine wpAnyH_take (i := 16) (oi := ⟨some 19, _, _, _, _, _⟩) (v := (.agg #[.int .i64 N, .int .i64 S, .int .i64 H, .int .i64 V])) rfl (by kernel_rfl) (by kernel_rfl) (by kernel_rfl) (fun _ _ _ h => h) (Or.inl ⟨by rfl, fun w' hw => by go_simp⟩) hHeld ?_
  try simp only [Act.put, List.setIfInBounds_toArray, List.set_cons_zero, List.set_cons_succ]
  refine one_ready 17 rfl (by kernel_rfl) (fun K9 hK => ?_)
  have y0 := hyd.cell 0
  have y1 := hyd.cell 1
  have y2 := hyd.cell 2
  have y3 := hyd.cell 3
  have f0 := hyd.frozen 0
  have f1 := hyd.frozen 1
  have f2 := hyd.frozen 2
  have f3 := hyd.frozen 3
  go_simp
  have HZ := Lib.hid ((((hyd.put 0 (.int .i64 N)).put 1 (.int .i64 S)).put 2 (.int .i64 H)).put 3 (.int .i64 V))
  have hE := below_only hHeld.2 (((((Only.refl (just (p + 1)) _).setCell (p := ⟨p + 1, 0, none⟩) (.inl (just_self _)) (.int .i64 N)).setCell (p := ⟨p + 1, 1, none⟩) (.inl (just_self _)) (.int .i64 S)).setCell (p := ⟨p + 1, 2, none⟩) (.inl (just_self _)) (.int .i64 H)).setCell (p := ⟨p + 1, 3, none⟩) (.inl (just_self _)) (.int .i64 V)) hHeld.2.size (fun i hi e => by have e : i = p + 1 := e; have := HPP.out; omega)
  have HE := Lib.hid hE
  refine hK.out _ _ ⟨(((hHeld.1.far (by simp) _).far (by simp) _).far (by simp) _).far (by simp) _, hE⟩ (fun hHeld => ?_)
  clear hK K9 hE hHeld y0 y1 y2 y3 f0 f1 f2 f3 hyd
  refine wpAnyH_done (by kernel_rfl) ?_ _
  go_wp2_with fail
  exact bodyPost_ret (v := .agg #[.int .i64 N, .int .i64 S, .int .i64 H, .int .i64 V]) (results_one Tryd.results35 rfl (load_box HZ.out Tryd.underlying34 rfl (by kernel_rfl))) rfl ⟨rfl, HE.out⟩
/-- A right table's store has a tree of blocks. -/
theorem rd_tree2 (m : Nat) (h1 : 1 < m) (h2 : m ≤ 1024) : ∃ b, b ≤ 10 ∧ rd (m : Int) = ((2 ^ b : Nat) : Int) := by
  have c : ((2 ^ re (m : Int) : Nat) : Int) = rd (m : Int) := by unfold rd; simp
  obtain ⟨a, b⟩ := rd_mid (m : Int) (by omega) (by omega)
  have b := b (by omega)
  rw [← c] at a b
  refine ⟨re (m : Int), ?_, c.symm⟩
  apply Nat.le_of_not_lt
  intro h
  have h2 : 2 ^ 11 ≤ 2 ^ re (m : Int) := Nat.pow_le_pow_right (by decide) h
  omega
theorem nB_tree {c : Cfg} (hA : 1 ≤ c.A ∧ c.A ≤ 64) (hB : 1 ≤ c.B ∧ c.B ≤ 16) (hT : 1 ≤ c.T ∧ c.T ≤ 128) : ∃ b, b ≤ 10 ∧ nB c = ((2 ^ b : Nat) : Int) := by
  have e : wrap64 (wrap64 (2 * c.T) + wA c) = 2 * c.T + c.A + c.B := by
    rw [wA_in hA hB]
    unfold wrap64
    omega
  unfold nB
  rw [e]
  obtain ⟨m, hm⟩ : ∃ m : Nat, 2 * c.T + c.A + c.B = (m : Int) := ⟨(2 * c.T + c.A + c.B).toNat, by omega⟩
  rw [hm]
  exact rd_tree2 m (by omega) (by omega)
/-- What the document's Why answers. -/
def RwPost (w : World) (c : Cfg) (e : Ending) (w' : World) : Prop := ∃ i, Fst c i ∧ e = .returned (.tuple #[.string (nmA i), .int .i64 (ftE c i)]) ∧ Below w.heap.size w w'
set_option maxRecDepth 100000 in
set_option maxHeartbeats 2000000 in
theorem rwhy_0 (c : Cfg) (w : World) (hi : Fst c 0) : Calls Tryd.prog 11 #[.agg c.a] w (RwPost w c) := by
  have HO0 := Lib.hid (fun W => rout_yes (show wtE c.A 1 64 ≠ 0 from hi.bad (by omega)) W)
  have HP : Hid (∀ W, Below w.heap.size w W → RwPost w c (.returned (.tuple #[.string ⟨#[67, 97, 112, 97, 99, 105, 116, 121]⟩, .int .i64 2])) W) := Lib.hid (fun W hb => ⟨0, hi, by rw [show ftE c 0 = 2 from wtE_two (hi.bad (by omega))]; rfl, hb⟩)
  generalize RwPost w c = POST at *
  clear hi
  obtain ⟨A, B, K, P, T, S, H, V, O⟩ := c
  simp only [Cfg.a] at *
  obtain ⟨p, hp⟩ : ∃ p, w.heap.size = p := ⟨_, rfl⟩
  obtain ⟨w2, hw2⟩ : ∃ w2, w.alloc (.cells #[.int .i64 A, .int .i64 B, .int .i64 K, .int .i64 P, .int .i64 T, .int .i64 S, .int .i64 H, .int .i64 V, .int .i64 O] 29) = w2 := ⟨_, rfl⟩
  have hx : Box w2 p 29 #[.int .i64 A, .int .i64 B, .int .i64 K, .int .i64 P, .int .i64 T, .int .i64 S, .int .i64 H, .int .i64 V, .int .i64 O] := by rw [← hw2, ← hp]; exact Box.new w _ _
  have HB := Lib.hid (show Below w.heap.size w w2 by rw [← hw2]; exact (Below.refl _ w).alloc (Nat.le_refl _) _)
  have HX := Lib.hid hx
  have HPP := Lib.hid hp
  have HWW := Lib.hid hw2
  have k0 := hx.cell 0
  have k1 := hx.cell 1
  have k2 := hx.cell 2
  have k3 := hx.cell 3
  have k4 := hx.cell 4
  have k5 := hx.cell 5
  have k6 := hx.cell 6
  have k7 := hx.cell 7
  have k8 := hx.cell 8
  clear hx hp hw2
  have HE := Lib.hid (HP.out _ HB.out)
  go_enter Tryd.func11, Tryd.ntmps11
  go_upto_region 1 with fail
  rw [HPP.out, HWW.out]
  go_wp2_with fail
  refine (HO0.out _).mono ?_
  rintro e w3 ⟨rfl, rfl⟩
  go_wp2_with fail
  exact HE.out
set_option maxRecDepth 100000 in
set_option maxHeartbeats 2000000 in
theorem rwhy_1 (c : Cfg) (w : World) (hi : Fst c 1) : Calls Tryd.prog 11 #[.agg c.a] w (RwPost w c) := by
  have HO0 := Lib.hid (fun W => rout_no (show wtE c.A 1 64 = 0 from hi.ok 0 (by omega)) W)
  have HO1 := Lib.hid (fun W => rout_yes (show wtE c.B 1 16 ≠ 0 from hi.bad (by omega)) W)
  have HP : Hid (∀ W, Below w.heap.size w W → RwPost w c (.returned (.tuple #[.string ⟨#[66, 97, 116, 99, 104]⟩, .int .i64 2])) W) := Lib.hid (fun W hb => ⟨1, hi, by rw [show ftE c 1 = 2 from wtE_two (hi.bad (by omega))]; rfl, hb⟩)
  generalize RwPost w c = POST at *
  clear hi
  obtain ⟨A, B, K, P, T, S, H, V, O⟩ := c
  simp only [Cfg.a] at *
  obtain ⟨p, hp⟩ : ∃ p, w.heap.size = p := ⟨_, rfl⟩
  obtain ⟨w2, hw2⟩ : ∃ w2, w.alloc (.cells #[.int .i64 A, .int .i64 B, .int .i64 K, .int .i64 P, .int .i64 T, .int .i64 S, .int .i64 H, .int .i64 V, .int .i64 O] 29) = w2 := ⟨_, rfl⟩
  have hx : Box w2 p 29 #[.int .i64 A, .int .i64 B, .int .i64 K, .int .i64 P, .int .i64 T, .int .i64 S, .int .i64 H, .int .i64 V, .int .i64 O] := by rw [← hw2, ← hp]; exact Box.new w _ _
  have HB := Lib.hid (show Below w.heap.size w w2 by rw [← hw2]; exact (Below.refl _ w).alloc (Nat.le_refl _) _)
  have HX := Lib.hid hx
  have HPP := Lib.hid hp
  have HWW := Lib.hid hw2
  have k0 := hx.cell 0
  have k1 := hx.cell 1
  have k2 := hx.cell 2
  have k3 := hx.cell 3
  have k4 := hx.cell 4
  have k5 := hx.cell 5
  have k6 := hx.cell 6
  have k7 := hx.cell 7
  have k8 := hx.cell 8
  clear hx hp hw2
  have HE := Lib.hid (HP.out _ HB.out)
  go_enter Tryd.func11, Tryd.ntmps11
  go_upto_region 1 with fail
  rw [HPP.out, HWW.out]
  go_wp2_with fail
  refine (HO0.out _).mono ?_
  rintro e w3 ⟨rfl, rfl⟩
  go_wp2_with fail
  refine (HO1.out _).mono ?_
  rintro e w3 ⟨rfl, rfl⟩
  go_wp2_with fail
  exact HE.out
set_option maxRecDepth 100000 in
set_option maxHeartbeats 2000000 in
theorem rwhy_2 (c : Cfg) (w : World) (hi : Fst c 2) : Calls Tryd.prog 11 #[.agg c.a] w (RwPost w c) := by
  have HO0 := Lib.hid (fun W => rout_no (show wtE c.A 1 64 = 0 from hi.ok 0 (by omega)) W)
  have HO1 := Lib.hid (fun W => rout_no (show wtE c.B 1 16 = 0 from hi.ok 1 (by omega)) W)
  have HO2 := Lib.hid (fun W => rout_yes (show wtE c.K 1 16 ≠ 0 from hi.bad (by omega)) W)
  have HP : Hid (∀ W, Below w.heap.size w W → RwPost w c (.returned (.tuple #[.string ⟨#[75, 105, 99, 107, 115]⟩, .int .i64 2])) W) := Lib.hid (fun W hb => ⟨2, hi, by rw [show ftE c 2 = 2 from wtE_two (hi.bad (by omega))]; rfl, hb⟩)
  generalize RwPost w c = POST at *
  clear hi
  obtain ⟨A, B, K, P, T, S, H, V, O⟩ := c
  simp only [Cfg.a] at *
  obtain ⟨p, hp⟩ : ∃ p, w.heap.size = p := ⟨_, rfl⟩
  obtain ⟨w2, hw2⟩ : ∃ w2, w.alloc (.cells #[.int .i64 A, .int .i64 B, .int .i64 K, .int .i64 P, .int .i64 T, .int .i64 S, .int .i64 H, .int .i64 V, .int .i64 O] 29) = w2 := ⟨_, rfl⟩
  have hx : Box w2 p 29 #[.int .i64 A, .int .i64 B, .int .i64 K, .int .i64 P, .int .i64 T, .int .i64 S, .int .i64 H, .int .i64 V, .int .i64 O] := by rw [← hw2, ← hp]; exact Box.new w _ _
  have HB := Lib.hid (show Below w.heap.size w w2 by rw [← hw2]; exact (Below.refl _ w).alloc (Nat.le_refl _) _)
  have HX := Lib.hid hx
  have HPP := Lib.hid hp
  have HWW := Lib.hid hw2
  have k0 := hx.cell 0
  have k1 := hx.cell 1
  have k2 := hx.cell 2
  have k3 := hx.cell 3
  have k4 := hx.cell 4
  have k5 := hx.cell 5
  have k6 := hx.cell 6
  have k7 := hx.cell 7
  have k8 := hx.cell 8
  clear hx hp hw2
  have HE := Lib.hid (HP.out _ HB.out)
  go_enter Tryd.func11, Tryd.ntmps11
  go_upto_region 1 with fail
  rw [HPP.out, HWW.out]
  go_wp2_with fail
  refine (HO0.out _).mono ?_
  rintro e w3 ⟨rfl, rfl⟩
  go_wp2_with fail
  refine (HO1.out _).mono ?_
  rintro e w3 ⟨rfl, rfl⟩
  go_wp2_with fail
  refine (HO2.out _).mono ?_
  rintro e w3 ⟨rfl, rfl⟩
  go_wp2_with fail
  exact HE.out
set_option maxRecDepth 100000 in
set_option maxHeartbeats 2000000 in
theorem rwhy_3 (c : Cfg) (w : World) (hi : Fst c 3) : Calls Tryd.prog 11 #[.agg c.a] w (RwPost w c) := by
  have HO0 := Lib.hid (fun W => rout_no (show wtE c.A 1 64 = 0 from hi.ok 0 (by omega)) W)
  have HO1 := Lib.hid (fun W => rout_no (show wtE c.B 1 16 = 0 from hi.ok 1 (by omega)) W)
  have HO2 := Lib.hid (fun W => rout_no (show wtE c.K 1 16 = 0 from hi.ok 2 (by omega)) W)
  have HO3 := Lib.hid (fun W => rout_yes (show wtE c.P 1 32 ≠ 0 from hi.bad (by omega)) W)
  have HP : Hid (∀ W, Below w.heap.size w W → RwPost w c (.returned (.tuple #[.string ⟨#[83, 112, 105, 108, 108]⟩, .int .i64 2])) W) := Lib.hid (fun W hb => ⟨3, hi, by rw [show ftE c 3 = 2 from wtE_two (hi.bad (by omega))]; rfl, hb⟩)
  generalize RwPost w c = POST at *
  clear hi
  obtain ⟨A, B, K, P, T, S, H, V, O⟩ := c
  simp only [Cfg.a] at *
  obtain ⟨p, hp⟩ : ∃ p, w.heap.size = p := ⟨_, rfl⟩
  obtain ⟨w2, hw2⟩ : ∃ w2, w.alloc (.cells #[.int .i64 A, .int .i64 B, .int .i64 K, .int .i64 P, .int .i64 T, .int .i64 S, .int .i64 H, .int .i64 V, .int .i64 O] 29) = w2 := ⟨_, rfl⟩
  have hx : Box w2 p 29 #[.int .i64 A, .int .i64 B, .int .i64 K, .int .i64 P, .int .i64 T, .int .i64 S, .int .i64 H, .int .i64 V, .int .i64 O] := by rw [← hw2, ← hp]; exact Box.new w _ _
  have HB := Lib.hid (show Below w.heap.size w w2 by rw [← hw2]; exact (Below.refl _ w).alloc (Nat.le_refl _) _)
  have HX := Lib.hid hx
  have HPP := Lib.hid hp
  have HWW := Lib.hid hw2
  have k0 := hx.cell 0
  have k1 := hx.cell 1
  have k2 := hx.cell 2
  have k3 := hx.cell 3
  have k4 := hx.cell 4
  have k5 := hx.cell 5
  have k6 := hx.cell 6
  have k7 := hx.cell 7
  have k8 := hx.cell 8
  clear hx hp hw2
  have HE := Lib.hid (HP.out _ HB.out)
  go_enter Tryd.func11, Tryd.ntmps11
  go_upto_region 1 with fail
  rw [HPP.out, HWW.out]
  go_wp2_with fail
  refine (HO0.out _).mono ?_
  rintro e w3 ⟨rfl, rfl⟩
  go_wp2_with fail
  refine (HO1.out _).mono ?_
  rintro e w3 ⟨rfl, rfl⟩
  go_wp2_with fail
  refine (HO2.out _).mono ?_
  rintro e w3 ⟨rfl, rfl⟩
  go_wp2_with fail
  refine (HO3.out _).mono ?_
  rintro e w3 ⟨rfl, rfl⟩
  go_wp2_with fail
  exact HE.out
set_option maxRecDepth 100000 in
set_option maxHeartbeats 2000000 in
theorem rwhy_4 (c : Cfg) (w : World) (hi : Fst c 4) : Calls Tryd.prog 11 #[.agg c.a] w (RwPost w c) := by
  have HO0 := Lib.hid (fun W => rout_no (show wtE c.A 1 64 = 0 from hi.ok 0 (by omega)) W)
  have HO1 := Lib.hid (fun W => rout_no (show wtE c.B 1 16 = 0 from hi.ok 1 (by omega)) W)
  have HO2 := Lib.hid (fun W => rout_no (show wtE c.K 1 16 = 0 from hi.ok 2 (by omega)) W)
  have HO3 := Lib.hid (fun W => rout_no (show wtE c.P 1 32 = 0 from hi.ok 3 (by omega)) W)
  have HO4 := Lib.hid (fun W => rout_yes (show wtE c.O 0 2 ≠ 0 from hi.bad (by omega)) W)
  have HP : Hid (∀ W, Below w.heap.size w W → RwPost w c (.returned (.tuple #[.string ⟨#[80, 111, 108, 105, 99, 121]⟩, .int .i64 2])) W) := Lib.hid (fun W hb => ⟨4, hi, by rw [show ftE c 4 = 2 from wtE_two (hi.bad (by omega))]; rfl, hb⟩)
  generalize RwPost w c = POST at *
  clear hi
  obtain ⟨A, B, K, P, T, S, H, V, O⟩ := c
  simp only [Cfg.a] at *
  obtain ⟨p, hp⟩ : ∃ p, w.heap.size = p := ⟨_, rfl⟩
  obtain ⟨w2, hw2⟩ : ∃ w2, w.alloc (.cells #[.int .i64 A, .int .i64 B, .int .i64 K, .int .i64 P, .int .i64 T, .int .i64 S, .int .i64 H, .int .i64 V, .int .i64 O] 29) = w2 := ⟨_, rfl⟩
  have hx : Box w2 p 29 #[.int .i64 A, .int .i64 B, .int .i64 K, .int .i64 P, .int .i64 T, .int .i64 S, .int .i64 H, .int .i64 V, .int .i64 O] := by rw [← hw2, ← hp]; exact Box.new w _ _
  have HB := Lib.hid (show Below w.heap.size w w2 by rw [← hw2]; exact (Below.refl _ w).alloc (Nat.le_refl _) _)
  have HX := Lib.hid hx
  have HPP := Lib.hid hp
  have HWW := Lib.hid hw2
  have k0 := hx.cell 0
  have k1 := hx.cell 1
  have k2 := hx.cell 2
  have k3 := hx.cell 3
  have k4 := hx.cell 4
  have k5 := hx.cell 5
  have k6 := hx.cell 6
  have k7 := hx.cell 7
  have k8 := hx.cell 8
  clear hx hp hw2
  have HE := Lib.hid (HP.out _ HB.out)
  go_enter Tryd.func11, Tryd.ntmps11
  go_upto_region 1 with fail
  rw [HPP.out, HWW.out]
  go_wp2_with fail
  refine (HO0.out _).mono ?_
  rintro e w3 ⟨rfl, rfl⟩
  go_wp2_with fail
  refine (HO1.out _).mono ?_
  rintro e w3 ⟨rfl, rfl⟩
  go_wp2_with fail
  refine (HO2.out _).mono ?_
  rintro e w3 ⟨rfl, rfl⟩
  go_wp2_with fail
  refine (HO3.out _).mono ?_
  rintro e w3 ⟨rfl, rfl⟩
  go_wp2_with fail
  refine (HO4.out _).mono ?_
  rintro e w3 ⟨rfl, rfl⟩
  go_wp2_with fail
  exact HE.out
set_option maxRecDepth 100000 in
set_option maxHeartbeats 2000000 in
theorem rwhy_5 (c : Cfg) (w : World) (hi : Fst c 5) : Calls Tryd.prog 11 #[.agg c.a] w (RwPost w c) := by
  have HO0 := Lib.hid (fun W => rout_no (show wtE c.A 1 64 = 0 from hi.ok 0 (by omega)) W)
  have HO1 := Lib.hid (fun W => rout_no (show wtE c.B 1 16 = 0 from hi.ok 1 (by omega)) W)
  have HO2 := Lib.hid (fun W => rout_no (show wtE c.K 1 16 = 0 from hi.ok 2 (by omega)) W)
  have HO3 := Lib.hid (fun W => rout_no (show wtE c.P 1 32 = 0 from hi.ok 3 (by omega)) W)
  have HO4 := Lib.hid (fun W => rout_no (show wtE c.O 0 2 = 0 from hi.ok 4 (by omega)) W)
  have HT := Lib.hid (fun W => rtable_any c W)
  have hE : tbE c ≠ 0 := hi.bad (by omega)
  have HP : Hid (∀ W, Below w.heap.size w W → RwPost w c (.returned (.tuple #[.string ⟨#[84, 97, 98, 108, 101]⟩, .int .i64 (tbE c)])) W) := Lib.hid (fun W hb => ⟨5, hi, rfl, hb⟩)
  generalize RwPost w c = POST at *
  generalize tbE c = E at *
  clear hi
  obtain ⟨A, B, K, P, T, S, H, V, O⟩ := c
  simp only [Cfg.a] at *
  obtain ⟨p, hp⟩ : ∃ p, w.heap.size = p := ⟨_, rfl⟩
  obtain ⟨w2, hw2⟩ : ∃ w2, w.alloc (.cells #[.int .i64 A, .int .i64 B, .int .i64 K, .int .i64 P, .int .i64 T, .int .i64 S, .int .i64 H, .int .i64 V, .int .i64 O] 29) = w2 := ⟨_, rfl⟩
  have hx : Box w2 p 29 #[.int .i64 A, .int .i64 B, .int .i64 K, .int .i64 P, .int .i64 T, .int .i64 S, .int .i64 H, .int .i64 V, .int .i64 O] := by rw [← hw2, ← hp]; exact Box.new w _ _
  have HB := Lib.hid (show Below w.heap.size w w2 by rw [← hw2]; exact (Below.refl _ w).alloc (Nat.le_refl _) _)
  have HX := Lib.hid hx
  have HPP := Lib.hid hp
  have HWW := Lib.hid hw2
  have k0 := hx.cell 0
  have k1 := hx.cell 1
  have k2 := hx.cell 2
  have k3 := hx.cell 3
  have k4 := hx.cell 4
  have k5 := hx.cell 5
  have k6 := hx.cell 6
  have k7 := hx.cell 7
  have k8 := hx.cell 8
  clear hx hp hw2
  go_enter Tryd.func11, Tryd.ntmps11
  go_upto_region 1 with fail
  rw [HPP.out, HWW.out]
  go_wp2_with fail
  refine (HO0.out _).mono ?_
  rintro e w3 ⟨rfl, rfl⟩
  go_wp2_with fail
  refine (HO1.out _).mono ?_
  rintro e w3 ⟨rfl, rfl⟩
  go_wp2_with fail
  refine (HO2.out _).mono ?_
  rintro e w3 ⟨rfl, rfl⟩
  go_wp2_with fail
  refine (HO3.out _).mono ?_
  rintro e w3 ⟨rfl, rfl⟩
  go_wp2_with fail
  refine (HO4.out _).mono ?_
  rintro e w3 ⟨rfl, rfl⟩
  go_wp2_with fail
  refine (HT.out _).mono ?_
  rintro e w4 ⟨rfl, hb4⟩
  have HE := Lib.hid (HP.out _ (HB.out.trans (hb4.mono HB.out.size)))
  clear hb4
  go_wp2_with fail
  exact HE.out
set_option maxRecDepth 100000 in
set_option maxHeartbeats 2000000 in
theorem rwhy_6 (c : Cfg) (w : World) (hi : ∀ j, j < 6 → ftE c j = 0) : Calls Tryd.prog 11 #[.agg c.a] w (RwPost w c) := by
  have HO0 := Lib.hid (fun W => rout_no (show wtE c.A 1 64 = 0 from hi 0 (by omega)) W)
  have HO1 := Lib.hid (fun W => rout_no (show wtE c.B 1 16 = 0 from hi 1 (by omega)) W)
  have HO2 := Lib.hid (fun W => rout_no (show wtE c.K 1 16 = 0 from hi 2 (by omega)) W)
  have HO3 := Lib.hid (fun W => rout_no (show wtE c.P 1 32 = 0 from hi 3 (by omega)) W)
  have HO4 := Lib.hid (fun W => rout_no (show wtE c.O 0 2 = 0 from hi 4 (by omega)) W)
  have h5 : tbE c = 0 := hi 5 (by omega)
  have HT := Lib.hid (fun W => rtable_any c W)
  rw [h5] at HT
  have hT : 1 ≤ c.T ∧ c.T ≤ 128 := by
    unfold tbE at h5
    by_cases a : wtE c.T 1 128 ≠ 0
    · rw [if_pos a] at h5; exact absurd h5 a
    · exact wtE_zero.1 (Decidable.not_not.1 a)
  obtain ⟨b, hb, hN⟩ := nB_tree (wtE_zero.1 (hi 0 (by omega))) (wtE_zero.1 (hi 1 (by omega))) hT
  have HS := Lib.hid (fun W => rstore_any c W)
  have HR := Lib.hid (fun W => rsright_any b c.S c.H c.V W hb)
  have HZ := Lib.hid (fun (h : stR ((2 ^ b : Nat) : Int) c.S c.H c.V = true) W => rssizes_any b c.S c.H c.V W hb h)
  have HL : Hid (stR ((2 ^ b : Nat) : Int) c.S c.H c.V = true → 0 < (szI ((2 ^ b : Nat) : Int) c.S c.H c.V).length ∧ (szI ((2 ^ b : Nat) : Int) c.S c.H c.V).length ≤ 13) := Lib.hid (fun h => by have := szI_len h; omega)
  have hE : lvE c = if stR (nB c) c.S c.H c.V = true ∧ bigL (szI (nB c) c.S c.H c.V) = false then 0 else 1 := rfl
  have HP1 : Hid (lvE c = 1 → ∀ W, Below w.heap.size w W → RwPost w c (.returned (.tuple #[.string ⟨#[76, 101, 118, 101, 108, 115]⟩, .int .i64 1])) W) := Lib.hid (fun e W hb => ⟨6, ⟨by omega, hi, fun _ => by show lvE c ≠ 0; omega⟩, by rw [show ftE c 6 = 1 from e]; rfl, hb⟩)
  have HP0 : Hid (lvE c = 0 → ∀ W, Below w.heap.size w W → RwPost w c (.returned (.tuple #[.string ⟨#[]⟩, .int .i64 0])) W) := Lib.hid (fun e W hb => ⟨7, ⟨by omega, fun j hj => (by by_cases h : j = 6; (· subst h; exact e); (· exact hi j (by omega))), fun h => absurd h (by omega)⟩, rfl, hb⟩)
  rw [hN] at HS hE
  generalize RwPost w c = POST at *
  generalize lvE c = E at *
  clear hN hi h5 hT
  generalize szI ((2 ^ b : Nat) : Int) c.S c.H c.V = l at *
  generalize ((2 ^ b : Nat) : Int) = N at *
  clear hb
  obtain ⟨A, B, K, P, T, S, H, V, O⟩ := c
  simp only [Cfg.a] at *
  have HEE := Lib.hid hE
  clear hE
  obtain ⟨p, hp⟩ : ∃ p, w.heap.size = p := ⟨_, rfl⟩
  obtain ⟨w2, hw2⟩ : ∃ w2, w.alloc (.cells #[.int .i64 A, .int .i64 B, .int .i64 K, .int .i64 P, .int .i64 T, .int .i64 S, .int .i64 H, .int .i64 V, .int .i64 O] 29) = w2 := ⟨_, rfl⟩
  have hx : Box w2 p 29 #[.int .i64 A, .int .i64 B, .int .i64 K, .int .i64 P, .int .i64 T, .int .i64 S, .int .i64 H, .int .i64 V, .int .i64 O] := by rw [← hw2, ← hp]; exact Box.new w _ _
  have HB := Lib.hid (show Below w.heap.size w w2 by rw [← hw2]; exact (Below.refl _ w).alloc (Nat.le_refl _) _)
  have HX := Lib.hid hx
  have HPP := Lib.hid hp
  have HWW := Lib.hid hw2
  have k0 := hx.cell 0
  have k1 := hx.cell 1
  have k2 := hx.cell 2
  have k3 := hx.cell 3
  have k4 := hx.cell 4
  have k5 := hx.cell 5
  have k6 := hx.cell 6
  have k7 := hx.cell 7
  have k8 := hx.cell 8
  clear hx hp hw2
  go_enter Tryd.func11, Tryd.ntmps11
  go_upto_region 1 with fail
  rw [HPP.out, HWW.out]
  go_wp2_with fail
  refine (HO0.out _).mono ?_
  rintro e w3 ⟨rfl, rfl⟩
  go_wp2_with fail
  refine (HO1.out _).mono ?_
  rintro e w3 ⟨rfl, rfl⟩
  go_wp2_with fail
  refine (HO2.out _).mono ?_
  rintro e w3 ⟨rfl, rfl⟩
  go_wp2_with fail
  refine (HO3.out _).mono ?_
  rintro e w3 ⟨rfl, rfl⟩
  go_wp2_with fail
  refine (HO4.out _).mono ?_
  rintro e w3 ⟨rfl, rfl⟩
  go_wp2_with fail
  refine (HT.out _).mono ?_
  rintro e w4 ⟨rfl, hb4⟩
  have HB4 := Lib.hid (HB.out.trans (hb4.mono HB.out.size))
  have HX4 := Lib.hid (HX.out.of (hb4.block _ HX.out.lt))
  clear hb4 k0 k1 k2 k3 k4 k5 k6 k7 k8 HX HB HWW
  have k0 := HX4.out.cell 0
  have k1 := HX4.out.cell 1
  have k2 := HX4.out.cell 2
  have k3 := HX4.out.cell 3
  have k4 := HX4.out.cell 4
  have k5 := HX4.out.cell 5
  have k6 := HX4.out.cell 6
  have k7 := HX4.out.cell 7
  have k8 := HX4.out.cell 8
  go_wp2_with fail
  refine (HS.out _).mono ?_
  rintro e w5 ⟨rfl, hb5⟩
  have HB5 := Lib.hid (HB4.out.trans (hb5.mono HB4.out.size))
  have HX5 := Lib.hid (HX4.out.of (hb5.block _ HX4.out.lt))
  clear hb5 k0 k1 k2 k3 k4 k5 k6 k7 k8 HX4 HB4
  go_wp2_with fail
  refine (HR.out _).mono ?_
  rintro e w6 ⟨rfl, hb6⟩
  have HB6 := Lib.hid (HB5.out.trans (hb6.mono HB5.out.size))
  have HX6 := Lib.hid (HX5.out.of (hb6.block _ HX5.out.lt))
  clear hb6 HX5 HB5
  have k0 := HX6.out.cell 0
  have k1 := HX6.out.cell 1
  have k2 := HX6.out.cell 2
  have k3 := HX6.out.cell 3
  have k4 := HX6.out.cell 4
  have k5 := HX6.out.cell 5
  have k6 := HX6.out.cell 6
  have k7 := HX6.out.cell 7
  have k8 := HX6.out.cell 8
  cases hr : stR N S H V
  · have HE := Lib.hid (HP1.out (by rw [HEE.out, hr]; rfl) w6 HB6.out)
    clear hr HEE HL HZ HP1 HP0
    go_wp2_with fail
    exact HE.out
  · have HL2 := Lib.hid (HL.out hr)
    have HZ2 := Lib.hid (HZ.out hr)
    have HE2 : Hid (E = if bigL l = false then 0 else 1) := Lib.hid (by rw [HEE.out, hr]; simp)
    clear hr HEE HL HZ HR
    go_wp2_with fail
    refine (HS.out _).mono ?_
    rintro e w7 ⟨rfl, hb7⟩
    have HB7 := Lib.hid (HB6.out.trans (hb7.mono HB6.out.size))
    clear hb7 k0 k1 k2 k3 k4 k5 k6 k7 k8 HX6 HB6
    go_wp2_with fail
    refine (HZ2.out _).mono ?_
    rintro e w8 ⟨v, rfl, hI⟩
    have HB8 := Lib.hid (HB7.out.trans (hI.below.mono HB7.out.size))
    obtain ⟨g, cap, rfl, hcap, hrr⟩ := hI.out HL2.out.1 (fun j => l.getD j 0) (fun j hj => by simp [List.getD_eq_getElem?_getD, hj])
    have HRR := Lib.hid hrr
    obtain ⟨m, hm⟩ : ∃ m, l.length = m := ⟨_, rfl⟩
    have HM := Lib.hid hm
    have hl := HL2.out
    rw [hm] at hl
    obtain ⟨z, hz⟩ : ∃ z : Nat → Int, (fun j => l.getD j 0) = z := ⟨_, rfl⟩
    have HBIG : Hid ((∃ j, j < m ∧ 4096 < z j) → E = 1) := Lib.hid (fun ⟨j, hj, hgt⟩ => by
      have : bigL l = true := List.any_eq_true.2 ⟨z j, by rw [← hz]; simp [List.getD_eq_getElem?_getD, show j < l.length by omega], decide_eq_true hgt⟩
      rw [HE2.out, this]; rfl)
    have HSML : Hid ((∀ j, j < m → z j ≤ 4096) → E = 0) := Lib.hid (fun hall => by
      have : bigL l = false := List.any_eq_false.2 (fun x hx => by
        obtain ⟨j, hj, rfl⟩ := List.mem_iff_getElem.1 hx
        have := hall j (by omega)
        rw [← hz] at this
        simp [List.getD_eq_getElem?_getD, hj] at this
        simp; omega)
      rw [HE2.out, this]; rfl)
    rw [hz, hm] at HRR
    simp only [hm]
    clear hI hrr hcap hm hz HB7 HE2 HL2 HZ2 HM
    go_wp2_with fail
    go_loopw [6] (fun i wr => ∃ k : Nat, i = .int .i64 k ∧ k ≤ m ∧ (∀ j, j < k → z j ≤ 4096) ∧ wr = w8) (fun i _ => m - (intOf i).toNat)
    case atStart => exact ⟨0, rfl, by omega, fun j hj => absurd hj (by omega), rfl⟩
    case round =>
      obtain ⟨k, rfl, hk, hz, rfl⟩ := hrel
      have HZ := Lib.hid hz
      clear hz
      by_cases hlt : k < m
      · have kk := HRR.out.cell k hlt
        obtain ⟨x, hx⟩ : ∃ x, z k = x := ⟨_, rfl⟩
        rw [hx] at kk
        by_cases hg : 4096 < x
        · have HE := Lib.hid (HP1.out (HBIG.out ⟨k, hlt, by omega⟩) wr HB8.out)
          clear hx
          go_wp2_with fail
          exact HE.out
        · have HZ2 : Hid (∀ j, j < k + 1 → z j ≤ 4096) := Lib.hid (fun j hj => by
            by_cases e : j = k
            · subst e; omega
            · exact HZ.out j (by omega))
          clear hx
          go_wp2_with fail
          go_roundw
          case rel => exact ⟨k + 1, by go_num, by omega, HZ2.out, trivial⟩
          case measure => simp [intOf]; omega
      · obtain rfl : k = m := by omega
        have HE := Lib.hid (HP0.out (HSML.out HZ.out) wr HB8.out)
        go_wp2_with fail
        exact HE.out
theorem rwhy_any (c : Cfg) (w : World) : Calls Tryd.prog 11 #[.agg c.a] w (RwPost w c) := by
  obtain ⟨i, hi⟩ := Fst.some c
  have hl := hi.le
  rcases (by omega : i = 0 ∨ i = 1 ∨ i = 2 ∨ i = 3 ∨ i = 4 ∨ i = 5 ∨ 6 ≤ i) with rfl | rfl | rfl | rfl | rfl | rfl | h
  · exact rwhy_0 c w hi
  · exact rwhy_1 c w hi
  · exact rwhy_2 c w hi
  · exact rwhy_3 c w hi
  · exact rwhy_4 c w hi
  · exact rwhy_5 c w hi
  · exact rwhy_6 c w (fun j hj => hi.ok j (by omega))
end Go.Proofs.YteiilfdbddpodaaDoor
