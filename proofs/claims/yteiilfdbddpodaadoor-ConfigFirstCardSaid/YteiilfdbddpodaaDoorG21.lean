/- Texts of ours put together: CfFindings, CfCheck, CfRefA. -/
import Derived.Test.YteiilfdbddpodaaDoorG20
import Derived.Test.YteiilfdbddpodaaDoorG12
import Derived.Test.YteiilfdbddpodaaDoorG11
import Derived.Test.YteiilfdbddpodaaDoorG31
import Derived.Test.YteiilfdbddpodaaDoorG32
/- config: findings: what is wrong with each of the seven fields, in a new slice. Nothing that was in memory changes. Conditions: each number is an int. -/
namespace Go.Proofs.YteiilfdbddpodaaDoor
set_option maxRecDepth 100000
open Go.RowKit Go.ChangeShapes Go.WideShapes Go.ChangeAt

/-- What is found, in memory: of each field its name, and what is wrong. -/
def fdA (c : Cfg) : Array Value := #[.string (nmA 0), .int .i64 (wtE c.A 1 64), .string (nmA 1), .int .i64 (wtE c.B 1 16), .string (nmA 2), .int .i64 (wtE c.K 1 16), .string (nmA 3), .int .i64 (wtE c.P 1 32), .string (nmA 4), .int .i64 (wtE c.O 0 2), .string (nmA 5), .int .i64 (tbE c), .string (nmA 6), .int .i64 (lvE c)]
def FdPost (w : World) (c : Cfg) (e : Ending) (w' : World) : Prop := ∃ g, e = .returned (.slice (some ⟨g, 0, none⟩) 7 7) ∧ w.heap.size ≤ g ∧ Box w' g 66 (fdA c) ∧ Below w.heap.size w w'
set_option maxRecDepth 100000 in
set_option maxHeartbeats 4000000 in
theorem findings_any (c : Cfg) (w : World) (hT : Rg c.T) : Calls Tryd.prog 50 #[.agg c.a] w (FdPost w c) := by
  have HW0 := Lib.hid (fun W => within_any c.A 1 64 W)
  have HW1 := Lib.hid (fun W => within_any c.B 1 16 W)
  have HW2 := Lib.hid (fun W => within_any c.K 1 16 W)
  have HW3 := Lib.hid (fun W => within_any c.P 1 32 W)
  have HW4 := Lib.hid (fun W => within_any c.O 0 2 W)
  have HT := Lib.hid (fun W => table_any c W hT)
  have HL := Lib.hid (fun W => levels_any c W)
  have hF : ∀ e W, (∃ g, e = .returned (.slice (some ⟨g, 0, none⟩) 7 7) ∧ w.heap.size ≤ g ∧ Box W g 66 #[.string ⟨#[67, 97, 112, 97, 99, 105, 116, 121]⟩, .int .i64 (wtE c.A 1 64), .string ⟨#[66, 97, 116, 99, 104]⟩, .int .i64 (wtE c.B 1 16), .string ⟨#[75, 105, 99, 107, 115]⟩, .int .i64 (wtE c.K 1 16), .string ⟨#[83, 112, 105, 108, 108]⟩, .int .i64 (wtE c.P 1 32), .string ⟨#[80, 111, 108, 105, 99, 121]⟩, .int .i64 (wtE c.O 0 2), .string ⟨#[84, 97, 98, 108, 101]⟩, .int .i64 (tbE c), .string ⟨#[76, 101, 118, 101, 108, 115]⟩, .int .i64 (lvE c)] ∧ Below w.heap.size w W) → FdPost w c e W := fun _ _ h => h
  generalize FdPost w c = POST at *
  generalize wtE c.A 1 64 = e0 at *
  generalize wtE c.B 1 16 = e1 at *
  generalize wtE c.K 1 16 = e2 at *
  generalize wtE c.P 1 32 = e3 at *
  generalize wtE c.O 0 2 = e4 at *
  generalize tbE c = e5 at *
  generalize lvE c = e6 at *
  obtain ⟨A, B, K, P, T, S, H, V, O⟩ := c
  simp only [Cfg.a] at *
  clear hT
  have HF := Lib.hid hF
  clear hF
  obtain ⟨p, hp⟩ : ∃ p, w.heap.size = p := ⟨_, rfl⟩
  obtain ⟨w2, hw2⟩ : ∃ w2, w.alloc (.cells #[.int .i64 A, .int .i64 B, .int .i64 K, .int .i64 P, .int .i64 T, .int .i64 S, .int .i64 H, .int .i64 V, .int .i64 O] 23) = w2 := ⟨_, rfl⟩
  have hx : Box w2 p 23 #[.int .i64 A, .int .i64 B, .int .i64 K, .int .i64 P, .int .i64 T, .int .i64 S, .int .i64 H, .int .i64 V, .int .i64 O] := by rw [← hw2, ← hp]; exact Box.new w _ _
  have hB : Below w.heap.size w w2 := by rw [← hw2]; exact (Below.refl _ w).alloc (Nat.le_refl _) _
  have HPP := Lib.hid hp
  have HWW := Lib.hid hw2
  clear hp hw2
  go_enter Tryd.func50, Tryd.ntmps50
  go_upto_region 1 with fail
  rw [HPP.out, HWW.out]
  refine held_s (S := fun w' => Box w' p 23 #[.int .i64 A, .int .i64 B, .int .i64 K, .int .i64 P, .int .i64 T, .int .i64 S, .int .i64 H, .int .i64 V, .int .i64 O] ∧ Below w.heap.size w w') 28 rfl (by kernel_rfl) ⟨hx.drewN 1, hB.trans ((Below.refl _ _).drew)⟩ (fun hHeld => ?_)
  clear hx hB HWW
  simp only [Array.replicate_succ, Array.replicate_zero, List.push_toArray, List.nil_append, List.cons_append]
  generalize w2.drew = w4 at *
  refine wpAnyH_take (i := 0) (oi := ⟨some 3, _, _, _, _, _⟩) (v := (.pointer (some ⟨p, 0, none⟩))) rfl (by kernel_rfl) (by kernel_rfl) (by kernel_rfl) (fun _ _ _ h => h) (Or.inl ⟨by rfl, fun w' hw => by go_simp⟩) hHeld ?_
  try simp only [Act.put, List.setIfInBounds_toArray, List.set_cons_zero, List.set_cons_succ]
  refine wpAnyH_take (i := 1) (oi := ⟨some 4, _, _, _, _, _⟩) (v := (.int .i64 A)) rfl (by kernel_rfl) (by kernel_rfl) (by kernel_rfl) (fun _ _ _ h => h) (Or.inl ⟨by rfl, fun w' hw => by (have k0 := hw.1.cell 0; go_simp)⟩) hHeld ?_
  try simp only [Act.put, List.setIfInBounds_toArray, List.set_cons_zero, List.set_cons_succ]
  refine wpAnyH_take (i := 4) (oi := ⟨some 7, _, _, _, _, _⟩) (v := (.pointer (some ⟨p, 1, none⟩))) rfl (by kernel_rfl) (by kernel_rfl) (by kernel_rfl) (fun _ _ _ h => h) (Or.inl ⟨by rfl, fun w' hw => by go_simp⟩) hHeld ?_
  try simp only [Act.put, List.setIfInBounds_toArray, List.set_cons_zero, List.set_cons_succ]
  refine wpAnyH_take (i := 5) (oi := ⟨some 8, _, _, _, _, _⟩) (v := (.int .i64 B)) rfl (by kernel_rfl) (by kernel_rfl) (by kernel_rfl) (fun _ _ _ h => h) (Or.inl ⟨by rfl, fun w' hw => by (have k0 := hw.1.cell 1; go_simp)⟩) hHeld ?_
  try simp only [Act.put, List.setIfInBounds_toArray, List.set_cons_zero, List.set_cons_succ]
  refine wpAnyH_take (i := 8) (oi := ⟨some 11, _, _, _, _, _⟩) (v := (.pointer (some ⟨p, 2, none⟩))) rfl (by kernel_rfl) (by kernel_rfl) (by kernel_rfl) (fun _ _ _ h => h) (Or.inl ⟨by rfl, fun w' hw => by go_simp⟩) hHeld ?_
  try simp only [Act.put, List.setIfInBounds_toArray, List.set_cons_zero, List.set_cons_succ]
  refine wpAnyH_take (i := 9) (oi := ⟨some 12, _, _, _, _, _⟩) (v := (.int .i64 K)) rfl (by kernel_rfl) (by kernel_rfl) (by kernel_rfl) (fun _ _ _ h => h) (Or.inl ⟨by rfl, fun w' hw => by (have k0 := hw.1.cell 2; go_simp)⟩) hHeld ?_
  try simp only [Act.put, List.setIfInBounds_toArray, List.set_cons_zero, List.set_cons_succ]
  refine wpAnyH_take (i := 12) (oi := ⟨some 15, _, _, _, _, _⟩) (v := (.pointer (some ⟨p, 3, none⟩))) rfl (by kernel_rfl) (by kernel_rfl) (by kernel_rfl) (fun _ _ _ h => h) (Or.inl ⟨by rfl, fun w' hw => by go_simp⟩) hHeld ?_
  try simp only [Act.put, List.setIfInBounds_toArray, List.set_cons_zero, List.set_cons_succ]
  refine wpAnyH_take (i := 13) (oi := ⟨some 16, _, _, _, _, _⟩) (v := (.int .i64 P)) rfl (by kernel_rfl) (by kernel_rfl) (by kernel_rfl) (fun _ _ _ h => h) (Or.inl ⟨by rfl, fun w' hw => by (have k0 := hw.1.cell 3; go_simp)⟩) hHeld ?_
  try simp only [Act.put, List.setIfInBounds_toArray, List.set_cons_zero, List.set_cons_succ]
  refine wpAnyH_take (i := 16) (oi := ⟨some 19, _, _, _, _, _⟩) (v := (.pointer (some ⟨p, 8, none⟩))) rfl (by kernel_rfl) (by kernel_rfl) (by kernel_rfl) (fun _ _ _ h => h) (Or.inl ⟨by rfl, fun w' hw => by go_simp⟩) hHeld ?_
  try simp only [Act.put, List.setIfInBounds_toArray, List.set_cons_zero, List.set_cons_succ]
  refine wpAnyH_take (i := 17) (oi := ⟨some 20, _, _, _, _, _⟩) (v := (.int .i64 O)) rfl (by kernel_rfl) (by kernel_rfl) (by kernel_rfl) (fun _ _ _ h => h) (Or.inl ⟨by rfl, fun w' hw => by (have k0 := hw.1.cell 8; go_simp)⟩) hHeld ?_
  try simp only [Act.put, List.setIfInBounds_toArray, List.set_cons_zero, List.set_cons_succ]
  refine wpAnyH_take (i := 20) (oi := ⟨some 23, _, _, _, _, _⟩) (v := (.agg #[.int .i64 A, .int .i64 B, .int .i64 K, .int .i64 P, .int .i64 T, .int .i64 S, .int .i64 H, .int .i64 V, .int .i64 O])) rfl (by kernel_rfl) (by kernel_rfl) (by kernel_rfl) (fun _ _ _ h => h) (Or.inl ⟨by rfl, fun w' hw => by (have k0 := hw.1.cell 0; have k1 := hw.1.cell 1; have k2 := hw.1.cell 2; have k3 := hw.1.cell 3; have k4 := hw.1.cell 4; have k5 := hw.1.cell 5; have k6 := hw.1.cell 6; have k7 := hw.1.cell 7; have k8 := hw.1.cell 8; go_simp)⟩) hHeld ?_
  try simp only [Act.put, List.setIfInBounds_toArray, List.set_cons_zero, List.set_cons_succ]
  refine wpAnyH_take (i := 23) (oi := ⟨some 26, _, _, _, _, _⟩) (v := (.agg #[.int .i64 A, .int .i64 B, .int .i64 K, .int .i64 P, .int .i64 T, .int .i64 S, .int .i64 H, .int .i64 V, .int .i64 O])) rfl (by kernel_rfl) (by kernel_rfl) (by kernel_rfl) (fun _ _ _ h => h) (Or.inl ⟨by rfl, fun w' hw => by (have k0 := hw.1.cell 0; have k1 := hw.1.cell 1; have k2 := hw.1.cell 2; have k3 := hw.1.cell 3; have k4 := hw.1.cell 4; have k5 := hw.1.cell 5; have k6 := hw.1.cell 6; have k7 := hw.1.cell 7; have k8 := hw.1.cell 8; go_simp)⟩) hHeld ?_
  try simp only [Act.put, List.setIfInBounds_toArray, List.set_cons_zero, List.set_cons_succ]
  refine one_ready 2 rfl (by kernel_rfl) (fun K9 hK => ?_)
  go_simp
  refine (HW0.out _).mono ?_
  rintro e w3 ⟨rfl, rfl⟩
  refine hK.out _ _ hHeld (fun hHeld => ?_)
  clear hK K9
  try simp only [List.setIfInBounds_toArray, List.set_cons_zero, List.set_cons_succ]
  refine wpAnyH_take (i := 3) (oi := ⟨some 6, _, _, _, _, _⟩) (v := (.agg #[.string ⟨#[67, 97, 112, 97, 99, 105, 116, 121]⟩, .int .i64 e0])) rfl (by kernel_rfl) (by kernel_rfl) (by kernel_rfl) (fun _ _ _ h => h) (Or.inl ⟨by rfl, fun w' hw => by go_simp⟩) hHeld ?_
  try simp only [Act.put, List.setIfInBounds_toArray, List.set_cons_zero, List.set_cons_succ]
  refine one_ready 6 rfl (by kernel_rfl) (fun K9 hK => ?_)
  go_simp
  refine (HW1.out _).mono ?_
  rintro e w3 ⟨rfl, rfl⟩
  refine hK.out _ _ hHeld (fun hHeld => ?_)
  clear hK K9
  try simp only [List.setIfInBounds_toArray, List.set_cons_zero, List.set_cons_succ]
  refine wpAnyH_take (i := 7) (oi := ⟨some 10, _, _, _, _, _⟩) (v := (.agg #[.string ⟨#[66, 97, 116, 99, 104]⟩, .int .i64 e1])) rfl (by kernel_rfl) (by kernel_rfl) (by kernel_rfl) (fun _ _ _ h => h) (Or.inl ⟨by rfl, fun w' hw => by go_simp⟩) hHeld ?_
  try simp only [Act.put, List.setIfInBounds_toArray, List.set_cons_zero, List.set_cons_succ]
  refine one_ready 10 rfl (by kernel_rfl) (fun K9 hK => ?_)
  go_simp
  refine (HW2.out _).mono ?_
  rintro e w3 ⟨rfl, rfl⟩
  refine hK.out _ _ hHeld (fun hHeld => ?_)
  clear hK K9
  try simp only [List.setIfInBounds_toArray, List.set_cons_zero, List.set_cons_succ]
  refine wpAnyH_take (i := 11) (oi := ⟨some 14, _, _, _, _, _⟩) (v := (.agg #[.string ⟨#[75, 105, 99, 107, 115]⟩, .int .i64 e2])) rfl (by kernel_rfl) (by kernel_rfl) (by kernel_rfl) (fun _ _ _ h => h) (Or.inl ⟨by rfl, fun w' hw => by go_simp⟩) hHeld ?_
  try simp only [Act.put, List.setIfInBounds_toArray, List.set_cons_zero, List.set_cons_succ]
  refine one_ready 14 rfl (by kernel_rfl) (fun K9 hK => ?_)
  go_simp
  refine (HW3.out _).mono ?_
  rintro e w3 ⟨rfl, rfl⟩
  refine hK.out _ _ hHeld (fun hHeld => ?_)
  clear hK K9
  try simp only [List.setIfInBounds_toArray, List.set_cons_zero, List.set_cons_succ]
  refine wpAnyH_take (i := 15) (oi := ⟨some 18, _, _, _, _, _⟩) (v := (.agg #[.string ⟨#[83, 112, 105, 108, 108]⟩, .int .i64 e3])) rfl (by kernel_rfl) (by kernel_rfl) (by kernel_rfl) (fun _ _ _ h => h) (Or.inl ⟨by rfl, fun w' hw => by go_simp⟩) hHeld ?_
  try simp only [Act.put, List.setIfInBounds_toArray, List.set_cons_zero, List.set_cons_succ]
  refine one_ready 18 rfl (by kernel_rfl) (fun K9 hK => ?_)
  go_simp
  refine (HW4.out _).mono ?_
  rintro e w3 ⟨rfl, rfl⟩
  refine hK.out _ _ hHeld (fun hHeld => ?_)
  clear hK K9
  try simp only [List.setIfInBounds_toArray, List.set_cons_zero, List.set_cons_succ]
  refine wpAnyH_take (i := 19) (oi := ⟨some 22, _, _, _, _, _⟩) (v := (.agg #[.string ⟨#[80, 111, 108, 105, 99, 121]⟩, .int .i64 e4])) rfl (by kernel_rfl) (by kernel_rfl) (by kernel_rfl) (fun _ _ _ h => h) (Or.inl ⟨by rfl, fun w' hw => by go_simp⟩) hHeld ?_
  try simp only [Act.put, List.setIfInBounds_toArray, List.set_cons_zero, List.set_cons_succ]
  refine one_ready 21 rfl (by kernel_rfl) (fun K9 hK => ?_)
  go_simp
  refine (HT.out _).mono ?_
  rintro e w5 ⟨rfl, hb5⟩
  refine hK.out _ _ ⟨hHeld.1.of (hb5.block _ hHeld.1.lt), hHeld.2.trans (hb5.mono hHeld.2.size)⟩ (fun hHeld => ?_)
  clear hK K9 hb5
  try simp only [List.setIfInBounds_toArray, List.set_cons_zero, List.set_cons_succ]
  refine wpAnyH_take (i := 22) (oi := ⟨some 25, _, _, _, _, _⟩) (v := (.agg #[.string ⟨#[84, 97, 98, 108, 101]⟩, .int .i64 e5])) rfl (by kernel_rfl) (by kernel_rfl) (by kernel_rfl) (fun _ _ _ h => h) (Or.inl ⟨by rfl, fun w' hw => by go_simp⟩) hHeld ?_
  try simp only [Act.put, List.setIfInBounds_toArray, List.set_cons_zero, List.set_cons_succ]
  refine one_ready 24 rfl (by kernel_rfl) (fun K9 hK => ?_)
  go_simp
  refine (HL.out _).mono ?_
  rintro e w6 ⟨rfl, hb6⟩
  refine hK.out _ _ ⟨hHeld.1.of (hb6.block _ hHeld.1.lt), hHeld.2.trans (hb6.mono hHeld.2.size)⟩ (fun hHeld => ?_)
  clear hK K9 hb6
  try simp only [List.setIfInBounds_toArray, List.set_cons_zero, List.set_cons_succ]
  refine wpAnyH_take (i := 25) (oi := ⟨some 28, _, _, _, _, _⟩) (v := (.agg #[.string ⟨#[76, 101, 118, 101, 108, 115]⟩, .int .i64 e6])) rfl (by kernel_rfl) (by kernel_rfl) (by kernel_rfl) (fun _ _ _ h => h) (Or.inl ⟨by rfl, fun w' hw => by go_simp⟩) hHeld ?_
  try simp only [Act.put, List.setIfInBounds_toArray, List.set_cons_zero, List.set_cons_succ]
  refine one_ready 26 rfl (by kernel_rfl) (fun K9 hK => ?_)
  have HZ := Lib.hid (Box.new w6 66 #[.string ⟨#[67, 97, 112, 97, 99, 105, 116, 121]⟩, .int .i64 e0, .string ⟨#[66, 97, 116, 99, 104]⟩, .int .i64 e1, .string ⟨#[75, 105, 99, 107, 115]⟩, .int .i64 e2, .string ⟨#[83, 112, 105, 108, 108]⟩, .int .i64 e3, .string ⟨#[80, 111, 108, 105, 99, 121]⟩, .int .i64 e4, .string ⟨#[84, 97, 98, 108, 101]⟩, .int .i64 e5, .string ⟨#[76, 101, 118, 101, 108, 115]⟩, .int .i64 e6])
  have HE := Lib.hid (hHeld.2.alloc hHeld.2.size (.cells #[.string ⟨#[67, 97, 112, 97, 99, 105, 116, 121]⟩, .int .i64 e0, .string ⟨#[66, 97, 116, 99, 104]⟩, .int .i64 e1, .string ⟨#[75, 105, 99, 107, 115]⟩, .int .i64 e2, .string ⟨#[83, 112, 105, 108, 108]⟩, .int .i64 e3, .string ⟨#[80, 111, 108, 105, 99, 121]⟩, .int .i64 e4, .string ⟨#[84, 97, 98, 108, 101]⟩, .int .i64 e5, .string ⟨#[76, 101, 118, 101, 108, 115]⟩, .int .i64 e6] 66))
  have hsz := hHeld.2.size
  go_simp
  refine hK.out _ _ ⟨hHeld.1.alloc _, hHeld.2.alloc hHeld.2.size _⟩ (fun hHeld => ?_)
  clear hK K9
  try simp only [List.setIfInBounds_toArray, List.set_cons_zero, List.set_cons_succ]
  refine wpAnyH_take (i := 27) (oi := ⟨some 2, _, _, _, _, _⟩) (v := (.slice (some ⟨w6.heap.size, 0, none⟩) 7 7)) rfl (by kernel_rfl) (by kernel_rfl) (by kernel_rfl) (fun _ _ _ h => h) (Or.inl ⟨by rfl, fun w' hw => by go_simp⟩) hHeld ?_
  try simp only [Act.put, List.setIfInBounds_toArray, List.set_cons_zero, List.set_cons_succ]
  refine wpAnyH_done (by kernel_rfl) ?_ _
  clear hHeld
  go_wp2_with fail
  exact HF.out _ _ ⟨_, rfl, hsz, HZ.out, HE.out⟩
end Go.Proofs.YteiilfdbddpodaaDoor

/- config: Check: the first field that is wrong, as an error; nil, if none is. Nothing that was in memory changes. Conditions: each number is an int. -/
namespace Go.Proofs.YteiilfdbddpodaaDoor
set_option maxRecDepth 100000
open Go.RowKit Go.ChangeShapes Go.WideShapes Go.ChangeAt

theorem fdA_at (c : Cfg) (k : Nat) (h : k < 7) : (fdA c)[k * 2]? = some (.string (nmA k)) ∧ (fdA c)[k * 2 + 1]? = some (.int .i64 (ftE c k)) := by
  match k, h with
  | 0, _ => exact ⟨rfl, rfl⟩
  | 1, _ => exact ⟨rfl, rfl⟩
  | 2, _ => exact ⟨rfl, rfl⟩
  | 3, _ => exact ⟨rfl, rfl⟩
  | 4, _ => exact ⟨rfl, rfl⟩
  | 5, _ => exact ⟨rfl, rfl⟩
  | 6, _ => exact ⟨rfl, rfl⟩
/-- What Check answers. -/
def CkPost (w : World) (c : Cfg) (e : Ending) (w' : World) : Prop := ∃ i, Fst c i ∧ Below w.heap.size w w' ∧
  ((i = 7 ∧ e = .returned .nilIface) ∨ (i < 7 ∧ ∃ g, e = .returned (.iface 60 (.pointer (some ⟨g, 0, none⟩))) ∧ Box w' g 66 #[.string (nmA i), .int .i64 (ftE c i)]))
set_option maxRecDepth 100000 in
set_option maxHeartbeats 2000000 in
theorem check_any (c : Cfg) (w : World) (hT : Rg c.T) : Calls Tryd.prog 29 #[.agg c.a] w (CkPost w c) := by
  have HF := Lib.hid (fun W => findings_any c W hT)
  have HP : Hid (∀ i W, Fst c i → Below w.heap.size w W → (i = 7 → CkPost w c (.returned .nilIface) W) ∧ (i < 7 → ∀ g, Box W g 66 #[.string (nmA i), .int .i64 (ftE c i)] → CkPost w c (.returned (.iface 60 (.pointer (some ⟨g, 0, none⟩)))) W)) :=
    Lib.hid (fun i W h1 h2 => ⟨fun e => ⟨i, h1, h2, .inl ⟨e, rfl⟩⟩, fun e g h3 => ⟨i, h1, h2, .inr ⟨e, g, rfl, h3⟩⟩⟩)
  have HA := Lib.hid (fdA_at c)
  have HS : Hid (∀ k, (∀ j, j < k → ftE c j = 0) → k ≤ 7 → (k < 7 → ftE c k ≠ 0) → Fst c k) := Lib.hid (fun k h1 h2 h3 => ⟨h2, h1, h3⟩)
  unfold FdPost at HF
  generalize CkPost w c = POST at *
  generalize fdA c = FA at *
  generalize ftE c = ft at *
  generalize Fst c = FS at *
  obtain ⟨A, B, K, P, T, S, H, V, O⟩ := c
  simp only [Cfg.a] at *
  clear hT
  obtain ⟨p, hp⟩ : ∃ p, w.heap.size = p := ⟨_, rfl⟩
  obtain ⟨w2, hw2⟩ : ∃ w2, w.alloc (.cells #[.int .i64 A, .int .i64 B, .int .i64 K, .int .i64 P, .int .i64 T, .int .i64 S, .int .i64 H, .int .i64 V, .int .i64 O] 23) = w2 := ⟨_, rfl⟩
  have hx : Box w2 p 23 #[.int .i64 A, .int .i64 B, .int .i64 K, .int .i64 P, .int .i64 T, .int .i64 S, .int .i64 H, .int .i64 V, .int .i64 O] := by rw [← hw2, ← hp]; exact Box.new w _ _
  have HB := Lib.hid (show Below w.heap.size w w2 by rw [← hw2]; exact (Below.refl _ w).alloc (Nat.le_refl _) _)
  have HPP := Lib.hid hp
  have HWW := Lib.hid hw2
  have k0 := hx.cell 0
  have k1 := hx.cell 1
  have k2 := hx.cell 2
  have k3 := hx.cell 3
  have k4 := hx.cell 4
  have k5 := hx.cell 5
  have k6 := hx.cell 6
  have k7 := hx.cell 7
  have k8 := hx.cell 8
  clear hx hp hw2
  go_enter Tryd.func29, Tryd.ntmps29
  go_upto_region 1 with fail
  rw [HPP.out, HWW.out]
  go_wp2_with fail
  refine (HF.out _).mono ?_
  rintro e w3 ⟨g, rfl, hg, hbx, hb3⟩
  have HB3 := Lib.hid (HB.out.trans (hb3.mono HB.out.size))
  have HX3 := Lib.hid hbx
  clear hb3 hbx k0 k1 k2 k3 k4 k5 k6 k7 k8 HWW HB hg
  go_wp2_with fail
  go_loopw [8] (fun i wr => ∃ k : Nat, i = .int .i64 k ∧ k ≤ 7 ∧ (∀ j, j < k → ft j = 0) ∧ Box wr g 66 FA ∧ Below w.heap.size w wr) (fun i _ => 7 - (intOf i).toNat)
  case atStart => exact ⟨0, rfl, by omega, fun j hj => absurd hj (by omega), HX3.out, HB3.out⟩
  case round =>
    obtain ⟨k, rfl, hk, hz, hX, hB⟩ := hrel
    have HZ := Lib.hid hz
    have HXr := Lib.hid hX
    have HBr := Lib.hid hB
    clear hz hX hB HX3 HB3
    by_cases hlt : k < 7
    · obtain ⟨a0, a1⟩ := HA.out k hlt
      have k0 : wr.cell? ⟨g, k * 2, none⟩ = some (.string (nmA k)) := (HXr.out.cell _).trans a0
      have k1 : wr.cell? ⟨g, k * 2 + 1, none⟩ = some (.int .i64 (ft k)) := (HXr.out.cell _).trans a1
      clear a0 a1
      by_cases h0 : ft k = 0
      · have HB9 := Lib.hid (HBr.out.alloc HBr.out.size (.cells #[.string (nmA k), .int .i64 0] 66))
        have HX9 := Lib.hid (HXr.out.alloc (.cells #[.string (nmA k), .int .i64 0] 66))
        have HZ9 : Hid (∀ j, j < k + 1 → ft j = 0) := Lib.hid (fun j hj => by
          by_cases e : j = k
          · subst e; exact h0
          · exact HZ.out j (by omega))
        generalize nmA k = nm at *
        go_wp2_with fail
        refine ⟨⟨k + 1, by go_num, by omega, HZ9.out, HX9.out, HB9.out⟩, ?_⟩
        simp [intOf]; omega
      · have HE := Lib.hid ((HP.out k (wr.alloc (.cells #[.string (nmA k), .int .i64 (ft k)] 66)) (HS.out k HZ.out (by omega) (fun _ => h0)) (HBr.out.alloc HBr.out.size _)).2 hlt wr.heap.size (Box.new wr _ _))
        generalize nmA k = nm at *
        go_wp2_with fail
        exact HE.out
    · obtain rfl : k = 7 := by omega
      have HE := Lib.hid ((HP.out 7 wr (HS.out 7 HZ.out (by omega) (fun h => absurd h (by omega))) HBr.out).1 rfl)
      go_wp2_with fail
      exact HE.out
end Go.Proofs.YteiilfdbddpodaaDoor

/- The document's answers on levels and stores as configs: shape, Right, Sizes, Blocks: the same plain words as the program's. Nothing that was in memory changes. Conditions: as they are named. -/
namespace Go.Proofs.YteiilfdbddpodaaDoor
set_option maxRecDepth 100000
open Go.RowKit Go.ChangeShapes Go.WideShapes Go.ChangeAt

set_option maxHeartbeats 1000000 in
theorem rshape_in (N : Nat) (S T : Int) (D : Nat) (w : World) (hD : D ≤ 10) (hN : 2 ^ D = N) :
    Calls Tryd.prog 68 #[.agg #[.int .i64 (N : Int), .int .i64 (S : Int), .int .i64 (T : Int)]] w fun e w' => e = .returned (.agg #[.int .i64 (D : Int), .int .i64 (S : Int), .int .i64 (T : Int)]) ∧ Below w.heap.size w w' := by
  have hd := dpt_two hD hN
  have hn := tree_le D hD
  rw [hN] at hn
  have HD := Lib.hid (fun W => rpath_depth (N : Int) W)
  rw [hd] at HD
  clear hd hn hN
  go_enter Tryd.func68, Tryd.ntmps68
  go_wp2_with fail
  obtain ⟨b, hb⟩ : ∃ b, w.heap.size = b := ⟨_, rfl⟩
  obtain ⟨w2, hw2⟩ : ∃ w2, ((w.alloc (.cells #[.int .i64 (N : Int), .int .i64 (S : Int), .int .i64 (T : Int)] 85)).alloc (.cells #[.int .i64 0, .int .i64 0, .int .i64 0] 111)) = w2 := ⟨_, rfl⟩
  have hbx : Box w2 b 85 #[.int .i64 (N : Int), .int .i64 (S : Int), .int .i64 (T : Int)] := by rw [← hw2, ← hb]; exact (Box.new w _ _).alloc _
  have hby : Box w2 (b + 1) 111 #[.int .i64 0, .int .i64 0, .int .i64 0] := by
    rw [← hw2, ← hb]
    have := Box.new (w.alloc (.cells #[.int .i64 (N : Int), .int .i64 (S : Int), .int .i64 (T : Int)] 85)) 111 #[.int .i64 0, .int .i64 0, .int .i64 0]
    simpa using this
  have hbl : Below w.heap.size w w2 := by rw [← hw2]; exact ((Below.refl _ w).alloc (Nat.le_refl _) _).alloc (by simp) _
  have hbb : ¬ b + 1 = b := by omega
  simp only [hw2, hb]
  clear hw2
  refine held_s (S := fun w' => Box w' b 85 #[.int .i64 (N : Int), .int .i64 (S : Int), .int .i64 (T : Int)] ∧ Below w.heap.size w w') 9 rfl (by kernel_rfl) ⟨hbx.drewN 1, hbl.trans ((Below.refl _ _).drew)⟩ (fun hHeld => ?_)
  have y0 := hby.cell 0
  have y1 := hby.cell 1
  have y2 := hby.cell 2
  have f0 := hby.frozen 0
  have f1 := hby.frozen 1
  have f2 := hby.frozen 2
  simp only [Array.replicate_succ, Array.replicate_zero, List.push_toArray, List.nil_append, List.cons_append]
  refine wpAnyH_take (i := 0) (oi := ⟨some 3, _, _, _, _, _⟩) (v := (.pointer (some ⟨b, 0, none⟩))) rfl (by kernel_rfl) (by kernel_rfl) (by kernel_rfl) (fun _ _ _ h => h) (Or.inl ⟨by rfl, fun w' hw => by go_simp⟩) hHeld ?_
  try simp only [Act.put, List.setIfInBounds_toArray, List.set_cons_zero, List.set_cons_succ]
  refine wpAnyH_take (i := 1) (oi := ⟨some 4, _, _, _, _, _⟩) (v := (.int .i64 (N : Int))) rfl (by kernel_rfl) (by kernel_rfl) (by kernel_rfl) (fun _ _ _ h => h) (Or.inl ⟨by rfl, fun w' hw => by (have k0 := hw.1.cell 0; have k1 := hw.1.cell 1; have k2 := hw.1.cell 2; go_simp)⟩) hHeld ?_
  try simp only [Act.put, List.setIfInBounds_toArray, List.set_cons_zero, List.set_cons_succ]
  refine wpAnyH_take (i := 3) (oi := ⟨some 6, _, _, _, _, _⟩) (v := (.pointer (some ⟨b, 1, none⟩))) rfl (by kernel_rfl) (by kernel_rfl) (by kernel_rfl) (fun _ _ _ h => h) (Or.inl ⟨by rfl, fun w' hw => by go_simp⟩) hHeld ?_
  try simp only [Act.put, List.setIfInBounds_toArray, List.set_cons_zero, List.set_cons_succ]
  refine wpAnyH_take (i := 4) (oi := ⟨some 7, _, _, _, _, _⟩) (v := (.int .i64 (S : Int))) rfl (by kernel_rfl) (by kernel_rfl) (by kernel_rfl) (fun _ _ _ h => h) (Or.inl ⟨by rfl, fun w' hw => by (have k0 := hw.1.cell 0; have k1 := hw.1.cell 1; have k2 := hw.1.cell 2; go_simp)⟩) hHeld ?_
  try simp only [Act.put, List.setIfInBounds_toArray, List.set_cons_zero, List.set_cons_succ]
  refine wpAnyH_take (i := 5) (oi := ⟨some 8, _, _, _, _, _⟩) (v := (.pointer (some ⟨b, 2, none⟩))) rfl (by kernel_rfl) (by kernel_rfl) (by kernel_rfl) (fun _ _ _ h => h) (Or.inl ⟨by rfl, fun w' hw => by go_simp⟩) hHeld ?_
  try simp only [Act.put, List.setIfInBounds_toArray, List.set_cons_zero, List.set_cons_succ]
  refine wpAnyH_take (i := 6) (oi := ⟨some 9, _, _, _, _, _⟩) (v := (.int .i64 (T : Int))) rfl (by kernel_rfl) (by kernel_rfl) (by kernel_rfl) (fun _ _ _ h => h) (Or.inl ⟨by rfl, fun w' hw => by (have k0 := hw.1.cell 0; have k1 := hw.1.cell 1; have k2 := hw.1.cell 2; go_simp)⟩) hHeld ?_
  try simp only [Act.put, List.setIfInBounds_toArray, List.set_cons_zero, List.set_cons_succ]
  refine one_ready 2 rfl (by kernel_rfl) (fun K hK => ?_)
  go_simp
  refine (HD.out _).mono ?_
  rintro e w3 ⟨rfl, rfl⟩
  refine hK.out _ _ hHeld (fun hHeld => ?_)
  clear hK K
  try simp only [List.setIfInBounds_toArray, List.set_cons_zero, List.set_cons_succ]
  refine wpAnyH_take (i := 7) (oi := ⟨some 10, _, _, _, _, _⟩) (v := (.agg #[.int .i64 (D : Int), .int .i64 (S : Int), .int .i64 (T : Int)])) rfl (by kernel_rfl) (by kernel_rfl) (by kernel_rfl) (fun _ _ _ h => h) (Or.inl ⟨by rfl, fun w' hw => by go_simp⟩) hHeld ?_
  try simp only [Act.put, List.setIfInBounds_toArray, List.set_cons_zero, List.set_cons_succ]
  refine one_ready 8 rfl (by kernel_rfl) (fun K hK => ?_)
  go_simp
  have ho : Only (just (b + 1)) w2 ((((w2.setCell ⟨b + 1, 0, none⟩ (.int .i64 (D : Int))).setCell ⟨b + 1, 1, none⟩ (.int .i64 (S : Int))).setCell ⟨b + 1, 2, none⟩ (.int .i64 (T : Int))).drew) := ((((Only.refl (just (b + 1)) w2).setCell (p := ⟨b + 1, 0, none⟩) (.inl (just_self _)) (.int .i64 (D : Int))).setCell (p := ⟨b + 1, 1, none⟩) (.inl (just_self _)) (.int .i64 (S : Int))).setCell (p := ⟨b + 1, 2, none⟩) (.inl (just_self _)) (.int .i64 (T : Int))).drew
  have hE : Hid (Below w.heap.size w _) := Lib.hid (below_only hbl ho hbl.size (fun i hi e => by have e : i = b + 1 := e; omega))
  have hz : Box _ (b + 1) 111 #[.int .i64 (D : Int), .int .i64 (S : Int), .int .i64 (T : Int)] := (((hby.put 0 (.int .i64 (D : Int))).put 1 (.int .i64 (S : Int))).put 2 (.int .i64 (T : Int))).drewN 1
  have hZ := Lib.hid hz
  refine hK.out _ _ ⟨hbx.only ho (just_ne (fun e => by omega)), hE.out⟩ (fun hHeld => ?_)
  clear hK K ho hz
  refine wpAnyH_done (by kernel_rfl) ?_ _
  have z0 := hZ.out.cell 0
  have z1 := hZ.out.cell 1
  have z2 := hZ.out.cell 2
  go_wp2_with fail
  exact bodyPost_ret (v := .agg #[.int .i64 (D : Int), .int .i64 (S : Int), .int .i64 (T : Int)]) (results_one Tryd.results68 rfl (load_box hZ.out Tryd.underlying111 rfl (by kernel_rfl))) rfl ⟨rfl, hE.out⟩
set_option maxHeartbeats 2000000 in
theorem rlright_any (D : Nat) (S T : Int) (w : World) (hD : D ≤ 10) : Calls Tryd.prog 57 #[.agg #[.int .i64 ((2 ^ D : Nat) : Int), .int .i64 S, .int .i64 T]] w fun e w' => e = .returned (.bool (isSt S T)) ∧ Below w.heap.size w w' := by
  have HS := Lib.hid (fun W => rshape_in (2 ^ D) S T D W hD rfl)
  have ht := isTree_two hD (N := 2 ^ D) rfl
  have HD := Lib.hid (fun W => ref_right (D : Int) S T W)
  rw [isSh_st hD] at HD
  have HP := Lib.hid (fun W => rpath_right ((2 ^ D : Nat) : Int) W)
  rw [ht] at HP
  cases h : isSt S T
  · rw [h] at HD
    clear h ht
    generalize 2 ^ D = N at *
    go_enter Tryd.func57, Tryd.ntmps57
    go_wp2_with fail
    refine (HP.out _).mono ?_
    rintro e w1 ⟨rfl, rfl⟩
    go_wp2_with fail
    refine (HS.out _).mono ?_
    rintro e w3 ⟨rfl, hb3⟩
    have HB3 := Lib.hid (((Below.refl _ w).alloc (Nat.le_refl _) (.cells #[.int .i64 (N : Int), .int .i64 S, .int .i64 T] 85)).trans (hb3.mono (by simp)))
    clear hb3
    go_wp2_with fail
    refine (HD.out _).mono ?_
    rintro e w4 ⟨rfl, hb4⟩
    have HB4 := Lib.hid (HB3.out.trans (hb4.mono HB3.out.size))
    clear hb4
    go_wp2_with fail
    go_ret
    exact ⟨rfl, HB4.out⟩
  · obtain ⟨⟨h1, h2⟩, h3, h4⟩ := (isSt_iff _ _).1 h
    obtain ⟨s, rfl⟩ : ∃ s : Nat, S = (s : Int) := ⟨S.toNat, by omega⟩
    obtain ⟨u, rfl⟩ : ∃ u : Nat, T = (u : Int) := ⟨T.toNat, by omega⟩
    obtain ⟨Q, P, hc, _, _, hQ⟩ := conf_of hD (S := s) (H := u) (by omega) (by omega) (by omega) (by omega)
    have HPl := Lib.hid (fun W => ref_places D s u _ _ hD (by omega) (by omega) (by omega) (by omega) hc.hL hc.hn W)
    have HR := Lib.hid (fun W => rround_any (((D + 1) * s + u + 1 : Nat) : Int) W)
    rw [hc.hR] at HR
    have hq : (Q : Int) ≤ 1024 := by omega
    rw [h] at HD
    clear h ht hc h1 h2 h3 h4 hQ
    generalize (D + 1) * s + u + 1 = n at *
    generalize 2 ^ D = N at *
    have hx : Box (w.alloc (.cells #[.int .i64 (N : Int), .int .i64 (s : Int), .int .i64 (u : Int)] 85)) w.heap.size 85 #[.int .i64 (N : Int), .int .i64 (s : Int), .int .i64 (u : Int)] := Box.new w _ _
    have HX := Lib.hid hx
    clear hx
    go_enter Tryd.func57, Tryd.ntmps57
    go_wp2_with fail
    refine (HP.out _).mono ?_
    rintro e w1 ⟨rfl, rfl⟩
    go_wp2_with fail
    refine (HS.out _).mono ?_
    rintro e w3 ⟨rfl, hb3⟩
    have HX3 := Lib.hid (HX.out.of (hb3.block _ HX.out.lt))
    have HB3 := Lib.hid (((Below.refl _ w).alloc (Nat.le_refl _) (.cells #[.int .i64 (N : Int), .int .i64 (s : Int), .int .i64 (u : Int)] 85)).trans (hb3.mono (by simp)))
    clear hb3 HX
    go_wp2_with fail
    refine (HD.out _).mono ?_
    rintro e w4 ⟨rfl, hb4⟩
    have HX4 := Lib.hid (HX3.out.of (hb4.block _ HX3.out.lt))
    have HB4 := Lib.hid (HB3.out.trans (hb4.mono HB3.out.size))
    have k0 := HX4.out.cell 0
    have k1 := HX4.out.cell 1
    have k2 := HX4.out.cell 2
    clear hb4 HX3 HB3
    go_wp2_with fail
    refine (HS.out _).mono ?_
    rintro e w5 ⟨rfl, hb5⟩
    have HB5 := Lib.hid (HB4.out.trans (hb5.mono HB4.out.size))
    clear hb5 k0 k1 k2 HX4 HB4
    go_wp2_with fail
    refine (HPl.out _).mono ?_
    rintro e w6 ⟨rfl, hb6⟩
    have HB6 := Lib.hid (HB5.out.trans (hb6.mono HB5.out.size))
    clear hb6
    go_wp2_with fail
    refine (HR.out _).mono ?_
    rintro e w7 ⟨rfl, rfl⟩
    have hd : decide ((Q : Int) ≤ 1024) = true := decide_eq_true hq
    go_wp2_with fail
    go_ret
    exact ⟨rfl, HB6.out⟩
set_option maxHeartbeats 2000000 in
theorem rlsizes_of {b s t : Nat} (hb : b ≤ 10) (s1 : 1 ≤ s) (s8 : s ≤ 8) (t1 : 1 ≤ t) (t64 : t ≤ 64) (h : Nat) (w : World) :
    ∃ x y z : Int, szOf b s t h = [x, y, z] ∧ Calls Tryd.prog 48 #[.agg #[.int .i64 ((blN b h : Nat) : Int), .int .i64 (s : Int), .int .i64 (t : Int)]] w fun e w' => e = .returned (.tuple #[.int .i64 x, .int .i64 y, .int .i64 z]) ∧ Below w.heap.size w w' := by
  obtain ⟨Q, P, hc, hq, _, hQ⟩ := conf_of (D := b - 2 * h) (by omega) s1 s8 t1 t64
  refine ⟨_, _, _, rfl, ?_⟩
  rw [hq]
  have hD : b - 2 * h ≤ 10 := by omega
  have HS := Lib.hid (fun W => rshape_in (2 ^ (b - 2 * h)) (s : Int) (t : Int) (b - 2 * h) W hD rfl)
  have hst : isSt (s : Int) (t : Int) = true := (isSt_iff _ _).2 ⟨⟨by omega, by omega⟩, by omega, by omega⟩
  have HRi := Lib.hid (fun W => rlright_any (b - 2 * h) (s : Int) (t : Int) W hD)
  rw [hst] at HRi
  have HPl := Lib.hid (fun W => ref_places (b - 2 * h) s t _ _ hD s1 s8 t1 t64 hc.hL hc.hn W)
  have HR := Lib.hid (fun W => rround_any (((b - 2 * h + 1) * s + t + 1 : Nat) : Int) W)
  rw [hc.hR] at HR
  have HN := Lib.hid (fun W => rpath_nodes ((2 ^ (b - 2 * h) : Nat) : Int) W)
  rw [ndsI_yes (isTree_two hD rfl)] at HN
  have hp2 := Nat.two_pow_pos (b - 2 * h)
  have hp3 := tree_le (b - 2 * h) hD
  have hm : (s : Int) * (2 * ((2 ^ (b - 2 * h) : Nat) : Int) - 1) = ((s * (2 * 2 ^ (b - 2 * h) - 1) : Nat) : Int) := by
    generalize 2 ^ (b - 2 * h) = N at *
    rw [Int.natCast_mul]
    congr 1
    omega
  have hml : s * (2 * 2 ^ (b - 2 * h) - 1) ≤ 8 * 2047 := Nat.mul_le_mul s8 (by omega)
  show Calls Tryd.prog 48 #[.agg #[.int .i64 ((2 ^ (b - 2 * h) : Nat) : Int), .int .i64 (s : Int), .int .i64 (t : Int)]] w fun e w' => e = .returned (.tuple #[.int .i64 ((s * (2 * 2 ^ (b - 2 * h) - 1) : Nat) : Int), .int .i64 (t : Int), .int .i64 (Q : Int)]) ∧ Below w.heap.size w w'
  generalize s * (2 * 2 ^ (b - 2 * h) - 1) = tr at *
  clear hst hc hq hQ hD hp2
  generalize (b - 2 * h + 1) * s + t + 1 = n at *
  generalize 2 ^ (b - 2 * h) = N at *
  have HM : Hid (wrap64 ((s : Int) * (2 * (N : Int) - 1)) = (tr : Int)) := Lib.hid (by rw [hm]; unfold wrap64; omega)
  clear hm
  generalize b - 2 * h = D at *
  have hx : Box (w.alloc (.cells #[.int .i64 (N : Int), .int .i64 (s : Int), .int .i64 (t : Int)] 85)) w.heap.size 85 #[.int .i64 (N : Int), .int .i64 (s : Int), .int .i64 (t : Int)] := Box.new w _ _
  have HX := Lib.hid hx
  clear hx
  go_enter Tryd.func48, Tryd.ntmps48
  go_wp2_with fail
  refine (HRi.out _).mono ?_
  rintro e w3 ⟨rfl, hb3⟩
  have HX3 := Lib.hid (HX.out.of (hb3.block _ HX.out.lt))
  have HB3 := Lib.hid (((Below.refl _ w).alloc (Nat.le_refl _) (.cells #[.int .i64 (N : Int), .int .i64 (s : Int), .int .i64 (t : Int)] 85)).trans (hb3.mono (by simp)))
  have c0 := Gr.cell (HX3.out.cell 0)
  have c1 := Gr.cell (HX3.out.cell 1)
  have c2 := Gr.cell (HX3.out.cell 2)
  clear hb3 HX
  go_upto_region 3 with fail
  refine wp_region_grow (by kernel_rfl) (by kernel_rfl) ?_
  repeat (go_big_quiet_step (first | (go_at_call 66; exact Gr.same ((HN.out _).mono fun _ _ ⟨he, hw⟩ => ⟨he, hw.symm⟩)) | (go_at_call 68; exact Gr.blw (HS.out _)) | (go_at_call 67; exact Gr.blw (HPl.out _)) | (go_at_call 40; exact Gr.same ((HR.out _).mono fun _ _ ⟨he, hw⟩ => ⟨he, hw.symm⟩))))
  refine wpQuiet_nil ?_
  intro w9 hw9
  obtain ⟨G, hG⟩ := hw9
  subst hG
  have HE := Lib.hid (HB3.out.trans (G.ok.none.mono HB3.out.size))
  clear c0 c1 c2 HX3 HB3
  go_wp2_with fail
  go_ret3
  refine ⟨?_, HE.out⟩
  show Ending.returned (.tuple #[.int .i64 (wrap64 ((s : Int) * (2 * (N : Int) - 1))), .int .i64 (t : Int), .int .i64 (Q : Int)]) = _
  rw [HM.out]
theorem bl_step (b k : Nat) : max (blN b k / 4) 1 = blN b (k + 1) := by
  unfold blN
  by_cases h : 2 ≤ b - 2 * k
  · obtain ⟨m, hm⟩ : ∃ m, b - 2 * k = m + 2 := ⟨b - 2 * k - 2, by omega⟩
    rw [hm, show b - 2 * (k + 1) = m by omega, Nat.pow_add]
    have := Nat.two_pow_pos m
    omega
  · rw [show b - 2 * (k + 1) = 0 by omega]
    have h1 : b - 2 * k = 0 ∨ b - 2 * k = 1 := by omega
    rcases h1 with h1 | h1 <;> rw [h1] <;> decide
set_option maxHeartbeats 1000000 in
theorem rblocks_any (b : Nat) (S T : Int) (n h : Nat) (w : World) (hb : b ≤ 10) (hh : h ≤ 100) :
    Calls Tryd.prog 47 #[.agg (scA b S T n), .int .i64 (h : Int)] w fun e w' => e = .returned (.int .i64 (blN b h : Nat)) ∧ w' = w.alloc (.cells (scA b S T n) 34) := by
  have h0 : blN b 0 = 2 ^ b := rfl
  have HS := Lib.hid (bl_step b)
  have HL := Lib.hid (fun k => blN_le b k hb)
  unfold scA
  rw [← h0]
  clear h0
  generalize blN b = bl at *
  obtain ⟨B, hB⟩ : ∃ B, bl 0 = B := ⟨_, rfl⟩
  have HB := Lib.hid hB
  have HB1 := HL.out 0
  rw [hB] at HB1 ⊢
  clear hB
  go_enter Tryd.func47, Tryd.ntmps47
  go_wp2_with fail
  go_loopw [5, 6] (fun v i wr => ∃ k : Nat, k ≤ h ∧ i = .int .i64 k ∧ v = .int .i64 (bl k : Nat) ∧ wr = w.alloc (.cells #[.int .i64 (B : Int), .int .i64 S, .int .i64 T, .int .i64 (n : Int)] 34)) (fun _ i _ => h - (intOf i).toNat)
  case atStart => exact ⟨0, by omega, rfl, by rw [HB.out], rfl⟩
  case round =>
    obtain ⟨k, hk, rfl, rfl, rfl⟩ := hrel
    have hs := HS.out k
    have hl := HL.out k
    have hl2 := HL.out (k + 1)
    by_cases hlt : k < h
    · obtain ⟨x, hx⟩ : ∃ x, bl k = x := ⟨_, rfl⟩
      obtain ⟨y, hy⟩ : ∃ y, bl (k + 1) = y := ⟨_, rfl⟩
      rw [hx] at hl hs ⊢
      rw [hy] at hs hl2
      have HY := Lib.hid hy
      have HSS : Hid (max ((x : Int) / 4) 1 = (y : Int)) := Lib.hid (by omega)
      have HSS2 : Hid (max (((x / 4 : Nat)) : Int) 1 = (y : Int)) := Lib.hid (by omega)
      clear hx hy hs
      go_wp2_with fail
      go_roundw
      case rel => exact ⟨k + 1, by omega, by go_num, by rw [HY.out]; first | rw [HSS.out] | rw [HSS2.out], trivial⟩
      case measure => simp [intOf]; omega
    · obtain rfl : k = h := by omega
      go_wp2_with fail
      go_ret
      first | exact ⟨rfl, rfl⟩ | exact ⟨rfl, trivial⟩
set_option maxHeartbeats 1000000 in
theorem rlcfg_any (b : Nat) (S T : Int) (n h : Nat) (w : World) (hb : b ≤ 10) (hh : h ≤ 100) :
    Calls Tryd.prog 49 #[.agg (scA b S T n), .int .i64 (h : Int)] w fun e w' => e = .returned (.agg #[.int .i64 ((blN b h : Nat) : Int), .int .i64 S, .int .i64 T]) ∧ Below w.heap.size w w' := by
  have HBl := Lib.hid (fun W => rblocks_any b S T n h W hb hh)
  generalize blN b h = N at *
  unfold scA at *
  generalize 2 ^ b = B at *
  obtain ⟨p, hp⟩ : ∃ p, w.heap.size = p := ⟨_, rfl⟩
  obtain ⟨w2, hw2⟩ : ∃ w2, ((w.alloc (.cells #[.int .i64 (B : Int), .int .i64 S, .int .i64 T, .int .i64 (n : Int)] 34)).alloc (.cells #[.int .i64 0, .int .i64 0, .int .i64 0] 85)) = w2 := ⟨_, rfl⟩
  have hbx : Box w2 p 34 #[.int .i64 (B : Int), .int .i64 S, .int .i64 T, .int .i64 (n : Int)] := by rw [← hw2, ← hp]; exact (Box.new w _ _).alloc _
  have hby : Box w2 (p + 1) 85 #[.int .i64 0, .int .i64 0, .int .i64 0] := by
    rw [← hw2, ← hp]
    have := Box.new (w.alloc (.cells #[.int .i64 (B : Int), .int .i64 S, .int .i64 T, .int .i64 (n : Int)] 34)) 85 #[.int .i64 0, .int .i64 0, .int .i64 0]
    simpa using this
  have hbl : Below w.heap.size w w2 := by rw [← hw2]; exact ((Below.refl _ w).alloc (Nat.le_refl _) _).alloc (by simp) _
  have HWp := Lib.hid hp
  have HW2 := Lib.hid hw2
  clear hw2
  go_enter Tryd.func49, Tryd.ntmps49
  go_upto_region 1 with fail
  rw [HW2.out]
  refine held_s (S := fun w' => Box w' p 34 #[.int .i64 (B : Int), .int .i64 S, .int .i64 T, .int .i64 (n : Int)] ∧ Below w.heap.size w w' ∧ ∃ x y z, Box w' (p + 1) 85 #[x, y, z]) 9 rfl (by kernel_rfl) ⟨hbx.drewN 1, hbl.trans ((Below.refl _ _).drew), _, _, _, hby.drewN 1⟩ (fun hHeld => ?_)
  clear hbx hby hbl
  simp only [Array.replicate_succ, Array.replicate_zero, List.push_toArray, List.nil_append, List.cons_append]
  generalize w2.drew = w4 at *
  refine wpAnyH_take (i := 0) (oi := ⟨some 5, _, _, _, _, _⟩) (v := (.agg #[.int .i64 (B : Int), .int .i64 S, .int .i64 T, .int .i64 (n : Int)])) rfl (by kernel_rfl) (by kernel_rfl) (by kernel_rfl) (fun _ _ _ h => h) (Or.inl ⟨by rfl, fun w' hw => by (have k0 := hw.1.cell 0; have k1 := hw.1.cell 1; have k2 := hw.1.cell 2; have k3 := hw.1.cell 3; go_simp)⟩) hHeld ?_
  try simp only [Act.put, List.setIfInBounds_toArray, List.set_cons_zero, List.set_cons_succ]
  refine wpAnyH_take (i := 1) (oi := ⟨some 6, _, _, _, _, _⟩) (v := (.int .i64 (h : Int))) rfl (by kernel_rfl) (by kernel_rfl) (by kernel_rfl) (fun _ _ _ h => h) (Or.inl ⟨by rfl, fun w' hw => by go_simp⟩) hHeld ?_
  try simp only [Act.put, List.setIfInBounds_toArray, List.set_cons_zero, List.set_cons_succ]
  refine wpAnyH_take (i := 3) (oi := ⟨some 8, _, _, _, _, _⟩) (v := (.pointer (some ⟨p, 1, none⟩))) rfl (by kernel_rfl) (by kernel_rfl) (by kernel_rfl) (fun _ _ _ h => h) (Or.inl ⟨by rfl, fun w' hw => by go_simp⟩) hHeld ?_
  try simp only [Act.put, List.setIfInBounds_toArray, List.set_cons_zero, List.set_cons_succ]
  refine wpAnyH_take (i := 4) (oi := ⟨some 9, _, _, _, _, _⟩) (v := (.int .i64 S)) rfl (by kernel_rfl) (by kernel_rfl) (by kernel_rfl) (fun _ _ _ h => h) (Or.inl ⟨by rfl, fun w' hw => by (have k1 := hw.1.cell 1; go_simp)⟩) hHeld ?_
  try simp only [Act.put, List.setIfInBounds_toArray, List.set_cons_zero, List.set_cons_succ]
  refine wpAnyH_take (i := 5) (oi := ⟨some 10, _, _, _, _, _⟩) (v := (.pointer (some ⟨p, 2, none⟩))) rfl (by kernel_rfl) (by kernel_rfl) (by kernel_rfl) (fun _ _ _ h => h) (Or.inl ⟨by rfl, fun w' hw => by go_simp⟩) hHeld ?_
  try simp only [Act.put, List.setIfInBounds_toArray, List.set_cons_zero, List.set_cons_succ]
  refine wpAnyH_take (i := 6) (oi := ⟨some 11, _, _, _, _, _⟩) (v := (.int .i64 T)) rfl (by kernel_rfl) (by kernel_rfl) (by kernel_rfl) (fun _ _ _ h => h) (Or.inl ⟨by rfl, fun w' hw => by (have k2 := hw.1.cell 2; go_simp)⟩) hHeld ?_
  try simp only [Act.put, List.setIfInBounds_toArray, List.set_cons_zero, List.set_cons_succ]
  refine one_ready 2 rfl (by kernel_rfl) (fun K hK => ?_)
  go_simp
  refine (HBl.out _).mono ?_
  rintro e w3 ⟨rfl, rfl⟩
  refine hK.out _ _ ⟨hHeld.1.alloc _, hHeld.2.1.alloc hHeld.2.1.size _, hHeld.2.2.choose, hHeld.2.2.choose_spec.choose, hHeld.2.2.choose_spec.choose_spec.choose, hHeld.2.2.choose_spec.choose_spec.choose_spec.alloc _⟩ (fun hHeld => ?_)
  clear hK K
  generalize w4.alloc _ = w5 at *
  simp only [List.setIfInBounds_toArray, List.set_cons_zero, List.set_cons_succ]
  refine wpAnyH_take (i := 7) (oi := ⟨some 12, _, _, _, _, _⟩) (v := (.agg #[.int .i64 (N : Int), .int .i64 S, .int .i64 T])) rfl (by kernel_rfl) (by kernel_rfl) (by kernel_rfl) (fun _ _ _ h => h) (Or.inl ⟨by rfl, fun w' hw => by go_simp⟩) hHeld ?_
  try simp only [Act.put, List.setIfInBounds_toArray, List.set_cons_zero, List.set_cons_succ]
  refine one_ready 8 rfl (by kernel_rfl) (fun K hK => ?_)
  obtain ⟨hx, hB, x, y, z, hy⟩ := hHeld
  have y0 := hy.cell 0
  have y1 := hy.cell 1
  have y2 := hy.cell 2
  have f0 := hy.frozen 0
  have f1 := hy.frozen 1
  have f2 := hy.frozen 2
  go_simp
  have hz := ((hy.put 0 (.int .i64 (N : Int))).put 1 (.int .i64 S)).put 2 (.int .i64 T)
  have HZ := Lib.hid hz
  have hE := below_only hB ((((Only.refl (just (p + 1)) _).setCell (p := ⟨p + 1, 0, none⟩) (.inl (just_self _)) (.int .i64 (N : Int))).setCell (p := ⟨p + 1, 1, none⟩) (.inl (just_self _)) (.int .i64 S)).setCell (p := ⟨p + 1, 2, none⟩) (.inl (just_self _)) (.int .i64 T)) hB.size (fun i hi e => by have e : i = p + 1 := e; have := HWp.out; omega)
  have HE := Lib.hid hE
  refine hK.out _ _ ⟨((hx.far (by simp) _).far (by simp) _).far (by simp) _, hE, _, _, _, hz⟩ (fun hHeld => ?_)
  clear hK K hz hE hHeld y0 y1 y2 f0 f1 f2
  refine wpAnyH_done (by kernel_rfl) ?_ _
  go_wp2_with fail
  exact bodyPost_ret (v := .agg #[.int .i64 (N : Int), .int .i64 S, .int .i64 T]) (results_one Tryd.results49 rfl (load_box HZ.out Tryd.underlying85 rfl (by kernel_rfl))) rfl ⟨rfl, HE.out⟩
end Go.Proofs.YteiilfdbddpodaaDoor
