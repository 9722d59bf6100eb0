/- Contracts of the document's own Data: an entry's block. Conditions: words are of 64 bits, Next is an int. -/
import Derived.Below
import Derived.BigQuiet
import Derived.ChangeKeysEq
import Derived.ChangeSlices
import Derived.Deep.Cut
import Derived.Deep.Draws
import Derived.Deep.MidRow
import Derived.Deep.OwnRows
import Derived.Deep.Quiet
import Derived.Deep.QuietTactic
import Derived.Deep.WholeRow
import Derived.Laws.AppendOwn
import Derived.Laws.BitsAllLaws
import Derived.Laws.BytesArg
import Derived.Laws.NewBlocks
import Derived.Laws.StructEq
import Derived.Lib.Hide
import Derived.Lib.LazyBuf
import Derived.OpenShut
import Derived.ProofKit
import Derived.RowKit3
import Derived.SizedLaws
import Derived.WalkKit
import Derived.Test.YtjamfcjglodfeaaProg
import Derived.Test.YtjamfcjglodfeaaDataV
import Derived.Test.YtjamfcjglodfeaaGrow
import Derived.Test.YtjamfcjglodfeaaHeap
import Derived.Test.YtjamfcjglodfeaaResults
import Derived.Test.YtjamfcjglodfeaaSlotMath
import Derived.Test.YtjamfcjglodfeaaSlotRef
namespace Go.Proofs.Ytjamfcjglodfeaa
open Go.RowKit Go.ChangeShapes Go.WideShapes Go.ChangeAt

set_option maxHeartbeats 2000000 in
theorem rsldata_false_false (k v t r n x : Int) (w : World) (HR : Hid (∀ W, Calls Try.prog 17 #[.agg #[.bool false, .int .u64 k, .int .u64 v, .int .u64 t, .int .u64 r, .int .u64 n, .int .i64 x]] W fun e w' => e = .returned (.bool false) ∧ Below W.heap.size W w')) :
    Calls Try.prog 19 #[.agg #[.bool false, .int .u64 k, .int .u64 v, .int .u64 t, .int .u64 r, .int .u64 n, .int .i64 x]] w fun e w' => e = .returned (.agg (DA (fun _ => 0))) ∧ Below w.heap.size w w' := by
  obtain ⟨p, hp⟩ : ∃ p, w.heap.size = p := ⟨_, rfl⟩
  obtain ⟨w2, hw2⟩ : ∃ w9, (((w.alloc (.cells #[.bool false, .int .u64 k, .int .u64 v, .int .u64 t, .int .u64 r, .int .u64 n, .int .i64 x] 31)).alloc (.cells #[.int .u64 0, .int .u64 0, .int .u64 0, .int .u64 0, .int .u64 0, .int .u64 0, .int .u64 0, .int .u64 0] 26)).alloc (.cells #[.int .u64 0, .int .u64 0, .int .u64 0, .int .u64 0, .int .u64 0, .int .u64 0, .int .u64 0, .int .u64 0] 26)) = w9 := ⟨_, rfl⟩
  have hx0 : Box w2 (p) 31 #[.bool false, .int .u64 k, .int .u64 v, .int .u64 t, .int .u64 r, .int .u64 n, .int .i64 x] := by
    have h9 := (((Box.new w 31 #[.bool false, .int .u64 k, .int .u64 v, .int .u64 t, .int .u64 r, .int .u64 n, .int .i64 x])).alloc (.cells #[.int .u64 0, .int .u64 0, .int .u64 0, .int .u64 0, .int .u64 0, .int .u64 0, .int .u64 0, .int .u64 0] 26)).alloc (.cells #[.int .u64 0, .int .u64 0, .int .u64 0, .int .u64 0, .int .u64 0, .int .u64 0, .int .u64 0, .int .u64 0] 26)
    try simp only [World.size_alloc] at h9
    simp only [hp, hw2] at h9
    exact h9
  have hx1 : Box w2 (p + 1) 26 #[.int .u64 0, .int .u64 0, .int .u64 0, .int .u64 0, .int .u64 0, .int .u64 0, .int .u64 0, .int .u64 0] := by
    have h9 := ((Box.new (w.alloc (.cells #[.bool false, .int .u64 k, .int .u64 v, .int .u64 t, .int .u64 r, .int .u64 n, .int .i64 x] 31)) 26 #[.int .u64 0, .int .u64 0, .int .u64 0, .int .u64 0, .int .u64 0, .int .u64 0, .int .u64 0, .int .u64 0])).alloc (.cells #[.int .u64 0, .int .u64 0, .int .u64 0, .int .u64 0, .int .u64 0, .int .u64 0, .int .u64 0, .int .u64 0] 26)
    try simp only [World.size_alloc] at h9
    simp only [hp, hw2] at h9
    exact h9
  have hx2 : Box w2 (p + 2) 26 #[.int .u64 0, .int .u64 0, .int .u64 0, .int .u64 0, .int .u64 0, .int .u64 0, .int .u64 0, .int .u64 0] := by
    have h9 := (Box.new ((w.alloc (.cells #[.bool false, .int .u64 k, .int .u64 v, .int .u64 t, .int .u64 r, .int .u64 n, .int .i64 x] 31)).alloc (.cells #[.int .u64 0, .int .u64 0, .int .u64 0, .int .u64 0, .int .u64 0, .int .u64 0, .int .u64 0, .int .u64 0] 26)) 26 #[.int .u64 0, .int .u64 0, .int .u64 0, .int .u64 0, .int .u64 0, .int .u64 0, .int .u64 0, .int .u64 0])
    try simp only [World.size_alloc] at h9
    simp only [hp, hw2] at h9
    exact h9
  have hB : Below w.heap.size w w2 := by
    have h9 := ((((Below.refl w.heap.size w).alloc (by simp; try omega) (.cells #[.bool false, .int .u64 k, .int .u64 v, .int .u64 t, .int .u64 r, .int .u64 n, .int .i64 x] 31)).alloc (by simp; try omega) (.cells #[.int .u64 0, .int .u64 0, .int .u64 0, .int .u64 0, .int .u64 0, .int .u64 0, .int .u64 0, .int .u64 0] 26)).alloc (by simp; try omega) (.cells #[.int .u64 0, .int .u64 0, .int .u64 0, .int .u64 0, .int .u64 0, .int .u64 0, .int .u64 0, .int .u64 0] 26))
    rw [hw2] at h9
    exact h9
  have hS : w2.heap.size = p + 3 := by rw [← hw2]; simp [hp]
  have HX := Lib.hid hx0
  have HY := Lib.hid hx1
  have HZ := Lib.hid hx2
  have HB := Lib.hid hB
  have HS := Lib.hid hS
  have HP := Lib.hid hp
  have HW := Lib.hid hw2
  clear hx1 hB hS hp hw2 hx2
  have a0 : w2.cell? ⟨p, 0, none⟩ = some (.bool false) := hx0.cell 0
  have a1 : w2.cell? ⟨p, 1, none⟩ = some (.int .u64 k) := hx0.cell 1
  have a2 : w2.cell? ⟨p, 2, none⟩ = some (.int .u64 v) := hx0.cell 2
  have a3 : w2.cell? ⟨p, 3, none⟩ = some (.int .u64 t) := hx0.cell 3
  have a4 : w2.cell? ⟨p, 4, none⟩ = some (.int .u64 r) := hx0.cell 4
  have a5 : w2.cell? ⟨p, 5, none⟩ = some (.int .u64 n) := hx0.cell 5
  have a6 : w2.cell? ⟨p, 6, none⟩ = some (.int .i64 x) := hx0.cell 6
  clear hx0
  go_enter Try.func19, Try.ntmps19
  go_upto_region 2 with fail
  simp only [HP.out, HW.out]
  go_wp2_with fail
  refine (HR.out _).mono ?_
  rintro e w3 ⟨rfl, hb⟩
  have hX : Box w3 p _ _ := HX.out.of (hb.block _ HX.out.lt)
  have hY : Box w3 (p + 1) _ _ := HY.out.of (hb.block _ HY.out.lt)
  have hZ : Box w3 (p + 2) _ _ := HZ.out.of (hb.block _ HZ.out.lt)
  have hB := HB.out.trans (hb.mono HB.out.size)
  have hS : p + 3 ≤ w3.heap.size := by have := hb.size; have := HS.out; omega
  have hP := HP.out
  clear HX HY HB HS HW hb HR a0 a1 a2 a3 a4 a5 a6 HP HZ
  have HT := Lib.hid (Box.there hY 8 (by decide))
  have HL := Lib.hid (show w3.rangeAt (p + 2) 0 (DA fun _ => 0).toList from hZ.range)
  have HE := Lib.hid (below_only hB (only_setCells (S := just (p + 1)) _ 0 w3 (Only.refl _ _) (.inl (just_self _))) hB.size (fun i hi e => by have e : i = p + 1 := e; omega) : Below w.heap.size w (w3.setCells (p + 1) 0 (DA fun _ => 0).toList))
  clear hX hY hB hS hP hZ
  go_wp2_with (first | with_reducible refine wpList_load_data rfl (.tmp 3) rfl (p + 2) 0 rfl (fun _ => 0) HL.out ?_ | with_reducible refine wpList_store_data rfl (.tmp 2) (.tmp 7) rfl (p + 1) 0 rfl (fun _ => 0) rfl HT.out ?_)
  exact bodyPost_ret (v := .agg (DA fun _ => 0)) (results_one Try.results19 rfl (load_range (World.rangeAt_setCells_same w3 (p + 1) 0 (DA fun _ => 0).toList HT.out) Try.underlying26 rfl (infoData fun _ => 0))) rfl ⟨rfl, HE.out⟩
set_option maxHeartbeats 2000000 in
theorem rsldata_false_true (k v t r n x : Int) (w : World) (HR : Hid (∀ W, Calls Try.prog 17 #[.agg #[.bool false, .int .u64 k, .int .u64 v, .int .u64 t, .int .u64 r, .int .u64 n, .int .i64 x]] W fun e w' => e = .returned (.bool true) ∧ Below W.heap.size W w')) :
    Calls Try.prog 19 #[.agg #[.bool false, .int .u64 k, .int .u64 v, .int .u64 t, .int .u64 r, .int .u64 n, .int .i64 x]] w fun e w' => e = .returned (.agg (DA (fun i => match i with | 0 => 0 | 1 => k | 2 => v | 3 => t | 4 => r | 5 => n | 6 => IntKind.u64.wrap x | _ => 0))) ∧ Below w.heap.size w w' := by
  obtain ⟨p, hp⟩ : ∃ p, w.heap.size = p := ⟨_, rfl⟩
  obtain ⟨w2, hw2⟩ : ∃ w9, (((w.alloc (.cells #[.bool false, .int .u64 k, .int .u64 v, .int .u64 t, .int .u64 r, .int .u64 n, .int .i64 x] 31)).alloc (.cells #[.int .u64 0, .int .u64 0, .int .u64 0, .int .u64 0, .int .u64 0, .int .u64 0, .int .u64 0, .int .u64 0] 26)).alloc (.cells #[.int .u64 0, .int .u64 0, .int .u64 0, .int .u64 0, .int .u64 0, .int .u64 0, .int .u64 0, .int .u64 0] 26)) = w9 := ⟨_, rfl⟩
  have hx0 : Box w2 (p) 31 #[.bool false, .int .u64 k, .int .u64 v, .int .u64 t, .int .u64 r, .int .u64 n, .int .i64 x] := by
    have h9 := (((Box.new w 31 #[.bool false, .int .u64 k, .int .u64 v, .int .u64 t, .int .u64 r, .int .u64 n, .int .i64 x])).alloc (.cells #[.int .u64 0, .int .u64 0, .int .u64 0, .int .u64 0, .int .u64 0, .int .u64 0, .int .u64 0, .int .u64 0] 26)).alloc (.cells #[.int .u64 0, .int .u64 0, .int .u64 0, .int .u64 0, .int .u64 0, .int .u64 0, .int .u64 0, .int .u64 0] 26)
    try simp only [World.size_alloc] at h9
    simp only [hp, hw2] at h9
    exact h9
  have hx1 : Box w2 (p + 1) 26 #[.int .u64 0, .int .u64 0, .int .u64 0, .int .u64 0, .int .u64 0, .int .u64 0, .int .u64 0, .int .u64 0] := by
    have h9 := ((Box.new (w.alloc (.cells #[.bool false, .int .u64 k, .int .u64 v, .int .u64 t, .int .u64 r, .int .u64 n, .int .i64 x] 31)) 26 #[.int .u64 0, .int .u64 0, .int .u64 0, .int .u64 0, .int .u64 0, .int .u64 0, .int .u64 0, .int .u64 0])).alloc (.cells #[.int .u64 0, .int .u64 0, .int .u64 0, .int .u64 0, .int .u64 0, .int .u64 0, .int .u64 0, .int .u64 0] 26)
    try simp only [World.size_alloc] at h9
    simp only [hp, hw2] at h9
    exact h9
  have hx2 : Box w2 (p + 2) 26 #[.int .u64 0, .int .u64 0, .int .u64 0, .int .u64 0, .int .u64 0, .int .u64 0, .int .u64 0, .int .u64 0] := by
    have h9 := (Box.new ((w.alloc (.cells #[.bool false, .int .u64 k, .int .u64 v, .int .u64 t, .int .u64 r, .int .u64 n, .int .i64 x] 31)).alloc (.cells #[.int .u64 0, .int .u64 0, .int .u64 0, .int .u64 0, .int .u64 0, .int .u64 0, .int .u64 0, .int .u64 0] 26)) 26 #[.int .u64 0, .int .u64 0, .int .u64 0, .int .u64 0, .int .u64 0, .int .u64 0, .int .u64 0, .int .u64 0])
    try simp only [World.size_alloc] at h9
    simp only [hp, hw2] at h9
    exact h9
  have hB : Below w.heap.size w w2 := by
    have h9 := ((((Below.refl w.heap.size w).alloc (by simp; try omega) (.cells #[.bool false, .int .u64 k, .int .u64 v, .int .u64 t, .int .u64 r, .int .u64 n, .int .i64 x] 31)).alloc (by simp; try omega) (.cells #[.int .u64 0, .int .u64 0, .int .u64 0, .int .u64 0, .int .u64 0, .int .u64 0, .int .u64 0, .int .u64 0] 26)).alloc (by simp; try omega) (.cells #[.int .u64 0, .int .u64 0, .int .u64 0, .int .u64 0, .int .u64 0, .int .u64 0, .int .u64 0, .int .u64 0] 26))
    rw [hw2] at h9
    exact h9
  have hS : w2.heap.size = p + 3 := by rw [← hw2]; simp [hp]
  have HX := Lib.hid hx0
  have HY := Lib.hid hx1
  have HZ := Lib.hid hx2
  have HB := Lib.hid hB
  have HS := Lib.hid hS
  have HP := Lib.hid hp
  have HW := Lib.hid hw2
  clear hx1 hB hS hp hw2 hx2
  have a0 : w2.cell? ⟨p, 0, none⟩ = some (.bool false) := hx0.cell 0
  have a1 : w2.cell? ⟨p, 1, none⟩ = some (.int .u64 k) := hx0.cell 1
  have a2 : w2.cell? ⟨p, 2, none⟩ = some (.int .u64 v) := hx0.cell 2
  have a3 : w2.cell? ⟨p, 3, none⟩ = some (.int .u64 t) := hx0.cell 3
  have a4 : w2.cell? ⟨p, 4, none⟩ = some (.int .u64 r) := hx0.cell 4
  have a5 : w2.cell? ⟨p, 5, none⟩ = some (.int .u64 n) := hx0.cell 5
  have a6 : w2.cell? ⟨p, 6, none⟩ = some (.int .i64 x) := hx0.cell 6
  clear hx0
  go_enter Try.func19, Try.ntmps19
  go_upto_region 2 with fail
  simp only [HP.out, HW.out]
  go_wp2_with fail
  refine (HR.out _).mono ?_
  rintro e w3 ⟨rfl, hb⟩
  have hX : Box w3 p _ _ := HX.out.of (hb.block _ HX.out.lt)
  have hY : Box w3 (p + 1) _ _ := HY.out.of (hb.block _ HY.out.lt)
  have hZ : Box w3 (p + 2) _ _ := HZ.out.of (hb.block _ HZ.out.lt)
  have hB := HB.out.trans (hb.mono HB.out.size)
  have hS : p + 3 ≤ w3.heap.size := by have := hb.size; have := HS.out; omega
  have hP := HP.out
  clear HX HY HB HS HW hb HR a0 a1 a2 a3 a4 a5 a6 HP HZ
  have c0 : w3.cell? ⟨p, 0, none⟩ = some (.bool false) := hX.cell 0
  have c1 : w3.cell? ⟨p, 1, none⟩ = some (.int .u64 k) := hX.cell 1
  have c2 : w3.cell? ⟨p, 2, none⟩ = some (.int .u64 v) := hX.cell 2
  have c3 : w3.cell? ⟨p, 3, none⟩ = some (.int .u64 t) := hX.cell 3
  have c4 : w3.cell? ⟨p, 4, none⟩ = some (.int .u64 r) := hX.cell 4
  have c5 : w3.cell? ⟨p, 5, none⟩ = some (.int .u64 n) := hX.cell 5
  have c6 : w3.cell? ⟨p, 6, none⟩ = some (.int .i64 x) := hX.cell 6
  have z0 : w3.cell? ⟨p + 2, 0, none⟩ = some (.int .u64 0) := hZ.cell 0
  have f0 := hZ.frozen 0
  have z1 : w3.cell? ⟨p + 2, 1, none⟩ = some (.int .u64 0) := hZ.cell 1
  have f1 := hZ.frozen 1
  have z2 : w3.cell? ⟨p + 2, 2, none⟩ = some (.int .u64 0) := hZ.cell 2
  have f2 := hZ.frozen 2
  have z3 : w3.cell? ⟨p + 2, 3, none⟩ = some (.int .u64 0) := hZ.cell 3
  have f3 := hZ.frozen 3
  have z4 : w3.cell? ⟨p + 2, 4, none⟩ = some (.int .u64 0) := hZ.cell 4
  have f4 := hZ.frozen 4
  have z5 : w3.cell? ⟨p + 2, 5, none⟩ = some (.int .u64 0) := hZ.cell 5
  have f5 := hZ.frozen 5
  have z6 : w3.cell? ⟨p + 2, 6, none⟩ = some (.int .u64 0) := hZ.cell 6
  have f6 := hZ.frozen 6
  obtain ⟨w5, hw5⟩ : ∃ w9, (((((w3.setCell ⟨p + 2, 1, none⟩ (.int .u64 k)).setCell ⟨p + 2, 2, none⟩ (.int .u64 v)).setCell ⟨p + 2, 3, none⟩ (.int .u64 t)).setCell ⟨p + 2, 4, none⟩ (.int .u64 r)).setCell ⟨p + 2, 5, none⟩ (.int .u64 n)).setCell ⟨p + 2, 6, none⟩ (.int .u64 (IntKind.u64.wrap x)) = w9 := ⟨_, rfl⟩
  have hZ5 : Box w5 (p + 2) 26 (DA (fun i => match i with | 0 => 0 | 1 => k | 2 => v | 3 => t | 4 => r | 5 => n | 6 => IntKind.u64.wrap x | _ => 0)) := by rw [← hw5]; exact ((((((hZ.put 1 (.int .u64 k)).put 2 (.int .u64 v)).put 3 (.int .u64 t)).put 4 (.int .u64 r)).put 5 (.int .u64 n)).put 6 (.int .u64 (IntKind.u64.wrap x)))
  have hY5 : Box w5 (p + 1) 26 #[.int .u64 0, .int .u64 0, .int .u64 0, .int .u64 0, .int .u64 0, .int .u64 0, .int .u64 0, .int .u64 0] := by rw [← hw5]; exact ((((((hY.far (a := ⟨p + 2, 1, none⟩) (by show p + 1 ≠ p + 2; omega) (.int .u64 k)).far (a := ⟨p + 2, 2, none⟩) (by show p + 1 ≠ p + 2; omega) (.int .u64 v)).far (a := ⟨p + 2, 3, none⟩) (by show p + 1 ≠ p + 2; omega) (.int .u64 t)).far (a := ⟨p + 2, 4, none⟩) (by show p + 1 ≠ p + 2; omega) (.int .u64 r)).far (a := ⟨p + 2, 5, none⟩) (by show p + 1 ≠ p + 2; omega) (.int .u64 n)).far (a := ⟨p + 2, 6, none⟩) (by show p + 1 ≠ p + 2; omega) (.int .u64 (IntKind.u64.wrap x)))
  have hB5 : Below w.heap.size w w5 := by rw [← hw5]; exact ((((((hB.setCell (p := ⟨p + 2, 1, none⟩) (by show w.heap.size ≤ p + 2; omega) (.int .u64 k)).setCell (p := ⟨p + 2, 2, none⟩) (by show w.heap.size ≤ p + 2; omega) (.int .u64 v)).setCell (p := ⟨p + 2, 3, none⟩) (by show w.heap.size ≤ p + 2; omega) (.int .u64 t)).setCell (p := ⟨p + 2, 4, none⟩) (by show w.heap.size ≤ p + 2; omega) (.int .u64 r)).setCell (p := ⟨p + 2, 5, none⟩) (by show w.heap.size ≤ p + 2; omega) (.int .u64 n)).setCell (p := ⟨p + 2, 6, none⟩) (by show w.heap.size ≤ p + 2; omega) (.int .u64 (IntKind.u64.wrap x)))
  have HT := Lib.hid (Box.there hY5 8 (by decide))
  have HL := Lib.hid (show w5.rangeAt (p + 2) 0 (DA (fun i => match i with | 0 => 0 | 1 => k | 2 => v | 3 => t | 4 => r | 5 => n | 6 => IntKind.u64.wrap x | _ => 0)).toList from hZ5.range)
  have HE := Lib.hid (below_only hB5 (only_setCells (S := just (p + 1)) _ 0 w5 (Only.refl _ _) (.inl (just_self _))) hB5.size (fun i hi e => by have e : i = p + 1 := e; omega) : Below w.heap.size w (w5.setCells (p + 1) 0 (DA (fun i => match i with | 0 => 0 | 1 => k | 2 => v | 3 => t | 4 => r | 5 => n | 6 => IntKind.u64.wrap x | _ => 0)).toList))
  have HW5 := Lib.hid hw5
  clear hX hY hZ hB hS hP hZ5 hY5 hB5 hw5
  have hz : IntKind.u64.wrap x = IntKind.u64.wrap x := rfl
  go_upto_region 12 with fail
  rw [HW5.out]
  go_wp2_with (first | with_reducible refine wpList_load_data rfl (.tmp 3) rfl (p + 2) 0 rfl (fun i => match i with | 0 => 0 | 1 => k | 2 => v | 3 => t | 4 => r | 5 => n | 6 => IntKind.u64.wrap x | _ => 0) HL.out ?_ | with_reducible refine wpList_store_data rfl (.tmp 2) (.tmp 30) rfl (p + 1) 0 rfl (fun i => match i with | 0 => 0 | 1 => k | 2 => v | 3 => t | 4 => r | 5 => n | 6 => IntKind.u64.wrap x | _ => 0) rfl HT.out ?_)
  exact bodyPost_ret (v := .agg (DA (fun i => match i with | 0 => 0 | 1 => k | 2 => v | 3 => t | 4 => r | 5 => n | 6 => IntKind.u64.wrap x | _ => 0))) (results_one Try.results19 rfl (load_range (World.rangeAt_setCells_same w5 (p + 1) 0 (DA (fun i => match i with | 0 => 0 | 1 => k | 2 => v | 3 => t | 4 => r | 5 => n | 6 => IntKind.u64.wrap x | _ => 0)).toList HT.out) Try.underlying26 rfl (infoData (fun i => match i with | 0 => 0 | 1 => k | 2 => v | 3 => t | 4 => r | 5 => n | 6 => IntKind.u64.wrap x | _ => 0)))) rfl ⟨rfl, HE.out⟩
set_option maxHeartbeats 2000000 in
theorem rsldata_true_false (k v t r n x : Int) (w : World) (HR : Hid (∀ W, Calls Try.prog 17 #[.agg #[.bool true, .int .u64 k, .int .u64 v, .int .u64 t, .int .u64 r, .int .u64 n, .int .i64 x]] W fun e w' => e = .returned (.bool false) ∧ Below W.heap.size W w')) :
    Calls Try.prog 19 #[.agg #[.bool true, .int .u64 k, .int .u64 v, .int .u64 t, .int .u64 r, .int .u64 n, .int .i64 x]] w fun e w' => e = .returned (.agg (DA (fun _ => 0))) ∧ Below w.heap.size w w' := by
  obtain ⟨p, hp⟩ : ∃ p, w.heap.size = p := ⟨_, rfl⟩
  obtain ⟨w2, hw2⟩ : ∃ w9, (((w.alloc (.cells #[.bool true, .int .u64 k, .int .u64 v, .int .u64 t, .int .u64 r, .int .u64 n, .int .i64 x] 31)).alloc (.cells #[.int .u64 0, .int .u64 0, .int .u64 0, .int .u64 0, .int .u64 0, .int .u64 0, .int .u64 0, .int .u64 0] 26)).alloc (.cells #[.int .u64 0, .int .u64 0, .int .u64 0, .int .u64 0, .int .u64 0, .int .u64 0, .int .u64 0, .int .u64 0] 26)) = w9 := ⟨_, rfl⟩
  have hx0 : Box w2 (p) 31 #[.bool true, .int .u64 k, .int .u64 v, .int .u64 t, .int .u64 r, .int .u64 n, .int .i64 x] := by
    have h9 := (((Box.new w 31 #[.bool true, .int .u64 k, .int .u64 v, .int .u64 t, .int .u64 r, .int .u64 n, .int .i64 x])).alloc (.cells #[.int .u64 0, .int .u64 0, .int .u64 0, .int .u64 0, .int .u64 0, .int .u64 0, .int .u64 0, .int .u64 0] 26)).alloc (.cells #[.int .u64 0, .int .u64 0, .int .u64 0, .int .u64 0, .int .u64 0, .int .u64 0, .int .u64 0, .int .u64 0] 26)
    try simp only [World.size_alloc] at h9
    simp only [hp, hw2] at h9
    exact h9
  have hx1 : Box w2 (p + 1) 26 #[.int .u64 0, .int .u64 0, .int .u64 0, .int .u64 0, .int .u64 0, .int .u64 0, .int .u64 0, .int .u64 0] := by
    have h9 := ((Box.new (w.alloc (.cells #[.bool true, .int .u64 k, .int .u64 v, .int .u64 t, .int .u64 r, .int .u64 n, .int .i64 x] 31)) 26 #[.int .u64 0, .int .u64 0, .int .u64 0, .int .u64 0, .int .u64 0, .int .u64 0, .int .u64 0, .int .u64 0])).alloc (.cells #[.int .u64 0, .int .u64 0, .int .u64 0, .int .u64 0, .int .u64 0, .int .u64 0, .int .u64 0, .int .u64 0] 26)
    try simp only [World.size_alloc] at h9
    simp only [hp, hw2] at h9
    exact h9
  have hx2 : Box w2 (p + 2) 26 #[.int .u64 0, .int .u64 0, .int .u64 0, .int .u64 0, .int .u64 0, .int .u64 0, .int .u64 0, .int .u64 0] := by
    have h9 := (Box.new ((w.alloc (.cells #[.bool true, .int .u64 k, .int .u64 v, .int .u64 t, .int .u64 r, .int .u64 n, .int .i64 x] 31)).alloc (.cells #[.int .u64 0, .int .u64 0, .int .u64 0, .int .u64 0, .int .u64 0, .int .u64 0, .int .u64 0, .int .u64 0] 26)) 26 #[.int .u64 0, .int .u64 0, .int .u64 0, .int .u64 0, .int .u64 0, .int .u64 0, .int .u64 0, .int .u64 0])
    try simp only [World.size_alloc] at h9
    simp only [hp, hw2] at h9
    exact h9
  have hB : Below w.heap.size w w2 := by
    have h9 := ((((Below.refl w.heap.size w).alloc (by simp; try omega) (.cells #[.bool true, .int .u64 k, .int .u64 v, .int .u64 t, .int .u64 r, .int .u64 n, .int .i64 x] 31)).alloc (by simp; try omega) (.cells #[.int .u64 0, .int .u64 0, .int .u64 0, .int .u64 0, .int .u64 0, .int .u64 0, .int .u64 0, .int .u64 0] 26)).alloc (by simp; try omega) (.cells #[.int .u64 0, .int .u64 0, .int .u64 0, .int .u64 0, .int .u64 0, .int .u64 0, .int .u64 0, .int .u64 0] 26))
    rw [hw2] at h9
    exact h9
  have hS : w2.heap.size = p + 3 := by rw [← hw2]; simp [hp]
  have HX := Lib.hid hx0
  have HY := Lib.hid hx1
  have HZ := Lib.hid hx2
  have HB := Lib.hid hB
  have HS := Lib.hid hS
  have HP := Lib.hid hp
  have HW := Lib.hid hw2
  clear hx1 hB hS hp hw2 hx2
  have a0 : w2.cell? ⟨p, 0, none⟩ = some (.bool true) := hx0.cell 0
  have a1 : w2.cell? ⟨p, 1, none⟩ = some (.int .u64 k) := hx0.cell 1
  have a2 : w2.cell? ⟨p, 2, none⟩ = some (.int .u64 v) := hx0.cell 2
  have a3 : w2.cell? ⟨p, 3, none⟩ = some (.int .u64 t) := hx0.cell 3
  have a4 : w2.cell? ⟨p, 4, none⟩ = some (.int .u64 r) := hx0.cell 4
  have a5 : w2.cell? ⟨p, 5, none⟩ = some (.int .u64 n) := hx0.cell 5
  have a6 : w2.cell? ⟨p, 6, none⟩ = some (.int .i64 x) := hx0.cell 6
  clear hx0
  go_enter Try.func19, Try.ntmps19
  go_upto_region 2 with fail
  simp only [HP.out, HW.out]
  go_wp2_with fail
  refine (HR.out _).mono ?_
  rintro e w3 ⟨rfl, hb⟩
  have hX : Box w3 p _ _ := HX.out.of (hb.block _ HX.out.lt)
  have hY : Box w3 (p + 1) _ _ := HY.out.of (hb.block _ HY.out.lt)
  have hZ : Box w3 (p + 2) _ _ := HZ.out.of (hb.block _ HZ.out.lt)
  have hB := HB.out.trans (hb.mono HB.out.size)
  have hS : p + 3 ≤ w3.heap.size := by have := hb.size; have := HS.out; omega
  have hP := HP.out
  clear HX HY HB HS HW hb HR a0 a1 a2 a3 a4 a5 a6 HP HZ
  have HT := Lib.hid (Box.there hY 8 (by decide))
  have HL := Lib.hid (show w3.rangeAt (p + 2) 0 (DA fun _ => 0).toList from hZ.range)
  have HE := Lib.hid (below_only hB (only_setCells (S := just (p + 1)) _ 0 w3 (Only.refl _ _) (.inl (just_self _))) hB.size (fun i hi e => by have e : i = p + 1 := e; omega) : Below w.heap.size w (w3.setCells (p + 1) 0 (DA fun _ => 0).toList))
  clear hX hY hB hS hP hZ
  go_wp2_with (first | with_reducible refine wpList_load_data rfl (.tmp 3) rfl (p + 2) 0 rfl (fun _ => 0) HL.out ?_ | with_reducible refine wpList_store_data rfl (.tmp 2) (.tmp 7) rfl (p + 1) 0 rfl (fun _ => 0) rfl HT.out ?_)
  exact bodyPost_ret (v := .agg (DA fun _ => 0)) (results_one Try.results19 rfl (load_range (World.rangeAt_setCells_same w3 (p + 1) 0 (DA fun _ => 0).toList HT.out) Try.underlying26 rfl (infoData fun _ => 0))) rfl ⟨rfl, HE.out⟩
set_option maxHeartbeats 2000000 in
theorem rsldata_true_true (k v t r n x : Int) (w : World) (HR : Hid (∀ W, Calls Try.prog 17 #[.agg #[.bool true, .int .u64 k, .int .u64 v, .int .u64 t, .int .u64 r, .int .u64 n, .int .i64 x]] W fun e w' => e = .returned (.bool true) ∧ Below W.heap.size W w')) :
    Calls Try.prog 19 #[.agg #[.bool true, .int .u64 k, .int .u64 v, .int .u64 t, .int .u64 r, .int .u64 n, .int .i64 x]] w fun e w' => e = .returned (.agg (DA (fun i => match i with | 0 => 1 | 1 => k | 2 => v | 3 => t | 4 => r | 5 => n | 6 => IntKind.u64.wrap x | _ => 0))) ∧ Below w.heap.size w w' := by
  obtain ⟨p, hp⟩ : ∃ p, w.heap.size = p := ⟨_, rfl⟩
  obtain ⟨w2, hw2⟩ : ∃ w9, (((w.alloc (.cells #[.bool true, .int .u64 k, .int .u64 v, .int .u64 t, .int .u64 r, .int .u64 n, .int .i64 x] 31)).alloc (.cells #[.int .u64 0, .int .u64 0, .int .u64 0, .int .u64 0, .int .u64 0, .int .u64 0, .int .u64 0, .int .u64 0] 26)).alloc (.cells #[.int .u64 0, .int .u64 0, .int .u64 0, .int .u64 0, .int .u64 0, .int .u64 0, .int .u64 0, .int .u64 0] 26)) = w9 := ⟨_, rfl⟩
  have hx0 : Box w2 (p) 31 #[.bool true, .int .u64 k, .int .u64 v, .int .u64 t, .int .u64 r, .int .u64 n, .int .i64 x] := by
    have h9 := (((Box.new w 31 #[.bool true, .int .u64 k, .int .u64 v, .int .u64 t, .int .u64 r, .int .u64 n, .int .i64 x])).alloc (.cells #[.int .u64 0, .int .u64 0, .int .u64 0, .int .u64 0, .int .u64 0, .int .u64 0, .int .u64 0, .int .u64 0] 26)).alloc (.cells #[.int .u64 0, .int .u64 0, .int .u64 0, .int .u64 0, .int .u64 0, .int .u64 0, .int .u64 0, .int .u64 0] 26)
    try simp only [World.size_alloc] at h9
    simp only [hp, hw2] at h9
    exact h9
  have hx1 : Box w2 (p + 1) 26 #[.int .u64 0, .int .u64 0, .int .u64 0, .int .u64 0, .int .u64 0, .int .u64 0, .int .u64 0, .int .u64 0] := by
    have h9 := ((Box.new (w.alloc (.cells #[.bool true, .int .u64 k, .int .u64 v, .int .u64 t, .int .u64 r, .int .u64 n, .int .i64 x] 31)) 26 #[.int .u64 0, .int .u64 0, .int .u64 0, .int .u64 0, .int .u64 0, .int .u64 0, .int .u64 0, .int .u64 0])).alloc (.cells #[.int .u64 0, .int .u64 0, .int .u64 0, .int .u64 0, .int .u64 0, .int .u64 0, .int .u64 0, .int .u64 0] 26)
    try simp only [World.size_alloc] at h9
    simp only [hp, hw2] at h9
    exact h9
  have hx2 : Box w2 (p + 2) 26 #[.int .u64 0, .int .u64 0, .int .u64 0, .int .u64 0, .int .u64 0, .int .u64 0, .int .u64 0, .int .u64 0] := by
    have h9 := (Box.new ((w.alloc (.cells #[.bool true, .int .u64 k, .int .u64 v, .int .u64 t, .int .u64 r, .int .u64 n, .int .i64 x] 31)).alloc (.cells #[.int .u64 0, .int .u64 0, .int .u64 0, .int .u64 0, .int .u64 0, .int .u64 0, .int .u64 0, .int .u64 0] 26)) 26 #[.int .u64 0, .int .u64 0, .int .u64 0, .int .u64 0, .int .u64 0, .int .u64 0, .int .u64 0, .int .u64 0])
    try simp only [World.size_alloc] at h9
    simp only [hp, hw2] at h9
    exact h9
  have hB : Below w.heap.size w w2 := by
    have h9 := ((((Below.refl w.heap.size w).alloc (by simp; try omega) (.cells #[.bool true, .int .u64 k, .int .u64 v, .int .u64 t, .int .u64 r, .int .u64 n, .int .i64 x] 31)).alloc (by simp; try omega) (.cells #[.int .u64 0, .int .u64 0, .int .u64 0, .int .u64 0, .int .u64 0, .int .u64 0, .int .u64 0, .int .u64 0] 26)).alloc (by simp; try omega) (.cells #[.int .u64 0, .int .u64 0, .int .u64 0, .int .u64 0, .int .u64 0, .int .u64 0, .int .u64 0, .int .u64 0] 26))
    rw [hw2] at h9
    exact h9
  have hS : w2.heap.size = p + 3 := by rw [← hw2]; simp [hp]
  have HX := Lib.hid hx0
  have HY := Lib.hid hx1
  have HZ := Lib.hid hx2
  have HB := Lib.hid hB
  have HS := Lib.hid hS
  have HP := Lib.hid hp
  have HW := Lib.hid hw2
  clear hx1 hB hS hp hw2 hx2
  have a0 : w2.cell? ⟨p, 0, none⟩ = some (.bool true) := hx0.cell 0
  have a1 : w2.cell? ⟨p, 1, none⟩ = some (.int .u64 k) := hx0.cell 1
  have a2 : w2.cell? ⟨p, 2, none⟩ = some (.int .u64 v) := hx0.cell 2
  have a3 : w2.cell? ⟨p, 3, none⟩ = some (.int .u64 t) := hx0.cell 3
  have a4 : w2.cell? ⟨p, 4, none⟩ = some (.int .u64 r) := hx0.cell 4
  have a5 : w2.cell? ⟨p, 5, none⟩ = some (.int .u64 n) := hx0.cell 5
  have a6 : w2.cell? ⟨p, 6, none⟩ = some (.int .i64 x) := hx0.cell 6
  clear hx0
  go_enter Try.func19, Try.ntmps19
  go_upto_region 2 with fail
  simp only [HP.out, HW.out]
  go_wp2_with fail
  refine (HR.out _).mono ?_
  rintro e w3 ⟨rfl, hb⟩
  have hX : Box w3 p _ _ := HX.out.of (hb.block _ HX.out.lt)
  have hY : Box w3 (p + 1) _ _ := HY.out.of (hb.block _ HY.out.lt)
  have hZ : Box w3 (p + 2) _ _ := HZ.out.of (hb.block _ HZ.out.lt)
  have hB := HB.out.trans (hb.mono HB.out.size)
  have hS : p + 3 ≤ w3.heap.size := by have := hb.size; have := HS.out; omega
  have hP := HP.out
  clear HX HY HB HS HW hb HR a0 a1 a2 a3 a4 a5 a6 HP HZ
  have c0 : w3.cell? ⟨p, 0, none⟩ = some (.bool true) := hX.cell 0
  have c1 : w3.cell? ⟨p, 1, none⟩ = some (.int .u64 k) := hX.cell 1
  have c2 : w3.cell? ⟨p, 2, none⟩ = some (.int .u64 v) := hX.cell 2
  have c3 : w3.cell? ⟨p, 3, none⟩ = some (.int .u64 t) := hX.cell 3
  have c4 : w3.cell? ⟨p, 4, none⟩ = some (.int .u64 r) := hX.cell 4
  have c5 : w3.cell? ⟨p, 5, none⟩ = some (.int .u64 n) := hX.cell 5
  have c6 : w3.cell? ⟨p, 6, none⟩ = some (.int .i64 x) := hX.cell 6
  have z0 : w3.cell? ⟨p + 2, 0, none⟩ = some (.int .u64 0) := hZ.cell 0
  have f0 := hZ.frozen 0
  have z1 : w3.cell? ⟨p + 2, 1, none⟩ = some (.int .u64 0) := hZ.cell 1
  have f1 := hZ.frozen 1
  have z2 : w3.cell? ⟨p + 2, 2, none⟩ = some (.int .u64 0) := hZ.cell 2
  have f2 := hZ.frozen 2
  have z3 : w3.cell? ⟨p + 2, 3, none⟩ = some (.int .u64 0) := hZ.cell 3
  have f3 := hZ.frozen 3
  have z4 : w3.cell? ⟨p + 2, 4, none⟩ = some (.int .u64 0) := hZ.cell 4
  have f4 := hZ.frozen 4
  have z5 : w3.cell? ⟨p + 2, 5, none⟩ = some (.int .u64 0) := hZ.cell 5
  have f5 := hZ.frozen 5
  have z6 : w3.cell? ⟨p + 2, 6, none⟩ = some (.int .u64 0) := hZ.cell 6
  have f6 := hZ.frozen 6
  obtain ⟨w5, hw5⟩ : ∃ w9, ((((((w3.setCell ⟨p + 2, 0, none⟩ (.int .u64 1)).setCell ⟨p + 2, 1, none⟩ (.int .u64 k)).setCell ⟨p + 2, 2, none⟩ (.int .u64 v)).setCell ⟨p + 2, 3, none⟩ (.int .u64 t)).setCell ⟨p + 2, 4, none⟩ (.int .u64 r)).setCell ⟨p + 2, 5, none⟩ (.int .u64 n)).setCell ⟨p + 2, 6, none⟩ (.int .u64 (IntKind.u64.wrap x)) = w9 := ⟨_, rfl⟩
  have hZ5 : Box w5 (p + 2) 26 (DA (fun i => match i with | 0 => 1 | 1 => k | 2 => v | 3 => t | 4 => r | 5 => n | 6 => IntKind.u64.wrap x | _ => 0)) := by rw [← hw5]; exact (((((((hZ.put 0 (.int .u64 1)).put 1 (.int .u64 k)).put 2 (.int .u64 v)).put 3 (.int .u64 t)).put 4 (.int .u64 r)).put 5 (.int .u64 n)).put 6 (.int .u64 (IntKind.u64.wrap x)))
  have hY5 : Box w5 (p + 1) 26 #[.int .u64 0, .int .u64 0, .int .u64 0, .int .u64 0, .int .u64 0, .int .u64 0, .int .u64 0, .int .u64 0] := by rw [← hw5]; exact (((((((hY.far (a := ⟨p + 2, 0, none⟩) (by show p + 1 ≠ p + 2; omega) (.int .u64 1)).far (a := ⟨p + 2, 1, none⟩) (by show p + 1 ≠ p + 2; omega) (.int .u64 k)).far (a := ⟨p + 2, 2, none⟩) (by show p + 1 ≠ p + 2; omega) (.int .u64 v)).far (a := ⟨p + 2, 3, none⟩) (by show p + 1 ≠ p + 2; omega) (.int .u64 t)).far (a := ⟨p + 2, 4, none⟩) (by show p + 1 ≠ p + 2; omega) (.int .u64 r)).far (a := ⟨p + 2, 5, none⟩) (by show p + 1 ≠ p + 2; omega) (.int .u64 n)).far (a := ⟨p + 2, 6, none⟩) (by show p + 1 ≠ p + 2; omega) (.int .u64 (IntKind.u64.wrap x)))
  have hB5 : Below w.heap.size w w5 := by rw [← hw5]; exact (((((((hB.setCell (p := ⟨p + 2, 0, none⟩) (by show w.heap.size ≤ p + 2; omega) (.int .u64 1)).setCell (p := ⟨p + 2, 1, none⟩) (by show w.heap.size ≤ p + 2; omega) (.int .u64 k)).setCell (p := ⟨p + 2, 2, none⟩) (by show w.heap.size ≤ p + 2; omega) (.int .u64 v)).setCell (p := ⟨p + 2, 3, none⟩) (by show w.heap.size ≤ p + 2; omega) (.int .u64 t)).setCell (p := ⟨p + 2, 4, none⟩) (by show w.heap.size ≤ p + 2; omega) (.int .u64 r)).setCell (p := ⟨p + 2, 5, none⟩) (by show w.heap.size ≤ p + 2; omega) (.int .u64 n)).setCell (p := ⟨p + 2, 6, none⟩) (by show w.heap.size ≤ p + 2; omega) (.int .u64 (IntKind.u64.wrap x)))
  have HT := Lib.hid (Box.there hY5 8 (by decide))
  have HL := Lib.hid (show w5.rangeAt (p + 2) 0 (DA (fun i => match i with | 0 => 1 | 1 => k | 2 => v | 3 => t | 4 => r | 5 => n | 6 => IntKind.u64.wrap x | _ => 0)).toList from hZ5.range)
  have HE := Lib.hid (below_only hB5 (only_setCells (S := just (p + 1)) _ 0 w5 (Only.refl _ _) (.inl (just_self _))) hB5.size (fun i hi e => by have e : i = p + 1 := e; omega) : Below w.heap.size w (w5.setCells (p + 1) 0 (DA (fun i => match i with | 0 => 1 | 1 => k | 2 => v | 3 => t | 4 => r | 5 => n | 6 => IntKind.u64.wrap x | _ => 0)).toList))
  have HW5 := Lib.hid hw5
  clear hX hY hZ hB hS hP hZ5 hY5 hB5 hw5
  have hz : IntKind.u64.wrap x = IntKind.u64.wrap x := rfl
  go_upto_region 12 with fail
  rw [HW5.out]
  go_wp2_with (first | with_reducible refine wpList_load_data rfl (.tmp 3) rfl (p + 2) 0 rfl (fun i => match i with | 0 => 1 | 1 => k | 2 => v | 3 => t | 4 => r | 5 => n | 6 => IntKind.u64.wrap x | _ => 0) HL.out ?_ | with_reducible refine wpList_store_data rfl (.tmp 2) (.tmp 30) rfl (p + 1) 0 rfl (fun i => match i with | 0 => 1 | 1 => k | 2 => v | 3 => t | 4 => r | 5 => n | 6 => IntKind.u64.wrap x | _ => 0) rfl HT.out ?_)
  exact bodyPost_ret (v := .agg (DA (fun i => match i with | 0 => 1 | 1 => k | 2 => v | 3 => t | 4 => r | 5 => n | 6 => IntKind.u64.wrap x | _ => 0))) (results_one Try.results19 rfl (load_range (World.rangeAt_setCells_same w5 (p + 1) 0 (DA (fun i => match i with | 0 => 1 | 1 => k | 2 => v | 3 => t | 4 => r | 5 => n | 6 => IntKind.u64.wrap x | _ => 0)).toList HT.out) Try.underlying26 rfl (infoData (fun i => match i with | 0 => 1 | 1 => k | 2 => v | 3 => t | 4 => r | 5 => n | 6 => IntKind.u64.wrap x | _ => 0)))) rfl ⟨rfl, HE.out⟩
/-- An entry's block. -/
theorem rsldata_any (s : Sl) (w : World) (hs : s.Ok) : Calls Try.prog 19 #[.agg s.a] w fun e w' => e = .returned (.agg (DA s.dat)) ∧ Below w.heap.size w w' := by
  have hr : ∀ W, Calls Try.prog 17 #[.agg s.a] W fun e w' => e = .returned (.bool s.right) ∧ Below W.heap.size W w' := fun W => rslright_any s W hs
  obtain ⟨u, k, v, t, r, n, x⟩ := s
  show Calls Try.prog _ _ _ fun e w' => e = .returned (.agg (DA (dtS u k v t r n x))) ∧ _
  cases h : rtS u k v t r n x
  · rw [show Sl.right ⟨u, k, v, t, r, n, x⟩ = false from h] at hr
    rw [dtS_fun h]
    cases u
    · exact rsldata_false_false k v t r n x w (Lib.hid hr)
    · exact rsldata_true_false k v t r n x w (Lib.hid hr)
  · rw [show Sl.right ⟨u, k, v, t, r, n, x⟩ = true from h] at hr
    cases u
    · rw [show dtS false k v t r n x = (fun i => match i with | 0 => 0 | 1 => k | 2 => v | 3 => t | 4 => r | 5 => n | 6 => IntKind.u64.wrap x | _ => 0) from by funext i; unfold dtS; rw [if_pos h]; rfl]
      exact rsldata_false_true k v t r n x w (Lib.hid hr)
    · rw [show dtS true k v t r n x = (fun i => match i with | 0 => 1 | 1 => k | 2 => v | 3 => t | 4 => r | 5 => n | 6 => IntKind.u64.wrap x | _ => 0) from by funext i; unfold dtS; rw [if_pos h]; rfl]
      exact rsldata_true_true k v t r n x w (Lib.hid hr)
end Go.Proofs.Ytjamfcjglodfeaa
