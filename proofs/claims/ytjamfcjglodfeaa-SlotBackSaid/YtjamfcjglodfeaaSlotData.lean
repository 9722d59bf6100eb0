/- Contracts of package slot: Data: an entry's block. Conditions: words are of 64 bits, Next is an int. -/
import Derived.Below
import Derived.BigQuiet
import Derived.ChangeKeysEq
import Derived.ChangeSlices
import Derived.Deep.Cut
import Derived.Deep.Draws
import Derived.Deep.MidRow
import Derived.Deep.OwnRows
import Derived.Deep.Quiet
import Derived.Deep.QuietTactic
import Derived.Deep.WholeRow
import Derived.Laws.BitsAllLaws
import Derived.Laws.BytesArg
import Derived.Laws.NewBlocks
import Derived.Laws.StructEq
import Derived.Lib.Hide
import Derived.Lib.LazyBuf
import Derived.OpenShut
import Derived.ProofKit
import Derived.RowKit3
import Derived.SizedLaws
import Derived.WalkKit
import Derived.Test.YtjamfcjglodfeaaProg
import Derived.Test.YtjamfcjglodfeaaDataV
import Derived.Test.YtjamfcjglodfeaaGrow
import Derived.Test.YtjamfcjglodfeaaHeap
import Derived.Test.YtjamfcjglodfeaaResults
import Derived.Test.YtjamfcjglodfeaaSlot
import Derived.Test.YtjamfcjglodfeaaSlotMath
namespace Go.Proofs.Ytjamfcjglodfeaa
open Go.RowKit Go.ChangeShapes Go.WideShapes Go.ChangeAt

set_option maxHeartbeats 2000000 in
theorem sldata_false_false (k v t r n x : Int) (w : World) (HR : Hid (∀ W, Calls Try.prog 16 #[.agg #[.bool false, .int .u64 k, .int .u64 v, .int .u64 t, .int .u64 r, .int .u64 n, .int .i64 x]] W fun e w' => e = .returned (.bool false) ∧ Below W.heap.size W w')) :
    Calls Try.prog 18 #[.agg #[.bool false, .int .u64 k, .int .u64 v, .int .u64 t, .int .u64 r, .int .u64 n, .int .i64 x]] w fun e w' => e = .returned (.agg (DA (fun _ => 0))) ∧ Below w.heap.size w w' := by
  obtain ⟨p, hp⟩ : ∃ p, w.heap.size = p := ⟨_, rfl⟩
  obtain ⟨w2, hw2⟩ : ∃ w9, ((w.alloc (.cells #[.bool false, .int .u64 k, .int .u64 v, .int .u64 t, .int .u64 r, .int .u64 n, .int .i64 x] 24)).alloc (.cells #[.int .u64 0, .int .u64 0, .int .u64 0, .int .u64 0, .int .u64 0, .int .u64 0, .int .u64 0, .int .u64 0] 26)) = w9 := ⟨_, rfl⟩
  have hx0 : Box w2 (p) 24 #[.bool false, .int .u64 k, .int .u64 v, .int .u64 t, .int .u64 r, .int .u64 n, .int .i64 x] := by
    have h9 := ((Box.new w 24 #[.bool false, .int .u64 k, .int .u64 v, .int .u64 t, .int .u64 r, .int .u64 n, .int .i64 x])).alloc (.cells #[.int .u64 0, .int .u64 0, .int .u64 0, .int .u64 0, .int .u64 0, .int .u64 0, .int .u64 0, .int .u64 0] 26)
    try simp only [World.size_alloc] at h9
    simp only [hp, hw2] at h9
    exact h9
  have hx1 : Box w2 (p + 1) 26 #[.int .u64 0, .int .u64 0, .int .u64 0, .int .u64 0, .int .u64 0, .int .u64 0, .int .u64 0, .int .u64 0] := by
    have h9 := (Box.new (w.alloc (.cells #[.bool false, .int .u64 k, .int .u64 v, .int .u64 t, .int .u64 r, .int .u64 n, .int .i64 x] 24)) 26 #[.int .u64 0, .int .u64 0, .int .u64 0, .int .u64 0, .int .u64 0, .int .u64 0, .int .u64 0, .int .u64 0])
    try simp only [World.size_alloc] at h9
    simp only [hp, hw2] at h9
    exact h9
  have hB : Below w.heap.size w w2 := by
    have h9 := (((Below.refl w.heap.size w).alloc (by simp; try omega) (.cells #[.bool false, .int .u64 k, .int .u64 v, .int .u64 t, .int .u64 r, .int .u64 n, .int .i64 x] 24)).alloc (by simp; try omega) (.cells #[.int .u64 0, .int .u64 0, .int .u64 0, .int .u64 0, .int .u64 0, .int .u64 0, .int .u64 0, .int .u64 0] 26))
    rw [hw2] at h9
    exact h9
  have hS : w2.heap.size = p + 2 := by rw [← hw2]; simp [hp]
  have HX := Lib.hid hx0
  have HY := Lib.hid hx1
  have HB := Lib.hid hB
  have HS := Lib.hid hS
  have HP := Lib.hid hp
  have HW := Lib.hid hw2
  clear hx1 hB hS hp hw2
  have a0 : w2.cell? ⟨p, 0, none⟩ = some (.bool false) := hx0.cell 0
  have a1 : w2.cell? ⟨p, 1, none⟩ = some (.int .u64 k) := hx0.cell 1
  have a2 : w2.cell? ⟨p, 2, none⟩ = some (.int .u64 v) := hx0.cell 2
  have a3 : w2.cell? ⟨p, 3, none⟩ = some (.int .u64 t) := hx0.cell 3
  have a4 : w2.cell? ⟨p, 4, none⟩ = some (.int .u64 r) := hx0.cell 4
  have a5 : w2.cell? ⟨p, 5, none⟩ = some (.int .u64 n) := hx0.cell 5
  have a6 : w2.cell? ⟨p, 6, none⟩ = some (.int .i64 x) := hx0.cell 6
  clear hx0
  go_enter Try.func18, Try.ntmps18
  go_upto_region 1 with fail
  simp only [HP.out, HW.out]
  go_wp2_with fail
  refine (HR.out _).mono ?_
  rintro e w3 ⟨rfl, hb⟩
  have hX : Box w3 p _ _ := HX.out.of (hb.block _ HX.out.lt)
  have hY : Box w3 (p + 1) _ _ := HY.out.of (hb.block _ HY.out.lt)
  have hB := HB.out.trans (hb.mono HB.out.size)
  have hS : p + 2 ≤ w3.heap.size := by have := hb.size; have := HS.out; omega
  have hP := HP.out
  clear HX HY HB HS HW hb HR a0 a1 a2 a3 a4 a5 a6 HP
  have HT := Lib.hid (Box.there hY 8 (by decide))
  have HE := Lib.hid (below_only hB (only_setCells (S := just (p + 1)) _ 0 w3 (Only.refl _ _) (.inl (just_self _))) hB.size (fun i hi e => by have e : i = p + 1 := e; omega) : Below w.heap.size w (w3.setCells (p + 1) 0 (DA fun _ => 0).toList))
  clear hX hY hB hS hP
  go_wp2_with (first | with_reducible refine wpList_store_data rfl (.tmp 2) (.tmp 7) rfl (p + 1) 0 rfl (fun _ => 0) rfl HT.out ?_)
  exact bodyPost_ret (v := .agg (DA fun _ => 0)) (results_one Try.results18 rfl (load_range (World.rangeAt_setCells_same w3 (p + 1) 0 (DA fun _ => 0).toList HT.out) Try.underlying26 rfl (infoData fun _ => 0))) rfl ⟨rfl, HE.out⟩
set_option maxHeartbeats 2000000 in
theorem sldata_false_true (k v t r n x : Int) (w : World) (HR : Hid (∀ W, Calls Try.prog 16 #[.agg #[.bool false, .int .u64 k, .int .u64 v, .int .u64 t, .int .u64 r, .int .u64 n, .int .i64 x]] W fun e w' => e = .returned (.bool true) ∧ Below W.heap.size W w')) :
    Calls Try.prog 18 #[.agg #[.bool false, .int .u64 k, .int .u64 v, .int .u64 t, .int .u64 r, .int .u64 n, .int .i64 x]] w fun e w' => e = .returned (.agg (DA (fun i => match i with | 0 => 0 | 1 => k | 2 => v | 3 => t | 4 => r | 5 => n | 6 => IntKind.u64.wrap x | _ => 0))) ∧ Below w.heap.size w w' := by
  obtain ⟨p, hp⟩ : ∃ p, w.heap.size = p := ⟨_, rfl⟩
  obtain ⟨w2, hw2⟩ : ∃ w9, ((w.alloc (.cells #[.bool false, .int .u64 k, .int .u64 v, .int .u64 t, .int .u64 r, .int .u64 n, .int .i64 x] 24)).alloc (.cells #[.int .u64 0, .int .u64 0, .int .u64 0, .int .u64 0, .int .u64 0, .int .u64 0, .int .u64 0, .int .u64 0] 26)) = w9 := ⟨_, rfl⟩
  have hx0 : Box w2 (p) 24 #[.bool false, .int .u64 k, .int .u64 v, .int .u64 t, .int .u64 r, .int .u64 n, .int .i64 x] := by
    have h9 := ((Box.new w 24 #[.bool false, .int .u64 k, .int .u64 v, .int .u64 t, .int .u64 r, .int .u64 n, .int .i64 x])).alloc (.cells #[.int .u64 0, .int .u64 0, .int .u64 0, .int .u64 0, .int .u64 0, .int .u64 0, .int .u64 0, .int .u64 0] 26)
    try simp only [World.size_alloc] at h9
    simp only [hp, hw2] at h9
    exact h9
  have hx1 : Box w2 (p + 1) 26 #[.int .u64 0, .int .u64 0, .int .u64 0, .int .u64 0, .int .u64 0, .int .u64 0, .int .u64 0, .int .u64 0] := by
    have h9 := (Box.new (w.alloc (.cells #[.bool false, .int .u64 k, .int .u64 v, .int .u64 t, .int .u64 r, .int .u64 n, .int .i64 x] 24)) 26 #[.int .u64 0, .int .u64 0, .int .u64 0, .int .u64 0, .int .u64 0, .int .u64 0, .int .u64 0, .int .u64 0])
    try simp only [World.size_alloc] at h9
    simp only [hp, hw2] at h9
    exact h9
  have hB : Below w.heap.size w w2 := by
    have h9 := (((Below.refl w.heap.size w).alloc (by simp; try omega) (.cells #[.bool false, .int .u64 k, .int .u64 v, .int .u64 t, .int .u64 r, .int .u64 n, .int .i64 x] 24)).alloc (by simp; try omega) (.cells #[.int .u64 0, .int .u64 0, .int .u64 0, .int .u64 0, .int .u64 0, .int .u64 0, .int .u64 0, .int .u64 0] 26))
    rw [hw2] at h9
    exact h9
  have hS : w2.heap.size = p + 2 := by rw [← hw2]; simp [hp]
  have HX := Lib.hid hx0
  have HY := Lib.hid hx1
  have HB := Lib.hid hB
  have HS := Lib.hid hS
  have HP := Lib.hid hp
  have HW := Lib.hid hw2
  clear hx1 hB hS hp hw2
  have a0 : w2.cell? ⟨p, 0, none⟩ = some (.bool false) := hx0.cell 0
  have a1 : w2.cell? ⟨p, 1, none⟩ = some (.int .u64 k) := hx0.cell 1
  have a2 : w2.cell? ⟨p, 2, none⟩ = some (.int .u64 v) := hx0.cell 2
  have a3 : w2.cell? ⟨p, 3, none⟩ = some (.int .u64 t) := hx0.cell 3
  have a4 : w2.cell? ⟨p, 4, none⟩ = some (.int .u64 r) := hx0.cell 4
  have a5 : w2.cell? ⟨p, 5, none⟩ = some (.int .u64 n) := hx0.cell 5
  have a6 : w2.cell? ⟨p, 6, none⟩ = some (.int .i64 x) := hx0.cell 6
  clear hx0
  go_enter Try.func18, Try.ntmps18
  go_upto_region 1 with fail
  simp only [HP.out, HW.out]
  go_wp2_with fail
  refine (HR.out _).mono ?_
  rintro e w3 ⟨rfl, hb⟩
  have hX : Box w3 p _ _ := HX.out.of (hb.block _ HX.out.lt)
  have hY : Box w3 (p + 1) _ _ := HY.out.of (hb.block _ HY.out.lt)
  have hB := HB.out.trans (hb.mono HB.out.size)
  have hS : p + 2 ≤ w3.heap.size := by have := hb.size; have := HS.out; omega
  have hP := HP.out
  clear HX HY HB HS HW hb HR a0 a1 a2 a3 a4 a5 a6 HP
  have c0 : w3.cell? ⟨p, 0, none⟩ = some (.bool false) := hX.cell 0
  have c1 : w3.cell? ⟨p, 1, none⟩ = some (.int .u64 k) := hX.cell 1
  have c2 : w3.cell? ⟨p, 2, none⟩ = some (.int .u64 v) := hX.cell 2
  have c3 : w3.cell? ⟨p, 3, none⟩ = some (.int .u64 t) := hX.cell 3
  have c4 : w3.cell? ⟨p, 4, none⟩ = some (.int .u64 r) := hX.cell 4
  have c5 : w3.cell? ⟨p, 5, none⟩ = some (.int .u64 n) := hX.cell 5
  have c6 : w3.cell? ⟨p, 6, none⟩ = some (.int .i64 x) := hX.cell 6
  have HX := Lib.hid hX
  have HY := Lib.hid hY
  have HB := Lib.hid hB
  have HS := Lib.hid hS
  have HP := Lib.hid hP
  clear hX hY hB hS hP
  go_upto_region 4 with (first | with_reducible refine wpList_store_newD rfl (.tmp 3) (.tmp 21) rfl rfl (fun i => match i with | 0 => 0 | 1 => k | 2 => v | 3 => t | 4 => r | 5 => n | 6 => IntKind.u64.wrap x | _ => 0) rfl rfl ?_)
  obtain ⟨q, hq⟩ : ∃ q, w3.heap.size = q := ⟨_, rfl⟩
  generalize hw4 : w3.alloc _ = w4
  have hX4 : Box w4 p 24 #[.bool false, .int .u64 k, .int .u64 v, .int .u64 t, .int .u64 r, .int .u64 n, .int .i64 x] := by rw [← hw4]; exact HX.out.alloc _
  have hY4 : Box w4 (p + 1) 26 #[.int .u64 0, .int .u64 0, .int .u64 0, .int .u64 0, .int .u64 0, .int .u64 0, .int .u64 0, .int .u64 0] := by rw [← hw4]; exact HY.out.alloc _
  have hQ4 : Box w4 q 26 (DA (fun i => match i with | 0 => 0 | 1 => k | 2 => v | 3 => t | 4 => r | 5 => n | 6 => IntKind.u64.wrap x | _ => 0)) := by rw [← hw4, ← hq]; exact Box.new w3 _ _
  have hB4 : Below w.heap.size w w4 := by rw [← hw4]; exact HB.out.alloc HB.out.size _
  have hqp : p + 2 ≤ q := by have := HS.out; omega
  simp only [hq]
  have hP := HP.out
  clear hw4 HX HY HB HS HP c0 c1 c2 c3 c4 c5 c6 hq
  have c0 : w4.cell? ⟨p, 0, none⟩ = some (.bool false) := hX4.cell 0
  have hQ5 := hQ4
  have hY5 := hY4
  have hB5 := hB4
  clear hX4 hQ4 hY4 hB4
  have HT := Lib.hid (Box.there hY5 8 (by decide))
  have HL := Lib.hid (show w4.rangeAt q 0 (DA (fun i => match i with | 0 => 0 | 1 => k | 2 => v | 3 => t | 4 => r | 5 => n | 6 => IntKind.u64.wrap x | _ => 0)).toList from hQ5.range)
  have HE := Lib.hid (below_only hB5 (only_setCells (S := just (p + 1)) _ 0 w4 (Only.refl _ _) (.inl (just_self _))) hB5.size (fun i hi e => by have e : i = p + 1 := e; omega) : Below w.heap.size w (w4.setCells (p + 1) 0 (DA (fun i => match i with | 0 => 0 | 1 => k | 2 => v | 3 => t | 4 => r | 5 => n | 6 => IntKind.u64.wrap x | _ => 0)).toList))
  clear hQ5 hY5 hB5 hP hqp
  go_wp2_with (first | with_reducible refine wpList_load_data rfl (.tmp 3) rfl q 0 rfl (fun i => match i with | 0 => 0 | 1 => k | 2 => v | 3 => t | 4 => r | 5 => n | 6 => IntKind.u64.wrap x | _ => 0) HL.out ?_ | with_reducible refine wpList_store_data rfl (.tmp 2) (.tmp 25) rfl (p + 1) 0 rfl (fun i => match i with | 0 => 0 | 1 => k | 2 => v | 3 => t | 4 => r | 5 => n | 6 => IntKind.u64.wrap x | _ => 0) rfl HT.out ?_)
  exact bodyPost_ret (v := .agg (DA (fun i => match i with | 0 => 0 | 1 => k | 2 => v | 3 => t | 4 => r | 5 => n | 6 => IntKind.u64.wrap x | _ => 0))) (results_one Try.results18 rfl (load_range (World.rangeAt_setCells_same w4 (p + 1) 0 (DA (fun i => match i with | 0 => 0 | 1 => k | 2 => v | 3 => t | 4 => r | 5 => n | 6 => IntKind.u64.wrap x | _ => 0)).toList HT.out) Try.underlying26 rfl (infoData (fun i => match i with | 0 => 0 | 1 => k | 2 => v | 3 => t | 4 => r | 5 => n | 6 => IntKind.u64.wrap x | _ => 0)))) rfl ⟨rfl, HE.out⟩
set_option maxHeartbeats 2000000 in
theorem sldata_true_false (k v t r n x : Int) (w : World) (HR : Hid (∀ W, Calls Try.prog 16 #[.agg #[.bool true, .int .u64 k, .int .u64 v, .int .u64 t, .int .u64 r, .int .u64 n, .int .i64 x]] W fun e w' => e = .returned (.bool false) ∧ Below W.heap.size W w')) :
    Calls Try.prog 18 #[.agg #[.bool true, .int .u64 k, .int .u64 v, .int .u64 t, .int .u64 r, .int .u64 n, .int .i64 x]] w fun e w' => e = .returned (.agg (DA (fun _ => 0))) ∧ Below w.heap.size w w' := by
  obtain ⟨p, hp⟩ : ∃ p, w.heap.size = p := ⟨_, rfl⟩
  obtain ⟨w2, hw2⟩ : ∃ w9, ((w.alloc (.cells #[.bool true, .int .u64 k, .int .u64 v, .int .u64 t, .int .u64 r, .int .u64 n, .int .i64 x] 24)).alloc (.cells #[.int .u64 0, .int .u64 0, .int .u64 0, .int .u64 0, .int .u64 0, .int .u64 0, .int .u64 0, .int .u64 0] 26)) = w9 := ⟨_, rfl⟩
  have hx0 : Box w2 (p) 24 #[.bool true, .int .u64 k, .int .u64 v, .int .u64 t, .int .u64 r, .int .u64 n, .int .i64 x] := by
    have h9 := ((Box.new w 24 #[.bool true, .int .u64 k, .int .u64 v, .int .u64 t, .int .u64 r, .int .u64 n, .int .i64 x])).alloc (.cells #[.int .u64 0, .int .u64 0, .int .u64 0, .int .u64 0, .int .u64 0, .int .u64 0, .int .u64 0, .int .u64 0] 26)
    try simp only [World.size_alloc] at h9
    simp only [hp, hw2] at h9
    exact h9
  have hx1 : Box w2 (p + 1) 26 #[.int .u64 0, .int .u64 0, .int .u64 0, .int .u64 0, .int .u64 0, .int .u64 0, .int .u64 0, .int .u64 0] := by
    have h9 := (Box.new (w.alloc (.cells #[.bool true, .int .u64 k, .int .u64 v, .int .u64 t, .int .u64 r, .int .u64 n, .int .i64 x] 24)) 26 #[.int .u64 0, .int .u64 0, .int .u64 0, .int .u64 0, .int .u64 0, .int .u64 0, .int .u64 0, .int .u64 0])
    try simp only [World.size_alloc] at h9
    simp only [hp, hw2] at h9
    exact h9
  have hB : Below w.heap.size w w2 := by
    have h9 := (((Below.refl w.heap.size w).alloc (by simp; try omega) (.cells #[.bool true, .int .u64 k, .int .u64 v, .int .u64 t, .int .u64 r, .int .u64 n, .int .i64 x] 24)).alloc (by simp; try omega) (.cells #[.int .u64 0, .int .u64 0, .int .u64 0, .int .u64 0, .int .u64 0, .int .u64 0, .int .u64 0, .int .u64 0] 26))
    rw [hw2] at h9
    exact h9
  have hS : w2.heap.size = p + 2 := by rw [← hw2]; simp [hp]
  have HX := Lib.hid hx0
  have HY := Lib.hid hx1
  have HB := Lib.hid hB
  have HS := Lib.hid hS
  have HP := Lib.hid hp
  have HW := Lib.hid hw2
  clear hx1 hB hS hp hw2
  have a0 : w2.cell? ⟨p, 0, none⟩ = some (.bool true) := hx0.cell 0
  have a1 : w2.cell? ⟨p, 1, none⟩ = some (.int .u64 k) := hx0.cell 1
  have a2 : w2.cell? ⟨p, 2, none⟩ = some (.int .u64 v) := hx0.cell 2
  have a3 : w2.cell? ⟨p, 3, none⟩ = some (.int .u64 t) := hx0.cell 3
  have a4 : w2.cell? ⟨p, 4, none⟩ = some (.int .u64 r) := hx0.cell 4
  have a5 : w2.cell? ⟨p, 5, none⟩ = some (.int .u64 n) := hx0.cell 5
  have a6 : w2.cell? ⟨p, 6, none⟩ = some (.int .i64 x) := hx0.cell 6
  clear hx0
  go_enter Try.func18, Try.ntmps18
  go_upto_region 1 with fail
  simp only [HP.out, HW.out]
  go_wp2_with fail
  refine (HR.out _).mono ?_
  rintro e w3 ⟨rfl, hb⟩
  have hX : Box w3 p _ _ := HX.out.of (hb.block _ HX.out.lt)
  have hY : Box w3 (p + 1) _ _ := HY.out.of (hb.block _ HY.out.lt)
  have hB := HB.out.trans (hb.mono HB.out.size)
  have hS : p + 2 ≤ w3.heap.size := by have := hb.size; have := HS.out; omega
  have hP := HP.out
  clear HX HY HB HS HW hb HR a0 a1 a2 a3 a4 a5 a6 HP
  have HT := Lib.hid (Box.there hY 8 (by decide))
  have HE := Lib.hid (below_only hB (only_setCells (S := just (p + 1)) _ 0 w3 (Only.refl _ _) (.inl (just_self _))) hB.size (fun i hi e => by have e : i = p + 1 := e; omega) : Below w.heap.size w (w3.setCells (p + 1) 0 (DA fun _ => 0).toList))
  clear hX hY hB hS hP
  go_wp2_with (first | with_reducible refine wpList_store_data rfl (.tmp 2) (.tmp 7) rfl (p + 1) 0 rfl (fun _ => 0) rfl HT.out ?_)
  exact bodyPost_ret (v := .agg (DA fun _ => 0)) (results_one Try.results18 rfl (load_range (World.rangeAt_setCells_same w3 (p + 1) 0 (DA fun _ => 0).toList HT.out) Try.underlying26 rfl (infoData fun _ => 0))) rfl ⟨rfl, HE.out⟩
set_option maxHeartbeats 2000000 in
theorem sldata_true_true (k v t r n x : Int) (w : World) (HR : Hid (∀ W, Calls Try.prog 16 #[.agg #[.bool true, .int .u64 k, .int .u64 v, .int .u64 t, .int .u64 r, .int .u64 n, .int .i64 x]] W fun e w' => e = .returned (.bool true) ∧ Below W.heap.size W w')) :
    Calls Try.prog 18 #[.agg #[.bool true, .int .u64 k, .int .u64 v, .int .u64 t, .int .u64 r, .int .u64 n, .int .i64 x]] w fun e w' => e = .returned (.agg (DA (fun i => match i with | 0 => 1 | 1 => k | 2 => v | 3 => t | 4 => r | 5 => n | 6 => IntKind.u64.wrap x | _ => 0))) ∧ Below w.heap.size w w' := by
  obtain ⟨p, hp⟩ : ∃ p, w.heap.size = p := ⟨_, rfl⟩
  obtain ⟨w2, hw2⟩ : ∃ w9, ((w.alloc (.cells #[.bool true, .int .u64 k, .int .u64 v, .int .u64 t, .int .u64 r, .int .u64 n, .int .i64 x] 24)).alloc (.cells #[.int .u64 0, .int .u64 0, .int .u64 0, .int .u64 0, .int .u64 0, .int .u64 0, .int .u64 0, .int .u64 0] 26)) = w9 := ⟨_, rfl⟩
  have hx0 : Box w2 (p) 24 #[.bool true, .int .u64 k, .int .u64 v, .int .u64 t, .int .u64 r, .int .u64 n, .int .i64 x] := by
    have h9 := ((Box.new w 24 #[.bool true, .int .u64 k, .int .u64 v, .int .u64 t, .int .u64 r, .int .u64 n, .int .i64 x])).alloc (.cells #[.int .u64 0, .int .u64 0, .int .u64 0, .int .u64 0, .int .u64 0, .int .u64 0, .int .u64 0, .int .u64 0] 26)
    try simp only [World.size_alloc] at h9
    simp only [hp, hw2] at h9
    exact h9
  have hx1 : Box w2 (p + 1) 26 #[.int .u64 0, .int .u64 0, .int .u64 0, .int .u64 0, .int .u64 0, .int .u64 0, .int .u64 0, .int .u64 0] := by
    have h9 := (Box.new (w.alloc (.cells #[.bool true, .int .u64 k, .int .u64 v, .int .u64 t, .int .u64 r, .int .u64 n, .int .i64 x] 24)) 26 #[.int .u64 0, .int .u64 0, .int .u64 0, .int .u64 0, .int .u64 0, .int .u64 0, .int .u64 0, .int .u64 0])
    try simp only [World.size_alloc] at h9
    simp only [hp, hw2] at h9
    exact h9
  have hB : Below w.heap.size w w2 := by
    have h9 := (((Below.refl w.heap.size w).alloc (by simp; try omega) (.cells #[.bool true, .int .u64 k, .int .u64 v, .int .u64 t, .int .u64 r, .int .u64 n, .int .i64 x] 24)).alloc (by simp; try omega) (.cells #[.int .u64 0, .int .u64 0, .int .u64 0, .int .u64 0, .int .u64 0, .int .u64 0, .int .u64 0, .int .u64 0] 26))
    rw [hw2] at h9
    exact h9
  have hS : w2.heap.size = p + 2 := by rw [← hw2]; simp [hp]
  have HX := Lib.hid hx0
  have HY := Lib.hid hx1
  have HB := Lib.hid hB
  have HS := Lib.hid hS
  have HP := Lib.hid hp
  have HW := Lib.hid hw2
  clear hx1 hB hS hp hw2
  have a0 : w2.cell? ⟨p, 0, none⟩ = some (.bool true) := hx0.cell 0
  have a1 : w2.cell? ⟨p, 1, none⟩ = some (.int .u64 k) := hx0.cell 1
  have a2 : w2.cell? ⟨p, 2, none⟩ = some (.int .u64 v) := hx0.cell 2
  have a3 : w2.cell? ⟨p, 3, none⟩ = some (.int .u64 t) := hx0.cell 3
  have a4 : w2.cell? ⟨p, 4, none⟩ = some (.int .u64 r) := hx0.cell 4
  have a5 : w2.cell? ⟨p, 5, none⟩ = some (.int .u64 n) := hx0.cell 5
  have a6 : w2.cell? ⟨p, 6, none⟩ = some (.int .i64 x) := hx0.cell 6
  clear hx0
  go_enter Try.func18, Try.ntmps18
  go_upto_region 1 with fail
  simp only [HP.out, HW.out]
  go_wp2_with fail
  refine (HR.out _).mono ?_
  rintro e w3 ⟨rfl, hb⟩
  have hX : Box w3 p _ _ := HX.out.of (hb.block _ HX.out.lt)
  have hY : Box w3 (p + 1) _ _ := HY.out.of (hb.block _ HY.out.lt)
  have hB := HB.out.trans (hb.mono HB.out.size)
  have hS : p + 2 ≤ w3.heap.size := by have := hb.size; have := HS.out; omega
  have hP := HP.out
  clear HX HY HB HS HW hb HR a0 a1 a2 a3 a4 a5 a6 HP
  have c0 : w3.cell? ⟨p, 0, none⟩ = some (.bool true) := hX.cell 0
  have c1 : w3.cell? ⟨p, 1, none⟩ = some (.int .u64 k) := hX.cell 1
  have c2 : w3.cell? ⟨p, 2, none⟩ = some (.int .u64 v) := hX.cell 2
  have c3 : w3.cell? ⟨p, 3, none⟩ = some (.int .u64 t) := hX.cell 3
  have c4 : w3.cell? ⟨p, 4, none⟩ = some (.int .u64 r) := hX.cell 4
  have c5 : w3.cell? ⟨p, 5, none⟩ = some (.int .u64 n) := hX.cell 5
  have c6 : w3.cell? ⟨p, 6, none⟩ = some (.int .i64 x) := hX.cell 6
  have HX := Lib.hid hX
  have HY := Lib.hid hY
  have HB := Lib.hid hB
  have HS := Lib.hid hS
  have HP := Lib.hid hP
  clear hX hY hB hS hP
  go_upto_region 4 with (first | with_reducible refine wpList_store_newD rfl (.tmp 3) (.tmp 21) rfl rfl (fun i => match i with | 0 => 0 | 1 => k | 2 => v | 3 => t | 4 => r | 5 => n | 6 => IntKind.u64.wrap x | _ => 0) rfl rfl ?_)
  obtain ⟨q, hq⟩ : ∃ q, w3.heap.size = q := ⟨_, rfl⟩
  generalize hw4 : w3.alloc _ = w4
  have hX4 : Box w4 p 24 #[.bool true, .int .u64 k, .int .u64 v, .int .u64 t, .int .u64 r, .int .u64 n, .int .i64 x] := by rw [← hw4]; exact HX.out.alloc _
  have hY4 : Box w4 (p + 1) 26 #[.int .u64 0, .int .u64 0, .int .u64 0, .int .u64 0, .int .u64 0, .int .u64 0, .int .u64 0, .int .u64 0] := by rw [← hw4]; exact HY.out.alloc _
  have hQ4 : Box w4 q 26 (DA (fun i => match i with | 0 => 0 | 1 => k | 2 => v | 3 => t | 4 => r | 5 => n | 6 => IntKind.u64.wrap x | _ => 0)) := by rw [← hw4, ← hq]; exact Box.new w3 _ _
  have hB4 : Below w.heap.size w w4 := by rw [← hw4]; exact HB.out.alloc HB.out.size _
  have hqp : p + 2 ≤ q := by have := HS.out; omega
  simp only [hq]
  have hP := HP.out
  clear hw4 HX HY HB HS HP c0 c1 c2 c3 c4 c5 c6 hq
  have c0 : w4.cell? ⟨p, 0, none⟩ = some (.bool true) := hX4.cell 0
  have q0 : w4.cell? ⟨q, 0, none⟩ = some (.int .u64 0) := hQ4.cell 0
  have f0 := hQ4.frozen 0
  have hQ5 : Box (w4.setCell ⟨q, 0, none⟩ (.int .u64 1)) q 26 (DA (fun i => match i with | 0 => 1 | 1 => k | 2 => v | 3 => t | 4 => r | 5 => n | 6 => IntKind.u64.wrap x | _ => 0)) := hQ4.put 0 _
  have hY5 : Box (w4.setCell ⟨q, 0, none⟩ (.int .u64 1)) (p + 1) 26 #[.int .u64 0, .int .u64 0, .int .u64 0, .int .u64 0, .int .u64 0, .int .u64 0, .int .u64 0, .int .u64 0] := hY4.far (by show p + 1 ≠ q; omega) _
  have hB5 : Below w.heap.size w (w4.setCell ⟨q, 0, none⟩ (.int .u64 1)) := hB4.setCell (p := ⟨q, 0, none⟩) (by show w.heap.size ≤ q; omega) _
  clear hX4 hQ4 hY4 hB4
  obtain ⟨w5, hw5⟩ : ∃ w9, w4.setCell ⟨q, 0, none⟩ (.int .u64 1) = w9 := ⟨_, rfl⟩
  rw [hw5] at hQ5 hY5 hB5
  have HT := Lib.hid (Box.there hY5 8 (by decide))
  have HL := Lib.hid (show w5.rangeAt q 0 (DA (fun i => match i with | 0 => 1 | 1 => k | 2 => v | 3 => t | 4 => r | 5 => n | 6 => IntKind.u64.wrap x | _ => 0)).toList from hQ5.range)
  have HE := Lib.hid (below_only hB5 (only_setCells (S := just (p + 1)) _ 0 w5 (Only.refl _ _) (.inl (just_self _))) hB5.size (fun i hi e => by have e : i = p + 1 := e; omega) : Below w.heap.size w (w5.setCells (p + 1) 0 (DA (fun i => match i with | 0 => 1 | 1 => k | 2 => v | 3 => t | 4 => r | 5 => n | 6 => IntKind.u64.wrap x | _ => 0)).toList))
  clear hQ5 hY5 hB5 hP hqp
  have HW5 := Lib.hid hw5
  clear hw5
  go_upto_region 6 with fail
  rw [HW5.out]
  go_wp2_with (first | with_reducible refine wpList_load_data rfl (.tmp 3) rfl q 0 rfl (fun i => match i with | 0 => 1 | 1 => k | 2 => v | 3 => t | 4 => r | 5 => n | 6 => IntKind.u64.wrap x | _ => 0) HL.out ?_ | with_reducible refine wpList_store_data rfl (.tmp 2) (.tmp 25) rfl (p + 1) 0 rfl (fun i => match i with | 0 => 1 | 1 => k | 2 => v | 3 => t | 4 => r | 5 => n | 6 => IntKind.u64.wrap x | _ => 0) rfl HT.out ?_)
  exact bodyPost_ret (v := .agg (DA (fun i => match i with | 0 => 1 | 1 => k | 2 => v | 3 => t | 4 => r | 5 => n | 6 => IntKind.u64.wrap x | _ => 0))) (results_one Try.results18 rfl (load_range (World.rangeAt_setCells_same w5 (p + 1) 0 (DA (fun i => match i with | 0 => 1 | 1 => k | 2 => v | 3 => t | 4 => r | 5 => n | 6 => IntKind.u64.wrap x | _ => 0)).toList HT.out) Try.underlying26 rfl (infoData (fun i => match i with | 0 => 1 | 1 => k | 2 => v | 3 => t | 4 => r | 5 => n | 6 => IntKind.u64.wrap x | _ => 0)))) rfl ⟨rfl, HE.out⟩
/-- An entry's block. -/
theorem sldata_any (s : Sl) (w : World) (hs : s.Ok) : Calls Try.prog 18 #[.agg s.a] w fun e w' => e = .returned (.agg (DA s.dat)) ∧ Below w.heap.size w w' := by
  have hr : ∀ W, Calls Try.prog 16 #[.agg s.a] W fun e w' => e = .returned (.bool s.right) ∧ Below W.heap.size W w' := fun W => slright_any s W hs
  obtain ⟨u, k, v, t, r, n, x⟩ := s
  show Calls Try.prog _ _ _ fun e w' => e = .returned (.agg (DA (dtS u k v t r n x))) ∧ _
  cases h : rtS u k v t r n x
  · rw [show Sl.right ⟨u, k, v, t, r, n, x⟩ = false from h] at hr
    rw [dtS_fun h]
    cases u
    · exact sldata_false_false k v t r n x w (Lib.hid hr)
    · exact sldata_true_false k v t r n x w (Lib.hid hr)
  · rw [show Sl.right ⟨u, k, v, t, r, n, x⟩ = true from h] at hr
    cases u
    · rw [show dtS false k v t r n x = (fun i => match i with | 0 => 0 | 1 => k | 2 => v | 3 => t | 4 => r | 5 => n | 6 => IntKind.u64.wrap x | _ => 0) from by funext i; unfold dtS; rw [if_pos h]; rfl]
      exact sldata_false_true k v t r n x w (Lib.hid hr)
    · rw [show dtS true k v t r n x = (fun i => match i with | 0 => 1 | 1 => k | 2 => v | 3 => t | 4 => r | 5 => n | 6 => IntKind.u64.wrap x | _ => 0) from by funext i; unfold dtS; rw [if_pos h]; rfl]
      exact sldata_true_true k v t r n x w (Lib.hid hr)
end Go.Proofs.Ytjamfcjglodfeaa
