/- Contracts of the document's own Read: a block's entry. Conditions: words are of 64 bits, Next is an int. -/
import Derived.Below
import Derived.BigQuiet
import Derived.ChangeKeysEq
import Derived.ChangeSlices
import Derived.Deep.Cut
import Derived.Deep.Draws
import Derived.Deep.MidRow
import Derived.Deep.OwnRows
import Derived.Deep.Quiet
import Derived.Deep.QuietTactic
import Derived.Deep.WholeRow
import Derived.Laws.AppendOwn
import Derived.Laws.BitsAllLaws
import Derived.Laws.BytesArg
import Derived.Laws.NewBlocks
import Derived.Laws.StructEq
import Derived.Lib.Hide
import Derived.Lib.LazyBuf
import Derived.OpenShut
import Derived.ProofKit
import Derived.RowKit3
import Derived.SizedLaws
import Derived.WalkKit
import Derived.Test.YtjamfcjglodfeaaProg
import Derived.Test.YtjamfcjglodfeaaDataV
import Derived.Test.YtjamfcjglodfeaaGrow
import Derived.Test.YtjamfcjglodfeaaHeap
import Derived.Test.YtjamfcjglodfeaaResults
import Derived.Test.YtjamfcjglodfeaaSlotMath
import Derived.Test.YtjamfcjglodfeaaSlotRef
namespace Go.Proofs.Ytjamfcjglodfeaa
open Go.RowKit Go.ChangeShapes Go.WideShapes Go.ChangeAt

set_option maxHeartbeats 2000000 in
theorem rslread_out1 (d : Nat → Int) (w : World) (h0 : decide (1 < d 0) = true) :
    Calls Try.prog 10 #[.agg #[.int .u64 (d 0), .int .u64 (d 1), .int .u64 (d 2), .int .u64 (d 3), .int .u64 (d 4), .int .u64 (d 5), .int .u64 (d 6), .int .u64 (d 7)]] w fun e w' => e = .returned (.tuple #[.agg (⟨false, 0, 0, 0, 0, 0, 0⟩ : Sl).a, .int .i64 3]) ∧ Below w.heap.size w w' := by
  obtain ⟨p, hp⟩ : ∃ p, w.heap.size = p := ⟨_, rfl⟩
  obtain ⟨w2, hw2⟩ : ∃ w9, ((w.alloc (.cells #[.int .u64 (d 0), .int .u64 (d 1), .int .u64 (d 2), .int .u64 (d 3), .int .u64 (d 4), .int .u64 (d 5), .int .u64 (d 6), .int .u64 (d 7)] 26)).alloc (.cells #[.bool false, .int .u64 0, .int .u64 0, .int .u64 0, .int .u64 0, .int .u64 0, .int .i64 0] 31)) = w9 := ⟨_, rfl⟩
  have hx0 : Box w2 (p) 26 #[.int .u64 (d 0), .int .u64 (d 1), .int .u64 (d 2), .int .u64 (d 3), .int .u64 (d 4), .int .u64 (d 5), .int .u64 (d 6), .int .u64 (d 7)] := by
    have h9 := ((Box.new w 26 #[.int .u64 (d 0), .int .u64 (d 1), .int .u64 (d 2), .int .u64 (d 3), .int .u64 (d 4), .int .u64 (d 5), .int .u64 (d 6), .int .u64 (d 7)])).alloc (.cells #[.bool false, .int .u64 0, .int .u64 0, .int .u64 0, .int .u64 0, .int .u64 0, .int .i64 0] 31)
    try simp only [World.size_alloc] at h9
    simp only [hp, hw2] at h9
    exact h9
  have hx1 : Box w2 (p + 1) 31 #[.bool false, .int .u64 0, .int .u64 0, .int .u64 0, .int .u64 0, .int .u64 0, .int .i64 0] := by
    have h9 := (Box.new (w.alloc (.cells #[.int .u64 (d 0), .int .u64 (d 1), .int .u64 (d 2), .int .u64 (d 3), .int .u64 (d 4), .int .u64 (d 5), .int .u64 (d 6), .int .u64 (d 7)] 26)) 31 #[.bool false, .int .u64 0, .int .u64 0, .int .u64 0, .int .u64 0, .int .u64 0, .int .i64 0])
    try simp only [World.size_alloc] at h9
    simp only [hp, hw2] at h9
    exact h9
  have hB : Below w.heap.size w w2 := by
    have h9 := (((Below.refl w.heap.size w).alloc (by simp; try omega) (.cells #[.int .u64 (d 0), .int .u64 (d 1), .int .u64 (d 2), .int .u64 (d 3), .int .u64 (d 4), .int .u64 (d 5), .int .u64 (d 6), .int .u64 (d 7)] 26)).alloc (by simp; try omega) (.cells #[.bool false, .int .u64 0, .int .u64 0, .int .u64 0, .int .u64 0, .int .u64 0, .int .i64 0] 31))
    rw [hw2] at h9
    exact h9
  have hS : w2.heap.size = p + 2 := by rw [← hw2]; simp [hp]
  have HY := Lib.hid hx1
  have HB := Lib.hid hB
  have HP := Lib.hid hp
  have HW := Lib.hid hw2
  clear hx1 hB hS hp hw2 hx0
  go_enter Try.func10, Try.ntmps10
  go_upto_region 2 with fail
  simp only [HP.out, HW.out]
  have hY := HY.out
  have hB := HB.out
  clear HY HB HW
  have HT := Lib.hid (show w2.there (p + 1) 0 (⟨false, 0, 0, 0, 0, 0, 0⟩ : Sl).a.size from Box.there hY 7 (by decide))
  have HE := Lib.hid (below_only hB (only_setCells (S := just (p + 1)) _ 0 w2 (Only.refl _ _) (.inl (just_self _))) hB.size (fun i hi e => by have e : i = p + 1 := e; have := HP.out; omega) : Below w.heap.size w (w2.setCells (p + 1) 0 (⟨false, 0, 0, 0, 0, 0, 0⟩ : Sl).a.toList))
  clear hY hB
  go_wp2_with (first | with_reducible refine wpList_store_rslot rfl (.tmp 2) (.tmp 18) rfl (p + 1) 0 rfl (⟨false, 0, 0, 0, 0, 0, 0⟩ : Sl) rfl HT.out ?_)
  exact bodyPost_ret (v := .tuple #[.agg (⟨false, 0, 0, 0, 0, 0, 0⟩ : Sl).a, .int .i64 3]) (results_ct Try.results10 rfl rfl (load_range (World.rangeAt_setCells_same w2 (p + 1) 0 (⟨false, 0, 0, 0, 0, 0, 0⟩ : Sl).a.toList (by have := HT.out; rw [Sl.size] at this; exact this)) Try.underlying31 rfl (inforslot (⟨false, 0, 0, 0, 0, 0, 0⟩ : Sl)))) rfl ⟨rfl, HE.out⟩
set_option maxHeartbeats 2000000 in
theorem rslread_out2 (d : Nat → Int) (w : World) (h0 : decide (1 < d 0) = false) (h1 : decide (2147483648 < d 6) = true) :
    Calls Try.prog 10 #[.agg #[.int .u64 (d 0), .int .u64 (d 1), .int .u64 (d 2), .int .u64 (d 3), .int .u64 (d 4), .int .u64 (d 5), .int .u64 (d 6), .int .u64 (d 7)]] w fun e w' => e = .returned (.tuple #[.agg (⟨false, 0, 0, 0, 0, 0, 0⟩ : Sl).a, .int .i64 3]) ∧ Below w.heap.size w w' := by
  obtain ⟨p, hp⟩ : ∃ p, w.heap.size = p := ⟨_, rfl⟩
  obtain ⟨w2, hw2⟩ : ∃ w9, ((w.alloc (.cells #[.int .u64 (d 0), .int .u64 (d 1), .int .u64 (d 2), .int .u64 (d 3), .int .u64 (d 4), .int .u64 (d 5), .int .u64 (d 6), .int .u64 (d 7)] 26)).alloc (.cells #[.bool false, .int .u64 0, .int .u64 0, .int .u64 0, .int .u64 0, .int .u64 0, .int .i64 0] 31)) = w9 := ⟨_, rfl⟩
  have hx0 : Box w2 (p) 26 #[.int .u64 (d 0), .int .u64 (d 1), .int .u64 (d 2), .int .u64 (d 3), .int .u64 (d 4), .int .u64 (d 5), .int .u64 (d 6), .int .u64 (d 7)] := by
    have h9 := ((Box.new w 26 #[.int .u64 (d 0), .int .u64 (d 1), .int .u64 (d 2), .int .u64 (d 3), .int .u64 (d 4), .int .u64 (d 5), .int .u64 (d 6), .int .u64 (d 7)])).alloc (.cells #[.bool false, .int .u64 0, .int .u64 0, .int .u64 0, .int .u64 0, .int .u64 0, .int .i64 0] 31)
    try simp only [World.size_alloc] at h9
    simp only [hp, hw2] at h9
    exact h9
  have hx1 : Box w2 (p + 1) 31 #[.bool false, .int .u64 0, .int .u64 0, .int .u64 0, .int .u64 0, .int .u64 0, .int .i64 0] := by
    have h9 := (Box.new (w.alloc (.cells #[.int .u64 (d 0), .int .u64 (d 1), .int .u64 (d 2), .int .u64 (d 3), .int .u64 (d 4), .int .u64 (d 5), .int .u64 (d 6), .int .u64 (d 7)] 26)) 31 #[.bool false, .int .u64 0, .int .u64 0, .int .u64 0, .int .u64 0, .int .u64 0, .int .i64 0])
    try simp only [World.size_alloc] at h9
    simp only [hp, hw2] at h9
    exact h9
  have hB : Below w.heap.size w w2 := by
    have h9 := (((Below.refl w.heap.size w).alloc (by simp; try omega) (.cells #[.int .u64 (d 0), .int .u64 (d 1), .int .u64 (d 2), .int .u64 (d 3), .int .u64 (d 4), .int .u64 (d 5), .int .u64 (d 6), .int .u64 (d 7)] 26)).alloc (by simp; try omega) (.cells #[.bool false, .int .u64 0, .int .u64 0, .int .u64 0, .int .u64 0, .int .u64 0, .int .i64 0] 31))
    rw [hw2] at h9
    exact h9
  have hS : w2.heap.size = p + 2 := by rw [← hw2]; simp [hp]
  have HY := Lib.hid hx1
  have HB := Lib.hid hB
  have HP := Lib.hid hp
  have HW := Lib.hid hw2
  clear hx1 hB hS hp hw2 hx0
  go_enter Try.func10, Try.ntmps10
  go_upto_region 2 with fail
  simp only [HP.out, HW.out]
  have hY := HY.out
  have hB := HB.out
  clear HY HB HW
  have HT := Lib.hid (show w2.there (p + 1) 0 (⟨false, 0, 0, 0, 0, 0, 0⟩ : Sl).a.size from Box.there hY 7 (by decide))
  have HE := Lib.hid (below_only hB (only_setCells (S := just (p + 1)) _ 0 w2 (Only.refl _ _) (.inl (just_self _))) hB.size (fun i hi e => by have e : i = p + 1 := e; have := HP.out; omega) : Below w.heap.size w (w2.setCells (p + 1) 0 (⟨false, 0, 0, 0, 0, 0, 0⟩ : Sl).a.toList))
  clear hY hB
  go_wp2_with (first | with_reducible refine wpList_store_rslot rfl (.tmp 2) (.tmp 18) rfl (p + 1) 0 rfl (⟨false, 0, 0, 0, 0, 0, 0⟩ : Sl) rfl HT.out ?_)
  exact bodyPost_ret (v := .tuple #[.agg (⟨false, 0, 0, 0, 0, 0, 0⟩ : Sl).a, .int .i64 3]) (results_ct Try.results10 rfl rfl (load_range (World.rangeAt_setCells_same w2 (p + 1) 0 (⟨false, 0, 0, 0, 0, 0, 0⟩ : Sl).a.toList (by have := HT.out; rw [Sl.size] at this; exact this)) Try.underlying31 rfl (inforslot (⟨false, 0, 0, 0, 0, 0, 0⟩ : Sl)))) rfl ⟨rfl, HE.out⟩
set_option maxHeartbeats 2000000 in
theorem rslread_out3 (d : Nat → Int) (w : World) (h0 : decide (1 < d 0) = false) (h1 : decide (2147483648 < d 6) = false) (h2 : (d 7 != 0) = true) :
    Calls Try.prog 10 #[.agg #[.int .u64 (d 0), .int .u64 (d 1), .int .u64 (d 2), .int .u64 (d 3), .int .u64 (d 4), .int .u64 (d 5), .int .u64 (d 6), .int .u64 (d 7)]] w fun e w' => e = .returned (.tuple #[.agg (⟨false, 0, 0, 0, 0, 0, 0⟩ : Sl).a, .int .i64 3]) ∧ Below w.heap.size w w' := by
  obtain ⟨p, hp⟩ : ∃ p, w.heap.size = p := ⟨_, rfl⟩
  obtain ⟨w2, hw2⟩ : ∃ w9, ((w.alloc (.cells #[.int .u64 (d 0), .int .u64 (d 1), .int .u64 (d 2), .int .u64 (d 3), .int .u64 (d 4), .int .u64 (d 5), .int .u64 (d 6), .int .u64 (d 7)] 26)).alloc (.cells #[.bool false, .int .u64 0, .int .u64 0, .int .u64 0, .int .u64 0, .int .u64 0, .int .i64 0] 31)) = w9 := ⟨_, rfl⟩
  have hx0 : Box w2 (p) 26 #[.int .u64 (d 0), .int .u64 (d 1), .int .u64 (d 2), .int .u64 (d 3), .int .u64 (d 4), .int .u64 (d 5), .int .u64 (d 6), .int .u64 (d 7)] := by
    have h9 := ((Box.new w 26 #[.int .u64 (d 0), .int .u64 (d 1), .int .u64 (d 2), .int .u64 (d 3), .int .u64 (d 4), .int .u64 (d 5), .int .u64 (d 6), .int .u64 (d 7)])).alloc (.cells #[.bool false, .int .u64 0, .int .u64 0, .int .u64 0, .int .u64 0, .int .u64 0, .int .i64 0] 31)
    try simp only [World.size_alloc] at h9
    simp only [hp, hw2] at h9
    exact h9
  have hx1 : Box w2 (p + 1) 31 #[.bool false, .int .u64 0, .int .u64 0, .int .u64 0, .int .u64 0, .int .u64 0, .int .i64 0] := by
    have h9 := (Box.new (w.alloc (.cells #[.int .u64 (d 0), .int .u64 (d 1), .int .u64 (d 2), .int .u64 (d 3), .int .u64 (d 4), .int .u64 (d 5), .int .u64 (d 6), .int .u64 (d 7)] 26)) 31 #[.bool false, .int .u64 0, .int .u64 0, .int .u64 0, .int .u64 0, .int .u64 0, .int .i64 0])
    try simp only [World.size_alloc] at h9
    simp only [hp, hw2] at h9
    exact h9
  have hB : Below w.heap.size w w2 := by
    have h9 := (((Below.refl w.heap.size w).alloc (by simp; try omega) (.cells #[.int .u64 (d 0), .int .u64 (d 1), .int .u64 (d 2), .int .u64 (d 3), .int .u64 (d 4), .int .u64 (d 5), .int .u64 (d 6), .int .u64 (d 7)] 26)).alloc (by simp; try omega) (.cells #[.bool false, .int .u64 0, .int .u64 0, .int .u64 0, .int .u64 0, .int .u64 0, .int .i64 0] 31))
    rw [hw2] at h9
    exact h9
  have hS : w2.heap.size = p + 2 := by rw [← hw2]; simp [hp]
  have HY := Lib.hid hx1
  have HB := Lib.hid hB
  have HP := Lib.hid hp
  have HW := Lib.hid hw2
  clear hx1 hB hS hp hw2 hx0
  go_enter Try.func10, Try.ntmps10
  go_upto_region 2 with fail
  simp only [HP.out, HW.out]
  have hY := HY.out
  have hB := HB.out
  clear HY HB HW
  have HT := Lib.hid (show w2.there (p + 1) 0 (⟨false, 0, 0, 0, 0, 0, 0⟩ : Sl).a.size from Box.there hY 7 (by decide))
  have HE := Lib.hid (below_only hB (only_setCells (S := just (p + 1)) _ 0 w2 (Only.refl _ _) (.inl (just_self _))) hB.size (fun i hi e => by have e : i = p + 1 := e; have := HP.out; omega) : Below w.heap.size w (w2.setCells (p + 1) 0 (⟨false, 0, 0, 0, 0, 0, 0⟩ : Sl).a.toList))
  clear hY hB
  go_wp2_with (first | with_reducible refine wpList_store_rslot rfl (.tmp 2) (.tmp 18) rfl (p + 1) 0 rfl (⟨false, 0, 0, 0, 0, 0, 0⟩ : Sl) rfl HT.out ?_)
  exact bodyPost_ret (v := .tuple #[.agg (⟨false, 0, 0, 0, 0, 0, 0⟩ : Sl).a, .int .i64 3]) (results_ct Try.results10 rfl rfl (load_range (World.rangeAt_setCells_same w2 (p + 1) 0 (⟨false, 0, 0, 0, 0, 0, 0⟩ : Sl).a.toList (by have := HT.out; rw [Sl.size] at this; exact this)) Try.underlying31 rfl (inforslot (⟨false, 0, 0, 0, 0, 0, 0⟩ : Sl)))) rfl ⟨rfl, HE.out⟩
set_option maxHeartbeats 2000000 in
theorem rslread_false (d : Nat → Int) (w : World) (h0 : decide (1 < d 0) = false) (h1 : decide (2147483648 < d 6) = false) (h2 : (d 7 != 0) = false) (HR : Hid (∀ W, Calls Try.prog 17 #[.agg #[.bool (d 0 == 1), .int .u64 (d 1), .int .u64 (d 2), .int .u64 (d 3), .int .u64 (d 4), .int .u64 (d 5), .int .i64 (wrap64 (d 6))]] W fun e w' => e = .returned (.bool false) ∧ Below W.heap.size W w')) :
    Calls Try.prog 10 #[.agg #[.int .u64 (d 0), .int .u64 (d 1), .int .u64 (d 2), .int .u64 (d 3), .int .u64 (d 4), .int .u64 (d 5), .int .u64 (d 6), .int .u64 (d 7)]] w fun e w' => e = .returned (.tuple #[.agg (⟨false, 0, 0, 0, 0, 0, 0⟩ : Sl).a, .int .i64 3]) ∧ Below w.heap.size w w' := by
  obtain ⟨p, hp⟩ : ∃ p, w.heap.size = p := ⟨_, rfl⟩
  obtain ⟨w2, hw2⟩ : ∃ w9, (((w.alloc (.cells #[.int .u64 (d 0), .int .u64 (d 1), .int .u64 (d 2), .int .u64 (d 3), .int .u64 (d 4), .int .u64 (d 5), .int .u64 (d 6), .int .u64 (d 7)] 26)).alloc (.cells #[.bool false, .int .u64 0, .int .u64 0, .int .u64 0, .int .u64 0, .int .u64 0, .int .i64 0] 31)).alloc (.cells #[.bool (d 0 == 1), .int .u64 (d 1), .int .u64 (d 2), .int .u64 (d 3), .int .u64 (d 4), .int .u64 (d 5), .int .i64 (wrap64 (d 6))] 31)) = w9 := ⟨_, rfl⟩
  have hx0 : Box w2 (p) 26 #[.int .u64 (d 0), .int .u64 (d 1), .int .u64 (d 2), .int .u64 (d 3), .int .u64 (d 4), .int .u64 (d 5), .int .u64 (d 6), .int .u64 (d 7)] := by
    have h9 := (((Box.new w 26 #[.int .u64 (d 0), .int .u64 (d 1), .int .u64 (d 2), .int .u64 (d 3), .int .u64 (d 4), .int .u64 (d 5), .int .u64 (d 6), .int .u64 (d 7)])).alloc (.cells #[.bool false, .int .u64 0, .int .u64 0, .int .u64 0, .int .u64 0, .int .u64 0, .int .i64 0] 31)).alloc (.cells #[.bool (d 0 == 1), .int .u64 (d 1), .int .u64 (d 2), .int .u64 (d 3), .int .u64 (d 4), .int .u64 (d 5), .int .i64 (wrap64 (d 6))] 31)
    try simp only [World.size_alloc] at h9
    simp only [hp, hw2] at h9
    exact h9
  have hx1 : Box w2 (p + 1) 31 #[.bool false, .int .u64 0, .int .u64 0, .int .u64 0, .int .u64 0, .int .u64 0, .int .i64 0] := by
    have h9 := ((Box.new (w.alloc (.cells #[.int .u64 (d 0), .int .u64 (d 1), .int .u64 (d 2), .int .u64 (d 3), .int .u64 (d 4), .int .u64 (d 5), .int .u64 (d 6), .int .u64 (d 7)] 26)) 31 #[.bool false, .int .u64 0, .int .u64 0, .int .u64 0, .int .u64 0, .int .u64 0, .int .i64 0])).alloc (.cells #[.bool (d 0 == 1), .int .u64 (d 1), .int .u64 (d 2), .int .u64 (d 3), .int .u64 (d 4), .int .u64 (d 5), .int .i64 (wrap64 (d 6))] 31)
    try simp only [World.size_alloc] at h9
    simp only [hp, hw2] at h9
    exact h9
  have hx2 : Box w2 (p + 2) 31 #[.bool (d 0 == 1), .int .u64 (d 1), .int .u64 (d 2), .int .u64 (d 3), .int .u64 (d 4), .int .u64 (d 5), .int .i64 (wrap64 (d 6))] := by
    have h9 := (Box.new ((w.alloc (.cells #[.int .u64 (d 0), .int .u64 (d 1), .int .u64 (d 2), .int .u64 (d 3), .int .u64 (d 4), .int .u64 (d 5), .int .u64 (d 6), .int .u64 (d 7)] 26)).alloc (.cells #[.bool false, .int .u64 0, .int .u64 0, .int .u64 0, .int .u64 0, .int .u64 0, .int .i64 0] 31)) 31 #[.bool (d 0 == 1), .int .u64 (d 1), .int .u64 (d 2), .int .u64 (d 3), .int .u64 (d 4), .int .u64 (d 5), .int .i64 (wrap64 (d 6))])
    try simp only [World.size_alloc] at h9
    simp only [hp, hw2] at h9
    exact h9
  have hB : Below w.heap.size w w2 := by
    have h9 := ((((Below.refl w.heap.size w).alloc (by simp; try omega) (.cells #[.int .u64 (d 0), .int .u64 (d 1), .int .u64 (d 2), .int .u64 (d 3), .int .u64 (d 4), .int .u64 (d 5), .int .u64 (d 6), .int .u64 (d 7)] 26)).alloc (by simp; try omega) (.cells #[.bool false, .int .u64 0, .int .u64 0, .int .u64 0, .int .u64 0, .int .u64 0, .int .i64 0] 31)).alloc (by simp; try omega) (.cells #[.bool (d 0 == 1), .int .u64 (d 1), .int .u64 (d 2), .int .u64 (d 3), .int .u64 (d 4), .int .u64 (d 5), .int .i64 (wrap64 (d 6))] 31))
    rw [hw2] at h9
    exact h9
  have hS : w2.heap.size = p + 3 := by rw [← hw2]; simp [hp]
  have HY := Lib.hid hx1
  have HZ := Lib.hid hx2
  have HB := Lib.hid hB
  have HP := Lib.hid hp
  have HW := Lib.hid hw2
  clear hx1 hB hS hp hw2 hx0
  have b0 : w2.cell? ⟨p + 2, 0, none⟩ = some (.bool (d 0 == 1)) := hx2.cell 0
  have b1 : w2.cell? ⟨p + 2, 1, none⟩ = some (.int .u64 (d 1)) := hx2.cell 1
  have b2 : w2.cell? ⟨p + 2, 2, none⟩ = some (.int .u64 (d 2)) := hx2.cell 2
  have b3 : w2.cell? ⟨p + 2, 3, none⟩ = some (.int .u64 (d 3)) := hx2.cell 3
  have b4 : w2.cell? ⟨p + 2, 4, none⟩ = some (.int .u64 (d 4)) := hx2.cell 4
  have b5 : w2.cell? ⟨p + 2, 5, none⟩ = some (.int .u64 (d 5)) := hx2.cell 5
  have b6 : w2.cell? ⟨p + 2, 6, none⟩ = some (.int .i64 (wrap64 (d 6))) := hx2.cell 6
  clear hx2
  have e2 : p + 1 + 1 = p + 2 := rfl
  go_enter Try.func10, Try.ntmps10
  go_upto_region 4 with fail
  simp only [HP.out, HW.out, e2]
  clear e2
  go_wp2_with fail
  refine (HR.out _).mono ?_
  rintro e w3 ⟨rfl, hb⟩
  have hY : Box w3 (p + 1) 31 #[.bool false, .int .u64 0, .int .u64 0, .int .u64 0, .int .u64 0, .int .u64 0, .int .i64 0] := HY.out.of (hb.block _ HY.out.lt)
  have hZ : Box w3 (p + 2) 31 (⟨d 0 == 1, d 1, d 2, d 3, d 4, d 5, wrap64 (d 6)⟩ : Sl).a := HZ.out.of (hb.block _ HZ.out.lt)
  have hB := HB.out.trans (hb.mono HB.out.size)
  clear b0 b1 b2 b3 b4 b5 b6 HY HZ HB HW HR hb
  clear hZ
  have HT := Lib.hid (show w3.there (p + 1) 0 (⟨false, 0, 0, 0, 0, 0, 0⟩ : Sl).a.size from Box.there hY 7 (by decide))
  have HE := Lib.hid (below_only hB (only_setCells (S := just (p + 1)) _ 0 w3 (Only.refl _ _) (.inl (just_self _))) hB.size (fun i hi e => by have e : i = p + 1 := e; have := HP.out; omega) : Below w.heap.size w (w3.setCells (p + 1) 0 (⟨false, 0, 0, 0, 0, 0, 0⟩ : Sl).a.toList))
  clear hY hB
  go_wp2_with (first | with_reducible refine wpList_store_rslot rfl (.tmp 2) (.tmp 39) rfl (p + 1) 0 rfl (⟨false, 0, 0, 0, 0, 0, 0⟩ : Sl) rfl HT.out ?_)
  exact bodyPost_ret (v := .tuple #[.agg (⟨false, 0, 0, 0, 0, 0, 0⟩ : Sl).a, .int .i64 3]) (results_ct Try.results10 rfl rfl (load_range (World.rangeAt_setCells_same w3 (p + 1) 0 (⟨false, 0, 0, 0, 0, 0, 0⟩ : Sl).a.toList (by have := HT.out; rw [Sl.size] at this; exact this)) Try.underlying31 rfl (inforslot (⟨false, 0, 0, 0, 0, 0, 0⟩ : Sl)))) rfl ⟨rfl, HE.out⟩
set_option maxHeartbeats 2000000 in
theorem rslread_true (d : Nat → Int) (w : World) (h0 : decide (1 < d 0) = false) (h1 : decide (2147483648 < d 6) = false) (h2 : (d 7 != 0) = false) (HR : Hid (∀ W, Calls Try.prog 17 #[.agg #[.bool (d 0 == 1), .int .u64 (d 1), .int .u64 (d 2), .int .u64 (d 3), .int .u64 (d 4), .int .u64 (d 5), .int .i64 (wrap64 (d 6))]] W fun e w' => e = .returned (.bool true) ∧ Below W.heap.size W w')) :
    Calls Try.prog 10 #[.agg #[.int .u64 (d 0), .int .u64 (d 1), .int .u64 (d 2), .int .u64 (d 3), .int .u64 (d 4), .int .u64 (d 5), .int .u64 (d 6), .int .u64 (d 7)]] w fun e w' => e = .returned (.tuple #[.agg (⟨d 0 == 1, d 1, d 2, d 3, d 4, d 5, wrap64 (d 6)⟩ : Sl).a, .int .i64 0]) ∧ Below w.heap.size w w' := by
  obtain ⟨p, hp⟩ : ∃ p, w.heap.size = p := ⟨_, rfl⟩
  obtain ⟨w2, hw2⟩ : ∃ w9, (((w.alloc (.cells #[.int .u64 (d 0), .int .u64 (d 1), .int .u64 (d 2), .int .u64 (d 3), .int .u64 (d 4), .int .u64 (d 5), .int .u64 (d 6), .int .u64 (d 7)] 26)).alloc (.cells #[.bool false, .int .u64 0, .int .u64 0, .int .u64 0, .int .u64 0, .int .u64 0, .int .i64 0] 31)).alloc (.cells #[.bool (d 0 == 1), .int .u64 (d 1), .int .u64 (d 2), .int .u64 (d 3), .int .u64 (d 4), .int .u64 (d 5), .int .i64 (wrap64 (d 6))] 31)) = w9 := ⟨_, rfl⟩
  have hx0 : Box w2 (p) 26 #[.int .u64 (d 0), .int .u64 (d 1), .int .u64 (d 2), .int .u64 (d 3), .int .u64 (d 4), .int .u64 (d 5), .int .u64 (d 6), .int .u64 (d 7)] := by
    have h9 := (((Box.new w 26 #[.int .u64 (d 0), .int .u64 (d 1), .int .u64 (d 2), .int .u64 (d 3), .int .u64 (d 4), .int .u64 (d 5), .int .u64 (d 6), .int .u64 (d 7)])).alloc (.cells #[.bool false, .int .u64 0, .int .u64 0, .int .u64 0, .int .u64 0, .int .u64 0, .int .i64 0] 31)).alloc (.cells #[.bool (d 0 == 1), .int .u64 (d 1), .int .u64 (d 2), .int .u64 (d 3), .int .u64 (d 4), .int .u64 (d 5), .int .i64 (wrap64 (d 6))] 31)
    try simp only [World.size_alloc] at h9
    simp only [hp, hw2] at h9
    exact h9
  have hx1 : Box w2 (p + 1) 31 #[.bool false, .int .u64 0, .int .u64 0, .int .u64 0, .int .u64 0, .int .u64 0, .int .i64 0] := by
    have h9 := ((Box.new (w.alloc (.cells #[.int .u64 (d 0), .int .u64 (d 1), .int .u64 (d 2), .int .u64 (d 3), .int .u64 (d 4), .int .u64 (d 5), .int .u64 (d 6), .int .u64 (d 7)] 26)) 31 #[.bool false, .int .u64 0, .int .u64 0, .int .u64 0, .int .u64 0, .int .u64 0, .int .i64 0])).alloc (.cells #[.bool (d 0 == 1), .int .u64 (d 1), .int .u64 (d 2), .int .u64 (d 3), .int .u64 (d 4), .int .u64 (d 5), .int .i64 (wrap64 (d 6))] 31)
    try simp only [World.size_alloc] at h9
    simp only [hp, hw2] at h9
    exact h9
  have hx2 : Box w2 (p + 2) 31 #[.bool (d 0 == 1), .int .u64 (d 1), .int .u64 (d 2), .int .u64 (d 3), .int .u64 (d 4), .int .u64 (d 5), .int .i64 (wrap64 (d 6))] := by
    have h9 := (Box.new ((w.alloc (.cells #[.int .u64 (d 0), .int .u64 (d 1), .int .u64 (d 2), .int .u64 (d 3), .int .u64 (d 4), .int .u64 (d 5), .int .u64 (d 6), .int .u64 (d 7)] 26)).alloc (.cells #[.bool false, .int .u64 0, .int .u64 0, .int .u64 0, .int .u64 0, .int .u64 0, .int .i64 0] 31)) 31 #[.bool (d 0 == 1), .int .u64 (d 1), .int .u64 (d 2), .int .u64 (d 3), .int .u64 (d 4), .int .u64 (d 5), .int .i64 (wrap64 (d 6))])
    try simp only [World.size_alloc] at h9
    simp only [hp, hw2] at h9
    exact h9
  have hB : Below w.heap.size w w2 := by
    have h9 := ((((Below.refl w.heap.size w).alloc (by simp; try omega) (.cells #[.int .u64 (d 0), .int .u64 (d 1), .int .u64 (d 2), .int .u64 (d 3), .int .u64 (d 4), .int .u64 (d 5), .int .u64 (d 6), .int .u64 (d 7)] 26)).alloc (by simp; try omega) (.cells #[.bool false, .int .u64 0, .int .u64 0, .int .u64 0, .int .u64 0, .int .u64 0, .int .i64 0] 31)).alloc (by simp; try omega) (.cells #[.bool (d 0 == 1), .int .u64 (d 1), .int .u64 (d 2), .int .u64 (d 3), .int .u64 (d 4), .int .u64 (d 5), .int .i64 (wrap64 (d 6))] 31))
    rw [hw2] at h9
    exact h9
  have hS : w2.heap.size = p + 3 := by rw [← hw2]; simp [hp]
  have HY := Lib.hid hx1
  have HZ := Lib.hid hx2
  have HB := Lib.hid hB
  have HP := Lib.hid hp
  have HW := Lib.hid hw2
  clear hx1 hB hS hp hw2 hx0
  have b0 : w2.cell? ⟨p + 2, 0, none⟩ = some (.bool (d 0 == 1)) := hx2.cell 0
  have b1 : w2.cell? ⟨p + 2, 1, none⟩ = some (.int .u64 (d 1)) := hx2.cell 1
  have b2 : w2.cell? ⟨p + 2, 2, none⟩ = some (.int .u64 (d 2)) := hx2.cell 2
  have b3 : w2.cell? ⟨p + 2, 3, none⟩ = some (.int .u64 (d 3)) := hx2.cell 3
  have b4 : w2.cell? ⟨p + 2, 4, none⟩ = some (.int .u64 (d 4)) := hx2.cell 4
  have b5 : w2.cell? ⟨p + 2, 5, none⟩ = some (.int .u64 (d 5)) := hx2.cell 5
  have b6 : w2.cell? ⟨p + 2, 6, none⟩ = some (.int .i64 (wrap64 (d 6))) := hx2.cell 6
  clear hx2
  have e2 : p + 1 + 1 = p + 2 := rfl
  go_enter Try.func10, Try.ntmps10
  go_upto_region 4 with fail
  simp only [HP.out, HW.out, e2]
  clear e2
  go_wp2_with fail
  refine (HR.out _).mono ?_
  rintro e w3 ⟨rfl, hb⟩
  have hY : Box w3 (p + 1) 31 #[.bool false, .int .u64 0, .int .u64 0, .int .u64 0, .int .u64 0, .int .u64 0, .int .i64 0] := HY.out.of (hb.block _ HY.out.lt)
  have hZ : Box w3 (p + 2) 31 (⟨d 0 == 1, d 1, d 2, d 3, d 4, d 5, wrap64 (d 6)⟩ : Sl).a := HZ.out.of (hb.block _ HZ.out.lt)
  have hB := HB.out.trans (hb.mono HB.out.size)
  clear b0 b1 b2 b3 b4 b5 b6 HY HZ HB HW HR hb
  have HT := Lib.hid (show w3.there (p + 1) 0 (⟨d 0 == 1, d 1, d 2, d 3, d 4, d 5, wrap64 (d 6)⟩ : Sl).a.size from Box.there hY 7 (by decide))
  have HL := Lib.hid (show w3.rangeAt (p + 2) 0 (⟨d 0 == 1, d 1, d 2, d 3, d 4, d 5, wrap64 (d 6)⟩ : Sl).a.toList from hZ.range)
  have HE := Lib.hid (below_only hB (only_setCells (S := just (p + 1)) _ 0 w3 (Only.refl _ _) (.inl (just_self _))) hB.size (fun i hi e => by have e : i = p + 1 := e; have := HP.out; omega) : Below w.heap.size w (w3.setCells (p + 1) 0 (⟨d 0 == 1, d 1, d 2, d 3, d 4, d 5, wrap64 (d 6)⟩ : Sl).a.toList))
  clear hY hB hZ
  go_wp2_with (first | with_reducible refine wpList_load_rslot rfl (.tmp 4) rfl (p + 2) 0 rfl (⟨d 0 == 1, d 1, d 2, d 3, d 4, d 5, wrap64 (d 6)⟩ : Sl) HL.out ?_ | with_reducible refine wpList_store_rslot rfl (.tmp 2) (.tmp 40) rfl (p + 1) 0 rfl (⟨d 0 == 1, d 1, d 2, d 3, d 4, d 5, wrap64 (d 6)⟩ : Sl) rfl HT.out ?_)
  exact bodyPost_ret (v := .tuple #[.agg (⟨d 0 == 1, d 1, d 2, d 3, d 4, d 5, wrap64 (d 6)⟩ : Sl).a, .int .i64 0]) (results_ct Try.results10 rfl rfl (load_range (World.rangeAt_setCells_same w3 (p + 1) 0 (⟨d 0 == 1, d 1, d 2, d 3, d 4, d 5, wrap64 (d 6)⟩ : Sl).a.toList (by have := HT.out; rw [Sl.size] at this; exact this)) Try.underlying31 rfl (inforslot (⟨d 0 == 1, d 1, d 2, d 3, d 4, d 5, wrap64 (d 6)⟩ : Sl)))) rfl ⟨rfl, HE.out⟩
/-- A block's entry, or that there is none. -/
theorem rslread_any (d : Nat → Int) (w : World) (hd : ∀ i, i < 8 → U64 (d i)) : Calls Try.prog 10 #[.agg (DA d)] w fun e w' => e = .returned (.tuple #[.agg (reS d).a, .int .i64 (reE d)]) ∧ Below w.heap.size w w' := by
  have hok : (rdS d).Ok := rdS_ok hd
  have e9 : rdS d = (⟨d 0 == 1, d 1, d 2, d 3, d 4, d 5, wrap64 (d 6)⟩ : Sl) := by unfold rdS; rw [IntWalk.i64_left]
  have HR : ∀ W, Calls Try.prog 17 #[.agg (rdS d).a] W fun e w' => e = .returned (.bool (rdS d).right) ∧ Below W.heap.size W w' := fun W => rslright_any (rdS d) W hok
  unfold reS reE isS
  rw [e9] at HR ⊢
  cases h0 : decide (1 < d 0)
  · cases h1 : decide (2147483648 < d 6)
    · cases h2 : (d 7 != 0)
      · cases hr : ((⟨d 0 == 1, d 1, d 2, d 3, d 4, d 5, wrap64 (d 6)⟩ : Sl)).right
        · rw [hr] at HR
          exact rslread_false d w h0 h1 h2 (Lib.hid HR)
        · rw [hr] at HR
          exact rslread_true d w h0 h1 h2 (Lib.hid HR)
      · exact rslread_out3 d w h0 h1 h2
    · exact rslread_out2 d w h0 h1
  · exact rslread_out1 d w h0
end Go.Proofs.Ytjamfcjglodfeaa
