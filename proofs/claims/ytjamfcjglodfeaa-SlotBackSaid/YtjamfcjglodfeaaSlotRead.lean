/- Contracts of package slot: Read: a block's entry. Conditions: words are of 64 bits, Next is an int. -/
import Derived.Below
import Derived.BigQuiet
import Derived.ChangeKeysEq
import Derived.ChangeSlices
import Derived.Deep.Cut
import Derived.Deep.Draws
import Derived.Deep.MidRow
import Derived.Deep.OwnRows
import Derived.Deep.Quiet
import Derived.Deep.QuietTactic
import Derived.Deep.WholeRow
import Derived.Laws.BitsAllLaws
import Derived.Laws.BytesArg
import Derived.Laws.NewBlocks
import Derived.Laws.StructEq
import Derived.Lib.Hide
import Derived.Lib.LazyBuf
import Derived.OpenShut
import Derived.ProofKit
import Derived.RowKit3
import Derived.SizedLaws
import Derived.WalkKit
import Derived.Test.YtjamfcjglodfeaaProg
import Derived.Test.YtjamfcjglodfeaaDataV
import Derived.Test.YtjamfcjglodfeaaGrow
import Derived.Test.YtjamfcjglodfeaaHeap
import Derived.Test.YtjamfcjglodfeaaResults
import Derived.Test.YtjamfcjglodfeaaSlotData
import Derived.Test.YtjamfcjglodfeaaSlotMath
namespace Go.Proofs.Ytjamfcjglodfeaa
open Go.RowKit Go.ChangeShapes Go.WideShapes Go.ChangeAt

set_option maxHeartbeats 2000000 in
theorem slread_false (d f : Nat → Int) (w : World) (hd : deq f d = false) (HD : Hid (∀ W, Calls Try.prog 18 #[.agg #[.bool (d 0 == 1), .int .u64 (d 1), .int .u64 (d 2), .int .u64 (d 3), .int .u64 (d 4), .int .u64 (d 5), .int .i64 (wrap64 (d 6))]] W fun e w' => e = .returned (.agg #[.int .u64 (f 0), .int .u64 (f 1), .int .u64 (f 2), .int .u64 (f 3), .int .u64 (f 4), .int .u64 (f 5), .int .u64 (f 6), .int .u64 (f 7)]) ∧ Below W.heap.size W w')) :
    Calls Try.prog 9 #[.agg #[.int .u64 (d 0), .int .u64 (d 1), .int .u64 (d 2), .int .u64 (d 3), .int .u64 (d 4), .int .u64 (d 5), .int .u64 (d 6), .int .u64 (d 7)]] w fun e w' => e = .returned (.tuple #[.agg (⟨false, 0, 0, 0, 0, 0, 0⟩ : Sl).a, .int .i64 3]) ∧ Below w.heap.size w w' := by
  have hq := fun W => neq_data f d W
  rw [hd] at hq
  simp only [DA, Bool.not_false] at hq
  clear hd
  obtain ⟨p, hp⟩ : ∃ p, w.heap.size = p := ⟨_, rfl⟩
  obtain ⟨w2, hw2⟩ : ∃ w9, (((w.alloc (.cells #[.int .u64 (d 0), .int .u64 (d 1), .int .u64 (d 2), .int .u64 (d 3), .int .u64 (d 4), .int .u64 (d 5), .int .u64 (d 6), .int .u64 (d 7)] 26)).alloc (.cells #[.bool false, .int .u64 0, .int .u64 0, .int .u64 0, .int .u64 0, .int .u64 0, .int .i64 0] 24)).alloc (.cells #[.bool (d 0 == 1), .int .u64 (d 1), .int .u64 (d 2), .int .u64 (d 3), .int .u64 (d 4), .int .u64 (d 5), .int .i64 (wrap64 (d 6))] 24)) = w9 := ⟨_, rfl⟩
  have hx0 : Box w2 (p) 26 #[.int .u64 (d 0), .int .u64 (d 1), .int .u64 (d 2), .int .u64 (d 3), .int .u64 (d 4), .int .u64 (d 5), .int .u64 (d 6), .int .u64 (d 7)] := by
    have h9 := (((Box.new w 26 #[.int .u64 (d 0), .int .u64 (d 1), .int .u64 (d 2), .int .u64 (d 3), .int .u64 (d 4), .int .u64 (d 5), .int .u64 (d 6), .int .u64 (d 7)])).alloc (.cells #[.bool false, .int .u64 0, .int .u64 0, .int .u64 0, .int .u64 0, .int .u64 0, .int .i64 0] 24)).alloc (.cells #[.bool (d 0 == 1), .int .u64 (d 1), .int .u64 (d 2), .int .u64 (d 3), .int .u64 (d 4), .int .u64 (d 5), .int .i64 (wrap64 (d 6))] 24)
    try simp only [World.size_alloc] at h9
    simp only [hp, hw2] at h9
    exact h9
  have hx1 : Box w2 (p + 1) 24 #[.bool false, .int .u64 0, .int .u64 0, .int .u64 0, .int .u64 0, .int .u64 0, .int .i64 0] := by
    have h9 := ((Box.new (w.alloc (.cells #[.int .u64 (d 0), .int .u64 (d 1), .int .u64 (d 2), .int .u64 (d 3), .int .u64 (d 4), .int .u64 (d 5), .int .u64 (d 6), .int .u64 (d 7)] 26)) 24 #[.bool false, .int .u64 0, .int .u64 0, .int .u64 0, .int .u64 0, .int .u64 0, .int .i64 0])).alloc (.cells #[.bool (d 0 == 1), .int .u64 (d 1), .int .u64 (d 2), .int .u64 (d 3), .int .u64 (d 4), .int .u64 (d 5), .int .i64 (wrap64 (d 6))] 24)
    try simp only [World.size_alloc] at h9
    simp only [hp, hw2] at h9
    exact h9
  have hx2 : Box w2 (p + 2) 24 #[.bool (d 0 == 1), .int .u64 (d 1), .int .u64 (d 2), .int .u64 (d 3), .int .u64 (d 4), .int .u64 (d 5), .int .i64 (wrap64 (d 6))] := by
    have h9 := (Box.new ((w.alloc (.cells #[.int .u64 (d 0), .int .u64 (d 1), .int .u64 (d 2), .int .u64 (d 3), .int .u64 (d 4), .int .u64 (d 5), .int .u64 (d 6), .int .u64 (d 7)] 26)).alloc (.cells #[.bool false, .int .u64 0, .int .u64 0, .int .u64 0, .int .u64 0, .int .u64 0, .int .i64 0] 24)) 24 #[.bool (d 0 == 1), .int .u64 (d 1), .int .u64 (d 2), .int .u64 (d 3), .int .u64 (d 4), .int .u64 (d 5), .int .i64 (wrap64 (d 6))])
    try simp only [World.size_alloc] at h9
    simp only [hp, hw2] at h9
    exact h9
  have hB : Below w.heap.size w w2 := by
    have h9 := ((((Below.refl w.heap.size w).alloc (by simp; try omega) (.cells #[.int .u64 (d 0), .int .u64 (d 1), .int .u64 (d 2), .int .u64 (d 3), .int .u64 (d 4), .int .u64 (d 5), .int .u64 (d 6), .int .u64 (d 7)] 26)).alloc (by simp; try omega) (.cells #[.bool false, .int .u64 0, .int .u64 0, .int .u64 0, .int .u64 0, .int .u64 0, .int .i64 0] 24)).alloc (by simp; try omega) (.cells #[.bool (d 0 == 1), .int .u64 (d 1), .int .u64 (d 2), .int .u64 (d 3), .int .u64 (d 4), .int .u64 (d 5), .int .i64 (wrap64 (d 6))] 24))
    rw [hw2] at h9
    exact h9
  have hS : w2.heap.size = p + 3 := by rw [← hw2]; simp [hp]
  have HY := Lib.hid hx1
  have HZ := Lib.hid hx2
  have HB := Lib.hid hB
  have HP := Lib.hid hp
  have HW := Lib.hid hw2
  clear hx1 hB hS hp hw2
  have a0 := Gr.cell (show w2.cell? ⟨p, 0, none⟩ = some (.int .u64 (d 0)) from hx0.cell 0)
  have a1 := Gr.cell (show w2.cell? ⟨p, 1, none⟩ = some (.int .u64 (d 1)) from hx0.cell 1)
  have a2 := Gr.cell (show w2.cell? ⟨p, 2, none⟩ = some (.int .u64 (d 2)) from hx0.cell 2)
  have a3 := Gr.cell (show w2.cell? ⟨p, 3, none⟩ = some (.int .u64 (d 3)) from hx0.cell 3)
  have a4 := Gr.cell (show w2.cell? ⟨p, 4, none⟩ = some (.int .u64 (d 4)) from hx0.cell 4)
  have a5 := Gr.cell (show w2.cell? ⟨p, 5, none⟩ = some (.int .u64 (d 5)) from hx0.cell 5)
  have a6 := Gr.cell (show w2.cell? ⟨p, 6, none⟩ = some (.int .u64 (d 6)) from hx0.cell 6)
  have a7 := Gr.cell (show w2.cell? ⟨p, 7, none⟩ = some (.int .u64 (d 7)) from hx0.cell 7)
  have b0 := Gr.cell (show w2.cell? ⟨p + 2, 0, none⟩ = some (.bool (d 0 == 1)) from hx2.cell 0)
  have b1 := Gr.cell (show w2.cell? ⟨p + 2, 1, none⟩ = some (.int .u64 (d 1)) from hx2.cell 1)
  have b2 := Gr.cell (show w2.cell? ⟨p + 2, 2, none⟩ = some (.int .u64 (d 2)) from hx2.cell 2)
  have b3 := Gr.cell (show w2.cell? ⟨p + 2, 3, none⟩ = some (.int .u64 (d 3)) from hx2.cell 3)
  have b4 := Gr.cell (show w2.cell? ⟨p + 2, 4, none⟩ = some (.int .u64 (d 4)) from hx2.cell 4)
  have b5 := Gr.cell (show w2.cell? ⟨p + 2, 5, none⟩ = some (.int .u64 (d 5)) from hx2.cell 5)
  have b6 := Gr.cell (show w2.cell? ⟨p + 2, 6, none⟩ = some (.int .i64 (wrap64 (d 6))) from hx2.cell 6)
  clear hx0 hx2
  have e2 : p + 1 + 1 = p + 2 := rfl
  go_enter Try.func9, Try.ntmps9
  go_upto_region 2 with fail
  simp only [HP.out, HW.out, e2]
  clear e2
  refine wp_region_grow (by kernel_rfl) (by kernel_rfl) ?_
  repeat (go_big_quiet_step (first | (go_at_call 18; exact Gr.blw (HD.out _))))
  refine wpQuiet_nil ?_
  intro w12 hw12
  obtain ⟨G, hG⟩ := hw12
  subst hG
  have hY : Box G.w' (p + 1) 24 #[.bool false, .int .u64 0, .int .u64 0, .int .u64 0, .int .u64 0, .int .u64 0, .int .i64 0] := HY.out.only G.ok (not_nobody _)
  have hZ : Box G.w' (p + 2) 24 (⟨d 0 == 1, d 1, d 2, d 3, d 4, d 5, wrap64 (d 6)⟩ : Sl).a := HZ.out.only G.ok (not_nobody _)
  have hB := HB.out.trans (G.ok.none.mono HB.out.size)
  clear a0 a1 a2 a3 a4 a5 a6 a7 b0 b1 b2 b3 b4 b5 b6 HY HZ HB HW HD
  clear hZ
  have HT := Lib.hid (show G.w'.there (p + 1) 0 (⟨false, 0, 0, 0, 0, 0, 0⟩ : Sl).a.size from Box.there hY 7 (by decide))
  have HE := Lib.hid (below_only hB (only_setCells (S := just (p + 1)) _ 0 G.w' (Only.refl _ _) (.inl (just_self _))) hB.size (fun i hi e => by have e : i = p + 1 := e; have := HP.out; omega) : Below w.heap.size w (G.w'.setCells (p + 1) 0 (⟨false, 0, 0, 0, 0, 0, 0⟩ : Sl).a.toList))
  clear hY hB
  go_wp2_with (first | with_reducible refine wpList_store_slot rfl (.tmp 2) (.tmp 26) rfl (p + 1) 0 rfl (⟨false, 0, 0, 0, 0, 0, 0⟩ : Sl) rfl HT.out ?_)
  exact bodyPost_ret (v := .tuple #[.agg (⟨false, 0, 0, 0, 0, 0, 0⟩ : Sl).a, .int .i64 3]) (results_ct Try.results9 rfl rfl (load_range (World.rangeAt_setCells_same G.w' (p + 1) 0 (⟨false, 0, 0, 0, 0, 0, 0⟩ : Sl).a.toList (by have := HT.out; rw [Sl.size] at this; exact this)) Try.underlying24 rfl (infoslot (⟨false, 0, 0, 0, 0, 0, 0⟩ : Sl)))) rfl ⟨rfl, HE.out⟩
set_option maxHeartbeats 2000000 in
theorem slread_true (d f : Nat → Int) (w : World) (hd : deq f d = true) (HD : Hid (∀ W, Calls Try.prog 18 #[.agg #[.bool (d 0 == 1), .int .u64 (d 1), .int .u64 (d 2), .int .u64 (d 3), .int .u64 (d 4), .int .u64 (d 5), .int .i64 (wrap64 (d 6))]] W fun e w' => e = .returned (.agg #[.int .u64 (f 0), .int .u64 (f 1), .int .u64 (f 2), .int .u64 (f 3), .int .u64 (f 4), .int .u64 (f 5), .int .u64 (f 6), .int .u64 (f 7)]) ∧ Below W.heap.size W w')) :
    Calls Try.prog 9 #[.agg #[.int .u64 (d 0), .int .u64 (d 1), .int .u64 (d 2), .int .u64 (d 3), .int .u64 (d 4), .int .u64 (d 5), .int .u64 (d 6), .int .u64 (d 7)]] w fun e w' => e = .returned (.tuple #[.agg (⟨d 0 == 1, d 1, d 2, d 3, d 4, d 5, wrap64 (d 6)⟩ : Sl).a, .int .i64 0]) ∧ Below w.heap.size w w' := by
  have hq := fun W => neq_data f d W
  rw [hd] at hq
  simp only [DA, Bool.not_true] at hq
  clear hd
  obtain ⟨p, hp⟩ : ∃ p, w.heap.size = p := ⟨_, rfl⟩
  obtain ⟨w2, hw2⟩ : ∃ w9, (((w.alloc (.cells #[.int .u64 (d 0), .int .u64 (d 1), .int .u64 (d 2), .int .u64 (d 3), .int .u64 (d 4), .int .u64 (d 5), .int .u64 (d 6), .int .u64 (d 7)] 26)).alloc (.cells #[.bool false, .int .u64 0, .int .u64 0, .int .u64 0, .int .u64 0, .int .u64 0, .int .i64 0] 24)).alloc (.cells #[.bool (d 0 == 1), .int .u64 (d 1), .int .u64 (d 2), .int .u64 (d 3), .int .u64 (d 4), .int .u64 (d 5), .int .i64 (wrap64 (d 6))] 24)) = w9 := ⟨_, rfl⟩
  have hx0 : Box w2 (p) 26 #[.int .u64 (d 0), .int .u64 (d 1), .int .u64 (d 2), .int .u64 (d 3), .int .u64 (d 4), .int .u64 (d 5), .int .u64 (d 6), .int .u64 (d 7)] := by
    have h9 := (((Box.new w 26 #[.int .u64 (d 0), .int .u64 (d 1), .int .u64 (d 2), .int .u64 (d 3), .int .u64 (d 4), .int .u64 (d 5), .int .u64 (d 6), .int .u64 (d 7)])).alloc (.cells #[.bool false, .int .u64 0, .int .u64 0, .int .u64 0, .int .u64 0, .int .u64 0, .int .i64 0] 24)).alloc (.cells #[.bool (d 0 == 1), .int .u64 (d 1), .int .u64 (d 2), .int .u64 (d 3), .int .u64 (d 4), .int .u64 (d 5), .int .i64 (wrap64 (d 6))] 24)
    try simp only [World.size_alloc] at h9
    simp only [hp, hw2] at h9
    exact h9
  have hx1 : Box w2 (p + 1) 24 #[.bool false, .int .u64 0, .int .u64 0, .int .u64 0, .int .u64 0, .int .u64 0, .int .i64 0] := by
    have h9 := ((Box.new (w.alloc (.cells #[.int .u64 (d 0), .int .u64 (d 1), .int .u64 (d 2), .int .u64 (d 3), .int .u64 (d 4), .int .u64 (d 5), .int .u64 (d 6), .int .u64 (d 7)] 26)) 24 #[.bool false, .int .u64 0, .int .u64 0, .int .u64 0, .int .u64 0, .int .u64 0, .int .i64 0])).alloc (.cells #[.bool (d 0 == 1), .int .u64 (d 1), .int .u64 (d 2), .int .u64 (d 3), .int .u64 (d 4), .int .u64 (d 5), .int .i64 (wrap64 (d 6))] 24)
    try simp only [World.size_alloc] at h9
    simp only [hp, hw2] at h9
    exact h9
  have hx2 : Box w2 (p + 2) 24 #[.bool (d 0 == 1), .int .u64 (d 1), .int .u64 (d 2), .int .u64 (d 3), .int .u64 (d 4), .int .u64 (d 5), .int .i64 (wrap64 (d 6))] := by
    have h9 := (Box.new ((w.alloc (.cells #[.int .u64 (d 0), .int .u64 (d 1), .int .u64 (d 2), .int .u64 (d 3), .int .u64 (d 4), .int .u64 (d 5), .int .u64 (d 6), .int .u64 (d 7)] 26)).alloc (.cells #[.bool false, .int .u64 0, .int .u64 0, .int .u64 0, .int .u64 0, .int .u64 0, .int .i64 0] 24)) 24 #[.bool (d 0 == 1), .int .u64 (d 1), .int .u64 (d 2), .int .u64 (d 3), .int .u64 (d 4), .int .u64 (d 5), .int .i64 (wrap64 (d 6))])
    try simp only [World.size_alloc] at h9
    simp only [hp, hw2] at h9
    exact h9
  have hB : Below w.heap.size w w2 := by
    have h9 := ((((Below.refl w.heap.size w).alloc (by simp; try omega) (.cells #[.int .u64 (d 0), .int .u64 (d 1), .int .u64 (d 2), .int .u64 (d 3), .int .u64 (d 4), .int .u64 (d 5), .int .u64 (d 6), .int .u64 (d 7)] 26)).alloc (by simp; try omega) (.cells #[.bool false, .int .u64 0, .int .u64 0, .int .u64 0, .int .u64 0, .int .u64 0, .int .i64 0] 24)).alloc (by simp; try omega) (.cells #[.bool (d 0 == 1), .int .u64 (d 1), .int .u64 (d 2), .int .u64 (d 3), .int .u64 (d 4), .int .u64 (d 5), .int .i64 (wrap64 (d 6))] 24))
    rw [hw2] at h9
    exact h9
  have hS : w2.heap.size = p + 3 := by rw [← hw2]; simp [hp]
  have HY := Lib.hid hx1
  have HZ := Lib.hid hx2
  have HB := Lib.hid hB
  have HP := Lib.hid hp
  have HW := Lib.hid hw2
  clear hx1 hB hS hp hw2
  have a0 := Gr.cell (show w2.cell? ⟨p, 0, none⟩ = some (.int .u64 (d 0)) from hx0.cell 0)
  have a1 := Gr.cell (show w2.cell? ⟨p, 1, none⟩ = some (.int .u64 (d 1)) from hx0.cell 1)
  have a2 := Gr.cell (show w2.cell? ⟨p, 2, none⟩ = some (.int .u64 (d 2)) from hx0.cell 2)
  have a3 := Gr.cell (show w2.cell? ⟨p, 3, none⟩ = some (.int .u64 (d 3)) from hx0.cell 3)
  have a4 := Gr.cell (show w2.cell? ⟨p, 4, none⟩ = some (.int .u64 (d 4)) from hx0.cell 4)
  have a5 := Gr.cell (show w2.cell? ⟨p, 5, none⟩ = some (.int .u64 (d 5)) from hx0.cell 5)
  have a6 := Gr.cell (show w2.cell? ⟨p, 6, none⟩ = some (.int .u64 (d 6)) from hx0.cell 6)
  have a7 := Gr.cell (show w2.cell? ⟨p, 7, none⟩ = some (.int .u64 (d 7)) from hx0.cell 7)
  have b0 := Gr.cell (show w2.cell? ⟨p + 2, 0, none⟩ = some (.bool (d 0 == 1)) from hx2.cell 0)
  have b1 := Gr.cell (show w2.cell? ⟨p + 2, 1, none⟩ = some (.int .u64 (d 1)) from hx2.cell 1)
  have b2 := Gr.cell (show w2.cell? ⟨p + 2, 2, none⟩ = some (.int .u64 (d 2)) from hx2.cell 2)
  have b3 := Gr.cell (show w2.cell? ⟨p + 2, 3, none⟩ = some (.int .u64 (d 3)) from hx2.cell 3)
  have b4 := Gr.cell (show w2.cell? ⟨p + 2, 4, none⟩ = some (.int .u64 (d 4)) from hx2.cell 4)
  have b5 := Gr.cell (show w2.cell? ⟨p + 2, 5, none⟩ = some (.int .u64 (d 5)) from hx2.cell 5)
  have b6 := Gr.cell (show w2.cell? ⟨p + 2, 6, none⟩ = some (.int .i64 (wrap64 (d 6))) from hx2.cell 6)
  clear hx0 hx2
  have e2 : p + 1 + 1 = p + 2 := rfl
  go_enter Try.func9, Try.ntmps9
  go_upto_region 2 with fail
  simp only [HP.out, HW.out, e2]
  clear e2
  refine wp_region_grow (by kernel_rfl) (by kernel_rfl) ?_
  repeat (go_big_quiet_step (first | (go_at_call 18; exact Gr.blw (HD.out _))))
  refine wpQuiet_nil ?_
  intro w12 hw12
  obtain ⟨G, hG⟩ := hw12
  subst hG
  have hY : Box G.w' (p + 1) 24 #[.bool false, .int .u64 0, .int .u64 0, .int .u64 0, .int .u64 0, .int .u64 0, .int .i64 0] := HY.out.only G.ok (not_nobody _)
  have hZ : Box G.w' (p + 2) 24 (⟨d 0 == 1, d 1, d 2, d 3, d 4, d 5, wrap64 (d 6)⟩ : Sl).a := HZ.out.only G.ok (not_nobody _)
  have hB := HB.out.trans (G.ok.none.mono HB.out.size)
  clear a0 a1 a2 a3 a4 a5 a6 a7 b0 b1 b2 b3 b4 b5 b6 HY HZ HB HW HD
  have HT := Lib.hid (show G.w'.there (p + 1) 0 (⟨d 0 == 1, d 1, d 2, d 3, d 4, d 5, wrap64 (d 6)⟩ : Sl).a.size from Box.there hY 7 (by decide))
  have HL := Lib.hid (show G.w'.rangeAt (p + 2) 0 (⟨d 0 == 1, d 1, d 2, d 3, d 4, d 5, wrap64 (d 6)⟩ : Sl).a.toList from hZ.range)
  have HE := Lib.hid (below_only hB (only_setCells (S := just (p + 1)) _ 0 G.w' (Only.refl _ _) (.inl (just_self _))) hB.size (fun i hi e => by have e : i = p + 1 := e; have := HP.out; omega) : Below w.heap.size w (G.w'.setCells (p + 1) 0 (⟨d 0 == 1, d 1, d 2, d 3, d 4, d 5, wrap64 (d 6)⟩ : Sl).a.toList))
  clear hY hB hZ
  go_wp2_with (first | with_reducible refine wpList_load_slot rfl (.tmp 4) rfl (p + 2) 0 rfl (⟨d 0 == 1, d 1, d 2, d 3, d 4, d 5, wrap64 (d 6)⟩ : Sl) HL.out ?_ | with_reducible refine wpList_store_slot rfl (.tmp 2) (.tmp 27) rfl (p + 1) 0 rfl (⟨d 0 == 1, d 1, d 2, d 3, d 4, d 5, wrap64 (d 6)⟩ : Sl) rfl HT.out ?_)
  exact bodyPost_ret (v := .tuple #[.agg (⟨d 0 == 1, d 1, d 2, d 3, d 4, d 5, wrap64 (d 6)⟩ : Sl).a, .int .i64 0]) (results_ct Try.results9 rfl rfl (load_range (World.rangeAt_setCells_same G.w' (p + 1) 0 (⟨d 0 == 1, d 1, d 2, d 3, d 4, d 5, wrap64 (d 6)⟩ : Sl).a.toList (by have := HT.out; rw [Sl.size] at this; exact this)) Try.underlying24 rfl (infoslot (⟨d 0 == 1, d 1, d 2, d 3, d 4, d 5, wrap64 (d 6)⟩ : Sl)))) rfl ⟨rfl, HE.out⟩
/-- A block's entry, or that there is none. -/
theorem slread_any (d : Nat → Int) (w : World) (hd : ∀ i, i < 8 → U64 (d i)) : Calls Try.prog 9 #[.agg (DA d)] w fun e w' => e = .returned (.tuple #[.agg (reS d).a, .int .i64 (reE d)]) ∧ Below w.heap.size w w' := by
  have h := dat_read d hd
  have hok : (rdS d).Ok := rdS_ok hd
  have e9 : rdS d = (⟨d 0 == 1, d 1, d 2, d 3, d 4, d 5, wrap64 (d 6)⟩ : Sl) := by unfold rdS; rw [IntWalk.i64_left]
  have HD : ∀ W, Calls Try.prog 18 #[.agg (rdS d).a] W fun e w' => e = .returned (.agg (DA (rdS d).dat)) ∧ Below W.heap.size W w' := fun W => sldata_any (rdS d) W hok
  unfold reS reE
  rw [e9] at h HD ⊢
  cases hi : isS d
  · rw [hi] at h
    exact slread_false d _ w h (Lib.hid HD)
  · rw [hi] at h
    exact slread_true d _ w h (Lib.hid HD)
end Go.Proofs.Ytjamfcjglodfeaa
