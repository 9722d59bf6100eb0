/- The document's Victims: the first of those that are left, again and again; items taken over. Nothing that was in memory changes. -/
import Derived.Test.YtigifbijmchdcaaPolHelp
import Derived.Test.YtigifbijmchdcaaGrow
import Derived.Deep.Cut
import Derived.Deep.QuietTactic
namespace Go.Proofs.Ytigifbijmchdcaa
open Go.RowKit Go.ChangeShapes Go.WideShapes Go.ChangeAt

theorem infoRit : (Try.prog.info? 31).map (fun i => (i.zero, i.size, i.bytes)) = some (some (.agg #[.int .i64 0, .int .u64 0, .bool false]), 3, 24) := by kernel_rfl
def AsPost (w : World) (n : Nat) (y : Nat → Pi) (e : Ending) (w' : World) : Prop :=
  ∃ A cap, e = .returned (.slice A n cap) ∧ (A = none → n = 0 ∧ cap = 0) ∧ Pits w' w'.heap.size A n y ∧ Below w.heap.size w w'
set_option maxRecDepth 100000 in
set_option maxHeartbeats 4000000 in
theorem as_pits (a : Option Addr) (n c : Nat) (y : Nat → Pi) (w : World) (hn : n ≤ 1000) (hI : Pits w w.heap.size a n y) :
    Calls Try.prog 10 #[.slice a n c] w (AsPost w n y) := by
  have HI := Lib.hid hI
  have HA : Hid (PtAt 31 w (.slice none 0 0) (lsP 0 y) w) := PtAt.nil _ w
  clear hI
  go_enter Try.func10, Try.ntmps10
  go_wp2_with fail
  go_loopw [3, 4] (fun v3 v4 wr => ∃ i : Nat, v4 = .int .i64 i ∧ i ≤ n ∧ PtAt 31 w v3 (lsP i y) wr) (fun _ v _ => n - (intOf v).toNat)
  case atStart => exact ⟨0, rfl, by omega, HA.out⟩
  case round =>
    obtain ⟨i, rfl, hle, hS⟩ := hrel
    clear HA
    have HS := Lib.hid hS
    by_cases hin : i < n
    · have HN := Lib.hid (lsP_succ i y)
      have hll := lsP_len i y
      generalize lsP i y = lq at *
      obtain ⟨bb, off, rfl, hbl9, d0, d1, d2⟩ := (HI.out.below hS.below).at hin
      have hiz : (i : Int) < (n : Int) := by omega
      generalize y i = x at *
      obtain ⟨x1, x2, x3⟩ := x
      dsimp only at d0 d1 d2
      clear hS
      go_wp2_with fail
      have HS3 : Hid (PtAt 31 w u3 lq wr.drew) := Lib.hid (HS.out.grow ((Below.refl _ wr).drew))
      have hbs : w.heap.size ≤ wr.drew.heap.size := HS3.out.below.size
      have hbl := World.block_lt_of_cell? wr.drew ⟨bb, off + i * 3, none⟩ d0
      clear HS
      refine held_s (S := fun w' => w'.cell? ⟨bb, off + i * 3, none⟩ = some (.int .i64 x1) ∧ w'.cell? ⟨bb, off + i * 3 + 1, none⟩ = some (.int .u64 (x2 : Int)) ∧ w'.cell? ⟨bb, off + i * 3 + 2, none⟩ = some (.bool x3)) 20 rfl (by kernel_rfl) ⟨d0, d1, d2⟩ (fun hHeld => ?_)
      clear d0 d1 d2
      generalize wr.drew = w3 at *
      simp only [Array.replicate_succ, Array.replicate_zero, List.push_toArray, List.nil_append, List.cons_append]
      refine wpAnyH_take (i := 0) (oi := ⟨some 11, _, _, _, _, _⟩) (v := (u3)) rfl (by kernel_rfl) (by kernel_rfl) (by kernel_rfl) (fun _ _ _ h => h) (Or.inl ⟨by rfl, fun w' hw => by go_simp⟩) hHeld ?_
      try simp only [Act.put, List.setIfInBounds_toArray, List.set_cons_zero, List.set_cons_succ]
      refine wpAnyH_take (i := 1) (oi := ⟨some 12, _, _, _, _, _⟩) (v := (.slice (some ⟨bb, off, none⟩) n c)) rfl (by kernel_rfl) (by kernel_rfl) (by kernel_rfl) (fun _ _ _ h => h) (Or.inl ⟨by rfl, fun w' hw => by go_simp⟩) hHeld ?_
      try simp only [Act.put, List.setIfInBounds_toArray, List.set_cons_zero, List.set_cons_succ]
      refine wpAnyH_take (i := 2) (oi := ⟨some 13, _, _, _, _, _⟩) (v := (.int .i64 (i : Int))) rfl (by kernel_rfl) (by kernel_rfl) (by kernel_rfl) (fun _ _ _ h => h) (Or.inl ⟨by rfl, fun w' hw => by go_simp⟩) hHeld ?_
      try simp only [Act.put, List.setIfInBounds_toArray, List.set_cons_zero, List.set_cons_succ]
      refine wpAnyH_take (i := 3) (oi := ⟨some 14, _, _, _, _, _⟩) (v := (.pointer (some ⟨bb, off + i * 3, none⟩))) rfl (by kernel_rfl) (by kernel_rfl) (by kernel_rfl) (fun _ _ _ h => h) (Or.inl ⟨by rfl, fun w' hw => by go_simp⟩) hHeld ?_
      try simp only [Act.put, List.setIfInBounds_toArray, List.set_cons_zero, List.set_cons_succ]
      refine wpAnyH_take (i := 4) (oi := ⟨some 15, _, _, _, _, _⟩) (v := (.pointer (some ⟨bb, off + i * 3, none⟩))) rfl (by kernel_rfl) (by kernel_rfl) (by kernel_rfl) (fun _ _ _ h => h) (Or.inl ⟨by rfl, fun w' hw => by go_simp⟩) hHeld ?_
      try simp only [Act.put, List.setIfInBounds_toArray, List.set_cons_zero, List.set_cons_succ]
      refine wpAnyH_take (i := 5) (oi := ⟨some 16, _, _, _, _, _⟩) (v := (.int .i64 x1)) rfl (by kernel_rfl) (by kernel_rfl) (by kernel_rfl) (fun _ _ _ h => h) (Or.inl ⟨by rfl, fun w' hw => by (have y := hw.1; go_simp)⟩) hHeld ?_
      try simp only [Act.put, List.setIfInBounds_toArray, List.set_cons_zero, List.set_cons_succ]
      refine wpAnyH_take (i := 6) (oi := ⟨some 17, _, _, _, _, _⟩) (v := (.slice (some ⟨bb, off, none⟩) n c)) rfl (by kernel_rfl) (by kernel_rfl) (by kernel_rfl) (fun _ _ _ h => h) (Or.inl ⟨by rfl, fun w' hw => by go_simp⟩) hHeld ?_
      try simp only [Act.put, List.setIfInBounds_toArray, List.set_cons_zero, List.set_cons_succ]
      refine wpAnyH_take (i := 7) (oi := ⟨some 18, _, _, _, _, _⟩) (v := (.int .i64 (i : Int))) rfl (by kernel_rfl) (by kernel_rfl) (by kernel_rfl) (fun _ _ _ h => h) (Or.inl ⟨by rfl, fun w' hw => by go_simp⟩) hHeld ?_
      try simp only [Act.put, List.setIfInBounds_toArray, List.set_cons_zero, List.set_cons_succ]
      refine wpAnyH_take (i := 8) (oi := ⟨some 19, _, _, _, _, _⟩) (v := (.pointer (some ⟨bb, off + i * 3, none⟩))) rfl (by kernel_rfl) (by kernel_rfl) (by kernel_rfl) (fun _ _ _ h => h) (Or.inl ⟨by rfl, fun w' hw => by go_simp⟩) hHeld ?_
      try simp only [Act.put, List.setIfInBounds_toArray, List.set_cons_zero, List.set_cons_succ]
      refine wpAnyH_take (i := 9) (oi := ⟨some 20, _, _, _, _, _⟩) (v := (.pointer (some ⟨bb, off + i * 3 + 1, none⟩))) rfl (by kernel_rfl) (by kernel_rfl) (by kernel_rfl) (fun _ _ _ h => h) (Or.inl ⟨by rfl, fun w' hw => by go_simp⟩) hHeld ?_
      try simp only [Act.put, List.setIfInBounds_toArray, List.set_cons_zero, List.set_cons_succ]
      refine wpAnyH_take (i := 10) (oi := ⟨some 21, _, _, _, _, _⟩) (v := (.int .u64 (x2 : Int))) rfl (by kernel_rfl) (by kernel_rfl) (by kernel_rfl) (fun _ _ _ h => h) (Or.inl ⟨by rfl, fun w' hw => by (have y := hw.2.1; go_simp)⟩) hHeld ?_
      try simp only [Act.put, List.setIfInBounds_toArray, List.set_cons_zero, List.set_cons_succ]
      refine wpAnyH_take (i := 11) (oi := ⟨some 22, _, _, _, _, _⟩) (v := (.slice (some ⟨bb, off, none⟩) n c)) rfl (by kernel_rfl) (by kernel_rfl) (by kernel_rfl) (fun _ _ _ h => h) (Or.inl ⟨by rfl, fun w' hw => by go_simp⟩) hHeld ?_
      try simp only [Act.put, List.setIfInBounds_toArray, List.set_cons_zero, List.set_cons_succ]
      refine wpAnyH_take (i := 12) (oi := ⟨some 23, _, _, _, _, _⟩) (v := (.int .i64 (i : Int))) rfl (by kernel_rfl) (by kernel_rfl) (by kernel_rfl) (fun _ _ _ h => h) (Or.inl ⟨by rfl, fun w' hw => by go_simp⟩) hHeld ?_
      try simp only [Act.put, List.setIfInBounds_toArray, List.set_cons_zero, List.set_cons_succ]
      refine wpAnyH_take (i := 13) (oi := ⟨some 24, _, _, _, _, _⟩) (v := (.pointer (some ⟨bb, off + i * 3, none⟩))) rfl (by kernel_rfl) (by kernel_rfl) (by kernel_rfl) (fun _ _ _ h => h) (Or.inl ⟨by rfl, fun w' hw => by go_simp⟩) hHeld ?_
      try simp only [Act.put, List.setIfInBounds_toArray, List.set_cons_zero, List.set_cons_succ]
      refine wpAnyH_take (i := 14) (oi := ⟨some 25, _, _, _, _, _⟩) (v := (.pointer (some ⟨bb, off + i * 3 + 2, none⟩))) rfl (by kernel_rfl) (by kernel_rfl) (by kernel_rfl) (fun _ _ _ h => h) (Or.inl ⟨by rfl, fun w' hw => by go_simp⟩) hHeld ?_
      try simp only [Act.put, List.setIfInBounds_toArray, List.set_cons_zero, List.set_cons_succ]
      refine wpAnyH_take (i := 15) (oi := ⟨some 26, _, _, _, _, _⟩) (v := (.bool x3)) rfl (by kernel_rfl) (by kernel_rfl) (by kernel_rfl) (fun _ _ _ h => h) (Or.inl ⟨by rfl, fun w' hw => by (have y := hw.2.2; go_simp)⟩) hHeld ?_
      try simp only [Act.put, List.setIfInBounds_toArray, List.set_cons_zero, List.set_cons_succ]
      refine wpAnyH_take (i := 16) (oi := ⟨some 27, _, _, _, _, _⟩) (v := (.agg #[.int .i64 x1, .int .u64 (x2 : Int), .bool x3])) rfl (by kernel_rfl) (by kernel_rfl) (by kernel_rfl) (fun _ _ _ h => h) (Or.inl ⟨by rfl, fun w' hw => by go_simp⟩) hHeld ?_
      try simp only [Act.put, List.setIfInBounds_toArray, List.set_cons_zero, List.set_cons_succ]
      refine one_ready 17 rfl (by kernel_rfl) (fun K9 hK => ?_)
      go_simp
      have hSa : (w3.alloc (.cells #[.int .i64 x1, .int .u64 (x2 : Int), .bool x3] 31)).cell? ⟨bb, off + i * 3, none⟩ = some (.int .i64 x1) ∧ (w3.alloc (.cells #[.int .i64 x1, .int .u64 (x2 : Int), .bool x3] 31)).cell? ⟨bb, off + i * 3 + 1, none⟩ = some (.int .u64 (x2 : Int)) ∧ (w3.alloc (.cells #[.int .i64 x1, .int .u64 (x2 : Int), .bool x3] 31)).cell? ⟨bb, off + i * 3 + 2, none⟩ = some (.bool x3) := by
        rw [World.cell?_alloc_past _ _ _ hbl, World.cell?_alloc_past _ _ _ hbl, World.cell?_alloc_past _ _ _ hbl]; exact hHeld
      refine hK.out _ _ hSa (fun _ => ?_)
      clear hK K9
      simp only [List.setIfInBounds_toArray, List.set_cons_zero, List.set_cons_succ]
      refine one_ready 18 rfl (by kernel_rfl) (fun K9 hK => ?_)
      refine step_append_where rfl (.tmp 11) (.tmp 28) 24 rfl w.heap.size 31 (.agg #[.int .i64 0, .int .u64 0, .bool false]) 3 24 Try.underlying24 infoRit rfl (by decide) u3 lq.length (pil lq) rfl (row_keep HS3.out.own (fun g hg => Below.heap_alloc _ _ g (own_lt HS3.out.own hg).2)) ⟨w3.heap.size, 0, none⟩ 1 1 [.int .i64 x1, .int .u64 (x2 : Int), .bool x3] rfl rfl ?c0 ?c1 ?c2 ?c3 ?c4 ?_
      case c0 => exact new_three w3 _ _ _ _ rfl
      case c1 => simp [Value.oneCell']
      case c2 => simp only [maxLen]; omega
      case c3 => omega
      case c4 => simp; omega
      intro A2 cap2 w7 hown hgr hwh
      have hq7 : w7.heap[bb]? = w3.heap[bb]? := (hgr.block bb (by simp; omega) (fun e => by have := (own_lt HS3.out.own e.symm).1; omega)).trans (Below.heap_alloc w3 _ bb hbl)
      have hS7 := And.intro ((World.cell?_of_block (w := w3) hq7).trans hHeld.1) (And.intro ((World.cell?_of_block (w := w3) hq7).trans hHeld.2.1) ((World.cell?_of_block (w := w3) hq7).trans hHeld.2.2))
      have HS7 := Lib.hid (HS3.out.next (x := (x1, x2, x3)) hown hgr)
      clear hown hgr hwh HS3
      refine hK.out _ _ hS7 (fun hHeld => ?_)
      clear hK K9 hS7 hq7
      simp only [Act.put, List.setIfInBounds_toArray, List.set_cons_zero, List.set_cons_succ]
      refine wpAnyH_take (i := 19) (oi := ⟨some 3, _, _, _, _, _⟩) (v := (.slice A2 (lq.length + 1) cap2)) rfl (by kernel_rfl) (by kernel_rfl) (by kernel_rfl) (fun _ _ _ h => h) (Or.inl ⟨by rfl, fun w' hw => by go_simp⟩) hHeld ?_
      try simp only [Act.put, List.setIfInBounds_toArray, List.set_cons_zero, List.set_cons_succ]
      refine wpAnyH_done (by kernel_rfl) ?_ _
      rw [hll] at HS7
      rw [hll]
      clear hHeld hbl hbl9
      go_wp2_with fail
      go_roundw
      case rel => exact ⟨i + 1, by go_num, by omega, by rw [HN.out]; exact HS7.out⟩
      case measure => simp [intOf]; omega
    · obtain rfl : i = n := by omega
      clear hS hle hin
      obtain ⟨A, cap, rfl, hA, hP⟩ := HS.out.out
      have HP := Lib.hid hP
      have HA := Lib.hid hA
      clear hA hP
      go_wp2_with fail
      go_ret
      exact ⟨A, cap, rfl, HA.out, HP.out, HS.out.below⟩
/-- x goes ahead of y. -/
def ahd (x y : Pi) : Bool := decide (pkey x < pkey y ∨ (pkey x = pkey y ∧ x.1 < y.1))
theorem ahd_kle (x y : Pi) : ahd x y = !kle (kc y) (kc x) := by
  unfold ahd kle kc
  rw [← decide_not]
  exact decide_eq_decide.2 (by dsimp only; omega)
set_option maxRecDepth 100000 in
set_option maxHeartbeats 4000000 in
theorem ahead_any (x y : Pi) (w : World) : Calls Try.prog 25 #[.agg #[.int .i64 x.1, .int .u64 (x.2.1 : Int), .bool x.2.2], .agg #[.int .i64 y.1, .int .u64 (y.2.1 : Int), .bool y.2.2]] w fun e w' => e = .returned (.bool (ahd x y)) ∧ Below w.heap.size w w' := by
  have HK : Hid (∀ (c : Int) (r : Nat) (b : Bool) W, Calls Try.prog 12 #[.agg #[.int .i64 c, .int .u64 (r : Int), .bool b]] W fun e w' => e = .returned (.int .u64 (pkey (c, r, b) : Int)) ∧ Below W.heap.size W w') := fun c r b W => (rkey_any (c, r, b) W).mono fun e w' h => ⟨h.1, h.2.below⟩
  have hah : (pkey x < pkey y ∧ ahd x y = true) ∨ (pkey x = pkey y ∧ x.1 < y.1 ∧ ahd x y = true) ∨ (pkey x = pkey y ∧ ¬ x.1 < y.1 ∧ ahd x y = false) ∨ (pkey y < pkey x ∧ ahd x y = false) := by
    unfold ahd
    rcases Nat.lt_trichotomy (pkey x) (pkey y) with h | h | h
    · exact .inl ⟨h, decide_eq_true (Or.inl h)⟩
    · by_cases h2 : x.1 < y.1
      · exact .inr (.inl ⟨h, h2, decide_eq_true (Or.inr ⟨h, h2⟩)⟩)
      · exact .inr (.inr (.inl ⟨h, h2, decide_eq_false (by omega)⟩))
    · exact .inr (.inr (.inr ⟨h, decide_eq_false (by omega)⟩))
  generalize ahd x y = r at *
  obtain ⟨x1, x2, x3⟩ := x
  obtain ⟨y1, y2, y3⟩ := y
  dsimp only at hah ⊢
  obtain ⟨kx, hkx⟩ : ∃ k, pkey (x1, x2, x3) = k := ⟨_, rfl⟩
  obtain ⟨ky, hky⟩ : ∃ k, pkey (y1, y2, y3) = k := ⟨_, rfl⟩
  rw [hkx, hky] at hah
  obtain ⟨p, hp⟩ : ∃ p, w.heap.size = p := ⟨_, rfl⟩
  obtain ⟨w2, hw2⟩ : ∃ w2, (w.alloc (.cells #[.int .i64 x1, .int .u64 (x2 : Int), .bool x3] 31)).alloc (.cells #[.int .i64 y1, .int .u64 (y2 : Int), .bool y3] 31) = w2 := ⟨_, rfl⟩
  have hx : Box w2 p 31 #[.int .i64 x1, .int .u64 (x2 : Int), .bool x3] := by rw [← hw2, ← hp]; exact (Box.new w _ _).alloc _
  have hy : Box w2 (p + 1) 31 #[.int .i64 y1, .int .u64 (y2 : Int), .bool y3] := by rw [← hw2, ← hp]; simpa using Box.new (w.alloc (.cells #[.int .i64 x1, .int .u64 (x2 : Int), .bool x3] 31)) 31 #[.int .i64 y1, .int .u64 (y2 : Int), .bool y3]
  have hB : Below w.heap.size w w2 := by rw [← hw2]; exact ((Below.refl _ w).alloc (Nat.le_refl _) _).alloc (by simp) _
  have HX := Lib.hid hx
  have HY := Lib.hid hy
  have HB := Lib.hid hB
  have HPP := Lib.hid hp
  have HW := Lib.hid hw2
  clear hx hy hB hp hw2
  rcases hah with ⟨h1, rfl⟩ | ⟨h1, h2, rfl⟩ | ⟨h1, h2, rfl⟩ | ⟨h1, rfl⟩
  · have g1 : (kx : Int) < (ky : Int) := by omega
    go_enter Try.func25, Try.ntmps25
    go_upto_region 1 with fail
    simp only [HPP.out, HW.out]
    clear HPP HW
    have c0 := Gr.cell (HX.out.cell 0)
    have c1 := Gr.cell (HX.out.cell 1)
    have c2 := Gr.cell (HX.out.cell 2)
    have e0 := Gr.cell (HY.out.cell 0)
    have e1 := Gr.cell (HY.out.cell 1)
    have e2 := Gr.cell (HY.out.cell 2)
    refine wp_region_grow (by kernel_rfl) (by kernel_rfl) ?_
    repeat (go_big_quiet_step (first | (go_at_call 12; exact Gr.blw (HK.out _ _ _ _))))
    refine wpQuiet_nil ?_
    intro w12 hw12
    obtain ⟨G, hG⟩ := hw12
    subst hG
    have HB2 := Lib.hid (HB.out.trans (G.ok.none.mono HB.out.size))
    go_wp2_with fail
    go_ret
    exact ⟨rfl, HB2.out⟩
  · subst h1
    have g1 : ¬ (kx : Int) < (kx : Int) := by omega
    go_enter Try.func25, Try.ntmps25
    go_upto_region 1 with fail
    simp only [HPP.out, HW.out]
    clear HPP HW
    have c0 := Gr.cell (HX.out.cell 0)
    have c1 := Gr.cell (HX.out.cell 1)
    have c2 := Gr.cell (HX.out.cell 2)
    have e0 := Gr.cell (HY.out.cell 0)
    have e1 := Gr.cell (HY.out.cell 1)
    have e2 := Gr.cell (HY.out.cell 2)
    refine wp_region_grow (by kernel_rfl) (by kernel_rfl) ?_
    repeat (go_big_quiet_step (first | (go_at_call 12; exact Gr.blw (HK.out _ _ _ _))))
    refine wpQuiet_nil ?_
    intro w12 hw12
    obtain ⟨G, hG⟩ := hw12
    subst hG
    have HB2 := Lib.hid (HB.out.trans (G.ok.none.mono HB.out.size))
    go_wp2_with fail
    go_ret
    exact ⟨rfl, HB2.out⟩
  · subst h1
    have g1 : ¬ (kx : Int) < (kx : Int) := by omega
    go_enter Try.func25, Try.ntmps25
    go_upto_region 1 with fail
    simp only [HPP.out, HW.out]
    clear HPP HW
    have c0 := Gr.cell (HX.out.cell 0)
    have c1 := Gr.cell (HX.out.cell 1)
    have c2 := Gr.cell (HX.out.cell 2)
    have e0 := Gr.cell (HY.out.cell 0)
    have e1 := Gr.cell (HY.out.cell 1)
    have e2 := Gr.cell (HY.out.cell 2)
    refine wp_region_grow (by kernel_rfl) (by kernel_rfl) ?_
    repeat (go_big_quiet_step (first | (go_at_call 12; exact Gr.blw (HK.out _ _ _ _))))
    refine wpQuiet_nil ?_
    intro w12 hw12
    obtain ⟨G, hG⟩ := hw12
    subst hG
    have HB2 := Lib.hid (HB.out.trans (G.ok.none.mono HB.out.size))
    go_wp2_with fail
    go_ret
    exact ⟨rfl, HB2.out⟩
  · have g1 : ¬ (kx : Int) < (ky : Int) := by omega
    have g2 : ((kx : Int) == (ky : Int)) = false := by rw [beq_eq_false_iff_ne]; omega
    go_enter Try.func25, Try.ntmps25
    go_upto_region 1 with fail
    simp only [HPP.out, HW.out]
    clear HPP HW
    have c0 := Gr.cell (HX.out.cell 0)
    have c1 := Gr.cell (HX.out.cell 1)
    have c2 := Gr.cell (HX.out.cell 2)
    have e0 := Gr.cell (HY.out.cell 0)
    have e1 := Gr.cell (HY.out.cell 1)
    have e2 := Gr.cell (HY.out.cell 2)
    refine wp_region_grow (by kernel_rfl) (by kernel_rfl) ?_
    repeat (go_big_quiet_step (first | (go_at_call 12; exact Gr.blw (HK.out _ _ _ _))))
    refine wpQuiet_nil ?_
    intro w12 hw12
    obtain ⟨G, hG⟩ := hw12
    subst hG
    have HB2 := Lib.hid (HB.out.trans (G.ok.none.mono HB.out.size))
    go_wp2_with fail
    go_ret
    exact ⟨rfl, HB2.out⟩
end Go.Proofs.Ytigifbijmchdcaa
