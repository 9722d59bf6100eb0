/- The law PolicyMoved, walked: for every ranks, every capacity, batch and number it returns true, and nothing that was in memory changes. Conditions: the slice's cells are words, the numbers are ints. -/
import Derived.Test.YtigifbijmchdcaaPolRows
import Derived.Deep.Cut
import Derived.Deep.QuietTactic
namespace Go.Proofs.Ytigifbijmchdcaa
open Go.RowKit Go.ChangeShapes Go.WideShapes Go.ChangeAt

def ymv (z : Nat → Int) (i : Nat) : Pi := ((i : Int), (z i).toNat % 1099511627776 * 64 + i, decide ((z i).toNat % 5 = 0))
def newest : Pi := (99, 4611686018427387903, false)
theorem ymv_late (z : Nat → Int) {i : Nat} (hi : i ≤ 1000) : kle (kc (ymv z i)) (kc newest) = true := by
  rw [kle_iff]
  left
  show pkey (ymv z i) < pkey newest
  have h1 : pkey newest = 9223372036854775807 := by decide
  have h2 : pkey (ymv z i) ≤ (z i).toNat % 1099511627776 * 64 + i + 4611686018427387904 := by
    unfold pkey ymv
    have := Nat.mod_le ((z i).toNat % 1099511627776 * 64 + i) 4611686018427387904
    dsimp only
    split <;> omega
  omega
set_option maxRecDepth 100000 in
set_option maxHeartbeats 4000000 in
theorem moved_law (a0 : Option Addr) (n0 c0 : Nat) (z : Nat → Int) (cap bat by' : Int) (w : World) (hz : Nums .u64 w w.heap.size a0 n0 z) (hw : ∀ j, j < n0 → 0 ≤ z j) :
    Calls Try.prog 7 #[.slice a0 n0 c0, .int .i64 cap, .int .i64 bat, .int .i64 by'] w fun e w' => e = .returned (.bool true) ∧ Below w.heap.size w w' := by
  have HZ := Lib.hid hz
  have HW := Lib.hid hw
  clear hz hw
  go_enter Try.func7, Try.ntmps7
  go_wp2_with fail
  refine (pshown_any _).mono ?_
  rintro e w2 ⟨rfl, hb1⟩
  have HB1 := Lib.hid hb1
  clear hb1
  by_cases hbig : n0 > 40
  · have hbz : (n0 : Int) > 40 := by omega
    go_wp2_with fail
    go_ret
    exact ⟨rfl, HB1.out⟩
  · have hbz : ¬ (n0 : Int) > 40 := by omega
    have HS0 : Hid (PtAt 29 w2 (.slice none 0 0) (lsP 0 (ymv z)) w2) := PtAt.nil _ _
    go_wp2_with fail
    go_loopw [10, 11] (fun v10 v11 wr => ∃ i : Nat, v11 = .int .i64 i ∧ i ≤ n0 ∧ (i = 0 → v10 = .slice none 0 0) ∧ PtAt 29 w2 v10 (lsP i (ymv z)) wr) (fun _ v _ => n0 - (intOf v).toNat)
    case atStart => exact ⟨0, rfl, by omega, fun _ => rfl, HS0.out⟩
    case round =>
      clear HS0
      obtain ⟨i, rfl, hle, hnil, hS⟩ := hrel
      have HS := Lib.hid hS
      by_cases hin : i < n0
      · have hb2 : Below w.heap.size w wr := HB1.out.trans (hS.below.mono HB1.out.size)
        obtain ⟨bb, off, rfl, hbl, cz⟩ := (HZ.out.below hb2).at hin
        obtain ⟨zi, hzi⟩ : ∃ zi : Nat, zi = (z i).toNat := ⟨_, rfl⟩
        have hzi2 : z i = (zi : Int) := by have := HW.out i hin; omega
        rw [hzi2] at cz
        have h39 : (zi : Int).tmod 1099511627776 = ((zi % 1099511627776 : Nat) : Int) := by rw [Int.tmod_eq_emod_of_nonneg (by omega)]; omega
        obtain ⟨q, hq⟩ : ∃ q, q = zi % 1099511627776 := ⟨_, rfl⟩
        have hq9 : q < 1099511627776 := by omega
        have h48 : (zi : Int).tmod 5 = ((zi % 5 : Nat) : Int) := by rw [Int.tmod_eq_emod_of_nonneg (by omega)]; omega
        obtain ⟨f, hf⟩ : ∃ f, f = zi % 5 := ⟨_, rfl⟩
        have HY : Hid (lsP (i + 1) (ymv z) = lsP i (ymv z) ++ [((i : Int), q * 64 + i, decide (f = 0))]) := by show _ = _; rw [hq, hf, hzi]; exact lsP_succ i _
        rw [← hq] at h39
        rw [← hf] at h48
        have h40 : IntKind.u64.wrap ((q : Int) * 64) = (q : Int) * 64 := by rw [IntKind.wrap_u64]; omega
        have h42 : IntKind.u64.wrap (i : Int) = (i : Int) := by rw [IntKind.wrap_u64]; omega
        have h43 : IntKind.u64.wrap ((q : Int) * 64 + (i : Int)) = ((q * 64 + i : Nat) : Int) := by rw [IntKind.wrap_u64]; omega
        obtain ⟨r, hr⟩ : ∃ r, r = q * 64 + i := ⟨_, rfl⟩
        rw [← hr] at h43 HY
        have h49 : ((f : Int) == 0) = decide (f = 0) := by rw [Bool.eq_iff_iff]; simp
        generalize decide (f = 0) = ev at *
        have hll := lsP_len i (ymv z)
        generalize lsP i (ymv z) = lq at *
        have hiz : (i : Int) < (n0 : Int) := by omega
        clear hq hf hr hzi hzi2 hb2 hS hnil
        go_wp2_with fail
        have HS3 : Hid (PtAt 29 w2 u10 lq wr.drew) := Lib.hid (HS.out.grow ((Below.refl _ wr).drew))
        have hbs : w2.heap.size ≤ wr.drew.heap.size := HS3.out.below.size
        have hbl9 := hbl
        have hw2s := HB1.out.size
        have hbl := World.block_lt_of_cell? wr.drew ⟨bb, off + i, none⟩ cz
        clear HS
        refine held_s (S := fun w' => w'.cell? ⟨bb, off + i, none⟩ = some (.int .u64 (zi : Int))) 21 rfl (by kernel_rfl) cz (fun hHeld => ?_)
        clear cz
        generalize wr.drew = w3 at *
        simp only [Array.replicate_succ, Array.replicate_zero, List.push_toArray, List.nil_append, List.cons_append]
        refine wpAnyH_take (i := 0) (oi := ⟨some 33, _, _, _, _, _⟩) (v := (u10)) rfl (by kernel_rfl) (by kernel_rfl) (by kernel_rfl) (fun _ _ _ h => h) (Or.inl ⟨by rfl, fun w' hw => by go_simp⟩) hHeld ?_
        try simp only [Act.put, List.setIfInBounds_toArray, List.set_cons_zero, List.set_cons_succ]
        refine wpAnyH_take (i := 1) (oi := ⟨some 34, _, _, _, _, _⟩) (v := (.int .i64 (i : Int))) rfl (by kernel_rfl) (by kernel_rfl) (by kernel_rfl) (fun _ _ _ h => h) (Or.inl ⟨by rfl, fun w' hw => by go_simp⟩) hHeld ?_
        try simp only [Act.put, List.setIfInBounds_toArray, List.set_cons_zero, List.set_cons_succ]
        refine wpAnyH_take (i := 2) (oi := ⟨some 35, _, _, _, _, _⟩) (v := (.slice (some ⟨bb, off, none⟩) n0 c0)) rfl (by kernel_rfl) (by kernel_rfl) (by kernel_rfl) (fun _ _ _ h => h) (Or.inl ⟨by rfl, fun w' hw => by go_simp⟩) hHeld ?_
        try simp only [Act.put, List.setIfInBounds_toArray, List.set_cons_zero, List.set_cons_succ]
        refine wpAnyH_take (i := 3) (oi := ⟨some 36, _, _, _, _, _⟩) (v := (.int .i64 (i : Int))) rfl (by kernel_rfl) (by kernel_rfl) (by kernel_rfl) (fun _ _ _ h => h) (Or.inl ⟨by rfl, fun w' hw => by go_simp⟩) hHeld ?_
        try simp only [Act.put, List.setIfInBounds_toArray, List.set_cons_zero, List.set_cons_succ]
        refine wpAnyH_take (i := 4) (oi := ⟨some 37, _, _, _, _, _⟩) (v := (.pointer (some ⟨bb, off + i, none⟩))) rfl (by kernel_rfl) (by kernel_rfl) (by kernel_rfl) (fun _ _ _ h => h) (Or.inl ⟨by rfl, fun w' hw => by go_simp⟩) hHeld ?_
        try simp only [Act.put, List.setIfInBounds_toArray, List.set_cons_zero, List.set_cons_succ]
        refine wpAnyH_take (i := 5) (oi := ⟨some 38, _, _, _, _, _⟩) (v := (.int .u64 (zi : Int))) rfl (by kernel_rfl) (by kernel_rfl) (by kernel_rfl) (fun _ _ _ h => h) (Or.inl ⟨by rfl, fun w' hw => by (have y := hw; go_simp)⟩) hHeld ?_
        try simp only [Act.put, List.setIfInBounds_toArray, List.set_cons_zero, List.set_cons_succ]
        refine wpAnyH_take (i := 6) (oi := ⟨some 39, _, _, _, _, _⟩) (v := (.int .u64 (q : Int))) rfl (by kernel_rfl) (by kernel_rfl) (by kernel_rfl) (fun _ _ _ h => h) (Or.inl ⟨by rfl, fun w' hw => by go_simp⟩) hHeld ?_
        try simp only [Act.put, List.setIfInBounds_toArray, List.set_cons_zero, List.set_cons_succ]
        refine wpAnyH_take (i := 7) (oi := ⟨some 40, _, _, _, _, _⟩) (v := (.int .u64 ((q : Int) * 64))) rfl (by kernel_rfl) (by kernel_rfl) (by kernel_rfl) (fun _ _ _ h => h) (Or.inl ⟨by rfl, fun w' hw => by go_simp⟩) hHeld ?_
        try simp only [Act.put, List.setIfInBounds_toArray, List.set_cons_zero, List.set_cons_succ]
        refine wpAnyH_take (i := 8) (oi := ⟨some 41, _, _, _, _, _⟩) (v := (.int .i64 (i : Int))) rfl (by kernel_rfl) (by kernel_rfl) (by kernel_rfl) (fun _ _ _ h => h) (Or.inl ⟨by rfl, fun w' hw => by go_simp⟩) hHeld ?_
        try simp only [Act.put, List.setIfInBounds_toArray, List.set_cons_zero, List.set_cons_succ]
        refine wpAnyH_take (i := 9) (oi := ⟨some 42, _, _, _, _, _⟩) (v := (.int .u64 (i : Int))) rfl (by kernel_rfl) (by kernel_rfl) (by kernel_rfl) (fun _ _ _ h => h) (Or.inl ⟨by rfl, fun w' hw => by go_simp⟩) hHeld ?_
        try simp only [Act.put, List.setIfInBounds_toArray, List.set_cons_zero, List.set_cons_succ]
        refine wpAnyH_take (i := 10) (oi := ⟨some 43, _, _, _, _, _⟩) (v := (.int .u64 (r : Int))) rfl (by kernel_rfl) (by kernel_rfl) (by kernel_rfl) (fun _ _ _ h => h) (Or.inl ⟨by rfl, fun w' hw => by go_simp⟩) hHeld ?_
        try simp only [Act.put, List.setIfInBounds_toArray, List.set_cons_zero, List.set_cons_succ]
        refine wpAnyH_take (i := 11) (oi := ⟨some 44, _, _, _, _, _⟩) (v := (.slice (some ⟨bb, off, none⟩) n0 c0)) rfl (by kernel_rfl) (by kernel_rfl) (by kernel_rfl) (fun _ _ _ h => h) (Or.inl ⟨by rfl, fun w' hw => by go_simp⟩) hHeld ?_
        try simp only [Act.put, List.setIfInBounds_toArray, List.set_cons_zero, List.set_cons_succ]
        refine wpAnyH_take (i := 12) (oi := ⟨some 45, _, _, _, _, _⟩) (v := (.int .i64 (i : Int))) rfl (by kernel_rfl) (by kernel_rfl) (by kernel_rfl) (fun _ _ _ h => h) (Or.inl ⟨by rfl, fun w' hw => by go_simp⟩) hHeld ?_
        try simp only [Act.put, List.setIfInBounds_toArray, List.set_cons_zero, List.set_cons_succ]
        refine wpAnyH_take (i := 13) (oi := ⟨some 46, _, _, _, _, _⟩) (v := (.pointer (some ⟨bb, off + i, none⟩))) rfl (by kernel_rfl) (by kernel_rfl) (by kernel_rfl) (fun _ _ _ h => h) (Or.inl ⟨by rfl, fun w' hw => by go_simp⟩) hHeld ?_
        try simp only [Act.put, List.setIfInBounds_toArray, List.set_cons_zero, List.set_cons_succ]
        refine wpAnyH_take (i := 14) (oi := ⟨some 47, _, _, _, _, _⟩) (v := (.int .u64 (zi : Int))) rfl (by kernel_rfl) (by kernel_rfl) (by kernel_rfl) (fun _ _ _ h => h) (Or.inl ⟨by rfl, fun w' hw => by (have y := hw; go_simp)⟩) hHeld ?_
        try simp only [Act.put, List.setIfInBounds_toArray, List.set_cons_zero, List.set_cons_succ]
        refine wpAnyH_take (i := 15) (oi := ⟨some 48, _, _, _, _, _⟩) (v := (.int .u64 (f : Int))) rfl (by kernel_rfl) (by kernel_rfl) (by kernel_rfl) (fun _ _ _ h => h) (Or.inl ⟨by rfl, fun w' hw => by go_simp⟩) hHeld ?_
        try simp only [Act.put, List.setIfInBounds_toArray, List.set_cons_zero, List.set_cons_succ]
        refine wpAnyH_take (i := 16) (oi := ⟨some 49, _, _, _, _, _⟩) (v := (.bool ev)) rfl (by kernel_rfl) (by kernel_rfl) (by kernel_rfl) (fun _ _ _ h => h) (Or.inl ⟨by rfl, fun w' hw => by go_simp⟩) hHeld ?_
        try simp only [Act.put, List.setIfInBounds_toArray, List.set_cons_zero, List.set_cons_succ]
        refine wpAnyH_take (i := 17) (oi := ⟨some 50, _, _, _, _, _⟩) (v := (.agg #[.int .i64 (i : Int), .int .u64 (r : Int), .bool ev])) rfl (by kernel_rfl) (by kernel_rfl) (by kernel_rfl) (fun _ _ _ h => h) (Or.inl ⟨by rfl, fun w' hw => by go_simp⟩) hHeld ?_
        try simp only [Act.put, List.setIfInBounds_toArray, List.set_cons_zero, List.set_cons_succ]
        refine one_ready 18 rfl (by kernel_rfl) (fun K9 hK => ?_)
        go_simp
        have hSa : (w3.alloc (.cells #[.int .i64 (i : Int), .int .u64 (r : Int), .bool ev] 29)).cell? ⟨bb, off + i, none⟩ = some (.int .u64 (zi : Int)) := by rw [World.cell?_alloc_past _ _ _ hbl]; exact hHeld
        refine hK.out _ _ hSa (fun _ => ?_)
        clear hK K9
        simp only [List.setIfInBounds_toArray, List.set_cons_zero, List.set_cons_succ]
        refine one_ready 19 rfl (by kernel_rfl) (fun K9 hK => ?_)
        refine step_append_where rfl (.tmp 33) (.tmp 51) 22 rfl w2.heap.size 29 (.agg #[.int .i64 0, .int .u64 0, .bool false]) 3 24 Try.underlying22 infoPit rfl (by decide) u10 lq.length (pil lq) rfl (row_keep HS3.out.own (fun g hg => Below.heap_alloc _ _ g (own_lt HS3.out.own hg).2)) ⟨w3.heap.size, 0, none⟩ 1 1 [.int .i64 (i : Int), .int .u64 (r : Int), .bool ev] rfl rfl ?c0 ?c1 ?c2 ?c3 ?c4 ?_
        case c0 => exact new_three w3 _ _ _ _ rfl
        case c1 => simp [Value.oneCell']
        case c2 => simp only [maxLen]; omega
        case c3 => omega
        case c4 => simp; omega
        intro A2 cap2 w7 hown hgr hwh
        have hS7 : w7.cell? ⟨bb, off + i, none⟩ = some (.int .u64 (zi : Int)) := (World.cell?_of_block (w := w3) ((hgr.block bb (by simp; omega) (fun e => by have := (own_lt HS3.out.own e.symm).1; omega)).trans (Below.heap_alloc w3 _ bb hbl))).trans hHeld
        have HS7 := Lib.hid (HS3.out.next (x := ((i : Int), r, ev)) hown hgr)
        clear hown hgr hwh HS3
        refine hK.out _ _ hS7 (fun hHeld => ?_)
        clear hK K9
        simp only [Act.put, List.setIfInBounds_toArray, List.set_cons_zero, List.set_cons_succ]
        refine wpAnyH_take (i := 20) (oi := ⟨some 10, _, _, _, _, _⟩) (v := (.slice A2 (lq.length + 1) cap2)) rfl (by kernel_rfl) (by kernel_rfl) (by kernel_rfl) (fun _ _ _ h => h) (Or.inl ⟨by rfl, fun w' hw => by go_simp⟩) hHeld ?_
        try simp only [Act.put, List.setIfInBounds_toArray, List.set_cons_zero, List.set_cons_succ]
        refine wpAnyH_done (by kernel_rfl) ?_ _
        rw [hll] at HS7
        rw [hll]
        clear hHeld hS7 hbl hbl9
        go_wp2_with fail
        go_roundw
        case rel => exact ⟨i + 1, by go_num, by omega, fun h => absurd h (by omega), by rw [HY.out]; exact HS7.out⟩
        case measure => simp [intOf]; omega
      · obtain rfl : i = n0 := by omega
        have HB2 := Lib.hid (HB1.out.trans (hS.below.mono HB1.out.size))
        obtain ⟨t, ht⟩ := Int.eq_ofNat_of_zero_le (a := max 0 (min by' (i : Int))) (by omega)
        have htn : t ≤ i := by omega
        obtain ⟨A, cp, rfl, hA, hP⟩ := hS.out
        have HAn : Hid (i = 0 → A = none ∧ cp = 0) := fun h => by
          have := hnil h
          injection this with e1 e2 e3
          exact ⟨e1, e3⟩
        have HA := Lib.hid hA
        have HP := Lib.hid hP
        have HCp : Hid (i ≤ cp) := by
          have h := hS.own
          rw [lsP_len] at h
          exact own_cap3 h
        have hi40 : i ≤ 40 := by omega
        clear hle hin HS hnil hS hA hP hbig
        go_upto_region 10 with fail
        go_cut [13] from 18 (fun v wx => ∃ (A4 : Option Addr) (c4 : Nat), v = .slice A4 i c4 ∧ Hid (A4 = none → i = 0 ∧ c4 = 0) ∧ Hid (Pits wx wx.heap.size A4 i (trn (ymv z) i t)) ∧ Hid (Below wr.heap.size wr wx))
        case first =>
          refine held_t 10 rfl (by kernel_rfl) ?_
          by_cases hi0 : i = 0
          · obtain ⟨rfl, rfl⟩ := HAn.out hi0
            subst hi0
            have ht0 : t = 0 := by omega
            subst ht0
            have ht9 : max (0 : Int) (min by' 0) = 0 := by omega
            have HB9 : Hid (Below wr.heap.size wr wr.drew) := Lib.hid (Below.refl _ wr).drew
            clear ht htn
            generalize wr.drew = w3 at *
            simp only [Array.replicate_succ, Array.replicate_zero, List.push_toArray, List.nil_append, List.cons_append]
            refine wpAnyH_take (i := 1) (oi := ⟨some 59, _, _, _, _, _⟩) (v := .slice none 0 0) rfl (by kernel_rfl) (by kernel_rfl) (by kernel_rfl) (fun _ _ _ h => h) (Or.inl ⟨by rfl, fun w' _ => by go_simp⟩) trivial ?_
            try simp only [Act.put, List.setIfInBounds_toArray, List.set_cons_zero, List.set_cons_succ]
            refine wpAnyH_take (i := 2) (oi := ⟨some 60, _, _, _, _, _⟩) (v := .int .i64 0) rfl (by kernel_rfl) (by kernel_rfl) (by kernel_rfl) (fun _ _ _ h => h) (Or.inl ⟨by rfl, fun w' _ => by go_simp⟩) trivial ?_
            try simp only [Act.put, List.setIfInBounds_toArray, List.set_cons_zero, List.set_cons_succ]
            refine wpAnyH_take (i := 3) (oi := ⟨some 61, _, _, _, _, _⟩) (v := .slice none 0 0) rfl (by kernel_rfl) (by kernel_rfl) (by kernel_rfl) (fun _ _ _ h => h) (Or.inl ⟨by rfl, fun w' _ => by go_simp⟩) trivial ?_
            try simp only [Act.put, List.setIfInBounds_toArray, List.set_cons_zero, List.set_cons_succ]
            refine wpAnyH_take (i := 5) (oi := ⟨some 63, _, _, _, _, _⟩) (v := .slice none 0 0) rfl (by kernel_rfl) (by kernel_rfl) (by kernel_rfl) (fun _ _ _ h => h) (Or.inl ⟨by rfl, fun w' _ => by go_simp⟩) trivial ?_
            try simp only [Act.put, List.setIfInBounds_toArray, List.set_cons_zero, List.set_cons_succ]
            refine wpAnyH_take (i := 6) (oi := ⟨some 64, _, _, _, _, _⟩) (v := .int .i64 0) rfl (by kernel_rfl) (by kernel_rfl) (by kernel_rfl) (fun _ _ _ h => h) (Or.inl ⟨by rfl, fun w' _ => by go_simp⟩) trivial ?_
            try simp only [Act.put, List.setIfInBounds_toArray, List.set_cons_zero, List.set_cons_succ]
            refine wpAnyH_take (i := 7) (oi := ⟨some 65, _, _, _, _, _⟩) (v := .slice none 0 0) rfl (by kernel_rfl) (by kernel_rfl) (by kernel_rfl) (fun _ _ _ h => h) (Or.inl ⟨by rfl, fun w' _ => by go_simp⟩) trivial ?_
            try simp only [Act.put, List.setIfInBounds_toArray, List.set_cons_zero, List.set_cons_succ]
            refine one_ready 0 rfl (by kernel_rfl) (fun K hK => ?_)
            go_simp
            refine hK.out _ _ trivial (fun _ => ?_)
            clear hK K
            try simp only [List.setIfInBounds_toArray, List.set_cons_zero]
            refine one_ready 4 rfl (by kernel_rfl) (fun K hK => ?_)
            go_simp
            refine hK.out _ _ trivial (fun _ => ?_)
            clear hK K
            try simp only [List.setIfInBounds_toArray, List.set_cons_zero, List.set_cons_succ]
            refine one_ready 8 rfl (by kernel_rfl) (fun K hK => ?_)
            go_simp
            refine hK.out _ _ trivial (fun _ => ?_)
            clear hK K
            try simp only [List.setIfInBounds_toArray, List.set_cons_zero, List.set_cons_succ]
            refine one_ready 9 rfl (by kernel_rfl) (fun K hK => ?_)
            go_simp
            refine hK.out _ _ trivial (fun _ => ?_)
            clear hK K
            try simp only [List.setIfInBounds_toArray, List.set_cons_zero, List.set_cons_succ]
            refine wpAnyH_done (by kernel_rfl) ?_ _
            go_wp2_with fail
            go_meet
            exact ⟨_, _, rfl, (fun h => by cases h), (fun h => absurd h (by omega)), HB9.out.alloc HB9.out.size _⟩
          · obtain ⟨g, off, rfl, hg, _⟩ := HP.out (by omega)
            have HB9 : Hid (Below wr.heap.size wr wr.drew) := Lib.hid (Below.refl _ wr).drew
            have HP9 : Hid (Pits wr.drew wr.drew.heap.size (some ⟨g, off, none⟩) i (ymv z)) := HP
            have hg9 : g < wr.drew.heap.size := hg
            generalize wr.drew = w10 at *
            obtain ⟨o2, ho2, ho3⟩ := cut3_at g off cp t
            have hcp : i ≤ cp := HCp.out
            have hpc : ¬ cp < t := by omega
            have hpl : ((0 : Int) ≤ (t : Int) ∧ (t : Int) ≤ (i : Int)) := by omega
            simp only [Array.replicate_succ, Array.replicate_zero, List.push_toArray, List.nil_append, List.cons_append]
            refine wpAnyH_take (i := 1) (oi := ⟨some 59, _, _, _, _, _⟩) (v := .slice (some ⟨g, off, none⟩) i cp) rfl (by kernel_rfl) (by kernel_rfl) (by kernel_rfl) (fun _ _ _ h => h) (Or.inl ⟨by rfl, fun w' _ => by go_simp⟩) trivial ?_
            try simp only [Act.put, List.setIfInBounds_toArray, List.set_cons_zero, List.set_cons_succ]
            refine wpAnyH_take (i := 2) (oi := ⟨some 60, _, _, _, _, _⟩) (v := .int .i64 (t : Int)) rfl (by kernel_rfl) (by kernel_rfl) (by kernel_rfl) (fun _ _ _ h => h) (Or.inl ⟨by rfl, fun w' _ => by go_simp⟩) trivial ?_
            try simp only [Act.put, List.setIfInBounds_toArray, List.set_cons_zero, List.set_cons_succ]
            refine wpAnyH_take (i := 3) (oi := ⟨some 61, _, _, _, _, _⟩) (v := .slice (some ⟨g, o2, none⟩) (i - t) (cp - t)) rfl (by kernel_rfl) (by kernel_rfl) (by kernel_rfl) (fun _ _ _ h => h) (Or.inl ⟨by rfl, fun w' _ => by go_simp⟩) trivial ?_
            try simp only [Act.put, List.setIfInBounds_toArray, List.set_cons_zero, List.set_cons_succ]
            refine wpAnyH_take (i := 5) (oi := ⟨some 63, _, _, _, _, _⟩) (v := .slice (some ⟨g, off, none⟩) i cp) rfl (by kernel_rfl) (by kernel_rfl) (by kernel_rfl) (fun _ _ _ h => h) (Or.inl ⟨by rfl, fun w' _ => by go_simp⟩) trivial ?_
            try simp only [Act.put, List.setIfInBounds_toArray, List.set_cons_zero, List.set_cons_succ]
            refine wpAnyH_take (i := 6) (oi := ⟨some 64, _, _, _, _, _⟩) (v := .int .i64 (t : Int)) rfl (by kernel_rfl) (by kernel_rfl) (by kernel_rfl) (fun _ _ _ h => h) (Or.inl ⟨by rfl, fun w' _ => by go_simp⟩) trivial ?_
            try simp only [Act.put, List.setIfInBounds_toArray, List.set_cons_zero, List.set_cons_succ]
            refine wpAnyH_take (i := 7) (oi := ⟨some 65, _, _, _, _, _⟩) (v := .slice (some ⟨g, off, none⟩) t cp) rfl (by kernel_rfl) (by kernel_rfl) (by kernel_rfl) (fun _ _ _ h => h) (Or.inl ⟨by rfl, fun w' _ => by go_simp⟩) trivial ?_
            try simp only [Act.put, List.setIfInBounds_toArray, List.set_cons_zero, List.set_cons_succ]
            refine one_ready 0 rfl (by kernel_rfl) (fun K hK => ?_)
            go_simp
            refine hK.out _ _ trivial (fun _ => ?_)
            clear hK K
            try simp only [List.setIfInBounds_toArray, List.set_cons_zero]
            refine one_ready 4 rfl (by kernel_rfl) (fun K hK => ?_)
            refine step_append_where rfl (.tmp 58) (.tmp 61) 22 rfl w10.heap.size 29 (.agg #[.int .i64 0, .int .u64 0, .bool false]) 3 24 Try.underlying22 infoPit rfl (by decide) (.slice (some ⟨w10.heap.size, 0, none⟩) 0 0) 0 [] rfl (own_none3 w10 w10.heap.size (Nat.le_refl _) _) ⟨g, o2, none⟩ (i - t) (cp - t) (pil (lsP (i - t) (fun j => ymv z (t + j)))) rfl (by rw [pil_len, lsP_len]) ?c1 (pil_one _) ?c2 ?c3 ?c4 ?_
            case c1 =>
              intro j u hu
              have h := pits_news HP9.out (i - t) t o2 (by omega) (fun h => ho3 (by omega)) j u hu
              exact (((Below.refl _ w10).alloc (Nat.le_refl _) (.cells #[] 29)).cell (p := (⟨g, o2, none⟩ : Addr).add j) (by rw [add_plain]; exact hg9)).trans h
            case c2 => simp only [maxLen]; omega
            case c3 => omega
            case c4 => simp
            intro A3 cap3 w5 hown3 hgr3 hwh3
            have hge3 : ∀ b, (Value.slice A3 (0 + (i - t)) cap3).ownBlock = some b → w10.heap.size ≤ b := fun b e => (own_lt hown3 e).1
            have hs5 : w10.heap.size + 1 ≤ w5.heap.size := by have := hgr3.size; simpa using this
            have hb5 : Below w10.heap.size w10 w5 := ((Below.refl _ w10).alloc (Nat.le_refl _) (.cells #[] 29)).grown hgr3 (by simp) (fun b e => by simp [Value.ownBlock] at e; omega)
            refine hK.out _ _ trivial (fun _ => ?_)
            clear hK K
            simp only [Act.put, List.setIfInBounds_toArray, List.set_cons_zero, List.set_cons_succ]
            refine one_ready 8 rfl (by kernel_rfl) (fun K hK => ?_)
            refine step_append_where rfl (.tmp 62) (.tmp 65) 22 rfl w10.heap.size 29 (.agg #[.int .i64 0, .int .u64 0, .bool false]) 3 24 Try.underlying22 infoPit rfl (by decide) (.slice A3 (0 + (i - t)) cap3) (0 + (i - t)) ([] ++ pil (lsP (i - t) (fun j => ymv z (t + j)))) rfl hown3 ⟨g, off, none⟩ t cp (pil (lsP t (fun j => ymv z (0 + j)))) rfl (by rw [pil_len, lsP_len]) ?c1 (pil_one _) ?c2 ?c3 ?c4 ?_
            case c1 =>
              intro j u hu
              have h := pits_news HP9.out t 0 off (by omega) (fun _ => by omega) j u hu
              exact (hb5.cell (p := (⟨g, off, none⟩ : Addr).add j) (by rw [add_plain]; exact hg9)).trans h
            case c2 => simp only [maxLen]; omega
            case c3 => omega
            case c4 => omega
            intro A4 cap4 w6 hown4 hgr4 hwh4
            have hb6 : Below w10.heap.size w10 w6 := hb5.grown hgr4 (by omega) hge3
            have hown5 : w6.ownsRow w10.heap.size 29 3 (.slice A4 i cap4) i (pil (lsP i (trn (ymv z) i t))) := by
              have h := hown4
              rw [List.nil_append, ← pil_append, ← lsP_trn htn, show 0 + (i - t) + t = i by omega] at h
              exact h
            have HTu : Hid (Pits w6 w6.heap.size A4 i (trn (ymv z) i t)) := own_pits hown5 (lsP_len _ _) (fun j hj => by simp [lsP])
            have HA4 : Hid (A4 = none → i = 0 ∧ cap4 = 0) := by
              obtain ⟨A9, c9, e9, h9⟩ := own_slice3 hown5
              injection e9 with e1 e2 e3
              subst e1 e3
              exact h9
            have HB6 : Hid (Below wr.heap.size wr w6) := HB9.out.trans (hb6.mono HB9.out.size)
            rw [show 0 + (i - t) + t = i by omega]
            clear hown3 hgr3 hwh3 hown4 hgr4 hwh4 hown5 hb5 hb6 hge3 hs5 HB9 HP9
            refine hK.out _ _ trivial (fun _ => ?_)
            clear hK K
            simp only [Act.put, List.setIfInBounds_toArray, List.set_cons_zero, List.set_cons_succ]
            refine one_ready 9 rfl (by kernel_rfl) (fun K hK => ?_)
            go_simp
            refine hK.out _ _ trivial (fun _ => ?_)
            clear hK K
            try simp only [List.setIfInBounds_toArray, List.set_cons_zero, List.set_cons_succ]
            refine wpAnyH_done (by kernel_rfl) ?_ _
            go_wp2_with fail
            go_meet
            exact ⟨A4, cap4, rfl, HA4, HTu, HB6⟩
        case rest =>
          obtain ⟨A4, c4, rfl, HA4, HTu, HBt⟩ := hcut
          have HP1 : Hid (Pits wc wc.heap.size A i (ymv z)) := (HP.out.below HBt.out).more HBt.out.size
          have HB3 : Hid (Below w.heap.size w wc) := HB2.out.trans (HBt.out.mono HB2.out.size)
          have HVa := Lib.hid (victims_any A i cp (ymv z) cap bat wc (by omega) HA.out HP1.out)
          have HVb := Lib.hid (fun W (h : Below wc.heap.size wc W) => victims_any A4 i c4 (trn (ymv z) i t) cap bat W (by omega) HA4.out ((HTu.out.below h).more h.size))
          simp only [vicPost_perm (lsP_trn_perm htn (ymv z))] at HVb
          unfold VicPost at HVa HVb
          obtain ⟨K, hK⟩ : ∃ K, K = kMany (lsP i (ymv z)) cap bat := ⟨_, rfl⟩
          have hKi : K ≤ i := by have := kMany_le (lsP i (ymv z)) cap bat; rw [lsP_len] at this; omega
          rw [← hK] at HVa HVb
          generalize victims (lsP i (ymv z)) cap bat = V at *
          clear hK HP HB2 HBt HTu HA4
          go_wp2_with fail
          refine HVa.out.mono ?_
          rintro e wa ⟨ga, rfl, hira, hba⟩
          have HIa := Lib.hid hira
          have HBa : Hid (Below w.heap.size w wa) := HB3.out.trans (hba.mono HB3.out.size)
          have HP2 : Hid (Pits wa wa.heap.size A i (ymv z)) := (HP1.out.below hba).more hba.size
          have HVc := Lib.hid (HVb.out wa hba)
          clear hira hba HVa HVb HP1 HB3
          go_wp2_with fail
          refine HVc.out.mono ?_
          rintro e wb ⟨gb, rfl, hirb, hbb⟩
          have HIa2 := Lib.hid (HIa.out.below hbb (Nat.le_refl _))
          have HIb := Lib.hid hirb
          have HBb : Hid (Below w.heap.size w wb) := HBa.out.trans (hbb.mono HBa.out.size)
          have HP3 : Hid (Pits wb wb.heap.size A i (ymv z)) := (HP2.out.below hbb).more hbb.size
          have HLv := late_vic (n := i) (y := ymv z) (x := newest) (fun j hj => ymv_late z (by omega)) (by omega)
          have HVl : Hid (∀ (W : World) (A9 : Option Addr) (c9 : Nat), A9 ≠ none → Pits W W.heap.size A9 (i + 1) (snocY (ymv z) i newest) → Calls Try.prog 18 #[.slice A9 (i + 1) c9, .int .i64 0, .int .i64 (i : Int)] W fun e w' => ∃ g, e = .returned (.slice (some ⟨g, 0, none⟩) i i) ∧ Ir w' W.heap.size g i (fun j => ((ranked (lsP i (ymv z))).map (·.2)).getD j 0) ∧ Below W.heap.size W w') := fun W A9 c9 h9 hP9 => by
            have := victims_any A9 (i + 1) c9 _ 0 i W (by omega) (fun e => absurd e h9) hP9
            rw [lsP_snocY] at this
            unfold VicPost at this
            rw [HLv.1, HLv.2] at this
            exact this
          have HRk : Hid (∀ j, j < i → ∃ c, c < i ∧ ((ranked (lsP i (ymv z))).map (·.2)).getD j 0 = (c : Int)) := fun j hj => by
            obtain ⟨c, hc, e⟩ := ranked_mem (y := ymv z) hj
            refine ⟨c, hc, ?_⟩
            rw [List.getD_eq_getElem?_getD, List.getElem?_map, e]
            rfl
          clear hirb hbb HVc HIa HBa HP2 HLv
          go_upto_region 13 with fail
          go_cut [16] from 18 (fun v wx => ∃ gl, v = .slice (some ⟨gl, 0, none⟩) i i ∧ Hid (Ir wx wb.heap.size gl i (fun j => ((ranked (lsP i (ymv z))).map (·.2)).getD j 0)) ∧ Hid (Below wb.heap.size wb wx))
          case first =>
            by_cases hi0 : i = 0
            · obtain ⟨rfl, rfl⟩ := HAn.out hi0
              subst hi0
              obtain ⟨g0, hg0⟩ : ∃ g0, wb.heap.size = g0 := ⟨_, rfl⟩
              go_wp2_with fail
              refine (HVl.out _ _ _ (by simp) (fun _ => ⟨g0 + 1 + 1, 0, rfl, ?q1, fun j hj => ?q2⟩)).mono ?_
              case q1 => simp; omega
              case q2 =>
                obtain rfl : j = 0 := by omega
                have hbx := Box.new ((wb.alloc (.cells #[] 29)).alloc (.cells #[.int .i64 99, .int .u64 4611686018427387903, .bool false] 29)) 29 (#[.int .i64 99, .int .u64 4611686018427387903, .bool false] ++ Builtin.zeroCells #[.int .i64 0, .int .u64 0, .bool false] ((Question.appendCap 1 0 29).cut (wb.tape wb.drawn (Question.appendCap 1 0 29)) - 1))
                have hsz : ((wb.alloc (.cells #[] 29)).alloc (.cells #[.int .i64 99, .int .u64 4611686018427387903, .bool false] 29)).heap.size = g0 + 1 + 1 := by simp [hg0]
                rw [hsz] at hbx
                exact ⟨(hbx.cell 0).trans (by rw [Array.getElem?_append_left (by simp)]; rfl), (hbx.cell 1).trans (by rw [Array.getElem?_append_left (by simp)]; rfl), (hbx.cell 2).trans (by rw [Array.getElem?_append_left (by simp)]; rfl)⟩
              rintro e w9 ⟨gl, rfl, hir, hb⟩
              have ho := hir.old
              simp at ho
              have hbw : Below wb.heap.size wb w9 := ((((Below.refl _ wb).alloc (Nat.le_refl _) _).alloc (by simp) _).alloc (by simp; omega) _).drew.trans (hb.mono (by simp; omega))
              have HIr : Hid (Ir w9 wb.heap.size gl 0 (fun j => ((ranked (lsP 0 (ymv z))).map (·.2)).getD j 0)) := ⟨by omega, hir.lt, hir.cell⟩
              have HBw := Lib.hid hbw
              clear hir hb ho hbw
              go_wp2_with fail
              go_meet
              case rel => exact ⟨gl, rfl, HIr, HBw⟩
            · obtain ⟨g, off, rfl, hg, _⟩ := HP3.out (by omega)
              have hne : ∀ j u, (pil (lsP i (ymv z)))[j]? = some u → (wb.alloc (.cells #[] 29)).cell? ((⟨g, off, none⟩ : Addr).add j) = some u := fun j u hu => by
                have h := pits_news HP3.out i 0 off (by omega) (fun _ => by omega) j u (by rw [show (fun j => ymv z (0 + j)) = ymv z from funext fun j => by rw [Nat.zero_add]]; exact hu)
                exact (((Below.refl _ wb).alloc (Nat.le_refl _) (.cells #[] 29)).cell (p := (⟨g, off, none⟩ : Addr).add j) (by rw [add_plain]; exact hg)).trans h
              go_wp2_with (with_reducible refine wpList_append_where _ rfl (.tmp 75) (.tmp 76) 22 rfl wb.heap.size 29 (.agg #[.int .i64 0, .int .u64 0, .bool false]) 3 24 Try.underlying22 infoPit rfl (by decide) (.slice (some ⟨wb.heap.size, 0, none⟩) 0 0) 0 [] rfl (own_none3 wb wb.heap.size (Nat.le_refl _) _) ⟨g, off, none⟩ i cp (pil (lsP i (ymv z))) rfl ?c0 hne (pil_one _) ?c2 ?c3 ?c4 ?_)
              case c0 => rw [pil_len, lsP_len]
              case c2 => simp only [maxLen]; omega
              case c3 => omega
              case c4 => simp
              intro A5 c5 w5 hown5 hgr5 hwh5
              have hb5 : Below wb.heap.size wb w5 := ((Below.refl _ wb).alloc (Nat.le_refl _) (.cells #[] 29)).grown hgr5 (by simp) (fun b e => by simp [Value.ownBlock] at e; omega)
              have HO5 := Lib.hid hown5
              have HB5 := Lib.hid hb5
              have hs5 := hb5.size
              clear hown5 hgr5 hwh5 hb5 hne
              go_wp2_with (with_reducible refine wpList_append_where _ rfl (.tmp 77) (.tmp 79) 22 rfl wb.heap.size 29 (.agg #[.int .i64 0, .int .u64 0, .bool false]) 3 24 Try.underlying22 infoPit rfl (by decide) (.slice A5 i c5) i (pil (lsP i (ymv z))) rfl (row_keep HO5.out (fun g hg => Below.heap_alloc _ _ g (own_lt HO5.out hg).2)) ⟨w5.heap.size, 0, none⟩ 1 1 [.int .i64 99, .int .u64 4611686018427387903, .bool false] rfl rfl ?c0 ?c1 ?c2 ?c3 ?c4 ?_)
              case c0 => exact new_three w5 _ _ _ _ rfl
              case c1 => simp [Value.oneCell']
              case c2 => simp only [maxLen]; omega
              case c3 => omega
              case c4 => simp; omega
              intro A6 c6 w6 hown6 hgr6 hwh6
              have hown7 : w6.ownsRow wb.heap.size 29 3 (.slice A6 (i + 1) c6) (i + 1) (pil (lsP (i + 1) (snocY (ymv z) i newest))) := by
                rw [lsP_snocY, pil_snoc]; exact hown6
              have HB6 : Hid (Below wb.heap.size wb w6) := (HB5.out.alloc hs5 _).grown hgr6 (by simp; omega) (fun b e => (own_lt HO5.out e).1)
              have HP6 : Hid (Pits w6 w6.heap.size A6 (i + 1) (snocY (ymv z) i newest)) := own_pits hown7 (lsP_len _ _) (fun j hj => by simp [lsP])
              have HA6 : Hid (A6 ≠ none) := by
                obtain ⟨A9, c9, e9, h9⟩ := own_slice3 hown7
                injection e9 with e1 e2 e3
                subst e1
                exact fun h => absurd (h9 h).1 (by omega)
              clear hown6 hown7 hgr6 hwh6 HO5 HB5
              go_wp2_with fail
              refine (HVl.out _ _ _ HA6.out HP6.out).mono ?_
              rintro e w9 ⟨gl, rfl, hir, hb⟩
              have hs6 := HB6.out.size
              have HIr : Hid (Ir w9 wb.heap.size gl i (fun j => ((ranked (lsP i (ymv z))).map (·.2)).getD j 0)) := ⟨by have := hir.old; omega, hir.lt, hir.cell⟩
              have HBw : Hid (Below wb.heap.size wb w9) := HB6.out.trans (hb.mono hs6)
              clear hir hb
              go_wp2_with fail
              go_meet
              case rel => exact ⟨gl, rfl, HIr, HBw⟩
          case rest =>
            obtain ⟨gl, rfl, HIl, HBl⟩ := hcut
            have HBz : Hid (Below w.heap.size w wc) := HBb.out.trans (HBl.out.mono HBb.out.size)
            have HIa3 := Lib.hid (HIa2.out.below HBl.out (Nat.le_refl _))
            have HIb3 := Lib.hid (HIb.out.below HBl.out (Nat.le_refl _))
            clear HBl HBb HIa2 HIb HP3 HVl
            go_wp2_with fail
            go_loopw [17] (fun v wr2 => ∃ j : Nat, v = .int .i64 j ∧ j ≤ i ∧ wr2 = wc) (fun v _ => i - (intOf v).toNat)
            case atStart => exact ⟨0, rfl, by omega, rfl⟩
            case round =>
              obtain ⟨j, rfl, hj, rfl⟩ := hrel
              by_cases hji : j < i
              · obtain ⟨c, hc, hv⟩ := HRk.out j hji
                have hcell := HIl.out.cell j hji
                rw [hv] at hcell
                have hcn : ((c : Int) == 99) = false := by rw [beq_eq_false_iff_ne]; omega
                clear hv
                go_wp2_with fail
                go_roundw
                case rel => exact ⟨j + 1, by go_num, by omega, by first | rfl | trivial⟩
                case measure => simp [intOf]; omega
              · obtain rfl : j = i := by omega
                have HSm := Lib.hid (fun W (hW : Below wr.heap.size wr W) => psame_nums (some ⟨ga, 0, none⟩) (some ⟨gb, 0, none⟩) K K K _ _ (fun q => V.getD q 0) W (by omega) ((HIa3.out.below hW (Nat.le_refl _)).nums (Nat.le_refl _)) ((HIb3.out.below hW (Nat.le_refl _)).nums (Nat.le_refl _)))
                go_wp2_with fail
                refine (HSm.out _ (Below.refl _ _)).mono ?_
                rintro e w9 ⟨rfl, hw9⟩
                have HB9 := Lib.hid (HBz.out.trans (below_drawn hw9))
                clear hw9
                go_wp2_with fail
                go_ret
                exact ⟨rfl, HB9.out⟩
end Go.Proofs.Ytigifbijmchdcaa
