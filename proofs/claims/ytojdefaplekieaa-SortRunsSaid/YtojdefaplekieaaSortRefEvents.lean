/- The document's Events: the looks of all pairs, in a new slice; of what was in memory nothing turns. No conditions. -/
import Derived.Test.YtojdefaplekieaaSortEvents
namespace Go.Proofs.Ytojdefaplekieaa
open Go.RowKit Go.ChangeShapes Go.WideShapes Go.ChangeAt

set_option linter.unusedSimpArgs false in
set_option maxRecDepth 100000 in
set_option maxHeartbeats 1000000 in
theorem refEvents_any (r n : Int) (k : Nat) (ps : List Pr) (hN : Net n k ps) (w : World) : Calls Try.prog 16 #[.int .i64 r, .int .i64 n] w (EvPost w (ilooks r ps)) := by
  have hps := hN.len
  go_enter Try.func16, Try.ntmps16
  go_wp2_with (first
    | (go_at_call 32; refine (refPairs_any n k ps hN _).mono ?_; rintro e w1 ⟨v, rfl, hown, hb⟩; obtain ⟨A, cap, g, rfl, hP⟩ := Prs.of hown; clear hown))
  have HB := Lib.hid hb
  have HP := Lib.hid hP
  clear hb hP
  go_loopw [6, 7] (fun v5 v wr => ∃ i : Nat, v = .int .i64 i ∧ i ≤ ps.length ∧ EvAt w1 v5 (ilooks r (ps.take i)) wr) (fun _ v _ => ps.length - (intOf v).toNat)
  case atStart => exact ⟨0, rfl, Nat.zero_le _, World.ownsRow_nil _ _ _ _, Below.refl _ _⟩
  case round =>
    obtain ⟨i, rfl, hi, hE⟩ := hrel
    have HE := Lib.hid hE
    clear hE
    by_cases hlt : i < ps.length
    · obtain rfl : A = some ⟨g, 0, none⟩ := HP.out.adr (by omega)
      have hcc : ∀ w', Below w1.heap.size w1 w' → w'.cell? ⟨g, i * 3, none⟩ = some (.int .i64 (ps[i].1 : Nat)) ∧ w'.cell? ⟨g, i * 3 + 1, none⟩ = some (.int .i64 (ps[i].2.1 : Nat)) := fun w' hw => ⟨(HP.out.cells hw hlt).1, (HP.out.cells hw hlt).2.1⟩
      have hts := take_snoc ps i hlt
      have hll : (ilooks r (ps.take i)).length + 4 ≤ 1000000 := by rw [ilooks_len, List.length_take]; omega
      have hsz := HE.out.below.size
      have hi63 : i < 28160 := by omega
      obtain ⟨q, hqe⟩ : ∃ q, ps[i] = q := ⟨_, rfl⟩
      rw [hqe] at hcc hts
      have HTS := Lib.hid hts
      have CC := Lib.hid hcc
      clear hqe hts hcc
      obtain ⟨ll, hle⟩ : ∃ l, (ilooks r (ps.take i)).length = l := ⟨_, rfl⟩
      rw [hle] at hll
      have HLE := Lib.hid hle
      clear hle
      have HOW : Hid (wr.ownsRow w1.heap.size 71 3 u6 ll (ievs (ilooks r (ps.take i)))) := by
        have := HE.out.own
        rwa [HLE.out] at this
      go_wp2_with fail
      refine held_S (S := fun w' => Below w1.heap.size w1 w') 32 rfl (by kernel_rfl) HE.out.below.drew (fun hHeld => ?_)
      simp only [Array.replicate_succ, Array.replicate_zero, List.push_toArray, List.nil_append, List.cons_append]
      refine wpAnyH_take (i := 0) (oi := ⟨some 16, _, _, _, _, _⟩) (v := u6) rfl (by kernel_rfl) (by kernel_rfl) (by kernel_rfl) (fun _ _ _ h => h) (Or.inl ⟨by rfl, fun w' hw => by have h0 := (CC.out w' hw).1; have h1 := (CC.out w' hw).2; go_simp⟩) hHeld ?_
      try simp only [Act.put, List.setIfInBounds_toArray, List.set_cons_zero, List.set_cons_succ]
      refine wpAnyH_take (i := 1) (oi := ⟨some 17, _, _, _, _, _⟩) (v := .int .i64 r) rfl (by kernel_rfl) (by kernel_rfl) (by kernel_rfl) (fun _ _ _ h => h) (Or.inl ⟨by rfl, fun w' hw => by have h0 := (CC.out w' hw).1; have h1 := (CC.out w' hw).2; go_simp⟩) hHeld ?_
      try simp only [Act.put, List.setIfInBounds_toArray, List.set_cons_zero, List.set_cons_succ]
      refine wpAnyH_take (i := 2) (oi := ⟨some 18, _, _, _, _, _⟩) (v := .slice (some ⟨g, 0, none⟩) ps.length cap) rfl (by kernel_rfl) (by kernel_rfl) (by kernel_rfl) (fun _ _ _ h => h) (Or.inl ⟨by rfl, fun w' hw => by have h0 := (CC.out w' hw).1; have h1 := (CC.out w' hw).2; go_simp⟩) hHeld ?_
      try simp only [Act.put, List.setIfInBounds_toArray, List.set_cons_zero, List.set_cons_succ]
      refine wpAnyH_take (i := 3) (oi := ⟨some 19, _, _, _, _, _⟩) (v := .int .i64 (i : Int)) rfl (by kernel_rfl) (by kernel_rfl) (by kernel_rfl) (fun _ _ _ h => h) (Or.inl ⟨by rfl, fun w' hw => by have h0 := (CC.out w' hw).1; have h1 := (CC.out w' hw).2; go_simp⟩) hHeld ?_
      try simp only [Act.put, List.setIfInBounds_toArray, List.set_cons_zero, List.set_cons_succ]
      refine wpAnyH_take (i := 4) (oi := ⟨some 20, _, _, _, _, _⟩) (v := .pointer (some ⟨g, i * 3, none⟩)) rfl (by kernel_rfl) (by kernel_rfl) (by kernel_rfl) (fun _ _ _ h => h) (Or.inl ⟨by rfl, fun w' hw => by have h0 := (CC.out w' hw).1; have h1 := (CC.out w' hw).2; go_simp⟩) hHeld ?_
      try simp only [Act.put, List.setIfInBounds_toArray, List.set_cons_zero, List.set_cons_succ]
      refine wpAnyH_take (i := 5) (oi := ⟨some 21, _, _, _, _, _⟩) (v := .pointer (some ⟨g, i * 3, none⟩)) rfl (by kernel_rfl) (by kernel_rfl) (by kernel_rfl) (fun _ _ _ h => h) (Or.inl ⟨by rfl, fun w' hw => by have h0 := (CC.out w' hw).1; have h1 := (CC.out w' hw).2; go_simp⟩) hHeld ?_
      try simp only [Act.put, List.setIfInBounds_toArray, List.set_cons_zero, List.set_cons_succ]
      refine wpAnyH_take (i := 6) (oi := ⟨some 22, _, _, _, _, _⟩) (v := .int .i64 (q.1 : Nat)) rfl (by kernel_rfl) (by kernel_rfl) (by kernel_rfl) (fun _ _ _ h => h) (Or.inl ⟨by rfl, fun w' hw => by have h0 := (CC.out w' hw).1; have h1 := (CC.out w' hw).2; go_simp⟩) hHeld ?_
      try simp only [Act.put, List.setIfInBounds_toArray, List.set_cons_zero, List.set_cons_succ]
      refine wpAnyH_take (i := 7) (oi := ⟨some 23, _, _, _, _, _⟩) (v := .agg #[.int .i64 r, .int .i64 (q.1 : Nat), .bool false]) rfl (by kernel_rfl) (by kernel_rfl) (by kernel_rfl) (fun _ _ _ h => h) (Or.inl ⟨by rfl, fun w' hw => by have h0 := (CC.out w' hw).1; have h1 := (CC.out w' hw).2; go_simp⟩) hHeld ?_
      try simp only [Act.put, List.setIfInBounds_toArray, List.set_cons_zero, List.set_cons_succ]
      refine wpAnyH_take (i := 8) (oi := ⟨some 24, _, _, _, _, _⟩) (v := .int .i64 r) rfl (by kernel_rfl) (by kernel_rfl) (by kernel_rfl) (fun _ _ _ h => h) (Or.inl ⟨by rfl, fun w' hw => by have h0 := (CC.out w' hw).1; have h1 := (CC.out w' hw).2; go_simp⟩) hHeld ?_
      try simp only [Act.put, List.setIfInBounds_toArray, List.set_cons_zero, List.set_cons_succ]
      refine wpAnyH_take (i := 9) (oi := ⟨some 25, _, _, _, _, _⟩) (v := .slice (some ⟨g, 0, none⟩) ps.length cap) rfl (by kernel_rfl) (by kernel_rfl) (by kernel_rfl) (fun _ _ _ h => h) (Or.inl ⟨by rfl, fun w' hw => by have h0 := (CC.out w' hw).1; have h1 := (CC.out w' hw).2; go_simp⟩) hHeld ?_
      try simp only [Act.put, List.setIfInBounds_toArray, List.set_cons_zero, List.set_cons_succ]
      refine wpAnyH_take (i := 10) (oi := ⟨some 26, _, _, _, _, _⟩) (v := .int .i64 (i : Int)) rfl (by kernel_rfl) (by kernel_rfl) (by kernel_rfl) (fun _ _ _ h => h) (Or.inl ⟨by rfl, fun w' hw => by have h0 := (CC.out w' hw).1; have h1 := (CC.out w' hw).2; go_simp⟩) hHeld ?_
      try simp only [Act.put, List.setIfInBounds_toArray, List.set_cons_zero, List.set_cons_succ]
      refine wpAnyH_take (i := 11) (oi := ⟨some 27, _, _, _, _, _⟩) (v := .pointer (some ⟨g, i * 3, none⟩)) rfl (by kernel_rfl) (by kernel_rfl) (by kernel_rfl) (fun _ _ _ h => h) (Or.inl ⟨by rfl, fun w' hw => by have h0 := (CC.out w' hw).1; have h1 := (CC.out w' hw).2; go_simp⟩) hHeld ?_
      try simp only [Act.put, List.setIfInBounds_toArray, List.set_cons_zero, List.set_cons_succ]
      refine wpAnyH_take (i := 12) (oi := ⟨some 28, _, _, _, _, _⟩) (v := .pointer (some ⟨g, i * 3 + 1, none⟩)) rfl (by kernel_rfl) (by kernel_rfl) (by kernel_rfl) (fun _ _ _ h => h) (Or.inl ⟨by rfl, fun w' hw => by have h0 := (CC.out w' hw).1; have h1 := (CC.out w' hw).2; go_simp⟩) hHeld ?_
      try simp only [Act.put, List.setIfInBounds_toArray, List.set_cons_zero, List.set_cons_succ]
      refine wpAnyH_take (i := 13) (oi := ⟨some 29, _, _, _, _, _⟩) (v := .int .i64 (q.2.1 : Nat)) rfl (by kernel_rfl) (by kernel_rfl) (by kernel_rfl) (fun _ _ _ h => h) (Or.inl ⟨by rfl, fun w' hw => by have h0 := (CC.out w' hw).1; have h1 := (CC.out w' hw).2; go_simp⟩) hHeld ?_
      try simp only [Act.put, List.setIfInBounds_toArray, List.set_cons_zero, List.set_cons_succ]
      refine wpAnyH_take (i := 14) (oi := ⟨some 30, _, _, _, _, _⟩) (v := .agg #[.int .i64 r, .int .i64 (q.2.1 : Nat), .bool false]) rfl (by kernel_rfl) (by kernel_rfl) (by kernel_rfl) (fun _ _ _ h => h) (Or.inl ⟨by rfl, fun w' hw => by have h0 := (CC.out w' hw).1; have h1 := (CC.out w' hw).2; go_simp⟩) hHeld ?_
      try simp only [Act.put, List.setIfInBounds_toArray, List.set_cons_zero, List.set_cons_succ]
      refine wpAnyH_take (i := 15) (oi := ⟨some 31, _, _, _, _, _⟩) (v := .int .i64 r) rfl (by kernel_rfl) (by kernel_rfl) (by kernel_rfl) (fun _ _ _ h => h) (Or.inl ⟨by rfl, fun w' hw => by have h0 := (CC.out w' hw).1; have h1 := (CC.out w' hw).2; go_simp⟩) hHeld ?_
      try simp only [Act.put, List.setIfInBounds_toArray, List.set_cons_zero, List.set_cons_succ]
      refine wpAnyH_take (i := 16) (oi := ⟨some 32, _, _, _, _, _⟩) (v := .slice (some ⟨g, 0, none⟩) ps.length cap) rfl (by kernel_rfl) (by kernel_rfl) (by kernel_rfl) (fun _ _ _ h => h) (Or.inl ⟨by rfl, fun w' hw => by have h0 := (CC.out w' hw).1; have h1 := (CC.out w' hw).2; go_simp⟩) hHeld ?_
      try simp only [Act.put, List.setIfInBounds_toArray, List.set_cons_zero, List.set_cons_succ]
      refine wpAnyH_take (i := 17) (oi := ⟨some 33, _, _, _, _, _⟩) (v := .int .i64 (i : Int)) rfl (by kernel_rfl) (by kernel_rfl) (by kernel_rfl) (fun _ _ _ h => h) (Or.inl ⟨by rfl, fun w' hw => by have h0 := (CC.out w' hw).1; have h1 := (CC.out w' hw).2; go_simp⟩) hHeld ?_
      try simp only [Act.put, List.setIfInBounds_toArray, List.set_cons_zero, List.set_cons_succ]
      refine wpAnyH_take (i := 18) (oi := ⟨some 34, _, _, _, _, _⟩) (v := .pointer (some ⟨g, i * 3, none⟩)) rfl (by kernel_rfl) (by kernel_rfl) (by kernel_rfl) (fun _ _ _ h => h) (Or.inl ⟨by rfl, fun w' hw => by have h0 := (CC.out w' hw).1; have h1 := (CC.out w' hw).2; go_simp⟩) hHeld ?_
      try simp only [Act.put, List.setIfInBounds_toArray, List.set_cons_zero, List.set_cons_succ]
      refine wpAnyH_take (i := 19) (oi := ⟨some 35, _, _, _, _, _⟩) (v := .pointer (some ⟨g, i * 3, none⟩)) rfl (by kernel_rfl) (by kernel_rfl) (by kernel_rfl) (fun _ _ _ h => h) (Or.inl ⟨by rfl, fun w' hw => by have h0 := (CC.out w' hw).1; have h1 := (CC.out w' hw).2; go_simp⟩) hHeld ?_
      try simp only [Act.put, List.setIfInBounds_toArray, List.set_cons_zero, List.set_cons_succ]
      refine wpAnyH_take (i := 20) (oi := ⟨some 36, _, _, _, _, _⟩) (v := .int .i64 (q.1 : Nat)) rfl (by kernel_rfl) (by kernel_rfl) (by kernel_rfl) (fun _ _ _ h => h) (Or.inl ⟨by rfl, fun w' hw => by have h0 := (CC.out w' hw).1; have h1 := (CC.out w' hw).2; go_simp⟩) hHeld ?_
      try simp only [Act.put, List.setIfInBounds_toArray, List.set_cons_zero, List.set_cons_succ]
      refine wpAnyH_take (i := 21) (oi := ⟨some 37, _, _, _, _, _⟩) (v := .agg #[.int .i64 r, .int .i64 (q.1 : Nat), .bool true]) rfl (by kernel_rfl) (by kernel_rfl) (by kernel_rfl) (fun _ _ _ h => h) (Or.inl ⟨by rfl, fun w' hw => by have h0 := (CC.out w' hw).1; have h1 := (CC.out w' hw).2; go_simp⟩) hHeld ?_
      try simp only [Act.put, List.setIfInBounds_toArray, List.set_cons_zero, List.set_cons_succ]
      refine wpAnyH_take (i := 22) (oi := ⟨some 38, _, _, _, _, _⟩) (v := .int .i64 r) rfl (by kernel_rfl) (by kernel_rfl) (by kernel_rfl) (fun _ _ _ h => h) (Or.inl ⟨by rfl, fun w' hw => by have h0 := (CC.out w' hw).1; have h1 := (CC.out w' hw).2; go_simp⟩) hHeld ?_
      try simp only [Act.put, List.setIfInBounds_toArray, List.set_cons_zero, List.set_cons_succ]
      refine wpAnyH_take (i := 23) (oi := ⟨some 39, _, _, _, _, _⟩) (v := .slice (some ⟨g, 0, none⟩) ps.length cap) rfl (by kernel_rfl) (by kernel_rfl) (by kernel_rfl) (fun _ _ _ h => h) (Or.inl ⟨by rfl, fun w' hw => by have h0 := (CC.out w' hw).1; have h1 := (CC.out w' hw).2; go_simp⟩) hHeld ?_
      try simp only [Act.put, List.setIfInBounds_toArray, List.set_cons_zero, List.set_cons_succ]
      refine wpAnyH_take (i := 24) (oi := ⟨some 40, _, _, _, _, _⟩) (v := .int .i64 (i : Int)) rfl (by kernel_rfl) (by kernel_rfl) (by kernel_rfl) (fun _ _ _ h => h) (Or.inl ⟨by rfl, fun w' hw => by have h0 := (CC.out w' hw).1; have h1 := (CC.out w' hw).2; go_simp⟩) hHeld ?_
      try simp only [Act.put, List.setIfInBounds_toArray, List.set_cons_zero, List.set_cons_succ]
      refine wpAnyH_take (i := 25) (oi := ⟨some 41, _, _, _, _, _⟩) (v := .pointer (some ⟨g, i * 3, none⟩)) rfl (by kernel_rfl) (by kernel_rfl) (by kernel_rfl) (fun _ _ _ h => h) (Or.inl ⟨by rfl, fun w' hw => by have h0 := (CC.out w' hw).1; have h1 := (CC.out w' hw).2; go_simp⟩) hHeld ?_
      try simp only [Act.put, List.setIfInBounds_toArray, List.set_cons_zero, List.set_cons_succ]
      refine wpAnyH_take (i := 26) (oi := ⟨some 42, _, _, _, _, _⟩) (v := .pointer (some ⟨g, i * 3 + 1, none⟩)) rfl (by kernel_rfl) (by kernel_rfl) (by kernel_rfl) (fun _ _ _ h => h) (Or.inl ⟨by rfl, fun w' hw => by have h0 := (CC.out w' hw).1; have h1 := (CC.out w' hw).2; go_simp⟩) hHeld ?_
      try simp only [Act.put, List.setIfInBounds_toArray, List.set_cons_zero, List.set_cons_succ]
      refine wpAnyH_take (i := 27) (oi := ⟨some 43, _, _, _, _, _⟩) (v := .int .i64 (q.2.1 : Nat)) rfl (by kernel_rfl) (by kernel_rfl) (by kernel_rfl) (fun _ _ _ h => h) (Or.inl ⟨by rfl, fun w' hw => by have h0 := (CC.out w' hw).1; have h1 := (CC.out w' hw).2; go_simp⟩) hHeld ?_
      try simp only [Act.put, List.setIfInBounds_toArray, List.set_cons_zero, List.set_cons_succ]
      refine wpAnyH_take (i := 28) (oi := ⟨some 44, _, _, _, _, _⟩) (v := .agg #[.int .i64 r, .int .i64 (q.2.1 : Nat), .bool true]) rfl (by kernel_rfl) (by kernel_rfl) (by kernel_rfl) (fun _ _ _ h => h) (Or.inl ⟨by rfl, fun w' hw => by have h0 := (CC.out w' hw).1; have h1 := (CC.out w' hw).2; go_simp⟩) hHeld ?_
      try simp only [Act.put, List.setIfInBounds_toArray, List.set_cons_zero, List.set_cons_succ]
      refine one_ready 29 rfl (by kernel_rfl) (fun K hK => ?_)
      go_simp
      have hal : Below w1.heap.size w1 (wr.drew.alloc (.cells (v12 r q).toArray 71)) := hHeld.alloc hHeld.size _
      refine hK.out _ _ hal (fun hHeld2 => ?_)
      clear hK K hal
      try simp only [Act.put, List.setIfInBounds_toArray, List.set_cons_zero, List.set_cons_succ]
      refine one_ready 30 rfl (by kernel_rfl) (fun K hK => ?_)
      refine step_append_where rfl (.tmp 16) (.tmp 45) 32 rfl w1.heap.size 71 (.agg #[.int .i64 0, .int .i64 0, .bool false]) 3 24 Try.underlying32 infoEvent rfl (by decide) u6 ll (ievs (ilooks r (ps.take i))) rfl (((HOW.out : wr.drew.ownsRow _ _ _ _ _ _)).alloc _) ⟨wr.drew.heap.size, 0, none⟩ 4 4 (v12 r q) rfl rfl (v12_new wr.drew 71 r q rfl) (v12_one r q) (by simp only [maxLen]; omega) (by omega) (by simp; omega) ?_
      intro A2 cap2 w7 hown hgr _
      have HN2 : Hid (EvAt w1 (.slice A2 (ll + 4) cap2) (ilooks r (ps.take (i + 1))) w7) := by
        show EvAt _ _ _ _
        rw [HTS.out, ← HLE.out]
        rw [← HLE.out] at hown
        exact HE.out.next ((Below.refl _ wr).drew) hown hgr
      clear hown hgr
      refine hK.out _ _ HN2.out.below (fun hHeld3 => ?_)
      clear hK K
      try simp only [Act.put, List.setIfInBounds_toArray, List.set_cons_zero, List.set_cons_succ]
      refine one_ready 31 rfl (by kernel_rfl) (fun K hK => ?_)
      go_simp
      refine hK.out _ _ hHeld3 (fun _ => ?_)
      clear hK K
      refine wpAnyH_done (by kernel_rfl) ?_ _
      go_wp2_with fail
      go_roundw
      case rel => exact ⟨i + 1, by go_num, by omega, HN2.out⟩
      case measure => simp [intOf]; omega
    · obtain rfl : i = ps.length := by omega
      have HD : Hid (EvPost w (ilooks r ps) (.returned u6) wr) := by
        have := HE.out
        rw [List.take_length] at this
        exact ev_done this HB.out
      clear HE
      go_wp2_with fail
      go_ret
      exact HD.out
end Go.Proofs.Ytojdefaplekieaa
