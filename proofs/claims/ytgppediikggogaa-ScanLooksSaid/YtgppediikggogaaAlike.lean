/- alike: a memory that is as the document's one is told to be. Conditions: both are the same, of no more cells than there can be. -/
import Derived.Test.YtgppediikggogaaMixMore
import Derived.Test.YtgppediikggogaaLawCell
namespace Go.Proofs.Ytgppediikggogaa
open Go.RowKit Go.ChangeShapes Go.WideShapes Go.ChangeAt

/-- Between two looks at both memories. -/
def AlikeAt (w : World) (X : Nat → Prop) (p q : Nat) (M : MS) (t : Nat) (wr : World) : Prop := ∃ N, Mix wr X p N q N ∧ Kept X w wr ∧ N.k = M.k ∧ N.sz = M.sz ∧ N.es.length ≤ M.es.length + t
set_option linter.unusedSimpArgs false in
set_option maxRecDepth 100000 in
set_option maxHeartbeats 1000000 in
theorem alike_any (X : Nat → Prop) (p q : Nat) (M : MS) (w : World) (h : Mix w X p M q M) (hl : M.es.length < 900000000) :
    Calls Try.prog 25 #[.pointer (some ⟨p, 0, none⟩), .pointer (some ⟨q, 0, none⟩)] w fun e w' => e = .returned (.bool true) ∧ Kept X w w' := by
  obtain ⟨q2, A2, c2, q1, hV2, _⟩ := mix_cells h
  obtain ⟨n2, hn2⟩ : ∃ n2, M.es.length = n2 := ⟨_, rfl⟩
  obtain ⟨bf, hbf⟩ : ∃ bf, M.ft = bf := ⟨_, rfl⟩
  rw [hn2] at q1
  rw [hbf] at q2
  have HM := Lib.hid h
  have HN := Lib.hid hn2
  have HBF := Lib.hid hbf
  have HV2 := Lib.hid hV2
  have HL : Hid (n2 < 900000000) := by show n2 < 900000000; omega
  have C1 : Hid (∀ w', Only nobody w w' → w'.cell? ⟨q, 1, none⟩ = some (.slice A2 n2 c2) ∧ w'.cell? ⟨q, 2, none⟩ = some (.bool bf)) := fun w' ho => ⟨only_cells ho q1, only_cells ho q2⟩
  have R0 : Hid (AlikeAt w X p q M 0 w) := ⟨M, h, Kept.refl _ _, rfl, rfl, Nat.le_refl _⟩
  have hfew : M.k ≤ 16 ∧ ∀ r, r < M.k → M.sz r ≤ 4096 := by
    obtain ⟨g, gc, bl, _, _, h1, h2⟩ := mix_rows h
    exact ⟨h1, h2⟩
  have HFW := Lib.hid hfew
  clear h hn2 hbf hV2 hl hfew q1 q2
  go_enter Try.func25, Try.ntmps25
  go_wp2_with fail
  refine held_S (S := fun w' => Only nobody w w') 17 rfl (by kernel_rfl) ((Only.refl nobody w).drew) (fun hHeld => ?_)
  simp only [Array.replicate_succ, Array.replicate_zero, List.push_toArray, List.nil_append, List.cons_append]
  refine wpAnyH_take (i := 0) (oi := ⟨some 7, _, _, _, _, _⟩) (v := .pointer (some ⟨p, 0, none⟩)) rfl (by kernel_rfl) (by kernel_rfl) (by kernel_rfl) (fun _ _ _ h => h) (Or.inl ⟨by rfl, fun w' hw => by have h1 := (C1.out w' hw).1; have h2 := (C1.out w' hw).2; go_simp⟩) hHeld ?_
  try simp only [Act.put, List.setIfInBounds_toArray, List.set_cons_zero, List.set_cons_succ]
  refine wpAnyH_take (i := 2) (oi := ⟨some 9, _, _, _, _, _⟩) (v := .pointer (some ⟨q, 0, none⟩)) rfl (by kernel_rfl) (by kernel_rfl) (by kernel_rfl) (fun _ _ _ h => h) (Or.inl ⟨by rfl, fun w' hw => by have h1 := (C1.out w' hw).1; have h2 := (C1.out w' hw).2; go_simp⟩) hHeld ?_
  try simp only [Act.put, List.setIfInBounds_toArray, List.set_cons_zero, List.set_cons_succ]
  refine wpAnyH_take (i := 3) (oi := ⟨some 10, _, _, _, _, _⟩) (v := .pointer (some ⟨q, 0, none⟩)) rfl (by kernel_rfl) (by kernel_rfl) (by kernel_rfl) (fun _ _ _ h => h) (Or.inl ⟨by rfl, fun w' hw => by have h1 := (C1.out w' hw).1; have h2 := (C1.out w' hw).2; go_simp⟩) hHeld ?_
  try simp only [Act.put, List.setIfInBounds_toArray, List.set_cons_zero, List.set_cons_succ]
  refine wpAnyH_take (i := 4) (oi := ⟨some 11, _, _, _, _, _⟩) (v := .pointer (some ⟨q, 1, none⟩)) rfl (by kernel_rfl) (by kernel_rfl) (by kernel_rfl) (fun _ _ _ h => h) (Or.inl ⟨by rfl, fun w' hw => by have h1 := (C1.out w' hw).1; have h2 := (C1.out w' hw).2; go_simp⟩) hHeld ?_
  try simp only [Act.put, List.setIfInBounds_toArray, List.set_cons_zero, List.set_cons_succ]
  refine wpAnyH_take (i := 5) (oi := ⟨some 12, _, _, _, _, _⟩) (v := .slice A2 n2 c2) rfl (by kernel_rfl) (by kernel_rfl) (by kernel_rfl) (fun _ _ _ h => h) (Or.inl ⟨by rfl, fun w' hw => by have h1 := (C1.out w' hw).1; have h2 := (C1.out w' hw).2; go_simp⟩) hHeld ?_
  try simp only [Act.put, List.setIfInBounds_toArray, List.set_cons_zero, List.set_cons_succ]
  refine one_ready 1 rfl (by kernel_rfl) (fun K hK => ?_)
  go_simp
  refine (own_trace _ p M _ (HM.out.left.none hHeld) (by rw [HN.out]; have := HL.out; omega)).mono ?_
  rintro e w6 ⟨A6, c6, rfl, ht, ho, _⟩
  rw [HN.out]
  have HT6 := Lib.hid ht.view.i
  have hH2 := hHeld.trans ho
  clear ht ho hHeld
  refine hK.out _ _ hH2 (fun hHeld => ?_)
  clear hK K hH2
  try simp only [Act.put, List.setIfInBounds_toArray, List.set_cons_zero, List.set_cons_succ]
  refine one_ready 6 rfl (by kernel_rfl) (fun K hK => ?_)
  go_simp
  refine (same_told A6 A2 n2 c6 c2 (M.es.map evI) (M.es.map evI) _ (by rw [List.length_map]; exact HN.out) rfl HT6.out (HV2.out.only hHeld).i (by have := HL.out; omega)).mono ?_
  rintro e w7 ⟨rfl, ho⟩
  have hH2 := hHeld.trans ho
  clear ho hHeld
  refine hK.out _ _ hH2 (fun hHeld => ?_)
  clear hK K hH2
  try simp only [Act.put, List.setIfInBounds_toArray, List.set_cons_zero, List.set_cons_succ]
  refine wpAnyH_take (i := 7) (oi := ⟨some 14, _, _, _, _, _⟩) (v := .bool false) rfl (by kernel_rfl) (by kernel_rfl) (by kernel_rfl) (fun _ _ _ h => h) (Or.inl ⟨by rfl, fun w' hw => by have h1 := (C1.out w' hw).1; have h2 := (C1.out w' hw).2; go_simp⟩) hHeld ?_
  try simp only [Act.put, List.setIfInBounds_toArray, List.set_cons_zero, List.set_cons_succ]
  refine wpAnyH_take (i := 8) (oi := ⟨some 15, _, _, _, _, _⟩) (v := .bool false) rfl (by kernel_rfl) (by kernel_rfl) (by kernel_rfl) (fun _ _ _ h => h) (Or.inl ⟨by rfl, fun w' hw => by have h1 := (C1.out w' hw).1; have h2 := (C1.out w' hw).2; go_simp⟩) hHeld ?_
  try simp only [Act.put, List.setIfInBounds_toArray, List.set_cons_zero, List.set_cons_succ]
  refine wpAnyH_take (i := 9) (oi := ⟨some 16, _, _, _, _, _⟩) (v := .pointer (some ⟨p, 0, none⟩)) rfl (by kernel_rfl) (by kernel_rfl) (by kernel_rfl) (fun _ _ _ h => h) (Or.inl ⟨by rfl, fun w' hw => by have h1 := (C1.out w' hw).1; have h2 := (C1.out w' hw).2; go_simp⟩) hHeld ?_
  try simp only [Act.put, List.setIfInBounds_toArray, List.set_cons_zero, List.set_cons_succ]
  refine wpAnyH_take (i := 11) (oi := ⟨some 18, _, _, _, _, _⟩) (v := .pointer (some ⟨q, 0, none⟩)) rfl (by kernel_rfl) (by kernel_rfl) (by kernel_rfl) (fun _ _ _ h => h) (Or.inl ⟨by rfl, fun w' hw => by have h1 := (C1.out w' hw).1; have h2 := (C1.out w' hw).2; go_simp⟩) hHeld ?_
  try simp only [Act.put, List.setIfInBounds_toArray, List.set_cons_zero, List.set_cons_succ]
  refine wpAnyH_take (i := 12) (oi := ⟨some 19, _, _, _, _, _⟩) (v := .pointer (some ⟨q, 0, none⟩)) rfl (by kernel_rfl) (by kernel_rfl) (by kernel_rfl) (fun _ _ _ h => h) (Or.inl ⟨by rfl, fun w' hw => by have h1 := (C1.out w' hw).1; have h2 := (C1.out w' hw).2; go_simp⟩) hHeld ?_
  try simp only [Act.put, List.setIfInBounds_toArray, List.set_cons_zero, List.set_cons_succ]
  refine wpAnyH_take (i := 13) (oi := ⟨some 20, _, _, _, _, _⟩) (v := .pointer (some ⟨q, 2, none⟩)) rfl (by kernel_rfl) (by kernel_rfl) (by kernel_rfl) (fun _ _ _ h => h) (Or.inl ⟨by rfl, fun w' hw => by have h1 := (C1.out w' hw).1; have h2 := (C1.out w' hw).2; go_simp⟩) hHeld ?_
  try simp only [Act.put, List.setIfInBounds_toArray, List.set_cons_zero, List.set_cons_succ]
  refine wpAnyH_take (i := 14) (oi := ⟨some 21, _, _, _, _, _⟩) (v := .bool bf) rfl (by kernel_rfl) (by kernel_rfl) (by kernel_rfl) (fun _ _ _ h => h) (Or.inl ⟨by rfl, fun w' hw => by have h1 := (C1.out w' hw).1; have h2 := (C1.out w' hw).2; go_simp⟩) hHeld ?_
  try simp only [Act.put, List.setIfInBounds_toArray, List.set_cons_zero, List.set_cons_succ]
  refine one_ready 10 rfl (by kernel_rfl) (fun K hK => ?_)
  go_simp
  refine (own_fault _ p M _ (HM.out.left.none hHeld)).mono ?_
  rintro e w8 ⟨rfl, rfl⟩
  rw [HBF.out]
  refine hK.out _ _ hHeld (fun hHeld => ?_)
  clear hK K
  try simp only [Act.put, List.setIfInBounds_toArray, List.set_cons_zero, List.set_cons_succ]
  refine wpAnyH_take (i := 15) (oi := ⟨some 22, _, _, _, _, _⟩) (v := .bool false) rfl (by kernel_rfl) (by kernel_rfl) (by kernel_rfl) (fun _ _ _ h => h) (Or.inl ⟨by rfl, fun w' hw => by have h1 := (C1.out w' hw).1; have h2 := (C1.out w' hw).2; cases bf <;> go_simp⟩) hHeld ?_
  try simp only [Act.put, List.setIfInBounds_toArray, List.set_cons_zero, List.set_cons_succ]
  refine wpAnyH_take (i := 16) (oi := ⟨some 23, _, _, _, _, _⟩) (v := .bool false) rfl (by kernel_rfl) (by kernel_rfl) (by kernel_rfl) (fun _ _ _ h => h) (Or.inl ⟨by rfl, fun w' hw => by have h1 := (C1.out w' hw).1; have h2 := (C1.out w' hw).2; go_simp⟩) hHeld ?_
  try simp only [Act.put, List.setIfInBounds_toArray, List.set_cons_zero, List.set_cons_succ]
  have R8 : Hid (AlikeAt w X p q M 0 w7) := by
    obtain ⟨N, h1, h2, h3⟩ := R0.out
    exact ⟨N, h1.none hHeld, h2.trans (Kept.of_none hHeld), h3⟩
  refine wpAnyH_done (by kernel_rfl) ?_ _
  have HNN := Lib.hid HN.out
  clear hHeld R0 HT6 HV2 C1 HM HN HBF
  go_wp2_with fail
  go_loopw [5] (fun v wr => ∃ r : Nat, v = .int .i64 r ∧ r ≤ M.k ∧ AlikeAt w X p q M (r * 4096) wr) (fun v _ => M.k - (intOf v).toNat)
  case atStart => exact ⟨0, rfl, Nat.zero_le _, by rw [Nat.zero_mul]; exact R8.out⟩
  case round =>
    obtain ⟨r, rfl, hr, N, hD, hK, hNk, hNs, hNl⟩ := hrel
    have HD := Lib.hid hD
    have HK := Lib.hid hK
    clear hD hK R8
    obtain ⟨g, gc, bl, q0, hrow, _, _⟩ := mix_rows HD.out
    rw [hNk] at q0
    have hk16 := HFW.out.1
    by_cases hlt : r < M.k
    · obtain ⟨w9, h9⟩ : ∃ x, x = wr := ⟨_, rfl⟩
      subst h9
      have hs := HFW.out.2 r hlt
      have R9 : Hid (AlikeAt w X p q M (r * 4096 + 0) w9) := ⟨N, HD.out, HK.out, hNk, hNs, hNl⟩
      obtain ⟨s, hs9⟩ : ∃ s, M.sz r = s := ⟨_, rfl⟩
      rw [hs9] at hs
      have HS9 := Lib.hid hs9
      clear hs9 hNl hrow
      go_wp2_with fail
      clear q0
      go_loopw [6] (fun v wr => ∃ i : Nat, v = .int .i64 i ∧ i ≤ s ∧ AlikeAt w X p q M (r * 4096 + i) wr) (fun v _ => s - (intOf v).toNat)
      case atStart => exact ⟨0, rfl, Nat.zero_le _, R9.out⟩
      case round =>
        obtain ⟨i, rfl, hi, N', hD', hK', hNk', hNs', hNl'⟩ := hrel
        have HD' := Lib.hid hD'
        have HK' := Lib.hid hK'
        clear hD' hK' R9 HD HK
        obtain ⟨g', gc', bl', q0, hrow, _, _⟩ := mix_rows HD'.out
        have q0r := hrow r (by rw [hNk']; exact hlt)
        rw [hNk'] at q0
        rw [hNs', HS9.out] at q0r
        clear hrow
        by_cases hlt2 : i < s
        · obtain ⟨f, hf⟩ : ∃ f, N'.cell (r : Int) (i : Int) = f := ⟨_, rfl⟩
          obtain ⟨N2, hN2⟩ : ∃ K, N'.read (r : Int) (i : Int) = K := ⟨_, rfl⟩
          have hrs := read_same N' (r : Int) (i : Int)
          have hrl := len_read N' (r : Int) (i : Int)
          rw [hN2] at hrs hrl
          have HF := Lib.hid hf
          have HN2 := Lib.hid hN2
          have hq := neq_cell f f
          rw [ceq_self, Bool.not_true] at hq
          have hbd : N'.es.length < 1000000000 := by have h1 := HL.out; have h2 := HNN.out; omega
          have HBD := Lib.hid hbd
          clear hf hN2 hbd
          go_wp2_with fail
          refine (mix_read _ p q N' N' _ (r : Int) (i : Int) HD'.out HBD.out).mono ?_
          rw [HF.out, HN2.out]
          rintro e w10 ⟨rfl, hd, hk⟩
          have HD10 := Lib.hid hd
          have HK10 := Lib.hid (HK'.out.trans hk)
          clear hd hk HD' HK'
          go_wp2_with fail
          refine (mix_rread _ p q N2 N' _ (r : Int) (i : Int) HD10.out HBD.out).mono ?_
          rw [HF.out, HN2.out]
          rintro e w11 ⟨rfl, hd, hk⟩
          have HE : Hid (AlikeAt w X p q M (r * 4096 + (i + 1)) w11) := ⟨N2, hd, HK10.out.trans hk, hrs.1.trans hNk', hrs.2.trans hNs', by omega⟩
          clear hd hk HD10 HK10
          go_wp2_with fail
          go_roundw
          case rel => exact ⟨i + 1, by go_num, by omega, HE.out⟩
          case measure => simp [intOf]; omega
        · obtain rfl : i = s := by omega
          have HE : Hid (AlikeAt w X p q M ((r + 1) * 4096) wr) := ⟨N', HD'.out, HK'.out, hNk', hNs', by omega⟩
          clear HD' HK'
          go_wp2_with fail
          go_roundw
          case rel => exact ⟨r + 1, by go_num, by omega, HE.out⟩
          case measure => simp [intOf]; omega
    · go_wp2_with fail
      go_ret
      exact ⟨rfl, HK.out⟩
end Go.Proofs.Ytgppediikggogaa
