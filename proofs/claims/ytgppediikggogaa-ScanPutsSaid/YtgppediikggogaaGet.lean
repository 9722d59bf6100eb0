/- scan.Get: the cell at a place, all cells looked at; of the caller's own blocks nothing turns. Conditions: all words are words of 64 bits, fewer than a thousand million events. -/
import Derived.Test.YtgppediikggogaaVar
import Derived.Test.YtgppediikggogaaScanMath
namespace Go.Proofs.Ytgppediikggogaa
open Go.RowKit Go.ChangeShapes Go.WideShapes Go.ChangeAt

/-- Between two looks of Get. -/
structure GetAt (w : World) (X : Nat → Prop) (p : Nat) (M : MS) (r : Nat) (a : Int) (i : Nat) (wr : World) : Prop where
  own : Own wr (plus2 X w.heap.size) p (M.looked r i)
  kept : Kept X w wr
  res : Var wr w.heap.size (fun _ => 0)
  got : Var wr (w.heap.size + 1) (gt a (M.c r) i)
set_option linter.unusedSimpArgs false in
set_option maxRecDepth 100000 in
set_option maxHeartbeats 1000000 in
theorem get_any (X : Nat → Prop) (p : Nat) (M : MS) (r a : Int) (w : World) (h : Own w X p M) (hwd : M.wd) (a0 : 0 ≤ a) (a1 : a ≤ 18446744073709551615) (hl : M.es.length + M.size r < 1000000000) :
    Calls Try.prog 10 #[.pointer (some ⟨p, 0, none⟩), .int .i64 r, .int .u64 a] w (OwnPost w X p (M.looked r.toNat (M.size r)) (.agg (CA (gt a (M.c r.toNat) (M.size r))))) := by
  have HO := Lib.hid h
  have HWD := Lib.hid hwd
  obtain ⟨s, hs⟩ : ∃ s, M.size r = s := ⟨_, rfl⟩
  rw [hs] at hl ⊢
  have HS := Lib.hid hs
  have hsl : s < 1000000000 := by omega
  have HL := Lib.hid hl
  have R0 : Hid (GetAt w X p M r.toNat a 0 ((w.alloc (.cells (CA fun _ => 0) 30)).alloc (.cells (CA fun _ => 0) 30))) := by
    refine GetAt.mk ?_ ?_ ?_ ?_
    · rw [looked_zero]; exact h.two _ _
    · exact ((Kept.refl X w).alloc _).alloc _
    · exact (Var.new w _ _).alloc _
    · rw [gt_zero a _ a0]
      have := Var.new (w.alloc (.cells (CA fun _ => 0) 30)) (fun _ => 0) 30
      simpa using this
  have HX : Hid (∀ i, X i → i < w.heap.size) := by obtain ⟨_, _, _, hx⟩ := h; exact hx
  have O0 := Lib.hid (h.two (.cells (CA fun _ => 0) 30) (.cells (CA fun _ => 0) 30))
  clear h hwd hs hl
  go_enter Try.func10, Try.ntmps10
  go_wp2_with fail
  refine (own_size _ p M _ r O0.out).mono ?_
  rintro e w' ⟨rfl, rfl⟩
  rw [HS.out]
  clear O0
  go_wp2_with fail
  go_loopw [13] (fun v wr => ∃ i : Nat, v = .int .i64 i ∧ i ≤ s ∧ GetAt w X p M r.toNat a i wr) (fun v _ => s - (intOf v).toNat)
  case atStart => exact ⟨0, rfl, Nat.zero_le _, R0.out⟩
  case round =>
    obtain ⟨i, rfl, hi, hG⟩ := hrel
    have HG := Lib.hid hG
    clear hG R0
    by_cases hlt : i < s
    · obtain ⟨q, rfl, hq, hsz⟩ := MS.size_pos (M := M) (r := r) (by rw [HS.out]; omega)
      rw [HS.out] at hsz
      simp only [Int.toNat_natCast] at HG
      have HST := Lib.hid (looked_step M q i hq (by omega))
      have HCL := Lib.hid (looked_cell M q i hq (by omega))
      have hel : (M.looked q i).es.length < 1000000000 := by have := HL.out; rw [looked_len]; omega
      have HEL := Lib.hid hel
      have hu : IntKind.u64.wrap (i : Int) = (i : Int) := by rw [IntKind.wrap_u64]; omega
      clear hel hq hsz
      go_wp2_with fail
      refine (own_read _ p _ _ (q : Int) (i : Int) HG.out.own HEL.out).mono ?_
      rw [HST.out, HCL.out]
      rintro e w3 ⟨rfl, ho, hk⟩
      obtain ⟨f, hf⟩ : ∃ f, M.c q i = f := ⟨_, rfl⟩
      obtain ⟨g, hg⟩ : ∃ g, gt a (M.c q) i = g := ⟨_, rfl⟩
      obtain ⟨g', hg'⟩ : ∃ g, gt a (M.c q) (i + 1) = g := ⟨_, rfl⟩
      have HW1 : Hid (Wd f) := by show Wd f; rw [← hf]; exact HWD.out _ _
      have HW2 : Hid (Wd g) := by show Wd g; rw [← hg]; exact gt_wd (HWD.out _)
      have HGS : Hid ((if decide ((i : Int) = a) = true then f else g) = g') := by
        show _ = _
        rw [← hf, ← hg, ← hg']; exact gt_step a (M.c q) i
      have V7 := HG.out.got
      rw [hg] at V7
      have HV7 := Lib.hid ((V7.kept hk (.inr (.inr rfl))).alloc (.cells (CA f) 30))
      have HV6 := Lib.hid ((HG.out.res.kept hk (.inr (.inl rfl))).alloc (.cells (CA f) 30))
      have HK4 := Lib.hid ((HG.out.kept.trans (hk.mono (fun i hi => .inl hi))).alloc (.cells (CA f) 30))
      have HO4 := Lib.hid ((ho.alloc (.cells (CA f) 30)).weak (Y := plus2 X w.heap.size) (fun i hi => .inl hi))
      have HV9 := Lib.hid (Var.new w3 f 30)
      have hs3 : w.heap.size + 1 < w3.heap.size := (V7.kept hk (.inr (.inr rfl))).lt
      rw [hf]
      clear V7 ho hk HG
      go_wp2_with (with_reducible refine wpList_store_new rfl (.tmp 9) (.tmp 19) rfl rfl f rfl rfl ?_)
      generalize w3.alloc (.cells (CA f) 30) = w4 at *
      refine held_S (S := fun w' => Var w' w3.heap.size f) 8 rfl (by kernel_rfl) HV9.out.drew (fun hHeld => ?_)
      simp only [Array.replicate_succ, Array.replicate_zero, List.push_toArray, List.nil_append, List.cons_append]
      refine wpAnyH_take (i := 0) (oi := ⟨some 20, _, _, _, _, _⟩) (v := .int .i64 (i : Int)) rfl (by kernel_rfl) (by kernel_rfl) (by kernel_rfl) (fun _ _ _ h => h) (Or.inl ⟨by rfl, fun w' hw => by go_simp⟩) hHeld ?_
      try simp only [Act.put, List.setIfInBounds_toArray, List.set_cons_zero, List.set_cons_succ]
      refine wpAnyH_take (i := 1) (oi := ⟨some 21, _, _, _, _, _⟩) (v := .int .u64 (i : Int)) rfl (by kernel_rfl) (by kernel_rfl) (by kernel_rfl) (fun _ _ _ h => h) (Or.inl ⟨by rfl, fun w' hw => by go_simp⟩) hHeld ?_
      try simp only [Act.put, List.setIfInBounds_toArray, List.set_cons_zero, List.set_cons_succ]
      refine wpAnyH_take (i := 2) (oi := ⟨some 22, _, _, _, _, _⟩) (v := .int .u64 a) rfl (by kernel_rfl) (by kernel_rfl) (by kernel_rfl) (fun _ _ _ h => h) (Or.inl ⟨by rfl, fun w' hw => by go_simp⟩) hHeld ?_
      try simp only [Act.put, List.setIfInBounds_toArray, List.set_cons_zero, List.set_cons_succ]
      refine take_row 4 (oi := ⟨some 24, _, _, _, _, _⟩) (CA f).toList rfl (by kernel_rfl) (by kernel_rfl) (by kernel_rfl) (fun _ _ _ h => h) (by rfl) _ _ rfl _ _ rfl _ (fun _ h => h.rng) Try.underlying30 rfl (infoCellL f) hHeld ?_
      try simp only [Act.put, List.setIfInBounds_toArray, List.set_cons_zero, List.set_cons_succ]
      refine via ?R ?both ?rest
      case both =>
        intro hR
        refine wpAnyH_ready (rs := [3, 5]) (by kernel_rfl) (by simp) (AllReadyH.cons rfl (fun K hK => ?_) (AllReadyH.cons (o := ⟨some 25, .load 30 (.tmp 7), _, _, _, _⟩) rfl (fun K hK => ?_) AllReadyH.nil))
        · go_simp
          refine (equal_any (i : Int) a _ (by omega) (by omega) a0 a1).mono ?_
          rintro e w5 ⟨rfl, rfl⟩
          refine hK.out _ _ hHeld (fun hHeld => ?_)
          clear hK K
          try simp only [Act.put, List.setIfInBounds_toArray, List.set_cons_zero, List.set_cons_succ]
          refine one_ready 5 (o := ⟨some 25, .load 30 (.tmp 7), _, _, _, _⟩) rfl (by kernel_rfl) (fun K hK => ?_)
          refine step_load_cell rfl (.tmp 7) rfl (w.heap.size + 1) 0 rfl g HV7.out.drew.rng ?_
          refine hK.out _ _ hHeld (fun hHeld => ?_)
          clear hK K
          try simp only [Act.put, List.setIfInBounds_toArray, List.set_cons_zero, List.set_cons_succ]
          exact hR.out
        · refine step_load_cell rfl (.tmp 7) rfl (w.heap.size + 1) 0 rfl g HV7.out.drew.rng ?_
          refine hK.out _ _ hHeld (fun hHeld => ?_)
          clear hK K
          try simp only [Act.put, List.setIfInBounds_toArray, List.set_cons_zero, List.set_cons_succ]
          refine one_ready 3 rfl (by kernel_rfl) (fun K hK => ?_)
          go_simp
          refine (equal_any (i : Int) a _ (by omega) (by omega) a0 a1).mono ?_
          rintro e w5 ⟨rfl, rfl⟩
          refine hK.out _ _ hHeld (fun hHeld => ?_)
          clear hK K
          try simp only [Act.put, List.setIfInBounds_toArray, List.set_cons_zero, List.set_cons_succ]
          exact hR.out
      case rest =>
        refine one_ready 6 rfl (by kernel_rfl) (fun K hK => ?_)
        go_simp
        rw [me_mk]
        refine (pickCell_mask (decide ((i : Int) = a)) f g _ HW1.out HW2.out).mono ?_
        rw [HGS.out]
        rintro e w5 ⟨rfl, hx⟩
        have HV7' := Lib.hid (HV7.out.drew.ext hx)
        have HV6' := Lib.hid (HV6.out.drew.ext hx)
        have HK5 := Lib.hid ((HK4.out.drewN 1).trans (Kept.of_none (none_of_ext hx)))
        have HO5 := Lib.hid ((HO4.out.drewN 1).none (none_of_ext hx))
        have hH5 := hHeld.ext hx
        clear HV7 HV6 HK4 HO4 hx
        refine hK.out _ _ hH5 (fun hHeld => ?_)
        clear hK K hH5
        try simp only [Act.put, List.setIfInBounds_toArray, List.set_cons_zero, List.set_cons_succ]
        refine one_ready 7 (o := ⟨none, .store 30 (.tmp 7) (.tmp 26), _, _, _, _⟩) rfl (by kernel_rfl) (fun K hK => ?_)
        refine step_store_cell rfl (.tmp 7) (.tmp 26) rfl (w.heap.size + 1) 0 rfl g' rfl HV7'.out.there ?_
        have HE : Hid (GetAt w X p M q a (i + 1) (w5.setCells (w.heap.size + 1) 0 (CA g').toList)) := by
          refine GetAt.mk ?_ ?_ ?_ ?_
          · exact HO5.out.setCells _ _ (.inr (.inr rfl))
          · exact HK5.out.setCells _ _ (by omega)
          · exact HV6'.out.far (by omega) _
          · rw [hg']; exact HV7'.out.set g'
        have h6 := hHeld.far (c := w.heap.size + 1) (by omega) (CA g').toList
        generalize w5.setCells (w.heap.size + 1) 0 (CA g').toList = w6 at *
        clear HV7' HV6' HK5 HO5
        refine hK.out _ _ h6 (fun hHeld => ?_)
        clear hK K h6 hHeld
        refine wpAnyH_done (by kernel_rfl) ?_ _
        go_wp2_with fail
        go_roundw
        case rel => exact ⟨i + 1, by go_num, by omega, by simpa using HE.out⟩
        case measure => simp [intOf]; omega
    · obtain rfl : i = s := by omega
      have HR := HG.out.got
      have HE : Hid (OwnPost w X p (M.looked r.toNat i) (.agg (CA (gt a (M.c r.toNat) i))) (.returned (.agg (CA (gt a (M.c r.toNat) i)))) (wr.setCells w.heap.size 0 (CA (gt a (M.c r.toNat) i)).toList)) :=
        ⟨rfl, (HG.out.own.setCells w.heap.size _ (.inr (.inl rfl))).weak (fun i hi => .inl hi), HG.out.kept.setCells _ _ (Nat.le_refl _)⟩
      have HV := Lib.hid (HG.out.res.set (gt a (M.c r.toNat) i))
      have HV6 := Lib.hid HG.out.res
      have HV7 := Lib.hid HG.out.got
      clear HG HR
      generalize gt a (M.c r.toNat) i = g at *
      go_wp2_with (first | with_reducible refine wpList_load_cell rfl (.tmp 7) rfl (w.heap.size + 1) 0 rfl g HV7.out.rng ?_ | with_reducible refine wpList_store_cell rfl (.tmp 6) (.tmp 28) rfl w.heap.size 0 rfl g rfl HV6.out.there ?_)
      exact bodyPost_ret (v := .agg (CA g)) (results_one Try.results10 rfl HV.out.load) rfl HE.out
end Go.Proofs.Ytgppediikggogaa
