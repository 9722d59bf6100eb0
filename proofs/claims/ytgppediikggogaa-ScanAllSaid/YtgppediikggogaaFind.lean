/- scan.Find: the first cell with a word, all cells looked at; of the caller's own blocks nothing turns. Conditions: all words are words of 64 bits, fewer than a thousand million events. -/
import Derived.Test.YtgppediikggogaaHolds
import Derived.Test.YtgppediikggogaaScanMath
namespace Go.Proofs.Ytgppediikggogaa
open Go.RowKit Go.ChangeShapes Go.WideShapes Go.ChangeAt

/-- Which cells of a row hold the word. -/
def hs (key n : Int) (C : Nat → Nat → Int) (i : Nat) : Bool := hw key n (C i) 12
/-- Between two looks of Find. -/
structure FindAt (w : World) (X : Nat → Prop) (p : Nat) (M : MS) (r : Nat) (key n : Int) (i : Nat) (wr : World) : Prop where
  own : Own wr (plus2 X w.heap.size) p (M.looked r i)
  kept : Kept X w wr
  res : Var wr w.heap.size (fun _ => 0)
  got : Var wr (w.heap.size + 1) (fnd (hs key n (M.c r)) (M.c r) i).2.1
/-- What Find tells. -/
def fndV (key n : Int) (C : Nat → Nat → Int) (s : Nat) : Value := .tuple #[.int .u64 ((fnd (hs key n C) C s).1 : Int), .agg (CA (fnd (hs key n C) C s).2.1), .int .u64 (msk (fnd (hs key n C) C s).2.2)]
set_option linter.unusedSimpArgs false in
set_option maxRecDepth 100000 in
set_option maxHeartbeats 1000000 in
theorem find_any (X : Nat → Prop) (p : Nat) (M : MS) (r key n : Int) (w : World) (h : Own w X p M) (hwd : M.wd) (h1 : -9223372036854775808 ≤ key) (h2 : key ≤ 9223372036854775807) (n0 : 0 ≤ n) (n1 : n ≤ 18446744073709551615) (hl : M.es.length + M.size r < 1000000000) :
    Calls Try.prog 15 #[.pointer (some ⟨p, 0, none⟩), .int .i64 r, .int .i64 key, .int .u64 n] w (OwnPost w X p (M.looked r.toNat (M.size r)) (fndV key n (M.c r.toNat) (M.size r))) := by
  have HO := Lib.hid h
  have HWD := Lib.hid hwd
  obtain ⟨s, hs⟩ : ∃ s, M.size r = s := ⟨_, rfl⟩
  rw [hs] at hl ⊢
  have HS := Lib.hid hs
  have hsl : s < 1000000000 := by omega
  have HL := Lib.hid hl
  have R0 : Hid (FindAt w X p M r.toNat key n 0 ((w.alloc (.cells (CA fun _ => 0) 30)).alloc (.cells (CA fun _ => 0) 30))) := by
    refine FindAt.mk ?_ ?_ ?_ ?_
    · rw [looked_zero]; exact h.two _ _
    · exact ((Kept.refl X w).alloc _).alloc _
    · exact (Var.new w _ _).alloc _
    · have := Var.new (w.alloc (.cells (CA fun _ => 0) 30)) (fun _ => 0) 30
      exact (show Var _ (w.heap.size + 1) (fun _ => 0) by simpa using this)
  have O0 := Lib.hid (h.two (.cells (CA fun _ => 0) 30) (.cells (CA fun _ => 0) 30))
  clear h hwd hs hl
  go_enter Try.func15, Try.ntmps15
  go_wp2_with fail
  refine (own_size _ p M _ r O0.out).mono ?_
  rintro e w' ⟨rfl, rfl⟩
  rw [HS.out]
  clear O0
  go_wp2_with fail
  go_loopw [11, 12, 20] (fun v11 v12 v wr => ∃ i : Nat, v = .int .i64 i ∧ i ≤ s ∧ v11 = .int .u64 ((fnd (Proofs.Ytgppediikggogaa.hs key n (M.c r.toNat)) (M.c r.toNat) i).1 : Int) ∧ v12 = .int .u64 (msk (fnd (Proofs.Ytgppediikggogaa.hs key n (M.c r.toNat)) (M.c r.toNat) i).2.2) ∧ FindAt w X p M r.toNat key n i wr) (fun _ _ v _ => s - (intOf v).toNat)
  case atStart => exact ⟨0, rfl, Nat.zero_le _, rfl, rfl, R0.out⟩
  case round =>
    obtain ⟨i, rfl, hi, rfl, rfl, hG⟩ := hrel
    have HG := Lib.hid hG
    clear hG R0
    by_cases hlt : i < s
    · obtain ⟨q, rfl, hq, hsz⟩ := MS.size_pos (M := M) (r := r) (by rw [HS.out]; omega)
      rw [HS.out] at hsz
      simp only [Int.toNat_natCast] at HG ⊢
      have HST := Lib.hid (looked_step M q i hq (by omega))
      have HCL := Lib.hid (looked_cell M q i hq (by omega))
      have hel : (M.looked q i).es.length < 1000000000 := by have := HL.out; rw [looked_len]; omega
      have HEL := Lib.hid hel
      have hu : IntKind.u64.wrap (i : Int) = (i : Int) := by rw [IntKind.wrap_u64]; omega
      obtain ⟨P, hP⟩ : ∃ P, Proofs.Ytgppediikggogaa.hs key n (M.c q) = P := ⟨_, rfl⟩
      have hPi : hw key n (M.c q i) 12 = P i := by rw [← hP]; rfl
      have hstep := fnd_step P (M.c q) i
      have hle := fnd_lt P (M.c q) i
      have HGV := Lib.hid HG.out.got
      have HWD' := Lib.hid (fnd_wd P (M.c q) (HWD.out q) i)
      rw [hP] at HGV ⊢
      obtain ⟨A, hA⟩ : ∃ A, (fnd P (M.c q) i).1 = A := ⟨_, rfl⟩
      obtain ⟨g, hg⟩ : ∃ A, (fnd P (M.c q) i).2.1 = A := ⟨_, rfl⟩
      obtain ⟨B, hB⟩ : ∃ A, (fnd P (M.c q) i).2.2 = A := ⟨_, rfl⟩
      rw [hA, hB, hg] at hstep
      rw [hA] at hle
      rw [hg] at HGV HWD'
      rw [hA, hB]
      obtain ⟨f, hf⟩ : ∃ f, M.c q i = f := ⟨_, rfl⟩
      rw [hf] at hPi hstep HCL
      have HPI := Lib.hid hPi
      have HSTEP := Lib.hid hstep
      have HPP := Lib.hid hP
      have HW1 : Hid (Wd f) := by show Wd f; rw [← hf]; exact HWD.out _ _
      clear hel hq hsz hPi hstep hP hA hB hg hf
      go_wp2_with fail
      refine (own_read _ p _ _ (q : Int) (i : Int) HG.out.own HEL.out).mono ?_
      rw [HST.out, HCL.out]
      rintro e w3 ⟨rfl, ho, hk⟩
      have HV7 := Lib.hid ((HGV.out.kept hk (.inr (.inr rfl))).alloc (.cells (CA f) 30))
      have HV6 := Lib.hid ((HG.out.res.kept hk (.inr (.inl rfl))).alloc (.cells (CA f) 30))
      have HK4 := Lib.hid ((HG.out.kept.trans (hk.mono (fun i hi => .inl hi))).alloc (.cells (CA f) 30))
      have HO4 := Lib.hid ((ho.alloc (.cells (CA f) 30)).weak (Y := plus2 X w.heap.size) (fun i hi => .inl hi))
      have HV9 := Lib.hid (Var.new w3 f 30)
      have hs3 : w.heap.size + 1 < w3.heap.size := (HGV.out.kept hk (.inr (.inr rfl))).lt
      clear ho hk HG HGV
      go_wp2_with (first | with_reducible refine wpList_store_new rfl (.tmp 15) (.tmp 26) rfl rfl f rfl rfl ?_ | with_reducible refine wpList_load_cell rfl (.tmp 15) rfl w3.heap.size 0 rfl f HV9.out.rng ?_)
      generalize w3.alloc (.cells (CA f) 30) = w4 at *
      refine (holds_ext key n f _ h1 h2 n0 n1 HW1.out).mono ?_
      rw [HPI.out]
      rintro e w5 ⟨rfl, hx⟩
      have HV7' := Lib.hid (HV7.out.ext hx)
      have HV6' := Lib.hid (HV6.out.ext hx)
      have HV9' := Lib.hid (HV9.out.ext hx)
      have HK5 := Lib.hid (HK4.out.trans (Kept.of_none (none_of_ext hx)))
      have HO5 := Lib.hid (HO4.out.none (none_of_ext hx))
      clear HV7 HV6 HV9 HK4 HO4 hx
      have hb := andNot_mk (P i) B
      obtain ⟨D, hD⟩ : ∃ D, (P i && !B) = D := ⟨_, rfl⟩
      rw [hD] at hb HSTEP
      have hc := or_mk B D
      clear hD HPI
      go_wp2_with fail
      refine (pick_any (msk D) (i : Int) (A : Int) _).mono ?_
      rw [pk_mk D (i : Int) (A : Int) (by omega) (by omega) (by omega) (by omega)]
      obtain ⟨A', hA'⟩ : ∃ A' : Nat, (if D = true then i else A) = A' := ⟨_, rfl⟩
      have hAi : (if D = true then (i : Int) else (A : Int)) = (A' : Int) := by rw [← hA']; split <;> rfl
      rw [hA'] at HSTEP
      rw [hAi]
      clear hAi hA'
      rintro e w' ⟨rfl, rfl⟩
      go_wp2_with (first | with_reducible refine wpList_load_cell rfl (.tmp 15) rfl w3.heap.size 0 rfl f HV9'.out.rng ?_ | with_reducible refine wpList_load_cell rfl (.tmp 13) rfl (w.heap.size + 1) 0 rfl g HV7'.out.rng ?_)
      refine (pickCell_mask D f g _ HW1.out HWD'.out).mono ?_
      obtain ⟨g', hg'⟩ : ∃ g', (if D = true then f else g) = g' := ⟨_, rfl⟩
      rw [hg'] at HSTEP ⊢
      rintro e w6 ⟨rfl, hx⟩
      have HV7 := Lib.hid (HV7'.out.ext hx)
      have HV6 := Lib.hid (HV6'.out.ext hx)
      have HK6 := Lib.hid (HK5.out.trans (Kept.of_none (none_of_ext hx)))
      have HO6 := Lib.hid (HO5.out.none (none_of_ext hx))
      clear HV7' HV6' HV9' HK5 HO5 hx hg'
      obtain ⟨B', hB'⟩ : ∃ B', (B || D) = B' := ⟨_, rfl⟩
      rw [hB'] at hc HSTEP
      clear hB'
      have HE : Hid (FindAt w X p M q key n (i + 1) (w6.setCells (w.heap.size + 1) 0 (CA g').toList)) := by
        refine FindAt.mk ?_ ?_ ?_ ?_
        · exact HO6.out.setCells _ _ (.inr (.inr rfl))
        · exact HK6.out.setCells _ _ (by omega)
        · exact HV6.out.far (by omega) _
        · rw [HPP.out, HSTEP.out.2.1]; exact HV7.out.set g'
      clear HV6 HK6 HO6
      go_wp2_with (with_reducible refine wpList_store_cell rfl (.tmp 13) (.tmp 41) rfl (w.heap.size + 1) 0 rfl g' rfl HV7.out.there ?_)
      generalize w6.setCells (w.heap.size + 1) 0 (CA g').toList = w7 at *
      go_roundw
      case rel => exact ⟨i + 1, by go_num, by omega, by simp [HPP.out, HSTEP.out.1], by simp [HPP.out, HSTEP.out.2.2], by simpa using HE.out⟩
      case measure => simp [intOf]; omega
    · obtain rfl : i = s := by omega
      obtain ⟨A, hA⟩ : ∃ A, (fnd (Proofs.Ytgppediikggogaa.hs key n (M.c r.toNat)) (M.c r.toNat) i).1 = A := ⟨_, rfl⟩
      obtain ⟨g, hg⟩ : ∃ A, (fnd (Proofs.Ytgppediikggogaa.hs key n (M.c r.toNat)) (M.c r.toNat) i).2.1 = A := ⟨_, rfl⟩
      obtain ⟨B, hB⟩ : ∃ A, (fnd (Proofs.Ytgppediikggogaa.hs key n (M.c r.toNat)) (M.c r.toNat) i).2.2 = A := ⟨_, rfl⟩
      have hfv : fndV key n (M.c r.toNat) i = .tuple #[.int .u64 (A : Int), .agg (CA g), .int .u64 (msk B)] := by unfold fndV; rw [hA, hg, hB]
      rw [hA, hB]
      have HFV := Lib.hid hfv
      have HE : Hid (Own (wr.drew.setCells w.heap.size 0 (CA g).toList) X p (M.looked r.toNat i) ∧ Kept X w (wr.drew.setCells w.heap.size 0 (CA g).toList)) :=
        ⟨((HG.out.own.drewN 1).setCells w.heap.size _ (.inr (.inl rfl))).weak (fun i hi => .inl hi), (HG.out.kept.drewN 1).setCells _ _ (Nat.le_refl _)⟩
      have HV := Lib.hid (HG.out.res.drew.set g)
      have HV6 := Lib.hid HG.out.res
      have V7 := HG.out.got
      rw [hg] at V7
      have HV7 := Lib.hid V7
      clear HG V7 hfv hA hg hB
      go_wp2_with fail
      refine held_S (S := fun w' => Var w' (w.heap.size + 1) g) 6 rfl (by kernel_rfl) HV7.out.drew (fun hHeld => ?_)
      simp only [Array.replicate_succ, Array.replicate_zero, List.push_toArray, List.nil_append, List.cons_append]
      refine wpAnyH_take (i := 0) (oi := ⟨some 46, _, _, _, _, _⟩) (v := .int .u64 (A : Int)) rfl (by kernel_rfl) (by kernel_rfl) (by kernel_rfl) (fun _ _ _ h => h) (Or.inl ⟨by rfl, fun w' hw => by go_simp⟩) hHeld ?_
      try simp only [Act.put, List.setIfInBounds_toArray, List.set_cons_zero, List.set_cons_succ]
      refine wpAnyH_take (i := 2) (oi := ⟨some 48, _, _, _, _, _⟩) (v := .int .u64 (msk B)) rfl (by kernel_rfl) (by kernel_rfl) (by kernel_rfl) (fun _ _ _ h => h) (Or.inl ⟨by rfl, fun w' hw => by go_simp⟩) hHeld ?_
      try simp only [Act.put, List.setIfInBounds_toArray, List.set_cons_zero, List.set_cons_succ]
      refine take_row 1 (oi := ⟨some 47, _, _, _, _, _⟩) (CA g).toList rfl (by kernel_rfl) (by kernel_rfl) (by kernel_rfl) (fun _ _ _ h => h) (by rfl) _ _ rfl _ _ rfl _ (fun _ h => h.rng) Try.underlying30 rfl (infoCellL g) hHeld ?_
      try simp only [Act.put, List.setIfInBounds_toArray, List.set_cons_zero, List.set_cons_succ]
      refine one_ready 3 rfl (by kernel_rfl) (fun K hK => ?_)
      go_simp
      refine hK.out _ _ hHeld (fun hHeld => ?_)
      clear hK K
      try simp only [Act.put, List.setIfInBounds_toArray, List.set_cons_zero, List.set_cons_succ]
      refine one_ready 4 (o := ⟨none, .store 30 (.tmp 9) (.tmp 47), _, _, _, _⟩) rfl (by kernel_rfl) (fun K hK => ?_)
      refine step_store_cell rfl (.tmp 9) (.tmp 47) rfl w.heap.size 0 rfl g rfl HV6.out.drew.there ?_
      have h6 := hHeld.far (c := w.heap.size) (by omega) (CA g).toList
      generalize wr.drew.setCells w.heap.size 0 (CA g).toList = w6 at *
      refine hK.out _ _ h6 (fun hHeld => ?_)
      clear hK K h6
      try simp only [Act.put, List.setIfInBounds_toArray, List.set_cons_zero, List.set_cons_succ]
      refine one_ready 5 rfl (by kernel_rfl) (fun K hK => ?_)
      go_simp
      refine hK.out _ _ hHeld (fun hHeld => ?_)
      clear hK K
      refine wpAnyH_done (by kernel_rfl) ?_ _
      go_wp2_with fail
      exact bodyPost_ret (v := .tuple #[.int .u64 (A : Int), .agg (CA g), .int .u64 (msk B)]) (results_three Try.results15 rfl rfl rfl HV.out.load) rfl ⟨by rw [HFV.out], HE.out.1, HE.out.2⟩
end Go.Proofs.Ytgppediikggogaa
