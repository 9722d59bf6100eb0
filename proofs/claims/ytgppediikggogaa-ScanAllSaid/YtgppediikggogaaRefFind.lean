/- The document's Find and Count: as the program's. Conditions: fewer than a thousand million events. -/
import Derived.Test.YtgppediikggogaaRefGet
import Derived.Test.YtgppediikggogaaCount
namespace Go.Proofs.Ytgppediikggogaa
open Go.RowKit Go.ChangeShapes Go.WideShapes Go.ChangeAt

theorem hw_low {key n : Int} {f : Nat → Int} (h : key < 0) : hw key n f 12 = false := decide_eq_false (fun k => by omega)
theorem hw_high {key n : Int} {f : Nat → Int} (h : 12 ≤ key) : hw key n f 12 = false := decide_eq_false (fun k => by omega)
theorem hw_nat {κ : Nat} {n : Int} {f : Nat → Int} (h : κ < 12) : hw (κ : Int) n f 12 = decide (f κ = n) := by
  unfold hw
  by_cases e : f κ = n
  · rw [decide_eq_true e]; exact decide_eq_true ⟨by omega, by omega, by simpa using e⟩
  · rw [decide_eq_false e]; exact decide_eq_false (fun k => e (by simpa using k.2.2))
theorem fnd_no (P : Nat → Bool) (C : Nat → Nat → Int) (i : Nat) (h : P i = false ∨ (fnd P C i).2.2 = true) : fnd P C (i + 1) = fnd P C i := by
  rw [fnd_succ]
  exact if_neg (fun k => by rcases h with h | h <;> simp [h] at k)
theorem fnd_yes (P : Nat → Bool) (C : Nat → Nat → Int) (i : Nat) (h : P i = true) (hb : (fnd P C i).2.2 = false) : fnd P C (i + 1) = (i, C i, true) := by
  rw [fnd_succ]; exact if_pos ⟨hb, h⟩
/-- Between two looks of the document's Find. -/
structure RFindAt (w : World) (X : Nat → Prop) (p : Nat) (M : MS) (d : Nat) (N : MS) (r : Nat) (key n : Int) (i : Nat) (wr : World) : Prop where
  mix : Mix wr (plus2 X w.heap.size) p M d (N.looked r i)
  kept : Kept X w wr
  res : Var wr w.heap.size (fun _ => 0)
  got : Var wr (w.heap.size + 1) (fnd (hs key n (N.c r)) (N.c r) i).2.1
set_option linter.unusedSimpArgs false in
set_option maxRecDepth 100000 in
set_option maxHeartbeats 1000000 in
theorem rfind_any (X : Nat → Prop) (p : Nat) (M : MS) (d : Nat) (N : MS) (r key n : Int) (w : World) (h : Mix w X p M d N) (hl : N.es.length + N.size r < 1000000000) :
    Calls Try.prog 16 #[.pointer (some ⟨d, 0, none⟩), .int .i64 r, .int .i64 key, .int .u64 n] w (MixPost w X p M d (N.looked r.toNat (N.size r)) (fndV key n (N.c r.toNat) (N.size r))) := by
  obtain ⟨s, hs⟩ : ∃ s, N.size r = s := ⟨_, rfl⟩
  rw [hs] at hl ⊢
  have HS := Lib.hid hs
  have hsl : s < 1000000000 := by omega
  have HL := Lib.hid hl
  have R0 : Hid (RFindAt w X p M d N r.toNat key n 0 ((w.alloc (.cells (CA fun _ => 0) 30)).alloc (.cells (CA fun _ => 0) 30))) := by
    refine RFindAt.mk ?_ ?_ ?_ ?_
    · rw [looked_zero]; exact h.two _ _
    · exact ((Kept.refl X w).alloc _).alloc _
    · exact (Var.new w _ _).alloc _
    · have := Var.new (w.alloc (.cells (CA fun _ => 0) 30)) (fun _ => 0) 30
      exact (show Var _ (w.heap.size + 1) (fun _ => 0) by simpa using this)
  clear h hs hl
  go_enter Try.func16, Try.ntmps16
  go_wp2_with fail
  go_loopw [11, 12, 14] (fun v11 v12 v wr => ∃ i : Nat, v = .int .i64 i ∧ i ≤ s ∧ v11 = .int .u64 ((fnd (Proofs.Ytgppediikggogaa.hs key n (N.c r.toNat)) (N.c r.toNat) i).1 : Int) ∧ v12 = .int .u64 (msk (fnd (Proofs.Ytgppediikggogaa.hs key n (N.c r.toNat)) (N.c r.toNat) i).2.2) ∧ RFindAt w X p M d N r.toNat key n i wr) (fun _ _ v _ => s - (intOf v).toNat)
  case atStart => exact ⟨0, rfl, Nat.zero_le _, rfl, rfl, R0.out⟩
  case round =>
    obtain ⟨i, rfl, hi, rfl, rfl, hG⟩ := hrel
    have HG := Lib.hid hG
    clear hG R0
    go_wp2_with fail
    refine (mix_rsize _ p d M _ _ r HG.out.mix).mono ?_
    rintro e w' ⟨rfl, rfl⟩
    rw [looked_size, HS.out]
    by_cases hlt : i < s
    · obtain ⟨q, rfl, hq, hsz⟩ := MS.size_pos (M := N) (r := r) (by rw [HS.out]; omega)
      rw [HS.out] at hsz
      simp only [Int.toNat_natCast] at HG ⊢
      have HST := Lib.hid (looked_step N q i hq (by omega))
      have HCL := Lib.hid (looked_cell N q i hq (by omega))
      have hel : (N.looked q i).es.length < 1000000000 := by have := HL.out; rw [looked_len]; omega
      have HEL := Lib.hid hel
      have hu : IntKind.u64.wrap (i : Int) = (i : Int) := by rw [IntKind.wrap_u64]; omega
      obtain ⟨P, hP⟩ : ∃ P, Proofs.Ytgppediikggogaa.hs key n (N.c q) = P := ⟨_, rfl⟩
      have hPi : hw key n (N.c q i) 12 = P i := by rw [← hP]; rfl
      have hno := fnd_no P (N.c q) i
      have hyes := fnd_yes P (N.c q) i
      have HGV := Lib.hid HG.out.got
      rw [hP] at HGV ⊢
      obtain ⟨T, hT⟩ : ∃ T, fnd P (N.c q) i = T := ⟨_, rfl⟩
      rw [hT] at hno hyes HGV ⊢
      obtain ⟨A, g, B⟩ := T
      dsimp only at hno hyes HGV ⊢
      obtain ⟨f, hf⟩ : ∃ f, N.c q i = f := ⟨_, rfl⟩
      rw [hf] at hPi hyes HCL
      have HNO := Lib.hid hno
      have HYES := Lib.hid hyes
      have HPP := Lib.hid hP
      clear hel hq hsz hno hyes hP hT hf
      go_wp2_with fail
      refine (mix_rread _ p d M _ _ (q : Int) (i : Int) HG.out.mix HEL.out).mono ?_
      rw [HST.out, HCL.out]
      rintro e w3 ⟨rfl, ho, hk⟩
      have HV7 := Lib.hid ((HGV.out.kept hk (.inr (.inr rfl))).alloc (.cells (CA f) 30))
      have HV6 := Lib.hid ((HG.out.res.kept hk (.inr (.inl rfl))).alloc (.cells (CA f) 30))
      have HK4 := Lib.hid ((HG.out.kept.trans (hk.mono (fun i hi => .inl hi))).alloc (.cells (CA f) 30))
      have HO4 := Lib.hid ((ho.alloc (.cells (CA f) 30)).weak (Y := plus2 X w.heap.size) (fun i hi => .inl hi))
      have HV9 := Lib.hid (Var.new w3 f 30)
      have hsw := HG.out.kept.size
      clear ho hk HG HGV
      have HSAME : Hid (P i = false ∨ B = true → RFindAt w X p M d N q key n (i + 1) (w3.alloc (.cells (CA f) 30)) ∧ fnd P (N.c q) (i + 1) = (A, g, B)) := fun hh => by
        have e := HNO.out hh
        refine ⟨RFindAt.mk HO4.out HK4.out HV6.out ?_, e⟩
        rw [HPP.out, e]; exact HV7.out
      by_cases k0 : key < 0
      · have hlow : P i = false := by rw [← hPi]; exact hw_low k0
        have HE : Hid (RFindAt w X p M d N q key n (i + 1) (w3.alloc (.cells (CA f) 30)) ∧ fnd P (N.c q) (i + 1) = (A, g, B)) := HSAME.out (.inl hlow)
        clear HV6 HK4 HO4 HV7 HSAME HNO HYES
        go_wp2_with (first | with_reducible refine wpList_store_new rfl (.tmp 15) (.tmp 26) rfl rfl f rfl rfl ?_)
        generalize w3.alloc (.cells (CA f) 30) = w6 at *
        go_roundw
        case rel => exact ⟨i + 1, by go_num, by omega, by simp [HPP.out, HE.out.2], by simp [HPP.out, HE.out.2], by simpa using HE.out.1⟩
        case measure => simp [intOf]; omega
      · by_cases k1 : 12 ≤ key
        · have hhigh : P i = false := by rw [← hPi]; exact hw_high k1
          have HE : Hid (RFindAt w X p M d N q key n (i + 1) (w3.alloc (.cells (CA f) 30)) ∧ fnd P (N.c q) (i + 1) = (A, g, B)) := HSAME.out (.inl hhigh)
          clear HV6 HK4 HO4 HV7 HSAME HNO HYES
          go_wp2_with (first | with_reducible refine wpList_store_new rfl (.tmp 15) (.tmp 26) rfl rfl f rfl rfl ?_)
          generalize w3.alloc (.cells (CA f) 30) = w6 at *
          go_roundw
          case rel => exact ⟨i + 1, by go_num, by omega, by simp [HPP.out, HE.out.2], by simp [HPP.out, HE.out.2], by simpa using HE.out.1⟩
          case measure => simp [intOf]; omega
        · obtain ⟨κ, rfl⟩ := Int.eq_ofNat_of_zero_le (a := key) (by omega)
          have hκ : κ < 12 := by omega
          rw [hw_nat hκ] at hPi
          have k12 : ¬ (12 : Int) ≤ (κ : Int) := by omega
          have hx0 : (w3.alloc (.cells (CA f) 30)).cell? ⟨w3.heap.size, κ, none⟩ = some (.int .u64 (f κ)) := HV9.out.cell hκ
          cases B
          · have hm0 : msk false = 0 := rfl
            rw [hm0]
            by_cases hd : f κ = n
            · have hd1 : (f κ == n) = true := by simp [hd]
              have hd2 : decide (f κ = n) = true := decide_eq_true hd
              have hpt : P i = true := by rw [← hPi]; exact hd2
              have HE : Hid (RFindAt w X p M d N q (κ : Int) n (i + 1) ((w3.alloc (.cells (CA f) 30)).setCells (w.heap.size + 1) 0 (CA f).toList) ∧ fnd P (N.c q) (i + 1) = (i, f, true)) := by
                have e := HYES.out hpt rfl
                refine ⟨RFindAt.mk ?_ ?_ ?_ ?_, e⟩
                · exact HO4.out.setCells _ _ (.inr (.inr rfl))
                · exact HK4.out.setCells _ _ (by omega)
                · exact HV6.out.far (by omega) _
                · rw [HPP.out, e]; exact HV7.out.set f
              clear HV6 HK4 HO4 HSAME HNO HYES hPi hpt
              go_wp2_with (first | with_reducible refine wpList_store_new rfl (.tmp 15) (.tmp 26) rfl rfl f rfl rfl ?_ | with_reducible refine wpList_load_cell rfl (.tmp 15) rfl w3.heap.size 0 rfl f HV9.out.rng ?_ | with_reducible refine wpList_store_cell rfl (.tmp 13) (.tmp 46) rfl (w.heap.size + 1) 0 rfl f rfl HV7.out.there ?_)
              generalize (w3.alloc (.cells (CA f) 30)).setCells (w.heap.size + 1) 0 (CA f).toList = w6 at *
              go_roundw
              case rel => exact ⟨i + 1, by go_num, by omega, by simp [HPP.out, HE.out.2], by simp [HPP.out, HE.out.2]; rfl, by simpa using HE.out.1⟩
              case measure => simp [intOf]; omega
            · have hd1 : (f κ == n) = false := by simp [hd]
              have hd2 : decide (f κ = n) = false := decide_eq_false hd
              have hpf : P i = false := by rw [← hPi]; exact hd2
              clear hPi
              have HE : Hid (RFindAt w X p M d N q (κ : Int) n (i + 1) (w3.alloc (.cells (CA f) 30)) ∧ fnd P (N.c q) (i + 1) = (A, g, false)) := HSAME.out (.inl hpf)
              clear HV6 HK4 HO4 HV7 HSAME HNO HYES
              go_wp2_with (first | with_reducible refine wpList_store_new rfl (.tmp 15) (.tmp 26) rfl rfl f rfl rfl ?_)
              generalize w3.alloc (.cells (CA f) 30) = w6 at *
              go_roundw
              case rel => exact ⟨i + 1, by go_num, by omega, by simp [HPP.out, HE.out.2], by simp [HPP.out, HE.out.2, hm0], by simpa using HE.out.1⟩
              case measure => simp [intOf]; omega
          · have hm0 : msk true = 18446744073709551615 := rfl
            rw [hm0]
            have HE : Hid (RFindAt w X p M d N q (κ : Int) n (i + 1) (w3.alloc (.cells (CA f) 30)) ∧ fnd P (N.c q) (i + 1) = (A, g, true)) := HSAME.out (.inr rfl)
            clear HV6 HK4 HO4 HV7 HSAME HNO HYES
            go_wp2_with (first | with_reducible refine wpList_store_new rfl (.tmp 15) (.tmp 26) rfl rfl f rfl rfl ?_)
            generalize w3.alloc (.cells (CA f) 30) = w6 at *
            go_roundw
            case rel => exact ⟨i + 1, by go_num, by omega, by simp [HPP.out, HE.out.2], by simp [HPP.out, HE.out.2, hm0], by simpa using HE.out.1⟩
            case measure => simp [intOf]; omega
    · obtain rfl : i = s := by omega
      obtain ⟨A, hA⟩ : ∃ A, (fnd (Proofs.Ytgppediikggogaa.hs key n (N.c r.toNat)) (N.c r.toNat) i).1 = A := ⟨_, rfl⟩
      obtain ⟨g, hg⟩ : ∃ A, (fnd (Proofs.Ytgppediikggogaa.hs key n (N.c r.toNat)) (N.c r.toNat) i).2.1 = A := ⟨_, rfl⟩
      obtain ⟨B, hB⟩ : ∃ A, (fnd (Proofs.Ytgppediikggogaa.hs key n (N.c r.toNat)) (N.c r.toNat) i).2.2 = A := ⟨_, rfl⟩
      have hfv : fndV key n (N.c r.toNat) i = .tuple #[.int .u64 (A : Int), .agg (CA g), .int .u64 (msk B)] := by unfold fndV; rw [hA, hg, hB]
      rw [hA, hB]
      have HFV := Lib.hid hfv
      have HE : Hid (Mix (wr.drew.setCells w.heap.size 0 (CA g).toList) X p M d (N.looked r.toNat i) ∧ Kept X w (wr.drew.setCells w.heap.size 0 (CA g).toList)) :=
        ⟨((HG.out.mix.drewN 1).setCells w.heap.size _ (.inr (.inl rfl))).weak (fun i hi => .inl hi), (HG.out.kept.drewN 1).setCells _ _ (Nat.le_refl _)⟩
      have HV := Lib.hid (HG.out.res.drew.set g)
      have HV6 := Lib.hid HG.out.res
      have V7 := HG.out.got
      rw [hg] at V7
      have HV7 := Lib.hid V7
      clear HG V7 hfv hA hg hB
      go_wp2_with fail
      refine held_S (S := fun w' => Var w' (w.heap.size + 1) g) 6 rfl (by kernel_rfl) HV7.out.drew (fun hHeld => ?_)
      simp only [Array.replicate_succ, Array.replicate_zero, List.push_toArray, List.nil_append, List.cons_append]
      refine wpAnyH_take (i := 0) (oi := ⟨some 47, _, _, _, _, _⟩) (v := .int .u64 (A : Int)) rfl (by kernel_rfl) (by kernel_rfl) (by kernel_rfl) (fun _ _ _ h => h) (Or.inl ⟨by rfl, fun w' hw => by go_simp⟩) hHeld ?_
      try simp only [Act.put, List.setIfInBounds_toArray, List.set_cons_zero, List.set_cons_succ]
      refine wpAnyH_take (i := 2) (oi := ⟨some 49, _, _, _, _, _⟩) (v := .int .u64 (msk B)) rfl (by kernel_rfl) (by kernel_rfl) (by kernel_rfl) (fun _ _ _ h => h) (Or.inl ⟨by rfl, fun w' hw => by go_simp⟩) hHeld ?_
      try simp only [Act.put, List.setIfInBounds_toArray, List.set_cons_zero, List.set_cons_succ]
      refine take_row 1 (oi := ⟨some 48, _, _, _, _, _⟩) (CA g).toList rfl (by kernel_rfl) (by kernel_rfl) (by kernel_rfl) (fun _ _ _ h => h) (by rfl) _ _ rfl _ _ rfl _ (fun _ h => h.rng) Try.underlying30 rfl (infoCellL g) hHeld ?_
      try simp only [Act.put, List.setIfInBounds_toArray, List.set_cons_zero, List.set_cons_succ]
      refine one_ready 3 rfl (by kernel_rfl) (fun K hK => ?_)
      go_simp
      refine hK.out _ _ hHeld (fun hHeld => ?_)
      clear hK K
      try simp only [Act.put, List.setIfInBounds_toArray, List.set_cons_zero, List.set_cons_succ]
      refine one_ready 4 (o := ⟨none, .store 30 (.tmp 9) (.tmp 48), _, _, _, _⟩) rfl (by kernel_rfl) (fun K hK => ?_)
      refine step_store_cell rfl (.tmp 9) (.tmp 48) rfl w.heap.size 0 rfl g rfl HV6.out.drew.there ?_
      have h6 := hHeld.far (c := w.heap.size) (by omega) (CA g).toList
      generalize wr.drew.setCells w.heap.size 0 (CA g).toList = w6 at *
      refine hK.out _ _ h6 (fun hHeld => ?_)
      clear hK K h6
      try simp only [Act.put, List.setIfInBounds_toArray, List.set_cons_zero, List.set_cons_succ]
      refine one_ready 5 rfl (by kernel_rfl) (fun K hK => ?_)
      go_simp
      refine hK.out _ _ hHeld (fun hHeld => ?_)
      clear hK K
      refine wpAnyH_done (by kernel_rfl) ?_ _
      go_wp2_with fail
      exact bodyPost_ret (v := .tuple #[.int .u64 (A : Int), .agg (CA g), .int .u64 (msk B)]) (results_three Try.results16 rfl rfl rfl HV.out.load) rfl ⟨by rw [HFV.out], HE.out.1, HE.out.2⟩
/-- Between two looks of the document's Count. -/
structure RCountAt (w : World) (X : Nat → Prop) (p : Nat) (M : MS) (d : Nat) (N : MS) (r : Nat) (i : Nat) (wr : World) : Prop where
  mix : Mix wr X p M d (N.looked r i)
  kept : Kept X w wr
set_option linter.unusedSimpArgs false in
set_option maxRecDepth 100000 in
set_option maxHeartbeats 1000000 in
theorem rcount_any (X : Nat → Prop) (p : Nat) (M : MS) (d : Nat) (N : MS) (r key n : Int) (w : World) (h : Mix w X p M d N) (hl : N.es.length + N.size r < 1000000000) :
    Calls Try.prog 19 #[.pointer (some ⟨d, 0, none⟩), .int .i64 r, .int .i64 key, .int .u64 n] w (MixPost w X p M d (N.looked r.toNat (N.size r)) (.int .i64 (cnt (hs key n (N.c r.toNat)) (N.size r) : Int))) := by
  obtain ⟨s, hs⟩ : ∃ s, N.size r = s := ⟨_, rfl⟩
  rw [hs] at hl ⊢
  have HS := Lib.hid hs
  have hsl : s < 1000000000 := by omega
  have HL := Lib.hid hl
  have R0 : Hid (RCountAt w X p M d N r.toNat 0 w) := by
    refine RCountAt.mk ?_ ?_
    · rw [looked_zero]; exact h
    · exact Kept.refl X w
  clear h hs hl
  go_enter Try.func19, Try.ntmps19
  go_wp2_with fail
  go_loopw [9, 10] (fun v9 v wr => ∃ i : Nat, v = .int .i64 i ∧ i ≤ s ∧ v9 = .int .i64 (cnt (Proofs.Ytgppediikggogaa.hs key n (N.c r.toNat)) i : Int) ∧ RCountAt w X p M d N r.toNat i wr) (fun _ v _ => s - (intOf v).toNat)
  case atStart => exact ⟨0, rfl, Nat.zero_le _, rfl, R0.out⟩
  case round =>
    obtain ⟨i, rfl, hi, rfl, hG⟩ := hrel
    have HG := Lib.hid hG
    clear hG R0
    go_wp2_with fail
    refine (mix_rsize _ p d M _ _ r HG.out.mix).mono ?_
    rintro e w' ⟨rfl, rfl⟩
    rw [looked_size, HS.out]
    by_cases hlt : i < s
    · obtain ⟨q, rfl, hq, hsz⟩ := MS.size_pos (M := N) (r := r) (by rw [HS.out]; omega)
      rw [HS.out] at hsz
      simp only [Int.toNat_natCast] at HG ⊢
      have HST := Lib.hid (looked_step N q i hq (by omega))
      have HCL := Lib.hid (looked_cell N q i hq (by omega))
      have hel : (N.looked q i).es.length < 1000000000 := by have := HL.out; rw [looked_len]; omega
      have HEL := Lib.hid hel
      obtain ⟨P, hP⟩ : ∃ P, Proofs.Ytgppediikggogaa.hs key n (N.c q) = P := ⟨_, rfl⟩
      have hPi : hw key n (N.c q i) 12 = P i := by rw [← hP]; rfl
      have hle := cnt_le P i
      rw [hP]
      have hst := cnt_succ P i
      obtain ⟨A, hA⟩ : ∃ A, cnt P i = A := ⟨_, rfl⟩
      rw [hA] at hle hst ⊢
      obtain ⟨f, hf⟩ : ∃ f, N.c q i = f := ⟨_, rfl⟩
      rw [hf] at hPi HCL
      have HSTEP := Lib.hid hst
      have HPP := Lib.hid hP
      clear hel hq hsz hst hP hA hf
      go_wp2_with fail
      refine (mix_rread _ p d M _ _ (q : Int) (i : Int) HG.out.mix HEL.out).mono ?_
      rw [HST.out, HCL.out]
      rintro e w3 ⟨rfl, ho, hk⟩
      have HE : Hid (RCountAt w X p M d N q (i + 1) (w3.alloc (.cells (CA f) 30))) := ⟨(ho.alloc _).weak (fun i hi => .inl hi), (HG.out.kept.trans hk).alloc _⟩
      have HV9 := Lib.hid (Var.new w3 f 30)
      clear ho hk HG
      by_cases k0 : key < 0
      · have hlow : P i = false := by rw [← hPi]; exact hw_low k0
        rw [hlow] at HSTEP
        go_wp2_with (first | with_reducible refine wpList_store_new rfl (.tmp 11) (.tmp 22) rfl rfl f rfl rfl ?_)
        generalize w3.alloc (.cells (CA f) 30) = w6 at *
        go_roundw
        case rel => exact ⟨i + 1, by go_num, by omega, by simp [HPP.out, HSTEP.out], by simpa using HE.out⟩
        case measure => simp [intOf]; omega
      · by_cases k1 : 12 ≤ key
        · have hhigh : P i = false := by rw [← hPi]; exact hw_high k1
          rw [hhigh] at HSTEP
          go_wp2_with (first | with_reducible refine wpList_store_new rfl (.tmp 11) (.tmp 22) rfl rfl f rfl rfl ?_)
          generalize w3.alloc (.cells (CA f) 30) = w6 at *
          go_roundw
          case rel => exact ⟨i + 1, by go_num, by omega, by simp [HPP.out, HSTEP.out], by simpa using HE.out⟩
          case measure => simp [intOf]; omega
        · obtain ⟨κ, rfl⟩ := Int.eq_ofNat_of_zero_le (a := key) (by omega)
          have hκ : κ < 12 := by omega
          rw [hw_nat hκ] at hPi
          have k12 : ¬ (12 : Int) ≤ (κ : Int) := by omega
          have hx0 : (w3.alloc (.cells (CA f) 30)).cell? ⟨w3.heap.size, κ, none⟩ = some (.int .u64 (f κ)) := HV9.out.cell hκ
          by_cases hd : f κ = n
          · have hd1 : (f κ == n) = true := by simp [hd]
            have hd2 : decide (f κ = n) = true := decide_eq_true hd
            have hpt : P i = true := by rw [← hPi]; exact hd2
            rw [hpt] at HSTEP
            clear hPi hpt
            go_wp2_with (first | with_reducible refine wpList_store_new rfl (.tmp 11) (.tmp 22) rfl rfl f rfl rfl ?_)
            clear hx0
            generalize w3.alloc (.cells (CA f) 30) = w6 at *
            go_roundw
            case rel => exact ⟨i + 1, by go_num, by omega, by simp [HPP.out, HSTEP.out]; try omega, by simpa using HE.out⟩
            case measure => simp [intOf]; omega
          · have hd1 : (f κ == n) = false := by simp [hd]
            have hd2 : decide (f κ = n) = false := decide_eq_false hd
            have hpf : P i = false := by rw [← hPi]; exact hd2
            rw [hpf] at HSTEP
            clear hPi hpf
            go_wp2_with (first | with_reducible refine wpList_store_new rfl (.tmp 11) (.tmp 22) rfl rfl f rfl rfl ?_)
            clear hx0
            generalize w3.alloc (.cells (CA f) 30) = w6 at *
            go_roundw
            case rel => exact ⟨i + 1, by go_num, by omega, by simp [HPP.out, HSTEP.out], by simpa using HE.out⟩
            case measure => simp [intOf]; omega
    · obtain rfl : i = s := by omega
      obtain ⟨A, hA⟩ : ∃ A, cnt (Proofs.Ytgppediikggogaa.hs key n (N.c r.toNat)) i = A := ⟨_, rfl⟩
      rw [hA]
      have HA := Lib.hid hA
      clear hA
      go_wp2_with fail
      go_ret
      exact ⟨by rw [HA.out]; rfl, HG.out.mix, HG.out.kept⟩
end Go.Proofs.Ytgppediikggogaa
