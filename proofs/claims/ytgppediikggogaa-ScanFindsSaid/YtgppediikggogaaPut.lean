/- scan.Put: all cells of a region read and written, the one at a place anew, where the mask is all bits; of the caller's own blocks nothing turns. Conditions: all words are words of 64 bits, fewer than a thousand million events, a mask of all bits or of none. -/
import Derived.Test.YtgppediikggogaaVar
import Derived.Test.YtgppediikggogaaScanMath
namespace Go.Proofs.Ytgppediikggogaa
open Go.RowKit Go.ChangeShapes Go.WideShapes Go.ChangeAt

/-- Between two looks of Put. -/
structure PutAt (w : World) (X : Nat → Prop) (p : Nat) (M : MS) (r b : Nat) (f : Nat → Int) (on : Bool) (i : Nat) (wr : World) : Prop where
  own : Own wr (plus1 X w.heap.size) p (M.anew r b f on i)
  kept : Kept X w wr
  arg : Var wr w.heap.size f
/-- What stands while one cell is written. -/
structure PutS (b c : Nat) (f g : Nat → Int) (w' : World) : Prop where
  arg : Var w' b f
  was : Var w' c g
theorem anew_pick (a : Int) (a0 : 0 ≤ a) (f g : Nat → Int) (on : Bool) (i : Nat) : (if i = a.toNat ∧ on = true then f else g) = if (decide ((i : Int) = a) && on) = true then f else g := by
  by_cases h : (i : Int) = a
  · subst h
    cases on <;> simp
  · have : ¬ i = a.toNat := by omega
    simp [h, this]
set_option linter.unusedSimpArgs false in
set_option maxRecDepth 100000 in
set_option maxHeartbeats 1000000 in
theorem put_any (X : Nat → Prop) (p : Nat) (M : MS) (r a : Int) (f : Nat → Int) (on : Bool) (w : World) (h : Own w X p M) (hwd : M.wd) (hf : Wd f) (a0 : 0 ≤ a) (a1 : a ≤ 18446744073709551615) (hl : M.es.length + M.size r * 2 < 1000000000) :
    Calls Try.prog 12 #[.pointer (some ⟨p, 0, none⟩), .int .i64 r, .int .u64 a, .agg (CA f), .int .u64 (msk on)] w (OwnPost w X p (M.anew r.toNat a.toNat f on (M.size r)) (.tuple #[])) := by
  have HO := Lib.hid h
  have HWD := Lib.hid hwd
  have HF := Lib.hid hf
  obtain ⟨s, hs⟩ : ∃ s, M.size r = s := ⟨_, rfl⟩
  rw [hs] at hl ⊢
  have HS := Lib.hid hs
  have hsl : s < 1000000000 := by omega
  have HL := Lib.hid hl
  have R0 : Hid (PutAt w X p M r.toNat a.toNat f on 0 (w.alloc (.cells (CA f) 30))) := by
    refine PutAt.mk ?_ ?_ ?_
    · rw [anew_zero]; exact h.one _
    · exact (Kept.refl X w).alloc _
    · exact Var.new w _ _
  have O0 := Lib.hid (h.one (.cells (CA f) 30))
  have HM := Lib.hid (and_mk)
  obtain ⟨m, hm⟩ : ∃ m, msk on = m := ⟨_, rfl⟩
  rw [hm]
  have HMM := Lib.hid hm
  clear h hwd hs hl hf hm
  go_enter Try.func12, Try.ntmps12
  go_wp2_with fail
  refine (own_size _ p M _ r O0.out).mono ?_
  rintro e w' ⟨rfl, rfl⟩
  rw [HS.out]
  clear O0
  go_wp2_with fail
  go_loopw [15] (fun v wr => ∃ i : Nat, v = .int .i64 i ∧ i ≤ s ∧ PutAt w X p M r.toNat a.toNat f on i wr) (fun v _ => s - (intOf v).toNat)
  case atStart => exact ⟨0, rfl, Nat.zero_le _, R0.out⟩
  case round =>
    obtain ⟨i, rfl, hi, hG⟩ := hrel
    have HG := Lib.hid hG
    clear hG R0
    by_cases hlt : i < s
    · obtain ⟨q, rfl, hq, hsz⟩ := MS.size_pos (M := M) (r := r) (by rw [HS.out]; omega)
      rw [HS.out] at hsz
      simp only [Int.toNat_natCast] at HG
      have HST := Lib.hid (anew_step M q a.toNat f on i hq (by omega))
      rw [anew_pick a a0] at HST
      have HCL := Lib.hid (anew_cell M q a.toNat f on i hq (by omega))
      have hel : (M.anew q a.toNat f on i).es.length + 1 < 1000000000 := by have := HL.out; rw [anew_len]; omega
      have HEL := Lib.hid hel
      have hu : IntKind.u64.wrap (i : Int) = (i : Int) := by rw [IntKind.wrap_u64]; omega
      clear hel hq hsz
      obtain ⟨N0, hN0⟩ : ∃ N, M.anew q a.toNat f on i = N := ⟨_, rfl⟩
      have HO0 := Lib.hid HG.out.own
      rw [hN0] at HST HCL HEL HO0
      go_wp2_with fail
      refine (own_read _ p N0 _ (q : Int) (i : Int) HO0.out (by have := HEL.out; omega)).mono ?_
      rw [HCL.out]
      obtain ⟨N1, hN1⟩ : ∃ N, N0.read (q : Int) (i : Int) = N := ⟨_, rfl⟩
      have hl1 : N1.es.length < 1000000000 := by rw [← hN1]; have h1 := len_read N0 (q : Int) (i : Int); have h2 := HEL.out; omega
      have HL1 := Lib.hid hl1
      rw [hN1] at HST ⊢
      rintro e w3 ⟨rfl, ho, hk⟩
      obtain ⟨g, hg⟩ : ∃ g, M.c q i = g := ⟨_, rfl⟩
      have HW1 : Hid (Wd g) := by show Wd g; rw [← hg]; exact HWD.out _ _
      rw [hg] at HST
      have HX4 : Hid (PutS w.heap.size w3.heap.size f g (w3.alloc (.cells (CA g) 30))) := ⟨(HG.out.arg.kept hk (.inr rfl)).alloc _, Var.new w3 g _⟩
      have HK4 := Lib.hid ((HG.out.kept.trans (hk.mono (fun i hi => .inl hi))).alloc (.cells (CA g) 30))
      have HO4 := Lib.hid (ho.alloc (.cells (CA g) 30))
      rw [hg]
      clear ho hk HG HO0 hl1 hN1
      go_wp2_with (with_reducible refine wpList_store_new rfl (.tmp 11) (.tmp 21) rfl rfl g rfl rfl ?_)
      generalize w3.alloc (.cells (CA g) 30) = w4 at *
      refine held_S (S := PutS w.heap.size w3.heap.size f g) 13 rfl (by kernel_rfl) ⟨HX4.out.arg.drew, HX4.out.was.drew⟩ (fun hHeld => ?_)
      simp only [Array.replicate_succ, Array.replicate_zero, List.push_toArray, List.nil_append, List.cons_append]
      refine wpAnyH_take (i := 0) (oi := ⟨some 22, _, _, _, _, _⟩) (v := .pointer (some ⟨p, 0, none⟩)) rfl (by kernel_rfl) (by kernel_rfl) (by kernel_rfl) (fun _ _ _ h => h) (Or.inl ⟨by rfl, fun w' hw => by go_simp⟩) hHeld ?_
      try simp only [Act.put, List.setIfInBounds_toArray, List.set_cons_zero, List.set_cons_succ]
      refine wpAnyH_take (i := 1) (oi := ⟨some 23, _, _, _, _, _⟩) (v := .int .i64 (q : Int)) rfl (by kernel_rfl) (by kernel_rfl) (by kernel_rfl) (fun _ _ _ h => h) (Or.inl ⟨by rfl, fun w' hw => by go_simp⟩) hHeld ?_
      try simp only [Act.put, List.setIfInBounds_toArray, List.set_cons_zero, List.set_cons_succ]
      refine wpAnyH_take (i := 2) (oi := ⟨some 24, _, _, _, _, _⟩) (v := .int .i64 (i : Int)) rfl (by kernel_rfl) (by kernel_rfl) (by kernel_rfl) (fun _ _ _ h => h) (Or.inl ⟨by rfl, fun w' hw => by go_simp⟩) hHeld ?_
      try simp only [Act.put, List.setIfInBounds_toArray, List.set_cons_zero, List.set_cons_succ]
      refine wpAnyH_take (i := 3) (oi := ⟨some 25, _, _, _, _, _⟩) (v := .int .i64 (i : Int)) rfl (by kernel_rfl) (by kernel_rfl) (by kernel_rfl) (fun _ _ _ h => h) (Or.inl ⟨by rfl, fun w' hw => by go_simp⟩) hHeld ?_
      try simp only [Act.put, List.setIfInBounds_toArray, List.set_cons_zero, List.set_cons_succ]
      refine wpAnyH_take (i := 4) (oi := ⟨some 26, _, _, _, _, _⟩) (v := .int .u64 (i : Int)) rfl (by kernel_rfl) (by kernel_rfl) (by kernel_rfl) (fun _ _ _ h => h) (Or.inl ⟨by rfl, fun w' hw => by go_simp⟩) hHeld ?_
      try simp only [Act.put, List.setIfInBounds_toArray, List.set_cons_zero, List.set_cons_succ]
      refine wpAnyH_take (i := 5) (oi := ⟨some 27, _, _, _, _, _⟩) (v := .int .u64 a) rfl (by kernel_rfl) (by kernel_rfl) (by kernel_rfl) (fun _ _ _ h => h) (Or.inl ⟨by rfl, fun w' hw => by go_simp⟩) hHeld ?_
      try simp only [Act.put, List.setIfInBounds_toArray, List.set_cons_zero, List.set_cons_succ]
      refine wpAnyH_take (i := 7) (oi := ⟨some 29, _, _, _, _, _⟩) (v := .int .u64 m) rfl (by kernel_rfl) (by kernel_rfl) (by kernel_rfl) (fun _ _ _ h => h) (Or.inl ⟨by rfl, fun w' hw => by go_simp⟩) hHeld ?_
      try simp only [Act.put, List.setIfInBounds_toArray, List.set_cons_zero, List.set_cons_succ]
      refine take_row 9 (oi := ⟨some 31, _, _, _, _, _⟩) (CA f).toList rfl (by kernel_rfl) (by kernel_rfl) (by kernel_rfl) (fun _ _ _ h => h) (by rfl) _ _ rfl _ _ rfl _ (fun _ h => h.arg.rng) Try.underlying30 rfl (infoCellL f) hHeld ?_
      try simp only [Act.put, List.setIfInBounds_toArray, List.set_cons_zero, List.set_cons_succ]
      refine take_row 10 (oi := ⟨some 32, _, _, _, _, _⟩) (CA g).toList rfl (by kernel_rfl) (by kernel_rfl) (by kernel_rfl) (fun _ _ _ h => h) (by rfl) _ _ rfl _ _ rfl _ (fun _ h => h.was.rng) Try.underlying30 rfl (infoCellL g) hHeld ?_
      try simp only [Act.put, List.setIfInBounds_toArray, List.set_cons_zero, List.set_cons_succ]
      refine one_ready 6 rfl (by kernel_rfl) (fun K hK => ?_)
      go_simp
      refine (equal_any (i : Int) a _ (by omega) (by omega) a0 a1).mono ?_
      rintro e w5 ⟨rfl, rfl⟩
      rw [me_mk]
      refine hK.out _ _ hHeld (fun hHeld => ?_)
      clear hK K
      try simp only [Act.put, List.setIfInBounds_toArray, List.set_cons_zero, List.set_cons_succ]
      have hb := HM.out (decide ((i : Int) = a)) on
      rw [HMM.out] at hb
      refine wpAnyH_take (i := 8) (oi := ⟨some 30, _, _, _, _, _⟩) (v := .int .u64 (msk (decide ((i : Int) = a) && on))) rfl (by kernel_rfl) (by kernel_rfl) (by kernel_rfl) (fun _ _ _ h => h) (Or.inl ⟨by rfl, fun w' hw => by go_simp⟩) hHeld ?_
      try simp only [Act.put, List.setIfInBounds_toArray, List.set_cons_zero, List.set_cons_succ]
      refine one_ready 11 rfl (by kernel_rfl) (fun K hK => ?_)
      go_simp
      refine (pickCell_mask (decide ((i : Int) = a) && on) f g _ HF.out HW1.out).mono ?_
      obtain ⟨g', hg'⟩ : ∃ g', (if (decide ((i : Int) = a) && on) = true then f else g) = g' := ⟨_, rfl⟩
      rw [hg'] at HST ⊢
      rintro e w5 ⟨rfl, hx⟩
      have HK5 := Lib.hid ((HK4.out.drewN 1).trans (Kept.of_none (none_of_ext hx)))
      have HO5 := Lib.hid ((HO4.out.drewN 1).none (none_of_ext hx))
      have hH5 : PutS w.heap.size w3.heap.size f g w5 := ⟨hHeld.arg.ext hx, hHeld.was.ext hx⟩
      clear HK4 HO4 hx hg'
      refine hK.out _ _ hH5 (fun hHeld => ?_)
      clear hK K hH5
      try simp only [Act.put, List.setIfInBounds_toArray, List.set_cons_zero, List.set_cons_succ]
      refine one_ready 12 rfl (by kernel_rfl) (fun K hK => ?_)
      go_simp
      refine (own_write _ p N1 _ (q : Int) (i : Int) g' HO5.out HL1.out).mono ?_
      rw [HST.out]
      rintro e w6 ⟨rfl, ho, hk⟩
      have HE : Hid (PutAt w X p M q a.toNat f on (i + 1) w6) := by
        refine PutAt.mk ?_ ?_ ?_
        · exact ho.weak (fun i hi => .inl hi)
        · exact HK5.out.trans (hk.mono (fun i hi => .inl (.inl hi)))
        · exact hHeld.arg.kept hk (.inl (.inr rfl))
      have h6 : PutS w.heap.size w3.heap.size f g w6 := ⟨hHeld.arg.kept hk (.inl (.inr rfl)), hHeld.was.kept hk (.inr rfl)⟩
      clear HK5 HO5 ho hk
      refine hK.out _ _ h6 (fun hHeld => ?_)
      clear hK K h6 hHeld
      refine wpAnyH_done (by kernel_rfl) ?_ _
      go_wp2_with fail
      go_roundw
      case rel => exact ⟨i + 1, by go_num, by omega, by simpa using HE.out⟩
      case measure => simp [intOf]; omega
    · obtain rfl : i = s := by omega
      have HE : Hid (OwnPost w X p (M.anew r.toNat a.toNat f on i) (.tuple #[]) (.returned (.tuple #[])) wr) := ⟨rfl, HG.out.own.weak (fun i hi => .inl hi), HG.out.kept⟩
      clear HG
      go_wp2_with fail
      go_end0
      exact HE.out
end Go.Proofs.Ytgppediikggogaa
