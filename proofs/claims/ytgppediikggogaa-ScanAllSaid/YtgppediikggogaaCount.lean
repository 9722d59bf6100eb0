/- scan.Count: in how many cells a word stands, all cells looked at; of the caller's own blocks nothing turns. Conditions: all words are words of 64 bits, fewer than a thousand million events. -/
import Derived.Test.YtgppediikggogaaFind
namespace Go.Proofs.Ytgppediikggogaa
open Go.RowKit Go.ChangeShapes Go.WideShapes Go.ChangeAt

/-- Between two looks of Count. -/
structure CountAt (w : World) (X : Nat → Prop) (p : Nat) (M : MS) (r : Nat) (i : Nat) (wr : World) : Prop where
  own : Own wr X p (M.looked r i)
  kept : Kept X w wr
set_option linter.unusedSimpArgs false in
set_option maxRecDepth 100000 in
set_option maxHeartbeats 1000000 in
theorem count_any (X : Nat → Prop) (p : Nat) (M : MS) (r key n : Int) (w : World) (h : Own w X p M) (hwd : M.wd) (h1 : -9223372036854775808 ≤ key) (h2 : key ≤ 9223372036854775807) (n0 : 0 ≤ n) (n1 : n ≤ 18446744073709551615) (hl : M.es.length + M.size r < 1000000000) :
    Calls Try.prog 18 #[.pointer (some ⟨p, 0, none⟩), .int .i64 r, .int .i64 key, .int .u64 n] w (OwnPost w X p (M.looked r.toNat (M.size r)) (.int .i64 (cnt (hs key n (M.c r.toNat)) (M.size r) : Int))) := by
  have HO := Lib.hid h
  have HWD := Lib.hid hwd
  obtain ⟨s, hs⟩ : ∃ s, M.size r = s := ⟨_, rfl⟩
  rw [hs] at hl ⊢
  have HS := Lib.hid hs
  have hsl : s < 1000000000 := by omega
  have HL := Lib.hid hl
  have R0 : Hid (CountAt w X p M r.toNat 0 w) := by
    refine CountAt.mk ?_ ?_
    · rw [looked_zero]; exact h
    · exact Kept.refl X w
  clear h hwd hs hl
  go_enter Try.func18, Try.ntmps18
  go_wp2_with fail
  refine (own_size _ p M _ r HO.out).mono ?_
  rintro e w' ⟨rfl, rfl⟩
  rw [HS.out]
  go_wp2_with fail
  go_loopw [9, 14] (fun v9 v wr => ∃ i : Nat, v = .int .i64 i ∧ i ≤ s ∧ v9 = .int .i64 (cnt (Proofs.Ytgppediikggogaa.hs key n (M.c r.toNat)) i : Int) ∧ CountAt w X p M r.toNat i wr) (fun _ v _ => s - (intOf v).toNat)
  case atStart => exact ⟨0, rfl, Nat.zero_le _, rfl, R0.out⟩
  case round =>
    obtain ⟨i, rfl, hi, rfl, hG⟩ := hrel
    have HG := Lib.hid hG
    clear hG R0
    by_cases hlt : i < s
    · obtain ⟨q, rfl, hq, hsz⟩ := MS.size_pos (M := M) (r := r) (by rw [HS.out]; omega)
      rw [HS.out] at hsz
      simp only [Int.toNat_natCast] at HG ⊢
      have HST := Lib.hid (looked_step M q i hq (by omega))
      have HCL := Lib.hid (looked_cell M q i hq (by omega))
      have hel : (M.looked q i).es.length < 1000000000 := by have := HL.out; rw [looked_len]; omega
      have HEL := Lib.hid hel
      obtain ⟨P, hP⟩ : ∃ P, Proofs.Ytgppediikggogaa.hs key n (M.c q) = P := ⟨_, rfl⟩
      have hPi : hw key n (M.c q i) 12 = P i := by rw [← hP]; rfl
      have hle := cnt_le P i
      rw [hP]
      have hst := cnt_succ P i
      obtain ⟨A, hA⟩ : ∃ A, cnt P i = A := ⟨_, rfl⟩
      obtain ⟨d, hd⟩ : ∃ d : Nat, (if P i = true then 1 else 0) = d := ⟨_, rfl⟩
      have hd1 : d ≤ 1 := by rw [← hd]; split <;> omega
      have hb := one_mk (P i)
      have hdi : (if P i = true then (1 : Int) else 0) = (d : Int) := by rw [← hd]; split <;> rfl
      rw [hdi] at hb
      rw [hA] at hle hst ⊢
      rw [hd] at hst
      obtain ⟨f, hf⟩ : ∃ f, M.c q i = f := ⟨_, rfl⟩
      rw [hf] at hPi HCL
      have HPI := Lib.hid hPi
      have HSTEP := Lib.hid hst
      have HPP := Lib.hid hP
      have HW1 : Hid (Wd f) := by show Wd f; rw [← hf]; exact HWD.out _ _
      clear hel hq hsz hPi hst hP hA hf hd hdi
      go_wp2_with fail
      refine (own_read _ p _ _ (q : Int) (i : Int) HG.out.own HEL.out).mono ?_
      rw [HST.out, HCL.out]
      rintro e w3 ⟨rfl, ho, hk⟩
      have HE3 : Hid (CountAt w X p M q (i + 1) w3) := ⟨ho, HG.out.kept.trans hk⟩
      clear ho hk HG
      go_wp2_with fail
      refine (holds_ext key n f _ h1 h2 n0 n1 HW1.out).mono ?_
      rw [HPI.out]
      rintro e w5 ⟨rfl, hx⟩
      have HE : Hid (CountAt w X p M q (i + 1) w5) := ⟨HE3.out.own.none (none_of_ext hx), HE3.out.kept.trans (Kept.of_none (none_of_ext hx))⟩
      clear hx HE3
      go_wp2_with fail
      go_roundw
      case rel => exact ⟨i + 1, by go_num, by omega, by simp [HPP.out, HSTEP.out]; try omega, by simpa using HE.out⟩
      case measure => simp [intOf]; omega
    · obtain rfl : i = s := by omega
      obtain ⟨A, hA⟩ : ∃ A, cnt (Proofs.Ytgppediikggogaa.hs key n (M.c r.toNat)) i = A := ⟨_, rfl⟩
      rw [hA]
      have HA := Lib.hid hA
      clear hA
      go_wp2_with fail
      go_ret
      exact ⟨by rw [HA.out]; rfl, HG.out.own, HG.out.kept⟩
end Go.Proofs.Ytgppediikggogaa
