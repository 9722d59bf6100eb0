/- sort.Run of a wrong call: ErrArg, and nothing is touched. -/
import Derived.Test.YtojdefaplekieaaSortRun
namespace Go.Proofs.Ytojdefaplekieaa
open Go.RowKit Go.ChangeShapes Go.WideShapes Go.ChangeAt

/-- Is a call of Run right? -/
def runs (M : MS) (r n key : Int) : Prop := isNet n = true ∧ ¬ (M.size r : Int) < n ∧ 0 ≤ key ∧ key < 12
set_option maxRecDepth 100000 in
set_option maxHeartbeats 1000000 in
theorem run_wrong (X : Nat → Prop) (p : Nat) (M : MS) (r n key : Int) (w : World) (h : Own w X p M) (hb : ¬ runs M r n key) :
    Calls Try.prog 11 #[.pointer (some ⟨p, 0, none⟩), .int .i64 r, .int .i64 n, .int .i64 key] w fun e w' => e = .returned (.int .i64 1) ∧ w = w' := by
  have HO := Lib.hid h
  have HB := Lib.hid hb
  clear h hb
  cases hR : isNet n
  · go_enter Try.func11, Try.ntmps11
    go_wp2_with (first
      | (go_at_call 26; refine (right_any n _).mono ?_; rintro e w1 ⟨rfl, hw⟩; obtain rfl := hw.symm; rw [hR]))
    go_ret
    exact ⟨rfl, rfl⟩
  · by_cases h1 : (M.size r : Int) < n
    · go_enter Try.func11, Try.ntmps11
      go_wp2_with (first
        | (go_at_call 26; refine (right_any n _).mono ?_; rintro e w1 ⟨rfl, hw⟩; obtain rfl := hw.symm; rw [hR])
        | (go_at_call 27; refine (own_size _ p M _ r HO.out).mono ?_; rintro e w1 ⟨rfl, rfl⟩))
      go_ret
      exact ⟨rfl, rfl⟩
    · by_cases h2 : key < 0
      · go_enter Try.func11, Try.ntmps11
        go_wp2_with (first
          | (go_at_call 26; refine (right_any n _).mono ?_; rintro e w1 ⟨rfl, hw⟩; obtain rfl := hw.symm; rw [hR])
          | (go_at_call 27; refine (own_size _ p M _ r HO.out).mono ?_; rintro e w1 ⟨rfl, rfl⟩))
        go_ret
        exact ⟨rfl, rfl⟩
      · have h3 : 12 ≤ key := by
          rcases Int.lt_or_le key 12 with h3 | h3
          · exact absurd ⟨hR, h1, by omega, h3⟩ HB.out
          · exact h3
        go_enter Try.func11, Try.ntmps11
        go_wp2_with (first
          | (go_at_call 26; refine (right_any n _).mono ?_; rintro e w1 ⟨rfl, hw⟩; obtain rfl := hw.symm; rw [hR])
          | (go_at_call 27; refine (own_size _ p M _ r HO.out).mono ?_; rintro e w1 ⟨rfl, rfl⟩))
        go_ret
        exact ⟨rfl, rfl⟩
/-- A right call's numbers. -/
theorem runs_nat {M : MS} {r n key : Int} (h : runs M r n key) : ∃ r' P κ : Nat, r = r' ∧ P ≤ 10 ∧ n = ((2 ^ P : Nat) : Int) ∧ key = κ ∧ κ < 12 ∧ r' < M.k ∧ 2 ^ P ≤ M.sz r' := by
  obtain ⟨h1, h2, h3, h4⟩ := h
  obtain ⟨P, hP, rfl⟩ := (isNet_iff n).1 h1
  have h0 := two_pos P
  unfold MS.size at h2
  by_cases hr : 0 ≤ r ∧ r < M.k
  · rw [if_pos hr] at h2
    exact ⟨r.toNat, P, key.toNat, by omega, hP, rfl, by omega, by omega, by omega, by omega⟩
  · rw [if_neg hr] at h2; omega
/-- A right call, told with its numbers. -/
theorem run_net (X : Nat → Prop) (p : Nat) (M : MS) (r κ P : Nat) (w : World) (h : Own w X p M) (hP : P ≤ 10) (hr : r < M.k) (hs : 2 ^ P ≤ M.sz r) (hκ : κ < 12) (hwd : M.wd) (hl : M.es.length < 900000000) :
    Calls Try.prog 11 #[.pointer (some ⟨p, 0, none⟩), .int .i64 (r : Int), .int .i64 ((2 ^ P : Nat) : Int), .int .i64 (κ : Int)] w (OwnPost w X p (M.sorted r κ (netL P)) (.int .i64 0)) := by
  have hN : Net ((2 ^ P : Nat) : Int) (2 ^ P) (netL P) := ⟨.inl ⟨P, hP, rfl, rfl, rfl⟩⟩
  exact run_right X p M r κ (2 ^ P) (2 ^ P) (netL P) w h hN ((isNet_iff _).2 ⟨P, hP, rfl⟩) (netL_within P) hr hs hκ hwd (by have := hN.len; omega)
end Go.Proofs.Ytojdefaplekieaa
