/- The document's Run of a wrong call: ErrArg, and nothing is touched; and a right one, told with its numbers. -/
import Derived.Test.YtojdefaplekieaaSortRefRun
namespace Go.Proofs.Ytojdefaplekieaa
open Go.RowKit Go.ChangeShapes Go.WideShapes Go.ChangeAt

set_option maxRecDepth 100000 in
set_option maxHeartbeats 1000000 in
theorem rrun_wrong (X : Nat → Prop) (p : Nat) (M : MS) (d : Nat) (N : MS) (r n key : Int) (w : World) (h : Mix w X p M d N) (hb : ¬ runs N r n key) :
    Calls Try.prog 12 #[.pointer (some ⟨d, 0, none⟩), .int .i64 r, .int .i64 n, .int .i64 key] w fun e w' => e = .returned (.int .i64 1) ∧ w = w' := by
  have HO := Lib.hid h
  have HB := Lib.hid hb
  clear h hb
  cases hR : isNet n
  · go_enter Try.func12, Try.ntmps12
    go_wp2_with (first
      | (go_at_call 30; refine (refRight_any n _).mono ?_; rintro e w1 ⟨rfl, hw⟩; obtain rfl := hw.symm; rw [hR]))
    go_ret
    exact ⟨rfl, rfl⟩
  · by_cases h1 : (N.size r : Int) < n
    · go_enter Try.func12, Try.ntmps12
      go_wp2_with (first
        | (go_at_call 30; refine (refRight_any n _).mono ?_; rintro e w1 ⟨rfl, hw⟩; obtain rfl := hw.symm; rw [hR])
        | (go_at_call 31; refine (mix_rsize _ p d M N _ r HO.out).mono ?_; rintro e w1 ⟨rfl, rfl⟩))
      go_ret
      exact ⟨rfl, rfl⟩
    · by_cases h2 : key < 0
      · go_enter Try.func12, Try.ntmps12
        go_wp2_with (first
          | (go_at_call 30; refine (refRight_any n _).mono ?_; rintro e w1 ⟨rfl, hw⟩; obtain rfl := hw.symm; rw [hR])
          | (go_at_call 31; refine (mix_rsize _ p d M N _ r HO.out).mono ?_; rintro e w1 ⟨rfl, rfl⟩))
        go_ret
        exact ⟨rfl, rfl⟩
      · have h3 : 12 ≤ key := by
          rcases Int.lt_or_le key 12 with h3 | h3
          · exact absurd ⟨hR, h1, by omega, h3⟩ HB.out
          · exact h3
        go_enter Try.func12, Try.ntmps12
        go_wp2_with (first
          | (go_at_call 30; refine (refRight_any n _).mono ?_; rintro e w1 ⟨rfl, hw⟩; obtain rfl := hw.symm; rw [hR])
          | (go_at_call 31; refine (mix_rsize _ p d M N _ r HO.out).mono ?_; rintro e w1 ⟨rfl, rfl⟩))
        go_ret
        exact ⟨rfl, rfl⟩
/-- A right call, told with its numbers. -/
theorem rrun_net (X : Nat → Prop) (p : Nat) (M : MS) (d : Nat) (N : MS) (r κ P : Nat) (w : World) (h : Mix w X p M d N) (hP : P ≤ 10) (hr : r < N.k) (hs : 2 ^ P ≤ N.sz r) (hκ : κ < 12) (hl : N.es.length < 900000000) :
    Calls Try.prog 12 #[.pointer (some ⟨d, 0, none⟩), .int .i64 (r : Int), .int .i64 ((2 ^ P : Nat) : Int), .int .i64 (κ : Int)] w (MixPost w X p M d (N.sorted r κ (netL P)) (.int .i64 0)) := by
  have hN : Net ((2 ^ P : Nat) : Int) (2 ^ P) (netL P) := ⟨.inl ⟨P, hP, rfl, rfl, rfl⟩⟩
  exact rrun_right X p M d N r κ (2 ^ P) (2 ^ P) (netL P) w h hN ((isNet_iff _).2 ⟨P, hP, rfl⟩) (netL_within P) hr hs hκ (by have := hN.len; omega)
end Go.Proofs.Ytojdefaplekieaa
