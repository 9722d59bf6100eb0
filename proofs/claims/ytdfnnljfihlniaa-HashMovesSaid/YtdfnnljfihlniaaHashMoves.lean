/- HashMoves: for every input the law returns true, and of what was in memory nothing changes. Conditions: five words of 64 bits, and an int. -/
import Derived.Test.YtdfnnljfihlniaaHashShown
namespace Go.Proofs.Ytdfnnljfihlniaa
open Go.RowKit Go.Shelf Go.ChangeShapes Go.WideShapes Go.ChangeAt

set_option maxHeartbeats 1000000 in
theorem moves_out (a b c d k L : Int) (h : L < 0 ∨ 10 < L) (w : World) :
    Calls Try.prog 6 #[.int .u64 a, .int .u64 b, .int .u64 c, .int .u64 d, .int .u64 k, .int .i64 L] w fun e w' => e = .returned (.bool true) ∧ Below w.heap.size w w' := by
  go_enter Try.func6, Try.ntmps6
  go_wp2_with fail
  refine (shown_any _).mono ?_
  rintro e w1 ⟨rfl, hb1⟩
  have HB := Lib.hid hb1
  clear hb1
  have hor : (decide (L < 0) || decide (10 < L)) = true := by simp; exact h
  go_wp2_with fail
  all_goals (go_ret; exact ⟨rfl, HB.out⟩)
set_option maxRecDepth 100000 in
set_option maxHeartbeats 2000000 in
theorem moves_in (a b c d k : Int) (L n : Nat) (hL : L ≤ 10) (hn : 2 ^ L = n) (w : World) :
    Calls Try.prog 6 #[.int .u64 a, .int .u64 b, .int .u64 c, .int .u64 d, .int .u64 k, .int .i64 (L : Int)] w fun e w' => e = .returned (.bool true) ∧ Below w.heap.size w w' := by
  have g0 : decide ((L : Int) < 0) = false := by simp
  have g1 : decide (10 < (L : Int)) = false := by simp; omega
  have hn1 : n ≤ 1024 := by rw [← hn]; exact Nat.pow_le_pow_right (by decide) hL
  have hn0 : 0 < n := by rw [← hn]; exact two_pow_pos L
  have hsh := shl_tree L n hn hn1
  have ht := isTree_two hL hn
  have A0 := Lib.hid (fun x y z u kk W => at_0 x y z u kk n W hn1 ht)
  have A1 := Lib.hid (fun x y z u kk W => at_1 x y z u kk n W hn1 ht)
  have HR := Lib.hid (fun x y => plc_rng x y k (n : Int) (by omega))
  have HM := Lib.hid (show IntKind.u64.wrap (plc a b k n) = plc a b k n by rw [IntKind.wrap_u64]; have := plc_rng a b k (n : Int) (by omega); omega)
  have HW := Lib.hid (show IntKind.u64.wrap (n : Int) = (n : Int) by rw [IntKind.wrap_u64]; omega)
  have HL := Lib.hid (lin_more a b k)
  have HP : Hid (mx (lin a b k) % (n : Int) = plc a b k n) := Lib.hid rfl
  have HX := Lib.hid (mx_rng (lin a b k))
  clear ht hn
  go_enter Try.func6, Try.ntmps6
  go_wp2_with fail
  refine (shown_any _).mono ?_
  rintro e w1 ⟨rfl, hb1⟩
  have HB := Lib.hid hb1
  clear hb1
  go_wp2_with fail
  refine (A0.out a b c d k _).mono ?_
  rintro e w2 ⟨rfl, hb2⟩
  have HB2 := Lib.hid (HB.out.trans (((Below.refl _ w1).alloc (Nat.le_refl _) _ |>.trans (hb2.mono (by simp))).mono HB.out.size))
  have c0 := hb2.cell (p := ⟨w1.heap.size, 0, none⟩) (by simp)
  have c1 := hb2.cell (p := ⟨w1.heap.size, 1, none⟩) (by simp)
  have c2 := hb2.cell (p := ⟨w1.heap.size, 2, none⟩) (by simp)
  have c3 := hb2.cell (p := ⟨w1.heap.size, 3, none⟩) (by simp)
  simp [go_sem] at c0 c1 c2 c3
  obtain ⟨one, h1⟩ : ∃ x, plc a b k n = x := ⟨_, rfl⟩
  rw [h1] at HM HP ⊢
  have H1 := Lib.hid h1
  clear hb2 HB h1
  go_wp2_with fail
  refine (A1.out a b c d k _).mono ?_
  rintro e w3 ⟨rfl, hb3⟩
  have HB3 := Lib.hid (HB2.out.trans (hb3.mono HB2.out.size))
  obtain ⟨two, h2⟩ : ∃ x, plc c d k n = x := ⟨_, rfl⟩
  rw [h2]
  have H2 := Lib.hid h2
  clear hb3 HB2 h2 c0 c1 c2 c3
  go_wp2_with fail
  refine (A0.out a b d c k _).mono ?_
  rintro e w4 ⟨rfl, hb4⟩
  have HB4 := Lib.hid (HB3.out.trans (hb4.mono HB3.out.size))
  rw [H1.out]
  clear hb4 HB3
  go_wp2_with fail
  refine (A1.out b a c d k _).mono ?_
  rintro e w5 ⟨rfl, hb5⟩
  have HB5 := Lib.hid (HB4.out.trans (hb5.mono HB4.out.size))
  rw [H2.out]
  clear hb5 HB4
  go_wp2_with fail
  refine (A0.out c d 0 0 k _).mono ?_
  rintro e w6 ⟨rfl, hb6⟩
  have HB6 := Lib.hid (HB5.out.trans (hb6.mono HB5.out.size))
  rw [H2.out]
  clear hb6 HB5
  go_wp2_with fail
  refine (mix_any (lin a b k) _).mono ?_
  rintro e w7 ⟨rfl, rfl⟩
  have hx := HX.out
  have hm := HM.out
  have hw := HW.out
  have hp := HP.out
  obtain ⟨m, hmm⟩ : ∃ m, mx (lin a b k) = m := ⟨_, rfl⟩
  rw [hmm] at hx hp ⊢
  clear hmm
  go_wp2_with fail
  refine (A0.out a (IntKind.u64.wrap (IntKind.u64.wrap (b - IntKind.u64.wrap (2 * a)) - 1)) 0 0 (IntKind.u64.wrap (k + 1)) _).mono ?_
  rintro e w8 ⟨rfl, hb8⟩
  have HB8 := Lib.hid (HB6.out.trans (hb8.mono HB6.out.size))
  have e8 : plc a (IntKind.u64.wrap (IntKind.u64.wrap (b - IntKind.u64.wrap (2 * a)) - 1)) (IntKind.u64.wrap (k + 1)) n = one := by
    rw [← H1.out]; unfold plc; rw [HL.out]
  rw [e8]
  clear hb8 HB6 e8
  go_wp2_with fail
  go_ret
  exact ⟨rfl, HB8.out⟩
theorem moves_law (a b c d k L : Int) (w : World) :
    Calls Try.prog 6 #[.int .u64 a, .int .u64 b, .int .u64 c, .int .u64 d, .int .u64 k, .int .i64 L] w fun e w' => e = .returned (.bool true) ∧ Below w.heap.size w w' := by
  by_cases h : L < 0 ∨ 10 < L
  · exact moves_out a b c d k L h w
  · obtain ⟨m, rfl⟩ := Int.eq_ofNat_of_zero_le (show 0 ≤ L by omega)
    exact moves_in a b c d k m _ (by omega) rfl w
end Go.Proofs.Ytdfnnljfihlniaa
