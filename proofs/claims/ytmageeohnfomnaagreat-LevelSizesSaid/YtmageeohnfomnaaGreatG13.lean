/- Texts of ours put together: Rnd, Logs, Tree. -/
import Derived.Laws.BitsAllLaws
import Derived.Lib.BitFns
import Derived.Lib.Hide
import Derived.Shelf.Strconv.Itoa0
import Derived.WalkKit
import Derived.Test.YtmageeohnfomnaaGreatProg
import Derived.Test.YtmageeohnfomnaaGreatG9
import Derived.Test.YtmageeohnfomnaaGreatG6
import Derived.Test.YtmageeohnfomnaaGreatG12
import Derived.Test.YtmageeohnfomnaaGreatG1
namespace Go.Proofs.YtmageeohnfomnaaGreat
set_option maxRecDepth 100000
open Go.RowKit Go.Shelf

theorem round_any (n : Int) (w : World) (h0 : -9223372036854775808 ≤ n) (h1 : n ≤ 9223372036854775807) :
    Calls Tryz.prog 59 #[.int .i64 n] w fun e w' => e = .returned (.int .i64 (rd n)) ∧ w' = w := by
  have r := re_le n
  go_enter Tryz.func59, Tryz.ntmps59
  go_wp2_with (go_at_call 74; refine (len64_any _ _ (by omega) (by omega)).mono ?_; rintro e w' ⟨rfl, rfl⟩)
  go_ret
  refine ⟨ret_int ?_, rfl⟩
  exact round_eq n
end Go.Proofs.YtmageeohnfomnaaGreat


namespace Go.Proofs.YtmageeohnfomnaaGreat
set_option maxRecDepth 100000
open Go.RowKit Go.Shelf

theorem log_any (n : Int) (w : World) (h0 : 0 ≤ n) (h1 : n ≤ 18446744073709551615) :
    Calls Tryz.prog 76 #[.int .u64 n] w fun e w' => e = .returned (.int .i64 (lg n)) ∧ w' = w := by
  have HE := Lib.hid (log_eq n h0 h1)
  have x0 : 0 ≤ bits .or .u64 n 1 := by rw [or_V]; exact V_lo _
  have x1 : bits .or .u64 n 1 ≤ 18446744073709551615 := or_hi _ _
  have l0 := lg_lo n
  have l1 := lg_hi n h1
  go_enter Tryz.func76, Tryz.ntmps76
  go_wp2_with (go_at_call 74; refine (len64_any _ _ x0 x1).mono ?_; rintro e w' ⟨rfl, rfl⟩)
  go_ret
  refine ⟨ret_int ?_, rfl⟩
  rw [HE.out]; exact w64 _ (by omega) (by omega)
end Go.Proofs.YtmageeohnfomnaaGreat


namespace Go.Proofs.YtmageeohnfomnaaGreat
set_option maxRecDepth 100000
open Go.RowKit Go.Shelf

theorem path_right (n : Int) (w : World) (h0 : -9223372036854775808 ≤ n) (h1 : n ≤ 9223372036854775807) :
    Calls Tryz.prog 29 #[.int .i64 n] w fun e w' => e = .returned (.bool (isTree n)) ∧ w' = w := by
  by_cases h : n ≤ 1024
  · have he := rd_tree n h
    go_enter Tryz.func29, Tryz.ntmps29
    go_wp2_with fail
    refine (round_any n _ h0 h1).mono ?_
    rintro e w1 ⟨rfl, rfl⟩
    go_wp2_with fail
    go_ret
    exact ⟨rfl, rfl⟩
  · rw [tree_big (by omega)]
    go_enter Tryz.func29, Tryz.ntmps29
    go_wp2_with fail
    go_ret
    exact ⟨rfl, rfl⟩
theorem path_depth (n : Int) (w : World) (h0 : -9223372036854775808 ≤ n) (h1 : n ≤ 9223372036854775807) :
    Calls Tryz.prog 62 #[.int .i64 n] w fun e w' => e = .returned (.int .i64 (dpt n : Nat)) ∧ w' = w := by
  cases ht : isTree n
  · rw [dpt_no ht]
    go_enter Tryz.func62, Tryz.ntmps62
    go_wp2_with fail
    refine (path_right n _ h0 h1).mono ?_
    rintro e w1 ⟨rfl, rfl⟩
    rw [ht]
    go_wp2_with fail
    go_ret
    exact ⟨rfl, rfl⟩
  · have hr := isTree_rng ht
    go_enter Tryz.func62, Tryz.ntmps62
    go_wp2_with fail
    refine (path_right n _ h0 h1).mono ?_
    rintro e w1 ⟨rfl, rfl⟩
    rw [ht]
    go_wp2_with fail
    refine (log_any n _ (by omega) (by omega)).mono ?_
    rintro e w2 ⟨rfl, rfl⟩
    go_wp2_with fail
    go_ret
    refine ⟨ret_int ?_, rfl⟩
    unfold dpt lg
    rw [if_pos ht]
theorem path_nodes (n : Int) (w : World) (h0 : -9223372036854775808 ≤ n) (h1 : n ≤ 9223372036854775807) :
    Calls Tryz.prog 23 #[.int .i64 n] w fun e w' => e = .returned (.int .i64 (ndsI n)) ∧ w' = w := by
  cases ht : isTree n
  · rw [ndsI_no ht]
    go_enter Tryz.func23, Tryz.ntmps23
    go_wp2_with fail
    refine (path_right n _ h0 h1).mono ?_
    rintro e w1 ⟨rfl, rfl⟩
    rw [ht]
    go_wp2_with fail
    go_ret
    exact ⟨rfl, rfl⟩
  · have hr := isTree_rng ht
    rw [ndsI_yes ht]
    go_enter Tryz.func23, Tryz.ntmps23
    go_wp2_with fail
    refine (path_right n _ h0 h1).mono ?_
    rintro e w1 ⟨rfl, rfl⟩
    rw [ht]
    go_wp2_with fail
    go_ret
    exact ⟨rfl, rfl⟩
theorem path_there (n l : Int) (w : World) (h0 : -9223372036854775808 ≤ n) (h1 : n ≤ 9223372036854775807) :
    Calls Tryz.prog 77 #[.int .i64 n, .int .i64 l] w fun e w' => e = .returned (.bool (inT n l)) ∧ w' = w := by
  cases ht : isTree n
  · rw [inT_off ht]
    go_enter Tryz.func77, Tryz.ntmps77
    go_wp2_with fail
    refine (path_right n _ h0 h1).mono ?_
    rintro e w1 ⟨rfl, rfl⟩
    rw [ht]
    go_wp2_with fail
    go_ret
    exact ⟨rfl, rfl⟩
  · by_cases hl : 0 ≤ l
    · rw [inT_on ht hl]
      go_enter Tryz.func77, Tryz.ntmps77
      go_wp2_with fail
      refine (path_right n _ h0 h1).mono ?_
      rintro e w1 ⟨rfl, rfl⟩
      rw [ht]
      go_wp2_with fail
      go_ret
      exact ⟨rfl, rfl⟩
    · rw [inT_low (by omega)]
      go_enter Tryz.func77, Tryz.ntmps77
      go_wp2_with fail
      refine (path_right n _ h0 h1).mono ?_
      rintro e w1 ⟨rfl, rfl⟩
      rw [ht]
      go_wp2_with fail
      go_ret
      exact ⟨rfl, rfl⟩
theorem node_turn (D l i : Nat) (h1 : D ≤ 10) (h2 : l < 2 ^ D) (h3 : i < D) : ∃ t : Nat, bits .and .i64 ((l : Int) / 2 ^ (D - 1 - i)) 1 = (t : Int) ∧ t ≤ 1 ∧ nd D l (i + 1) = 2 * nd D l i + 1 + t := by
  refine ⟨l / 2 ^ (D - (i + 1)) % 2, ?_, by omega, nd_down D l i h3⟩
  rw [show D - 1 - i = D - (i + 1) by omega, ← pow_cast, ← Int.natCast_ediv]
  have h5 := tree_le D h1
  have h4 : l / 2 ^ (D - (i + 1)) ≤ l := Nat.div_le_self _ _
  exact and_one_i64 _ (by omega)
set_option maxHeartbeats 1000000 in
theorem node_in (D N l k : Nat) (w : World) (hD : D ≤ 10) (hN : 2 ^ D = N) (hl : l < N) (hk : k ≤ D) :
    Calls Tryz.prog 78 #[.int .i64 (N : Int), .int .i64 (l : Int), .int .i64 (k : Int)] w fun e w' => e = .returned (.int .i64 (nd D l k : Nat)) ∧ w' = w := by
  have hN1 : N ≤ 1024 := by rw [← hN]; exact tree_le D hD
  have hd := dpt_two hD hN
  have ht := inT_yes hD hN hl
  have HN := Lib.hid hN
  have h0 := nd_zero D l (by omega)
  have HZ := Lib.hid h0
  clear hN h0
  go_enter Tryz.func78, Tryz.ntmps78
  go_wp2_with fail
  refine (path_depth (N : Int) _ (by omega) (by omega)).mono ?_
  rintro e w1 ⟨rfl, rfl⟩
  rw [hd]
  go_wp2_with fail
  refine (path_there (N : Int) (l : Int) _ (by omega) (by omega)).mono ?_
  rintro e w2 ⟨rfl, rfl⟩
  rw [ht]
  have k1 : decide ((D : Int) < (k : Int)) = false := by simp; omega
  have k2 : decide (D < k) = false := by simp; omega
  clear ht hd
  go_wp2_with fail
  go_loopw [8, 27] (fun v8 v wr => ∃ i : Nat, v = .int .i64 i ∧ v8 = .int .i64 (nd D l i : Nat) ∧ i ≤ k ∧ wr = w2) (fun _ v _ => k - (intOf v).toNat)
  case atStart => exact ⟨0, rfl, by rw [HZ.out]; rfl, by omega, rfl⟩
  case round =>
    obtain ⟨i, rfl, rfl, hi, rfl⟩ := hrel
    by_cases hlt : i < k
    · obtain ⟨t, ht, ht1, hnx⟩ := node_turn D l i hD (by rw [HN.out]; exact hl) (by omega)
      have hin := nd_in D l i (by omega) (by rw [HN.out]; exact hl)
      rw [HN.out] at hin
      have HX := Lib.hid hnx
      clear hnx
      generalize nd D l i = m at *
      go_wp2_with fail
      go_roundw
      case rel => exact ⟨i + 1, by go_num, by rw [HX.out]; go_num, by omega, trivial⟩
      case measure => simp [intOf]; omega
    · obtain rfl : i = k := by omega
      go_wp2_with fail
      go_ret
      exact ⟨rfl, rfl⟩
end Go.Proofs.YtmageeohnfomnaaGreat

