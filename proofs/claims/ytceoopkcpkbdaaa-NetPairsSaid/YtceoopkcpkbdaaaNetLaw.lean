/- NetPairs: for every number the law returns true, and of what was in memory nothing changes. -/
import Derived.Test.YtceoopkcpkbdaaaNetRef
import Derived.Test.YtceoopkcpkbdaaaNetHalves
namespace Go.Proofs.Ytceoopkcpkbdaaa
open Go.RowKit Go.Shelf Go.ChangeShapes Go.WideShapes Go.ChangeAt

set_option maxRecDepth 100000 in
set_option maxHeartbeats 1000000 in
theorem pairs_law (n : Int) (w : World) : Calls Try.prog 3 #[.int .i64 n] w fun e w' => e = .returned (.bool true) ∧ Below w.heap.size w w' := by
  obtain ⟨k, ps, hN⟩ := Net.of n
  have hlen := hN.len
  have HN := Lib.hid hN
  clear hN
  go_enter Try.func3, Try.ntmps3
  go_wp2_with fail
  refine (shown_any _).mono ?_
  rintro e w1 ⟨rfl, hb1⟩
  go_wp2_with fail
  with_reducible refine (pairs_any n k ps HN.out _).mono ?_
  rintro e w2 ⟨v, rfl, hown, hb2⟩
  obtain ⟨A, cap, g, rfl, hP⟩ := Prs.of hown
  clear hown
  go_wp2_with fail
  with_reducible refine (refPairs_any n k ps HN.out _).mono ?_
  rintro e w3 ⟨v, rfl, hown, hb3⟩
  obtain ⟨B, cap2, g2, rfl, hQ⟩ := Prs.of hown
  have HV : HvAt w w1.heap.size w2.heap.size A B ps ps g g2 w3 := ⟨hP.below hb3 (Nat.le_refl _), hQ, (hb1.trans (hb2.mono hb1.size)).trans (hb3.mono (Nat.le_trans hb1.size hb2.size))⟩
  have HV := Lib.hid HV
  clear hown hP hQ hb1 hb2 hb3
  go_wp2_with fail
  with_reducible refine (right_any n _).mono ?_
  rintro e w4 ⟨rfl, rfl⟩
  go_wp2_with fail
  with_reducible refine (refRight_any n _).mono ?_
  rintro e w5 ⟨rfl, rfl⟩
  go_wp2_with fail
  with_reducible refine (count_any n k ps HN.out _).mono ?_
  rintro e w6 ⟨rfl, hb6⟩
  have HW : HvAt w w1.heap.size w2.heap.size A B ps ps g g2 w6 := ⟨HV.out.p.below hb6 (Nat.le_refl _), HV.out.q.below hb6 (Nat.le_refl _), HV.out.below.trans (hb6.mono HV.out.below.size)⟩
  have HW := Lib.hid HW
  clear HV hb6
  go_wp2_with fail
  go_loopw [6] (fun v6 wr => ∃ i : Nat, v6 = .int .i64 i ∧ i ≤ ps.length ∧ HvAt w w1.heap.size w2.heap.size A B ps ps g g2 wr) (fun v6 _ => ps.length - (intOf v6).toNat)
  case atStart => exact ⟨0, rfl, by omega, HW.out⟩
  case round =>
    obtain ⟨i, rfl, hle, hS⟩ := hrel
    clear HW
    by_cases hlt : i < ps.length
    · obtain rfl := hS.p.adr (by omega)
      obtain rfl := hS.q.adr (by omega)
      have c0 := hS.p.fst i hlt
      have c1 := hS.p.snd i hlt
      have c2 := hS.p.up i hlt
      have d0 := hS.q.fst i hlt
      have d1 := hS.q.snd i hlt
      have d2 := hS.q.up i hlt
      have HS := Lib.hid hS
      clear hS
      generalize ps[i].1 = I at *
      generalize ps[i].2.1 = J at *
      generalize ps[i].2.2 = U at *
      have hi : (i : Int) < (ps.length : Int) := by omega
      go_wp2_with fail
      go_quiet (fail)
      go_wp2_with fail
      go_roundw
      case rel => exact ⟨i + 1, by go_num, by omega, HS.out.drewN nq⟩
      case measure => simp [intOf]; omega
    · have HS := Lib.hid hS
      clear hS
      go_wp2_with fail
      go_ret
      exact ⟨rfl, HS.out.below⟩
end Go.Proofs.Ytceoopkcpkbdaaa
