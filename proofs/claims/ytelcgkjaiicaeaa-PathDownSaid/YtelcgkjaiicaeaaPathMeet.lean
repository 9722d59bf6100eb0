/- The document's Node and Deep; two slices of the same numbers are told to be the same; the chapter's example. Of what was in memory nothing changes. Conditions: each argument is an int. -/
import Derived.Test.YtelcgkjaiicaeaaPathRef
namespace Go.Proofs.Ytelcgkjaiicaeaa
open Go.RowKit Go.Shelf Go.ChangeShapes Go.WideShapes Go.ChangeAt

set_option maxHeartbeats 1000000 in
theorem rnode_in (D N l : Nat) (k : Int) (w : World) (hD : D ≤ 10) (hN : 2 ^ D = N) (hl : l < N) :
    Calls Try.prog 17 #[.int .i64 (N : Int), .int .i64 (l : Int), .int .i64 k] w fun e w' => e = .returned (.int .i64 (nodeI (N : Int) (l : Int) k)) ∧ Below w.heap.size w w' := by
  by_cases hk : 0 ≤ k ∧ k ≤ D
  · obtain ⟨j, rfl⟩ := Int.eq_ofNat_of_zero_le hk.1
    have hj : j ≤ D := by omega
    rw [nodeI_in hD hN hl hj]
    have d1 : decide ((j : Int) < 0) = false := by simp
    have d2 : decide ((D : Int) + 1 ≤ (j : Int)) = false := by simp; omega
    have d3 : decide (D + 1 ≤ j) = false := by simp; omega
    clear hk
    go_enter Try.func17, Try.ntmps17
    go_wp2_with fail
    refine (rway_in D N l _ hD hN hl).mono ?_
    rintro e w1 ⟨g, cap, rfl, hc, hi, hb⟩
    have hj2 := hi.cell j (by omega)
    have HB := Lib.hid hb
    clear hb hi
    go_wp2_with fail
    go_ret
    exact ⟨rfl, HB.out⟩
  · have hno : nodeI (N : Int) (l : Int) k = -1 := nodeI_no (by rw [dpt_two hD hN]; exact fun h => hk h.2)
    rw [hno]
    go_enter Try.func17, Try.ntmps17
    go_wp2_with fail
    refine (rway_in D N l _ hD hN hl).mono ?_
    rintro e w1 ⟨g, cap, rfl, hc, hi, hb⟩
    have HB := Lib.hid hb
    clear hb hi
    by_cases hk0 : k < 0
    · clear hk
      go_wp2_with fail
      go_ret
      exact ⟨rfl, HB.out⟩
    · have hk1 : (D : Int) + 1 ≤ k := by omega
      clear hk
      go_wp2_with fail
      go_ret
      exact ⟨rfl, HB.out⟩
set_option maxHeartbeats 1000000 in
theorem rpath_node (n l k : Int) (w : World) :
    Calls Try.prog 17 #[.int .i64 n, .int .i64 l, .int .i64 k] w fun e w' => e = .returned (.int .i64 (nodeI n l k)) ∧ Below w.heap.size w w' := by
  cases ht : inT n l
  · rw [nodeI_no (by rw [ht]; simp)]
    go_enter Try.func17, Try.ntmps17
    go_wp2_with fail
    refine (rway_no n l _ ht).mono ?_
    rintro e w1 ⟨rfl, rfl⟩
    by_cases hk0 : k < 0
    · go_wp2_with fail
      go_ret
      exact ⟨rfl, Below.refl _ _⟩
    · go_wp2_with fail
      go_ret
      exact ⟨rfl, Below.refl _ _⟩
  · obtain ⟨D, m, hD, rfl, rfl, hm⟩ := (inT_iff n l).1 ht
    exact rnode_in D _ m k w hD rfl hm
set_option maxRecDepth 100000 in
set_option maxHeartbeats 2000000 in
theorem rdeep_in (D N a b : Nat) (w : World) (hD : D ≤ 10) (hN : 2 ^ D = N) (ha : a < N) (hb : b < N) :
    Calls Try.prog 22 #[.int .i64 (N : Int), .int .i64 (a : Int), .int .i64 (b : Int)] w fun e w' => e = .returned (.int .i64 (deep D a b D : Nat)) ∧ Below w.heap.size w w' := by
  have HI := Lib.hid (deep_iff D a b (by omega) (by omega))
  have HL := Lib.hid (deep_le D a b D)
  generalize deep D a b D = q at *
  go_enter Try.func22, Try.ntmps22
  go_wp2_with fail
  refine (rway_in D N a _ hD hN ha).mono ?_
  rintro e w1 ⟨g1, c1, rfl, hc1, hi1, hb1⟩
  go_wp2_with fail
  refine (rway_in D N b _ hD hN hb).mono ?_
  rintro e w2 ⟨g2, c2, rfl, hc2, hi2, hb2⟩
  have HI1 := Lib.hid (hi1.below hb2 (Nat.le_refl _))
  have HI2 := Lib.hid hi2
  have HB := Lib.hid (hb1.trans (hb2.mono hb1.size))
  clear hi1 hi2 hb1 hb2
  go_wp2_with fail
  go_loopw [9, 10] (fun v9 v wr => ∃ i : Nat, v = .int .i64 i ∧ v9 = .int .i64 ((i : Int) - 1) ∧ i ≤ q + 1 ∧ ∃ k, wr = w2.drewN k) (fun _ v _ => D + 2 - (intOf v).toNat)
  case atStart => exact ⟨0, rfl, rfl, by omega, 0, rfl⟩
  case round =>
    obtain ⟨i, rfl, rfl, hi, hwk⟩ := hrel
    have HW := Lib.hid hwk
    obtain ⟨k, hk⟩ := hwk
    by_cases hiD : i < D + 1
    · have c1 := (HI1.out.drewN k).cell i hiD
      have c2 := (HI2.out.drewN k).cell i hiD
      rw [← hk] at c1 c2
      clear hk
      have d1 : (i : Int) < (D : Int) + 1 := by omega
      have d2 : decide ((i : Int) < (D : Int) + 1) = true := by simp; omega
      have d3 : decide (i < D + 1) = true := by simp; omega
      by_cases hle : i ≤ q
      · have he := (HI.out i (by omega)).2 hle
        rw [← he] at c2
        generalize nd D a i = m at *
        clear he
        go_wp2_with fail
        go_quiet (fail)
        go_wp2_with fail
        go_roundw
        case rel =>
          obtain ⟨k, hk⟩ := HW.out
          exact ⟨i + 1, by go_num, by go_num, by omega, k + nq, by rw [hk]; simp [World.drewN, Nat.add_assoc]⟩
        case measure => simp [intOf]; omega
      · have he : ((nd D a i : Int) == (nd D b i : Int)) = false := by
          rw [beq_eq_false_iff_ne]
          intro e
          exact hle ((HI.out i (by omega)).1 (by omega))
        have hn : ¬ nd D a i = nd D b i := fun e => hle ((HI.out i (by omega)).1 e)
        have hq : ((i : Int) - 1) = (q : Int) := by omega
        generalize nd D a i = m at *
        generalize nd D b i = m' at *
        have he2 : (m == m') = false := by rw [beq_eq_false_iff_ne]; exact hn
        go_wp2_with fail
        go_quiet (fail)
        go_wp2_with fail
        go_ret
        obtain ⟨k, hk⟩ := HW.out
        exact ⟨ret_int (by omega), by rw [hk]; exact below_drewN (below_drewN HB.out k) _⟩
    · have hq : ((i : Int) - 1) = (q : Int) := by have := HL.out; omega
      clear hk
      have d1 : ¬ (i : Int) < (D : Int) + 1 := by omega
      have d2 : decide ((i : Int) < (D : Int) + 1) = false := by simp; omega
      have d3 : decide (i < D + 1) = false := by simp; omega
      go_wp2_with fail
      go_quiet (fail)
      go_wp2_with fail
      go_ret
      obtain ⟨k, hk⟩ := HW.out
      exact ⟨ret_int (by omega), by rw [hk]; exact below_drewN (below_drewN HB.out k) _⟩
set_option maxRecDepth 100000 in
set_option maxHeartbeats 2000000 in
theorem rdeep_no (n a b : Int) (w : World) (h : ¬ (inT n a = true ∧ inT n b = true)) :
    Calls Try.prog 22 #[.int .i64 n, .int .i64 a, .int .i64 b] w fun e w' => e = .returned (.int .i64 (-1)) ∧ Below w.heap.size w w' := by
  cases hta : inT n a
  · clear h
    cases htb : inT n b
    · go_enter Try.func22, Try.ntmps22
      go_wp2_with fail
      refine (rway_no n a _ hta).mono ?_
      rintro e w1 ⟨rfl, rfl⟩
      go_wp2_with fail
      refine (rway_no n b _ htb).mono ?_
      rintro e w2 ⟨rfl, rfl⟩
      go_wp2_with fail
      go_loopw [9, 10] (fun v9 v wr => v = .int .i64 0 ∧ v9 = .int .i64 (-1) ∧ wr = w2) (fun _ _ _ => 0)
      case atStart => exact ⟨rfl, rfl, rfl⟩
      case round =>
        obtain ⟨rfl, rfl, rfl⟩ := hrel
        go_wp2_with fail
        go_quiet (fail)
        go_wp2_with fail
        go_ret
        exact ⟨rfl, below_drewN (Below.refl _ _) _⟩
    · obtain ⟨D, m, hD, rfl, rfl, hm⟩ := (inT_iff n b).1 htb
      clear htb
      obtain ⟨N, hN⟩ : ∃ N, 2 ^ D = N := ⟨_, rfl⟩
      rw [hN] at hta hm ⊢
      go_enter Try.func22, Try.ntmps22
      go_wp2_with fail
      refine (rway_no (N : Int) a _ hta).mono ?_
      rintro e w1 ⟨rfl, rfl⟩
      go_wp2_with fail
      refine (rway_in D N m _ hD hN hm).mono ?_
      rintro e w2 ⟨g2, c2, rfl, hc2, hi2, hb2⟩
      have HB := Lib.hid hb2
      clear hi2 hb2
      go_wp2_with fail
      go_loopw [9, 10] (fun v9 v wr => v = .int .i64 0 ∧ v9 = .int .i64 (-1) ∧ wr = w2) (fun _ _ _ => 0)
      case atStart => exact ⟨rfl, rfl, rfl⟩
      case round =>
        obtain ⟨rfl, rfl, rfl⟩ := hrel
        go_wp2_with fail
        go_quiet (fail)
        go_wp2_with fail
        go_ret
        exact ⟨rfl, below_drewN HB.out _⟩
  · have htb : inT n b = false := by
      cases htb : inT n b
      · rfl
      · exact absurd ⟨hta, htb⟩ h
    clear h
    obtain ⟨D, m, hD, rfl, rfl, hm⟩ := (inT_iff n a).1 hta
    clear hta
    obtain ⟨N, hN⟩ : ∃ N, 2 ^ D = N := ⟨_, rfl⟩
    rw [hN] at htb hm ⊢
    go_enter Try.func22, Try.ntmps22
    go_wp2_with fail
    refine (rway_in D N m _ hD hN hm).mono ?_
    rintro e w1 ⟨g2, c2, rfl, hc2, hi2, hb2⟩
    have HB := Lib.hid hb2
    clear hi2 hb2
    go_wp2_with fail
    refine (rway_no (N : Int) b _ htb).mono ?_
    rintro e w2 ⟨rfl, rfl⟩
    have d1 : (0 : Int) < (D : Int) + 1 := by omega
    go_wp2_with fail
    go_loopw [9, 10] (fun v9 v wr => v = .int .i64 0 ∧ v9 = .int .i64 (-1) ∧ wr = w2) (fun _ _ _ => 0)
    case atStart => exact ⟨rfl, rfl, rfl⟩
    case round =>
      obtain ⟨rfl, rfl, rfl⟩ := hrel
      go_wp2_with fail
      go_quiet (fail)
      go_wp2_with fail
      go_ret
      exact ⟨rfl, below_drewN HB.out _⟩
theorem rpath_deep (n a b : Int) (w : World) :
    Calls Try.prog 22 #[.int .i64 n, .int .i64 a, .int .i64 b] w fun e w' => e = .returned (.int .i64 (deepI n a b)) ∧ Below w.heap.size w w' := by
  by_cases h : inT n a = true ∧ inT n b = true
  · obtain ⟨ha, hb⟩ := h
    obtain ⟨D, x, hD, rfl, rfl, hx⟩ := (inT_iff n a).1 ha
    obtain ⟨D2, y, hD2, e, rfl, hy⟩ := (inT_iff _ b).1 hb
    have hy' : y < 2 ^ D := by omega
    rw [deepI_in hD rfl hx hy']
    exact rdeep_in D _ x y w hD rfl hx hy'
  · rw [deepI_no h]
    exact rdeep_no n a b w h
set_option maxHeartbeats 1000000 in
theorem same_nums (a b : Option Addr) (n c d B C : Nat) (z : Nat → Int) (w : World) (hn : n ≤ 9223372036854775807) (ha : Nums .i64 w B a n z) (hb : Nums .i64 w C b n z) :
    Calls Try.prog 18 #[.slice a n c, .slice b n d] w fun e w' => e = .returned (.bool true) ∧ ∃ k, w' = w.drewN k := by
  have HA := Lib.hid ha
  have HB := Lib.hid hb
  clear ha hb
  go_enter Try.func18, Try.ntmps18
  go_wp2_with fail
  go_loopw [5] (fun v wr => ∃ i : Nat, v = .int .i64 i ∧ i ≤ n ∧ ∃ k, wr = w.drewN k) (fun v _ => n - (intOf v).toNat)
  case atStart => exact ⟨0, rfl, by omega, 0, rfl⟩
  case round =>
    obtain ⟨i, rfl, hle, hwk⟩ := hrel
    have HW := Lib.hid hwk
    by_cases hlt : i < n
    · obtain ⟨k, hk⟩ := hwk
      obtain ⟨b1, o1, rfl, _, c1⟩ := (show Nums .i64 (w.drewN k) B a n z from HA.out).at hlt
      obtain ⟨b2, o2, rfl, _, c2⟩ := (show Nums .i64 (w.drewN k) C b n z from HB.out).at hlt
      rw [← hk] at c1 c2
      clear hk
      go_wp2_with fail
      go_quiet (fail)
      go_wp2_with fail
      go_roundw
      case rel =>
        obtain ⟨k, hk⟩ := HW.out
        exact ⟨i + 1, by go_num, by omega, k + nq, by rw [hk]; simp [World.drewN, Nat.add_assoc]⟩
      case measure => simp [intOf]; omega
    · clear hwk
      go_wp2_with fail
      go_ret
      exact ⟨rfl, HW.out⟩
theorem below_same {B : Nat} {w w' : World} (h : ∃ k, w' = w.drewN k) : Below B w w' := by
  obtain ⟨k, rfl⟩ := h
  exact below_drewN (Below.refl _ _) k
set_option maxHeartbeats 1000000 in
theorem shown_any (w : World) : Calls Try.prog 9 #[] w fun e w' => e = .returned (.bool true) ∧ Below w.heap.size w w' := by
  have e1 : (deep 2 2 3 2 : Nat) = 1 := by decide
  have e2 : (deep 2 1 2 2 : Nat) = 0 := by decide
  go_enter Try.func9, Try.ntmps9
  go_wp2_with fail
  refine (way_in 2 4 2 _ (by decide) (by decide) (by decide)).mono ?_
  rintro e w1 ⟨g, cap, rfl, hc, hi, hb⟩
  have HB := Lib.hid (hb.alloc hb.size (.cells #[.int .i64 0, .int .i64 2, .int .i64 5] 3))
  have HI := Lib.hid (hi.alloc (.cells #[.int .i64 0, .int .i64 2, .int .i64 5] 3))
  clear hb hi
  go_wp2_with fail
  refine (same_nums _ _ 3 cap 3 _ (w1.heap.size + 1) (fun k => (nd 2 2 k : Int)) _ (by decide) (HI.out.nums (Nat.le_refl _)) (fun _ => ⟨w1.heap.size, 0, rfl, by omega, fun j hj => ?_⟩)).mono ?_
  · rw [Nat.zero_add, (Box.new w1 _ _).cell j]
    match j, hj with
    | 0, _ => rfl
    | 1, _ => rfl
    | 2, _ => rfl
  rintro e w2 ⟨rfl, hw2⟩
  have HB2 := Lib.hid (HB.out.trans (below_same hw2))
  clear HB HI hw2
  go_wp2_with fail
  refine (deep_in 2 4 2 3 _ (by decide) (by decide) (by decide) (by decide)).mono ?_
  rintro e w3 ⟨rfl, rfl⟩
  rw [e1]
  go_wp2_with fail
  refine (deep_in 2 4 1 2 _ (by decide) (by decide) (by decide) (by decide)).mono ?_
  rintro e w4 ⟨rfl, rfl⟩
  rw [e2]
  go_wp2_with fail
  go_ret
  exact ⟨rfl, HB2.out⟩
end Go.Proofs.Ytelcgkjaiicaeaa
