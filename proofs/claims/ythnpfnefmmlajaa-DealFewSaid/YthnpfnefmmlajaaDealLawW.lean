/- DealFew: for every input the law returns true, and of what was in memory nothing changes. -/
import Derived.Test.YthnpfnefmmlajaaDealLawN
namespace Go.Proofs.Ythnpfnefmmlajaa
open Go.RowKit Go.ChangeShapes Go.WideShapes Go.ChangeAt

/-- Is an item one that may lie on the levels 0 to d alone? -/
def inQ (k : Nat → It) (D d i : Nat) : Bool := decide (0 ≤ (k i).2) && decide (min (k i).2 (D : Int) ≤ (d : Int))
/-- Does an item that is not empty lie in the stash? -/
def ovQ (k : Nat → It) (P : Nat → Nat) (L n i : Nat) : Bool := decide (0 ≤ (k i).2) && (decide (L ≤ P i) && decide (P i < n - 1))
/-- The most that must be left over, of the levels below d. -/
def mst (k : Nat → It) (S D n : Nat) : Nat → Nat
  | 0 => 0
  | d + 1 => max (mst k S D n d) (cn (inQ k D d) n - S * (d + 1))
theorem mst_le (k : Nat → It) (S D n : Nat) : ∀ d, mst k S D n d ≤ n
  | 0 => Nat.zero_le _
  | d + 1 => by
    have := mst_le k S D n d
    have := cn_le (inQ k D d) n
    show max (mst k S D n d) _ ≤ n
    omega
theorem in_count {n D d : Nat} {k : Nat → It} {o : List Nat} (ho : IsOrd k n o) : (deeps k (reals k o)).countP (fun x => decide (min x D ≤ d)) = cn (inQ k D d) n := by
  rw [deeps_count ho]
  unfold cn
  apply List.countP_congr
  intro i _
  unfold inQ
  by_cases h : 0 ≤ (k i).2
  · have e : decide (min (k i).2.toNat D ≤ d) = decide (min (k i).2 (D : Int) ≤ (d : Int)) := decide_eq_decide.2 (by omega)
    rw [e]
  · rw [decide_eq_false h]; simp
theorem mst_is {n S D : Nat} {k : Nat → It} {o : List Nat} (ho : IsOrd k n o) : ∀ d, msd S D (deeps k (reals k o)) d = mst k S D n d
  | 0 => rfl
  | d + 1 => by
    show max (msd S D (deeps k (reals k o)) d) _ = max (mst k S D n d) _
    rw [mst_is ho d, in_count ho]
theorem few_facts {D S T L n : Nat} {k : Nat → It} {o : List Nat} (h2 : 1 ≤ S) (hL : (D + 1) * S = L) (hn : L + T + 1 = n) (ho : IsOrd k n o) :
    (lostO k S D T o).length = mst k S D n (D + 1) - T ∧ ((lostO k S D T o).length = 0 → cn (ovQ k (outP (goes k S D T o) n) L n) n = mst k S D n (D + 1)) := by
  refine ⟨by rw [lost_len (by omega) ho, mst_is ho], fun h => ?_⟩
  rw [← mst_is ho, ← over_is (by omega) ho h]
  unfold cn
  apply List.countP_congr
  intro i hi
  have := over_at (by omega) (by rw [hL]; exact hn.symm) ho h i (List.mem_range.1 hi)
  unfold ovQ
  rw [hL] at this ⊢
  rw [this]
set_option maxRecDepth 100000 in
set_option maxHeartbeats 4000000 in
theorem few_in (D S T L n nl c : Nat) (a : Option Addr) (y : Nat → It) (w : World) (h1 : D ≤ 10) (h2 : 1 ≤ S) (h3 : S ≤ 8) (h4 : 1 ≤ T) (h5 : T ≤ 64) (hL : (D + 1) * S = L) (hn : L + T + 1 = n)
    (hI : Its w w.heap.size a nl y) (hy : ∀ j, j < nl → ItOk (y j)) (hnl : nl ≤ 160) :
    Calls Try.prog 5 #[.agg #[.int .i64 (D : Int), .int .i64 (S : Int), .int .i64 (T : Int)], .slice a nl c] w fun e w' => e = .returned (.bool true) ∧ Below w.heap.size w w' := by
  have hl := (mul_places h1 h3 hL)
  have hl1 : 1 ≤ L := by rw [← hL]; exact Nat.le_trans h2 (Nat.le_mul_of_pos_left S (by omega))
  have hsh := isSh_yes h1 h2 h3 h4 h5
  have HR := Lib.hid (fun W => (deal_right (D : Int) (S : Int) (T : Int) W))
  rw [hsh] at HR
  have HP := Lib.hid (fun W => places_in D S T L n h1 h2 h3 h4 h5 hL hn W)
  have HD := Lib.hid (fun W a c y hI hy => deal_in D S T L n c a y W h1 h2 h3 h4 h5 hL hn hI hy)
  have HL := Lib.hid hL
  have hnb : 3 ≤ n ∧ n ≤ 153 := by omega
  have HN := Lib.hid hn
  have HMul := Lib.hid hl.1
  have hl2 := hl.2
  have HI := Lib.hid hI
  have HY := Lib.hid (fl_ok (n := n) hy)
  have hnl2 : (nl : Int) ≤ 160 := by omega
  have hLn : L < n := by omega
  clear hl hsh hn hL hI hy
  go_enter Try.func5, Try.ntmps5
  go_wp2_with fail
  refine (shown_any _).mono ?_
  rintro e w1 ⟨rfl, hb1⟩
  have hbx := (Box.new w 23 #[.int .i64 (D : Int), .int .i64 (S : Int), .int .i64 (T : Int)]).of (hb1.block _ (by simp))
  have HB := Lib.hid (((Below.refl _ w).alloc (Nat.le_refl _) (.cells #[.int .i64 (D : Int), .int .i64 (S : Int), .int .i64 (T : Int)] 23)).trans (hb1.mono (by simp)))
  have c0 := hbx.cell 0
  have c1 := hbx.cell 1
  have c2 := hbx.cell 2
  have HBx := Lib.hid hbx
  clear hb1 hbx
  go_wp2_with fail
  refine (HR.out _).mono ?_
  rintro e w2 ⟨rfl, hb2⟩
  have HB2 := Lib.hid (HB.out.trans (hb2.mono HB.out.size))
  have HBx2 := Lib.hid (HBx.out.of (hb2.block _ HBx.out.lt))
  clear hb2 HB HBx c0 c1 c2
  have c0 := HBx2.out.cell 0
  have c1 := HBx2.out.cell 1
  have c2 := HBx2.out.cell 2
  go_wp2_with fail
  refine (HP.out _).mono ?_
  rintro e w3 ⟨rfl, hb3⟩
  have HB3 := Lib.hid (HB2.out.trans (hb3.mono HB2.out.size))
  have HBx3 := Lib.hid (HBx2.out.of (hb3.block _ HBx2.out.lt))
  clear hb3 HB2 HBx2 c0 c1 c2
  go_wp2_with fail
  refine (filled_any a nl c n y w3 (by omega) ((HI.out.below HB3.out).more HB3.out.size)).mono ?_
  rintro e w4 ⟨A, cap, rfl, hown, hb4⟩
  have HIt := Lib.hid (own_items hown)
  have HB4 := Lib.hid (HB3.out.trans (hb4.mono HB3.out.size))
  have HBx4 := Lib.hid (HBx3.out.of (hb4.block _ HBx3.out.lt))
  clear hown hb4 HB3 HBx3
  have c0 := HBx4.out.cell 0
  have c1 := HBx4.out.cell 1
  have c2 := HBx4.out.cell 2
  go_wp2_with fail
  refine (HD.out w4 A cap (fl nl y) HIt.out HY.out).mono ?_
  rintro e w8 ⟨o, g, B, cap2, ho, rfl, hir, hnum, hb8⟩
  have HIt8 := Lib.hid ((HIt.out.below hb8).more hb8.size)
  have HB8 := Lib.hid (HB4.out.trans (hb8.mono HB4.out.size))
  have HBx8 := Lib.hid (HBx4.out.of (hb8.block _ HBx4.out.lt))
  have HI8 := Lib.hid hir
  have HO := Lib.hid ho
  have hs48 := hb8.size
  clear hnum hb8 hir ho HB4 HBx4 HIt c0 c1 c2 HD HR HP HI
  have HF := Lib.hid (few_facts (T := T) h2 HL.out HN.out HO.out)
  have HPl := Lib.hid (fun i (hi : i < n) => out_lt (T := T) h2 HL.out HN.out HO.out i hi)
  generalize outP (goes (fl nl y) S D T o) n = P at *
  generalize (lostO (fl nl y) S D T o).length = Q at *
  generalize fl nl y = k at *
  obtain ⟨sb, hsb⟩ : ∃ sb, w.heap.size = sb := ⟨_, rfl⟩
  have HSB := Lib.hid hsb
  have HBx9 : Hid (Box w8 sb 23 #[.int .i64 (D : Int), .int .i64 (S : Int), .int .i64 (T : Int)]) := by rw [← hsb]; exact HBx8
  clear hsb HO hs48 HBx8
  have c0 := HBx9.out.cell 0
  go_wp2_with fail
  rw [HSB.out]
  go_loopw [10, 11] (fun v10 v11 wr => ∃ d : Nat, v11 = .int .i64 d ∧ v10 = .int .i64 (mst k S D n d : Nat) ∧ d ≤ D + 1 ∧ ∃ q, wr = w8.drewN q) (fun _ v _ => D + 2 - (intOf v).toNat)
  case atStart => exact ⟨0, rfl, rfl, by omega, 0, rfl⟩
  case round =>
    obtain ⟨d, rfl, rfl, hle, hw⟩ := hrel
    have HW := Lib.hid hw
    obtain ⟨q, hq⟩ := hw
    have c0 := (HBx9.out.drewN q).cell 0
    rw [← hq] at c0
    have hmb := mst_le k S D n d
    by_cases hdD : d ≤ D
    · have hst : mst k S D n (d + 1) = max (mst k S D n d) (cn (inQ k D d) n - S * (d + 1)) := rfl
      have HSt := Lib.hid hst
      clear hq hst
      generalize mst k S D n d = mo at *
      have dd : decide ((d : Int) ≤ (D : Int)) = true := by simp; exact hdD
      have dd2 : decide (d ≤ D) = true := decide_eq_true hdD
      obtain ⟨w9, h9⟩ : ∃ x, x = wr := ⟨_, rfl⟩
      subst h9
      go_wp2_with fail
      go_loopw [12, 13] (fun v12 v13 wr => ∃ i : Nat, v13 = .int .i64 i ∧ v12 = .int .i64 (cn (inQ k D d) i : Nat) ∧ i ≤ n ∧ ∃ q, wr = w9.drewN q) (fun _ v _ => n - (intOf v).toNat)
      case atStart => exact ⟨0, rfl, by simp [cn], by omega, 0, rfl⟩
      case round =>
        obtain ⟨i, rfl, rfl, hi, hw⟩ := hrel
        have HW2 := Lib.hid hw
        obtain ⟨q2, hq2⟩ := hw
        obtain ⟨q1, hq1⟩ := HW.out
        have hc := cn_le (inQ k D d) i
        by_cases hin : i < n
        · obtain ⟨b, off, rfl, hb, k0, k1⟩ := ((HIt8.out.drewN q1).drewN q2).at hin
          rw [← hq1, ← hq2] at k1
          have e0 := ((HBx9.out.drewN q1).drewN q2).cell 0
          rw [← hq1, ← hq2] at e0
          have HC := Lib.hid (cn_succ (inQ k D d) i)
          have hqe : inQ k D d i = (decide (0 ≤ (k i).2) && decide (min (k i).2 (D : Int) ≤ (d : Int))) := rfl
          clear hq1 hq2 k0 c0
          generalize cn (inQ k D d) i = x1 at *
          generalize (k i).2 = yd at *
          by_cases hneg : yd < 0
          · have HQ : Hid (inQ k D d i = false) := Lib.hid (by rw [hqe, decide_eq_false (show ¬ 0 ≤ yd by omega)]; rfl)
            have d1 : decide (0 ≤ yd) = false := decide_eq_false (by omega)
            clear hqe
            go_wp2_with fail
            go_quiet (fail)
            go_wp2_with fail
            go_roundw
            case rel =>
              obtain ⟨q2, hq2⟩ := HW2.out
              exact ⟨i + 1, by go_num, by rw [HC.out, HQ.out]; go_num, by omega, q2 + nq, by rw [hq2]; simp [World.drewN, Nat.add_assoc]⟩
            case measure => simp [intOf]; omega
          · have d1 : decide (0 ≤ yd) = true := decide_eq_true (by omega)
            obtain ⟨mm, hmm⟩ : ∃ mm, min yd (D : Int) = mm := ⟨_, rfl⟩
            rw [hmm, d1, Bool.true_and] at hqe
            by_cases hmd : mm ≤ (d : Int)
            · have HQ : Hid (inQ k D d i = true) := Lib.hid (by rw [hqe]; exact decide_eq_true hmd)
              have d2 : decide (mm ≤ (d : Int)) = true := decide_eq_true hmd
              clear hqe
              go_wp2_with fail
              go_quiet (fail)
              go_wp2_with fail
              go_roundw
              case rel =>
                obtain ⟨q2, hq2⟩ := HW2.out
                exact ⟨i + 1, by go_num, by rw [HC.out, HQ.out]; go_num, by omega, q2 + nq, by rw [hq2]; simp [World.drewN, Nat.add_assoc]⟩
              case measure => simp [intOf]; omega
            · have HQ : Hid (inQ k D d i = false) := Lib.hid (by rw [hqe]; exact decide_eq_false hmd)
              have d2 : decide (mm ≤ (d : Int)) = false := decide_eq_false hmd
              clear hqe
              go_wp2_with fail
              go_quiet (fail)
              go_wp2_with fail
              go_roundw
              case rel =>
                obtain ⟨q2, hq2⟩ := HW2.out
                exact ⟨i + 1, by go_num, by rw [HC.out, HQ.out]; go_num, by omega, q2 + nq, by rw [hq2]; simp [World.drewN, Nat.add_assoc]⟩
              case measure => simp [intOf]; omega
        · obtain rfl : i = n := by omega
          have hZ : S * (d + 1) ≤ 88 := Nat.le_trans (Nat.mul_le_mul h3 (show d + 1 ≤ 11 by omega)) (by decide)
          have hz1 : (S : Int) * ((d : Int) + 1) = ((S * (d + 1) : Nat) : Int) := by simp
          have e1 := ((HBx9.out.drewN q1).drewN q2).cell 1
          rw [← hq1, ← hq2] at e1
          have HST := HSt.out
          generalize S * (d + 1) = Z at *
          generalize cn (inQ k D d) i = x1 at *
          have hmx : max (mo : Int) ((x1 : Int) - (Z : Int)) = ((max mo (x1 - Z) : Nat) : Int) := by omega
          have hxx : max mo (x1 - Z) ≤ 153 := by omega
          have HS2 := Lib.hid HST
          clear HST HSt hq1 hq2 hin c0
          generalize max mo (x1 - Z) = mx at *
          go_wp2_with fail
          go_roundw
          case rel =>
            obtain ⟨q2, hq2⟩ := HW2.out
            obtain ⟨q1, hq1⟩ := HW.out
            exact ⟨d + 1, by go_num, by rw [HS2.out], by omega, q1 + q2, by rw [hq2, hq1]; simp [World.drewN, Nat.add_assoc]⟩
          case measure => simp [intOf]; omega
    · obtain rfl : d = D + 1 := by omega
      obtain ⟨hf1, hf2⟩ := HF.out
      generalize mst k S D n (D + 1) = M at *
      have HF2 := Lib.hid (And.intro hf1 hf2)
      have dd : decide (((D + 1 : Nat) : Int) ≤ (D : Int)) = false := by simp; omega
      have dd2 : decide (D + 1 ≤ D) = false := decide_eq_false hdD
      have dd3 : decide ((D : Int) + 1 ≤ (D : Int)) = false := decide_eq_false (by omega)
      have HBw := Lib.hid (show Below w.heap.size w wr by rw [hq]; exact below_drewN HB8.out q)
      clear hf1 hf2 hq hdD
      obtain ⟨w9, h9⟩ : ∃ x, x = wr := ⟨_, rfl⟩
      subst h9
      go_wp2_with fail
      go_loopw [14, 15] (fun v14 v15 wr => ∃ i : Nat, v15 = .int .i64 i ∧ v14 = .int .i64 (cn (ovQ k P L n) i : Nat) ∧ i ≤ n ∧ ∃ q, wr = w9.drewN q) (fun _ v _ => n - (intOf v).toNat)
      case atStart => exact ⟨0, rfl, by simp [cn], by omega, 0, rfl⟩
      case round =>
        obtain ⟨i, rfl, rfl, hi, hw⟩ := hrel
        have HW2 := Lib.hid hw
        obtain ⟨q2, hq2⟩ := hw
        obtain ⟨q1, hq1⟩ := HW.out
        have hc := cn_le (ovQ k P L n) i
        by_cases hin : i < n
        · obtain ⟨b, off, rfl, hb, k0, k1⟩ := ((HIt8.out.drewN q1).drewN q2).at hin
          have e0 := ((HBx9.out.drewN q1).drewN q2).cell 0
          have e1 := ((HBx9.out.drewN q1).drewN q2).cell 1
          have cp := ((HI8.out.drewN q1).drewN q2).cell i hin
          rw [← hq1, ← hq2] at k1 e0 e1 cp
          have HC := Lib.hid (cn_succ (ovQ k P L n) i)
          have hqe : ovQ k P L n i = (decide (0 ≤ (k i).2) && (decide (L ≤ P i) && decide (P i < n - 1))) := rfl
          have hpn := HPl.out i hin
          have hmul := HMul.out
          have hn1 : n - 1 ≤ 153 := by omega
          have e5 : (n : Int) - 1 = ((n - 1 : Nat) : Int) := by omega
          clear hq1 hq2 k0 c0
          generalize cn (ovQ k P L n) i = x1 at *
          generalize P i = p at *
          generalize (k i).2 = yd at *
          obtain ⟨nn, hnn⟩ : ∃ nn, n - 1 = nn := ⟨_, rfl⟩
          rw [hnn] at hqe
          have hpnn : (p : Int) < (nn : Int) ↔ p < nn := by omega
          have hws : IntKind.i64.wrap ((n : Int) - 1) = (nn : Int) := by rw [IntKind.wrap_i64]; omega
          have hwd : IntKind.i64.wrap ((D : Int) + 1) = (D : Int) + 1 := by rw [IntKind.wrap_i64]; clear hws; omega
          have hwm : IntKind.i64.wrap ((S : Int) * ((D : Int) + 1)) = (L : Int) := by rw [hmul, IntKind.wrap_i64]; clear hws hwd; omega
          clear hnn hpnn hmul e5 hn1
          by_cases hneg : yd < 0
          · have HQ : Hid (ovQ k P L n i = false) := Lib.hid (by rw [hqe, decide_eq_false (show ¬ 0 ≤ yd by clear hws hwm hwd; omega)]; rfl)
            have d1 : decide (0 ≤ yd) = false := decide_eq_false (by clear hws hwm hwd; omega)
            clear hqe hneg
            go_wp2_with fail
            refine held_s (S := fun w' => w'.cell? ⟨b, off + i * 2 + 1, none⟩ = some (.int .i64 yd) ∧ w'.cell? ⟨sb, 0, none⟩ = some (.int .i64 (D : Int)) ∧ w'.cell? ⟨sb, 1, none⟩ = some (.int .i64 (S : Int)) ∧ w'.cell? ⟨g, i, none⟩ = some (.int .i64 (p : Int))) 28 rfl (by kernel_rfl) ⟨k1, e0, e1, cp⟩ (fun hHeld => ?_)
            clear k1 e0 e1 cp
            simp only [Array.replicate_succ, Array.replicate_zero, List.push_toArray, List.nil_append, List.cons_append]
            refine wpAnyH_take (i := 0) (oi := ⟨some 90, _, _, _, _, _⟩) (v := .slice (some ⟨b, off, none⟩) n cap) rfl (by kernel_rfl) (by kernel_rfl) (by kernel_rfl) (fun _ _ _ h => h) (Or.inl ⟨by rfl, fun w' hw => by go_simp⟩) hHeld ?_
            try simp only [Act.put, List.setIfInBounds_toArray, List.set_cons_zero, List.set_cons_succ]
            refine wpAnyH_take (i := 1) (oi := ⟨some 91, _, _, _, _, _⟩) (v := .int .i64 (i : Int)) rfl (by kernel_rfl) (by kernel_rfl) (by kernel_rfl) (fun _ _ _ h => h) (Or.inl ⟨by rfl, fun w' hw => by go_simp⟩) hHeld ?_
            try simp only [Act.put, List.setIfInBounds_toArray, List.set_cons_zero, List.set_cons_succ]
            refine wpAnyH_take (i := 2) (oi := ⟨some 92, _, _, _, _, _⟩) (v := .pointer (some ⟨b, off + i * 2, none⟩)) rfl (by kernel_rfl) (by kernel_rfl) (by kernel_rfl) (fun _ _ _ h => h) (Or.inl ⟨by rfl, fun w' hw => by go_simp⟩) hHeld ?_
            try simp only [Act.put, List.setIfInBounds_toArray, List.set_cons_zero, List.set_cons_succ]
            refine wpAnyH_take (i := 3) (oi := ⟨some 93, _, _, _, _, _⟩) (v := .pointer (some ⟨b, off + i * 2 + 1, none⟩)) rfl (by kernel_rfl) (by kernel_rfl) (by kernel_rfl) (fun _ _ _ h => h) (Or.inl ⟨by rfl, fun w' hw => by go_simp⟩) hHeld ?_
            try simp only [Act.put, List.setIfInBounds_toArray, List.set_cons_zero, List.set_cons_succ]
            refine wpAnyH_take (i := 4) (oi := ⟨some 94, _, _, _, _, _⟩) (v := .int .i64 yd) rfl (by kernel_rfl) (by kernel_rfl) (by kernel_rfl) (fun _ _ _ h => h) (Or.inl ⟨by rfl, fun w' hw => by (obtain ⟨s1, s2, s3, s4⟩ := hw; go_simp)⟩) hHeld ?_
            try simp only [Act.put, List.setIfInBounds_toArray, List.set_cons_zero, List.set_cons_succ]
            refine wpAnyH_take (i := 5) (oi := ⟨some 95, _, _, _, _, _⟩) (v := .bool false) rfl (by kernel_rfl) (by kernel_rfl) (by kernel_rfl) (fun _ _ _ h => h) (Or.inl ⟨by rfl, fun w' hw => by go_simp⟩) hHeld ?_
            try simp only [Act.put, List.setIfInBounds_toArray, List.set_cons_zero, List.set_cons_succ]
            refine wpAnyH_take (i := 6) (oi := ⟨some 96, _, _, _, _, _⟩) (v := .bool false) rfl (by kernel_rfl) (by kernel_rfl) (by kernel_rfl) (fun _ _ _ h => h) (Or.inl ⟨by rfl, fun w' hw => by go_simp⟩) hHeld ?_
            try simp only [Act.put, List.setIfInBounds_toArray, List.set_cons_zero, List.set_cons_succ]
            refine wpAnyH_take (i := 7) (oi := ⟨some 97, _, _, _, _, _⟩) (v := undef) rfl (by kernel_rfl) (by kernel_rfl) (by kernel_rfl) (fun _ _ _ h => h) (Or.inr ⟨by rfl, rfl⟩) hHeld ?_
            try simp only [Act.put, List.setIfInBounds_toArray, List.set_cons_zero, List.set_cons_succ]
            refine wpAnyH_take (i := 8) (oi := ⟨some 98, _, _, _, _, _⟩) (v := undef) rfl (by kernel_rfl) (by kernel_rfl) (by kernel_rfl) (fun _ _ _ h => h) (Or.inr ⟨by rfl, rfl⟩) hHeld ?_
            try simp only [Act.put, List.setIfInBounds_toArray, List.set_cons_zero, List.set_cons_succ]
            refine wpAnyH_take (i := 9) (oi := ⟨some 99, _, _, _, _, _⟩) (v := undef) rfl (by kernel_rfl) (by kernel_rfl) (by kernel_rfl) (fun _ _ _ h => h) (Or.inr ⟨by rfl, rfl⟩) hHeld ?_
            try simp only [Act.put, List.setIfInBounds_toArray, List.set_cons_zero, List.set_cons_succ]
            refine wpAnyH_take (i := 10) (oi := ⟨some 100, _, _, _, _, _⟩) (v := undef) rfl (by kernel_rfl) (by kernel_rfl) (by kernel_rfl) (fun _ _ _ h => h) (Or.inr ⟨by rfl, rfl⟩) hHeld ?_
            try simp only [Act.put, List.setIfInBounds_toArray, List.set_cons_zero, List.set_cons_succ]
            refine wpAnyH_take (i := 11) (oi := ⟨some 101, _, _, _, _, _⟩) (v := undef) rfl (by kernel_rfl) (by kernel_rfl) (by kernel_rfl) (fun _ _ _ h => h) (Or.inr ⟨by rfl, rfl⟩) hHeld ?_
            try simp only [Act.put, List.setIfInBounds_toArray, List.set_cons_zero, List.set_cons_succ]
            refine wpAnyH_take (i := 12) (oi := ⟨some 102, _, _, _, _, _⟩) (v := undef) rfl (by kernel_rfl) (by kernel_rfl) (by kernel_rfl) (fun _ _ _ h => h) (Or.inr ⟨by rfl, rfl⟩) hHeld ?_
            try simp only [Act.put, List.setIfInBounds_toArray, List.set_cons_zero, List.set_cons_succ]
            refine wpAnyH_take (i := 13) (oi := ⟨some 103, _, _, _, _, _⟩) (v := undef) rfl (by kernel_rfl) (by kernel_rfl) (by kernel_rfl) (fun _ _ _ h => h) (Or.inr ⟨by rfl, rfl⟩) hHeld ?_
            try simp only [Act.put, List.setIfInBounds_toArray, List.set_cons_zero, List.set_cons_succ]
            refine wpAnyH_take (i := 14) (oi := ⟨some 104, _, _, _, _, _⟩) (v := undef) rfl (by kernel_rfl) (by kernel_rfl) (by kernel_rfl) (fun _ _ _ h => h) (Or.inr ⟨by rfl, rfl⟩) hHeld ?_
            try simp only [Act.put, List.setIfInBounds_toArray, List.set_cons_zero, List.set_cons_succ]
            refine wpAnyH_take (i := 15) (oi := ⟨some 105, _, _, _, _, _⟩) (v := undef) rfl (by kernel_rfl) (by kernel_rfl) (by kernel_rfl) (fun _ _ _ h => h) (Or.inr ⟨by rfl, rfl⟩) hHeld ?_
            try simp only [Act.put, List.setIfInBounds_toArray, List.set_cons_zero, List.set_cons_succ]
            refine wpAnyH_take (i := 16) (oi := ⟨some 106, _, _, _, _, _⟩) (v := undef) rfl (by kernel_rfl) (by kernel_rfl) (by kernel_rfl) (fun _ _ _ h => h) (Or.inr ⟨by rfl, rfl⟩) hHeld ?_
            try simp only [Act.put, List.setIfInBounds_toArray, List.set_cons_zero, List.set_cons_succ]
            refine wpAnyH_take (i := 17) (oi := ⟨some 107, _, _, _, _, _⟩) (v := undef) rfl (by kernel_rfl) (by kernel_rfl) (by kernel_rfl) (fun _ _ _ h => h) (Or.inr ⟨by rfl, rfl⟩) hHeld ?_
            try simp only [Act.put, List.setIfInBounds_toArray, List.set_cons_zero, List.set_cons_succ]
            refine wpAnyH_take (i := 18) (oi := ⟨some 108, _, _, _, _, _⟩) (v := .bool false) rfl (by kernel_rfl) (by kernel_rfl) (by kernel_rfl) (fun _ _ _ h => h) (Or.inl ⟨by rfl, fun w' hw => by go_simp⟩) hHeld ?_
            try simp only [Act.put, List.setIfInBounds_toArray, List.set_cons_zero, List.set_cons_succ]
            refine wpAnyH_take (i := 19) (oi := ⟨some 109, _, _, _, _, _⟩) (v := .bool false) rfl (by kernel_rfl) (by kernel_rfl) (by kernel_rfl) (fun _ _ _ h => h) (Or.inl ⟨by rfl, fun w' hw => by go_simp⟩) hHeld ?_
            try simp only [Act.put, List.setIfInBounds_toArray, List.set_cons_zero, List.set_cons_succ]
            refine wpAnyH_take (i := 20) (oi := ⟨some 110, _, _, _, _, _⟩) (v := undef) rfl (by kernel_rfl) (by kernel_rfl) (by kernel_rfl) (fun _ _ _ h => h) (Or.inr ⟨by rfl, rfl⟩) hHeld ?_
            try simp only [Act.put, List.setIfInBounds_toArray, List.set_cons_zero, List.set_cons_succ]
            refine wpAnyH_take (i := 21) (oi := ⟨some 111, _, _, _, _, _⟩) (v := undef) rfl (by kernel_rfl) (by kernel_rfl) (by kernel_rfl) (fun _ _ _ h => h) (Or.inr ⟨by rfl, rfl⟩) hHeld ?_
            try simp only [Act.put, List.setIfInBounds_toArray, List.set_cons_zero, List.set_cons_succ]
            refine wpAnyH_take (i := 22) (oi := ⟨some 112, _, _, _, _, _⟩) (v := undef) rfl (by kernel_rfl) (by kernel_rfl) (by kernel_rfl) (fun _ _ _ h => h) (Or.inr ⟨by rfl, rfl⟩) hHeld ?_
            try simp only [Act.put, List.setIfInBounds_toArray, List.set_cons_zero, List.set_cons_succ]
            refine wpAnyH_take (i := 23) (oi := ⟨some 113, _, _, _, _, _⟩) (v := undef) rfl (by kernel_rfl) (by kernel_rfl) (by kernel_rfl) (fun _ _ _ h => h) (Or.inr ⟨by rfl, rfl⟩) hHeld ?_
            try simp only [Act.put, List.setIfInBounds_toArray, List.set_cons_zero, List.set_cons_succ]
            refine wpAnyH_take (i := 24) (oi := ⟨some 114, _, _, _, _, _⟩) (v := undef) rfl (by kernel_rfl) (by kernel_rfl) (by kernel_rfl) (fun _ _ _ h => h) (Or.inr ⟨by rfl, rfl⟩) hHeld ?_
            try simp only [Act.put, List.setIfInBounds_toArray, List.set_cons_zero, List.set_cons_succ]
            refine wpAnyH_take (i := 25) (oi := ⟨some 115, _, _, _, _, _⟩) (v := undef) rfl (by kernel_rfl) (by kernel_rfl) (by kernel_rfl) (fun _ _ _ h => h) (Or.inr ⟨by rfl, rfl⟩) hHeld ?_
            try simp only [Act.put, List.setIfInBounds_toArray, List.set_cons_zero, List.set_cons_succ]
            refine wpAnyH_take (i := 26) (oi := ⟨some 116, _, _, _, _, _⟩) (v := undef) rfl (by kernel_rfl) (by kernel_rfl) (by kernel_rfl) (fun _ _ _ h => h) (Or.inr ⟨by rfl, rfl⟩) hHeld ?_
            try simp only [Act.put, List.setIfInBounds_toArray, List.set_cons_zero, List.set_cons_succ]
            refine wpAnyH_take (i := 27) (oi := ⟨some 117, _, _, _, _, _⟩) (v := .bool false) rfl (by kernel_rfl) (by kernel_rfl) (by kernel_rfl) (fun _ _ _ h => h) (Or.inl ⟨by rfl, fun w' hw => by go_simp⟩) hHeld ?_
            try simp only [Act.put, List.setIfInBounds_toArray, List.set_cons_zero, List.set_cons_succ]
            refine wpAnyH_done (by kernel_rfl) ?_ _
            clear hHeld hwm hws hwd
            go_wp2_with fail
            go_roundw
            case rel =>
              obtain ⟨q2, hq2⟩ := HW2.out
              exact ⟨i + 1, by go_num, by rw [HC.out, HQ.out]; go_num, by omega, q2 + 1, by rw [hq2]; simp [World.drewN, World.drew, Nat.add_assoc]⟩
            case measure => simp [intOf]; omega
          · have d1 : decide (0 ≤ yd) = true := decide_eq_true (by clear hws hwm hwd; omega)
            rw [d1, Bool.true_and] at hqe
            clear hneg
            by_cases hpL : L ≤ p
            · have d2 : decide ((L : Int) ≤ (p : Int)) = true := by simp; exact hpL
              have d3 : decide (L ≤ p) = true := decide_eq_true hpL
              rw [d3, Bool.true_and] at hqe
              clear hpL
              by_cases hpl : p < nn
              · have HQ : Hid (ovQ k P L n i = true) := Lib.hid (by rw [hqe]; exact decide_eq_true hpl)
                have d4 : decide ((p : Int) < (nn : Int)) = true := by simp; exact hpl
                have d5 : decide (p < nn) = true := decide_eq_true hpl
                clear hqe hpl
                go_wp2_with fail
                refine held_s (S := fun w' => w'.cell? ⟨b, off + i * 2 + 1, none⟩ = some (.int .i64 yd) ∧ w'.cell? ⟨sb, 0, none⟩ = some (.int .i64 (D : Int)) ∧ w'.cell? ⟨sb, 1, none⟩ = some (.int .i64 (S : Int)) ∧ w'.cell? ⟨g, i, none⟩ = some (.int .i64 (p : Int))) 28 rfl (by kernel_rfl) ⟨k1, e0, e1, cp⟩ (fun hHeld => ?_)
                clear k1 e0 e1 cp
                simp only [Array.replicate_succ, Array.replicate_zero, List.push_toArray, List.nil_append, List.cons_append]
                refine wpAnyH_take (i := 0) (oi := ⟨some 90, _, _, _, _, _⟩) (v := .slice (some ⟨b, off, none⟩) n cap) rfl (by kernel_rfl) (by kernel_rfl) (by kernel_rfl) (fun _ _ _ h => h) (Or.inl ⟨by rfl, fun w' hw => by go_simp⟩) hHeld ?_
                try simp only [Act.put, List.setIfInBounds_toArray, List.set_cons_zero, List.set_cons_succ]
                refine wpAnyH_take (i := 1) (oi := ⟨some 91, _, _, _, _, _⟩) (v := .int .i64 (i : Int)) rfl (by kernel_rfl) (by kernel_rfl) (by kernel_rfl) (fun _ _ _ h => h) (Or.inl ⟨by rfl, fun w' hw => by go_simp⟩) hHeld ?_
                try simp only [Act.put, List.setIfInBounds_toArray, List.set_cons_zero, List.set_cons_succ]
                refine wpAnyH_take (i := 2) (oi := ⟨some 92, _, _, _, _, _⟩) (v := .pointer (some ⟨b, off + i * 2, none⟩)) rfl (by kernel_rfl) (by kernel_rfl) (by kernel_rfl) (fun _ _ _ h => h) (Or.inl ⟨by rfl, fun w' hw => by go_simp⟩) hHeld ?_
                try simp only [Act.put, List.setIfInBounds_toArray, List.set_cons_zero, List.set_cons_succ]
                refine wpAnyH_take (i := 3) (oi := ⟨some 93, _, _, _, _, _⟩) (v := .pointer (some ⟨b, off + i * 2 + 1, none⟩)) rfl (by kernel_rfl) (by kernel_rfl) (by kernel_rfl) (fun _ _ _ h => h) (Or.inl ⟨by rfl, fun w' hw => by go_simp⟩) hHeld ?_
                try simp only [Act.put, List.setIfInBounds_toArray, List.set_cons_zero, List.set_cons_succ]
                refine wpAnyH_take (i := 4) (oi := ⟨some 94, _, _, _, _, _⟩) (v := .int .i64 yd) rfl (by kernel_rfl) (by kernel_rfl) (by kernel_rfl) (fun _ _ _ h => h) (Or.inl ⟨by rfl, fun w' hw => by (obtain ⟨s1, s2, s3, s4⟩ := hw; go_simp)⟩) hHeld ?_
                try simp only [Act.put, List.setIfInBounds_toArray, List.set_cons_zero, List.set_cons_succ]
                refine wpAnyH_take (i := 5) (oi := ⟨some 95, _, _, _, _, _⟩) (v := .bool true) rfl (by kernel_rfl) (by kernel_rfl) (by kernel_rfl) (fun _ _ _ h => h) (Or.inl ⟨by rfl, fun w' hw => by go_simp⟩) hHeld ?_
                try simp only [Act.put, List.setIfInBounds_toArray, List.set_cons_zero, List.set_cons_succ]
                refine wpAnyH_take (i := 6) (oi := ⟨some 96, _, _, _, _, _⟩) (v := .bool true) rfl (by kernel_rfl) (by kernel_rfl) (by kernel_rfl) (fun _ _ _ h => h) (Or.inl ⟨by rfl, fun w' hw => by go_simp⟩) hHeld ?_
                try simp only [Act.put, List.setIfInBounds_toArray, List.set_cons_zero, List.set_cons_succ]
                refine wpAnyH_take (i := 7) (oi := ⟨some 97, _, _, _, _, _⟩) (v := .slice (some ⟨g, 0, none⟩) n n) rfl (by kernel_rfl) (by kernel_rfl) (by kernel_rfl) (fun _ _ _ h => h) (Or.inl ⟨by rfl, fun w' hw => by go_simp⟩) hHeld ?_
                try simp only [Act.put, List.setIfInBounds_toArray, List.set_cons_zero, List.set_cons_succ]
                refine wpAnyH_take (i := 8) (oi := ⟨some 98, _, _, _, _, _⟩) (v := .int .i64 (i : Int)) rfl (by kernel_rfl) (by kernel_rfl) (by kernel_rfl) (fun _ _ _ h => h) (Or.inl ⟨by rfl, fun w' hw => by go_simp⟩) hHeld ?_
                try simp only [Act.put, List.setIfInBounds_toArray, List.set_cons_zero, List.set_cons_succ]
                refine wpAnyH_take (i := 9) (oi := ⟨some 99, _, _, _, _, _⟩) (v := .pointer (some ⟨g, i, none⟩)) rfl (by kernel_rfl) (by kernel_rfl) (by kernel_rfl) (fun _ _ _ h => h) (Or.inl ⟨by rfl, fun w' hw => by go_simp⟩) hHeld ?_
                try simp only [Act.put, List.setIfInBounds_toArray, List.set_cons_zero, List.set_cons_succ]
                refine wpAnyH_take (i := 10) (oi := ⟨some 100, _, _, _, _, _⟩) (v := .int .i64 (p : Int)) rfl (by kernel_rfl) (by kernel_rfl) (by kernel_rfl) (fun _ _ _ h => h) (Or.inl ⟨by rfl, fun w' hw => by (obtain ⟨s1, s2, s3, s4⟩ := hw; go_simp)⟩) hHeld ?_
                try simp only [Act.put, List.setIfInBounds_toArray, List.set_cons_zero, List.set_cons_succ]
                refine wpAnyH_take (i := 11) (oi := ⟨some 101, _, _, _, _, _⟩) (v := .pointer (some ⟨sb, 1, none⟩)) rfl (by kernel_rfl) (by kernel_rfl) (by kernel_rfl) (fun _ _ _ h => h) (Or.inl ⟨by rfl, fun w' hw => by go_simp⟩) hHeld ?_
                try simp only [Act.put, List.setIfInBounds_toArray, List.set_cons_zero, List.set_cons_succ]
                refine wpAnyH_take (i := 12) (oi := ⟨some 102, _, _, _, _, _⟩) (v := .int .i64 (S : Int)) rfl (by kernel_rfl) (by kernel_rfl) (by kernel_rfl) (fun _ _ _ h => h) (Or.inl ⟨by rfl, fun w' hw => by (obtain ⟨s1, s2, s3, s4⟩ := hw; go_simp)⟩) hHeld ?_
                try simp only [Act.put, List.setIfInBounds_toArray, List.set_cons_zero, List.set_cons_succ]
                refine wpAnyH_take (i := 13) (oi := ⟨some 103, _, _, _, _, _⟩) (v := .pointer (some ⟨sb, 0, none⟩)) rfl (by kernel_rfl) (by kernel_rfl) (by kernel_rfl) (fun _ _ _ h => h) (Or.inl ⟨by rfl, fun w' hw => by go_simp⟩) hHeld ?_
                try simp only [Act.put, List.setIfInBounds_toArray, List.set_cons_zero, List.set_cons_succ]
                refine wpAnyH_take (i := 14) (oi := ⟨some 104, _, _, _, _, _⟩) (v := .int .i64 (D : Int)) rfl (by kernel_rfl) (by kernel_rfl) (by kernel_rfl) (fun _ _ _ h => h) (Or.inl ⟨by rfl, fun w' hw => by (obtain ⟨s1, s2, s3, s4⟩ := hw; go_simp)⟩) hHeld ?_
                try simp only [Act.put, List.setIfInBounds_toArray, List.set_cons_zero, List.set_cons_succ]
                refine wpAnyH_take (i := 15) (oi := ⟨some 105, _, _, _, _, _⟩) (v := .int .i64 ((D : Int) + 1)) rfl (by kernel_rfl) (by kernel_rfl) (by kernel_rfl) (fun _ _ _ h => h) (Or.inl ⟨by rfl, fun w' hw => by go_simp⟩) hHeld ?_
                try simp only [Act.put, List.setIfInBounds_toArray, List.set_cons_zero, List.set_cons_succ]
                refine wpAnyH_take (i := 16) (oi := ⟨some 106, _, _, _, _, _⟩) (v := .int .i64 (L : Int)) rfl (by kernel_rfl) (by kernel_rfl) (by kernel_rfl) (fun _ _ _ h => h) (Or.inl ⟨by rfl, fun w' hw => by go_simp⟩) hHeld ?_
                try simp only [Act.put, List.setIfInBounds_toArray, List.set_cons_zero, List.set_cons_succ]
                refine wpAnyH_take (i := 17) (oi := ⟨some 107, _, _, _, _, _⟩) (v := .bool true) rfl (by kernel_rfl) (by kernel_rfl) (by kernel_rfl) (fun _ _ _ h => h) (Or.inl ⟨by rfl, fun w' hw => by go_simp⟩) hHeld ?_
                try simp only [Act.put, List.setIfInBounds_toArray, List.set_cons_zero, List.set_cons_succ]
                refine wpAnyH_take (i := 18) (oi := ⟨some 108, _, _, _, _, _⟩) (v := .bool true) rfl (by kernel_rfl) (by kernel_rfl) (by kernel_rfl) (fun _ _ _ h => h) (Or.inl ⟨by rfl, fun w' hw => by go_simp⟩) hHeld ?_
                try simp only [Act.put, List.setIfInBounds_toArray, List.set_cons_zero, List.set_cons_succ]
                refine wpAnyH_take (i := 19) (oi := ⟨some 109, _, _, _, _, _⟩) (v := .bool true) rfl (by kernel_rfl) (by kernel_rfl) (by kernel_rfl) (fun _ _ _ h => h) (Or.inl ⟨by rfl, fun w' hw => by go_simp⟩) hHeld ?_
                try simp only [Act.put, List.setIfInBounds_toArray, List.set_cons_zero, List.set_cons_succ]
                refine wpAnyH_take (i := 20) (oi := ⟨some 110, _, _, _, _, _⟩) (v := .slice (some ⟨g, 0, none⟩) n n) rfl (by kernel_rfl) (by kernel_rfl) (by kernel_rfl) (fun _ _ _ h => h) (Or.inl ⟨by rfl, fun w' hw => by go_simp⟩) hHeld ?_
                try simp only [Act.put, List.setIfInBounds_toArray, List.set_cons_zero, List.set_cons_succ]
                refine wpAnyH_take (i := 21) (oi := ⟨some 111, _, _, _, _, _⟩) (v := .int .i64 (i : Int)) rfl (by kernel_rfl) (by kernel_rfl) (by kernel_rfl) (fun _ _ _ h => h) (Or.inl ⟨by rfl, fun w' hw => by go_simp⟩) hHeld ?_
                try simp only [Act.put, List.setIfInBounds_toArray, List.set_cons_zero, List.set_cons_succ]
                refine wpAnyH_take (i := 22) (oi := ⟨some 112, _, _, _, _, _⟩) (v := .pointer (some ⟨g, i, none⟩)) rfl (by kernel_rfl) (by kernel_rfl) (by kernel_rfl) (fun _ _ _ h => h) (Or.inl ⟨by rfl, fun w' hw => by go_simp⟩) hHeld ?_
                try simp only [Act.put, List.setIfInBounds_toArray, List.set_cons_zero, List.set_cons_succ]
                refine wpAnyH_take (i := 23) (oi := ⟨some 113, _, _, _, _, _⟩) (v := .int .i64 (p : Int)) rfl (by kernel_rfl) (by kernel_rfl) (by kernel_rfl) (fun _ _ _ h => h) (Or.inl ⟨by rfl, fun w' hw => by (obtain ⟨s1, s2, s3, s4⟩ := hw; go_simp)⟩) hHeld ?_
                try simp only [Act.put, List.setIfInBounds_toArray, List.set_cons_zero, List.set_cons_succ]
                refine wpAnyH_take (i := 24) (oi := ⟨some 114, _, _, _, _, _⟩) (v := .int .i64 (n : Int)) rfl (by kernel_rfl) (by kernel_rfl) (by kernel_rfl) (fun _ _ _ h => h) (Or.inl ⟨by rfl, fun w' hw => by go_simp⟩) hHeld ?_
                try simp only [Act.put, List.setIfInBounds_toArray, List.set_cons_zero, List.set_cons_succ]
                refine wpAnyH_take (i := 25) (oi := ⟨some 115, _, _, _, _, _⟩) (v := .int .i64 ((nn : Nat) : Int)) rfl (by kernel_rfl) (by kernel_rfl) (by kernel_rfl) (fun _ _ _ h => h) (Or.inl ⟨by rfl, fun w' hw => by go_simp⟩) hHeld ?_
                try simp only [Act.put, List.setIfInBounds_toArray, List.set_cons_zero, List.set_cons_succ]
                refine wpAnyH_take (i := 26) (oi := ⟨some 116, _, _, _, _, _⟩) (v := .bool true) rfl (by kernel_rfl) (by kernel_rfl) (by kernel_rfl) (fun _ _ _ h => h) (Or.inl ⟨by rfl, fun w' hw => by go_simp⟩) hHeld ?_
                try simp only [Act.put, List.setIfInBounds_toArray, List.set_cons_zero, List.set_cons_succ]
                refine wpAnyH_take (i := 27) (oi := ⟨some 117, _, _, _, _, _⟩) (v := .bool true) rfl (by kernel_rfl) (by kernel_rfl) (by kernel_rfl) (fun _ _ _ h => h) (Or.inl ⟨by rfl, fun w' hw => by go_simp⟩) hHeld ?_
                try simp only [Act.put, List.setIfInBounds_toArray, List.set_cons_zero, List.set_cons_succ]
                refine wpAnyH_done (by kernel_rfl) ?_ _
                clear hHeld hwm hws hwd
                go_wp2_with fail
                go_roundw
                case rel =>
                  obtain ⟨q2, hq2⟩ := HW2.out
                  exact ⟨i + 1, by go_num, by rw [HC.out, HQ.out]; go_num, by omega, q2 + 1, by rw [hq2]; simp [World.drewN, World.drew, Nat.add_assoc]⟩
                case measure => simp [intOf]; omega
              · have HQ : Hid (ovQ k P L n i = false) := Lib.hid (by rw [hqe]; exact decide_eq_false hpl)
                have d4 : decide ((p : Int) < (nn : Int)) = false := by simp; clear hws hwm hwd; omega
                have d5 : decide (p < nn) = false := decide_eq_false hpl
                clear hqe hpl
                go_wp2_with fail
                refine held_s (S := fun w' => w'.cell? ⟨b, off + i * 2 + 1, none⟩ = some (.int .i64 yd) ∧ w'.cell? ⟨sb, 0, none⟩ = some (.int .i64 (D : Int)) ∧ w'.cell? ⟨sb, 1, none⟩ = some (.int .i64 (S : Int)) ∧ w'.cell? ⟨g, i, none⟩ = some (.int .i64 (p : Int))) 28 rfl (by kernel_rfl) ⟨k1, e0, e1, cp⟩ (fun hHeld => ?_)
                clear k1 e0 e1 cp
                simp only [Array.replicate_succ, Array.replicate_zero, List.push_toArray, List.nil_append, List.cons_append]
                refine wpAnyH_take (i := 0) (oi := ⟨some 90, _, _, _, _, _⟩) (v := .slice (some ⟨b, off, none⟩) n cap) rfl (by kernel_rfl) (by kernel_rfl) (by kernel_rfl) (fun _ _ _ h => h) (Or.inl ⟨by rfl, fun w' hw => by go_simp⟩) hHeld ?_
                try simp only [Act.put, List.setIfInBounds_toArray, List.set_cons_zero, List.set_cons_succ]
                refine wpAnyH_take (i := 1) (oi := ⟨some 91, _, _, _, _, _⟩) (v := .int .i64 (i : Int)) rfl (by kernel_rfl) (by kernel_rfl) (by kernel_rfl) (fun _ _ _ h => h) (Or.inl ⟨by rfl, fun w' hw => by go_simp⟩) hHeld ?_
                try simp only [Act.put, List.setIfInBounds_toArray, List.set_cons_zero, List.set_cons_succ]
                refine wpAnyH_take (i := 2) (oi := ⟨some 92, _, _, _, _, _⟩) (v := .pointer (some ⟨b, off + i * 2, none⟩)) rfl (by kernel_rfl) (by kernel_rfl) (by kernel_rfl) (fun _ _ _ h => h) (Or.inl ⟨by rfl, fun w' hw => by go_simp⟩) hHeld ?_
                try simp only [Act.put, List.setIfInBounds_toArray, List.set_cons_zero, List.set_cons_succ]
                refine wpAnyH_take (i := 3) (oi := ⟨some 93, _, _, _, _, _⟩) (v := .pointer (some ⟨b, off + i * 2 + 1, none⟩)) rfl (by kernel_rfl) (by kernel_rfl) (by kernel_rfl) (fun _ _ _ h => h) (Or.inl ⟨by rfl, fun w' hw => by go_simp⟩) hHeld ?_
                try simp only [Act.put, List.setIfInBounds_toArray, List.set_cons_zero, List.set_cons_succ]
                refine wpAnyH_take (i := 4) (oi := ⟨some 94, _, _, _, _, _⟩) (v := .int .i64 yd) rfl (by kernel_rfl) (by kernel_rfl) (by kernel_rfl) (fun _ _ _ h => h) (Or.inl ⟨by rfl, fun w' hw => by (obtain ⟨s1, s2, s3, s4⟩ := hw; go_simp)⟩) hHeld ?_
                try simp only [Act.put, List.setIfInBounds_toArray, List.set_cons_zero, List.set_cons_succ]
                refine wpAnyH_take (i := 5) (oi := ⟨some 95, _, _, _, _, _⟩) (v := .bool true) rfl (by kernel_rfl) (by kernel_rfl) (by kernel_rfl) (fun _ _ _ h => h) (Or.inl ⟨by rfl, fun w' hw => by go_simp⟩) hHeld ?_
                try simp only [Act.put, List.setIfInBounds_toArray, List.set_cons_zero, List.set_cons_succ]
                refine wpAnyH_take (i := 6) (oi := ⟨some 96, _, _, _, _, _⟩) (v := .bool true) rfl (by kernel_rfl) (by kernel_rfl) (by kernel_rfl) (fun _ _ _ h => h) (Or.inl ⟨by rfl, fun w' hw => by go_simp⟩) hHeld ?_
                try simp only [Act.put, List.setIfInBounds_toArray, List.set_cons_zero, List.set_cons_succ]
                refine wpAnyH_take (i := 7) (oi := ⟨some 97, _, _, _, _, _⟩) (v := .slice (some ⟨g, 0, none⟩) n n) rfl (by kernel_rfl) (by kernel_rfl) (by kernel_rfl) (fun _ _ _ h => h) (Or.inl ⟨by rfl, fun w' hw => by go_simp⟩) hHeld ?_
                try simp only [Act.put, List.setIfInBounds_toArray, List.set_cons_zero, List.set_cons_succ]
                refine wpAnyH_take (i := 8) (oi := ⟨some 98, _, _, _, _, _⟩) (v := .int .i64 (i : Int)) rfl (by kernel_rfl) (by kernel_rfl) (by kernel_rfl) (fun _ _ _ h => h) (Or.inl ⟨by rfl, fun w' hw => by go_simp⟩) hHeld ?_
                try simp only [Act.put, List.setIfInBounds_toArray, List.set_cons_zero, List.set_cons_succ]
                refine wpAnyH_take (i := 9) (oi := ⟨some 99, _, _, _, _, _⟩) (v := .pointer (some ⟨g, i, none⟩)) rfl (by kernel_rfl) (by kernel_rfl) (by kernel_rfl) (fun _ _ _ h => h) (Or.inl ⟨by rfl, fun w' hw => by go_simp⟩) hHeld ?_
                try simp only [Act.put, List.setIfInBounds_toArray, List.set_cons_zero, List.set_cons_succ]
                refine wpAnyH_take (i := 10) (oi := ⟨some 100, _, _, _, _, _⟩) (v := .int .i64 (p : Int)) rfl (by kernel_rfl) (by kernel_rfl) (by kernel_rfl) (fun _ _ _ h => h) (Or.inl ⟨by rfl, fun w' hw => by (obtain ⟨s1, s2, s3, s4⟩ := hw; go_simp)⟩) hHeld ?_
                try simp only [Act.put, List.setIfInBounds_toArray, List.set_cons_zero, List.set_cons_succ]
                refine wpAnyH_take (i := 11) (oi := ⟨some 101, _, _, _, _, _⟩) (v := .pointer (some ⟨sb, 1, none⟩)) rfl (by kernel_rfl) (by kernel_rfl) (by kernel_rfl) (fun _ _ _ h => h) (Or.inl ⟨by rfl, fun w' hw => by go_simp⟩) hHeld ?_
                try simp only [Act.put, List.setIfInBounds_toArray, List.set_cons_zero, List.set_cons_succ]
                refine wpAnyH_take (i := 12) (oi := ⟨some 102, _, _, _, _, _⟩) (v := .int .i64 (S : Int)) rfl (by kernel_rfl) (by kernel_rfl) (by kernel_rfl) (fun _ _ _ h => h) (Or.inl ⟨by rfl, fun w' hw => by (obtain ⟨s1, s2, s3, s4⟩ := hw; go_simp)⟩) hHeld ?_
                try simp only [Act.put, List.setIfInBounds_toArray, List.set_cons_zero, List.set_cons_succ]
                refine wpAnyH_take (i := 13) (oi := ⟨some 103, _, _, _, _, _⟩) (v := .pointer (some ⟨sb, 0, none⟩)) rfl (by kernel_rfl) (by kernel_rfl) (by kernel_rfl) (fun _ _ _ h => h) (Or.inl ⟨by rfl, fun w' hw => by go_simp⟩) hHeld ?_
                try simp only [Act.put, List.setIfInBounds_toArray, List.set_cons_zero, List.set_cons_succ]
                refine wpAnyH_take (i := 14) (oi := ⟨some 104, _, _, _, _, _⟩) (v := .int .i64 (D : Int)) rfl (by kernel_rfl) (by kernel_rfl) (by kernel_rfl) (fun _ _ _ h => h) (Or.inl ⟨by rfl, fun w' hw => by (obtain ⟨s1, s2, s3, s4⟩ := hw; go_simp)⟩) hHeld ?_
                try simp only [Act.put, List.setIfInBounds_toArray, List.set_cons_zero, List.set_cons_succ]
                refine wpAnyH_take (i := 15) (oi := ⟨some 105, _, _, _, _, _⟩) (v := .int .i64 ((D : Int) + 1)) rfl (by kernel_rfl) (by kernel_rfl) (by kernel_rfl) (fun _ _ _ h => h) (Or.inl ⟨by rfl, fun w' hw => by go_simp⟩) hHeld ?_
                try simp only [Act.put, List.setIfInBounds_toArray, List.set_cons_zero, List.set_cons_succ]
                refine wpAnyH_take (i := 16) (oi := ⟨some 106, _, _, _, _, _⟩) (v := .int .i64 (L : Int)) rfl (by kernel_rfl) (by kernel_rfl) (by kernel_rfl) (fun _ _ _ h => h) (Or.inl ⟨by rfl, fun w' hw => by go_simp⟩) hHeld ?_
                try simp only [Act.put, List.setIfInBounds_toArray, List.set_cons_zero, List.set_cons_succ]
                refine wpAnyH_take (i := 17) (oi := ⟨some 107, _, _, _, _, _⟩) (v := .bool true) rfl (by kernel_rfl) (by kernel_rfl) (by kernel_rfl) (fun _ _ _ h => h) (Or.inl ⟨by rfl, fun w' hw => by go_simp⟩) hHeld ?_
                try simp only [Act.put, List.setIfInBounds_toArray, List.set_cons_zero, List.set_cons_succ]
                refine wpAnyH_take (i := 18) (oi := ⟨some 108, _, _, _, _, _⟩) (v := .bool true) rfl (by kernel_rfl) (by kernel_rfl) (by kernel_rfl) (fun _ _ _ h => h) (Or.inl ⟨by rfl, fun w' hw => by go_simp⟩) hHeld ?_
                try simp only [Act.put, List.setIfInBounds_toArray, List.set_cons_zero, List.set_cons_succ]
                refine wpAnyH_take (i := 19) (oi := ⟨some 109, _, _, _, _, _⟩) (v := .bool true) rfl (by kernel_rfl) (by kernel_rfl) (by kernel_rfl) (fun _ _ _ h => h) (Or.inl ⟨by rfl, fun w' hw => by go_simp⟩) hHeld ?_
                try simp only [Act.put, List.setIfInBounds_toArray, List.set_cons_zero, List.set_cons_succ]
                refine wpAnyH_take (i := 20) (oi := ⟨some 110, _, _, _, _, _⟩) (v := .slice (some ⟨g, 0, none⟩) n n) rfl (by kernel_rfl) (by kernel_rfl) (by kernel_rfl) (fun _ _ _ h => h) (Or.inl ⟨by rfl, fun w' hw => by go_simp⟩) hHeld ?_
                try simp only [Act.put, List.setIfInBounds_toArray, List.set_cons_zero, List.set_cons_succ]
                refine wpAnyH_take (i := 21) (oi := ⟨some 111, _, _, _, _, _⟩) (v := .int .i64 (i : Int)) rfl (by kernel_rfl) (by kernel_rfl) (by kernel_rfl) (fun _ _ _ h => h) (Or.inl ⟨by rfl, fun w' hw => by go_simp⟩) hHeld ?_
                try simp only [Act.put, List.setIfInBounds_toArray, List.set_cons_zero, List.set_cons_succ]
                refine wpAnyH_take (i := 22) (oi := ⟨some 112, _, _, _, _, _⟩) (v := .pointer (some ⟨g, i, none⟩)) rfl (by kernel_rfl) (by kernel_rfl) (by kernel_rfl) (fun _ _ _ h => h) (Or.inl ⟨by rfl, fun w' hw => by go_simp⟩) hHeld ?_
                try simp only [Act.put, List.setIfInBounds_toArray, List.set_cons_zero, List.set_cons_succ]
                refine wpAnyH_take (i := 23) (oi := ⟨some 113, _, _, _, _, _⟩) (v := .int .i64 (p : Int)) rfl (by kernel_rfl) (by kernel_rfl) (by kernel_rfl) (fun _ _ _ h => h) (Or.inl ⟨by rfl, fun w' hw => by (obtain ⟨s1, s2, s3, s4⟩ := hw; go_simp)⟩) hHeld ?_
                try simp only [Act.put, List.setIfInBounds_toArray, List.set_cons_zero, List.set_cons_succ]
                refine wpAnyH_take (i := 24) (oi := ⟨some 114, _, _, _, _, _⟩) (v := .int .i64 (n : Int)) rfl (by kernel_rfl) (by kernel_rfl) (by kernel_rfl) (fun _ _ _ h => h) (Or.inl ⟨by rfl, fun w' hw => by go_simp⟩) hHeld ?_
                try simp only [Act.put, List.setIfInBounds_toArray, List.set_cons_zero, List.set_cons_succ]
                refine wpAnyH_take (i := 25) (oi := ⟨some 115, _, _, _, _, _⟩) (v := .int .i64 ((nn : Nat) : Int)) rfl (by kernel_rfl) (by kernel_rfl) (by kernel_rfl) (fun _ _ _ h => h) (Or.inl ⟨by rfl, fun w' hw => by go_simp⟩) hHeld ?_
                try simp only [Act.put, List.setIfInBounds_toArray, List.set_cons_zero, List.set_cons_succ]
                refine wpAnyH_take (i := 26) (oi := ⟨some 116, _, _, _, _, _⟩) (v := .bool false) rfl (by kernel_rfl) (by kernel_rfl) (by kernel_rfl) (fun _ _ _ h => h) (Or.inl ⟨by rfl, fun w' hw => by go_simp⟩) hHeld ?_
                try simp only [Act.put, List.setIfInBounds_toArray, List.set_cons_zero, List.set_cons_succ]
                refine wpAnyH_take (i := 27) (oi := ⟨some 117, _, _, _, _, _⟩) (v := .bool false) rfl (by kernel_rfl) (by kernel_rfl) (by kernel_rfl) (fun _ _ _ h => h) (Or.inl ⟨by rfl, fun w' hw => by go_simp⟩) hHeld ?_
                try simp only [Act.put, List.setIfInBounds_toArray, List.set_cons_zero, List.set_cons_succ]
                refine wpAnyH_done (by kernel_rfl) ?_ _
                clear hHeld hwm hws hwd
                go_wp2_with fail
                go_roundw
                case rel =>
                  obtain ⟨q2, hq2⟩ := HW2.out
                  exact ⟨i + 1, by go_num, by rw [HC.out, HQ.out]; go_num, by omega, q2 + 1, by rw [hq2]; simp [World.drewN, World.drew, Nat.add_assoc]⟩
                case measure => simp [intOf]; omega
            · have d2 : decide ((L : Int) ≤ (p : Int)) = false := by simp; clear hws hwm hwd; omega
              have d3 : decide (L ≤ p) = false := decide_eq_false hpL
              have HQ : Hid (ovQ k P L n i = false) := Lib.hid (by rw [hqe, d3]; rfl)
              clear hqe hpL
              go_wp2_with fail
              refine held_s (S := fun w' => w'.cell? ⟨b, off + i * 2 + 1, none⟩ = some (.int .i64 yd) ∧ w'.cell? ⟨sb, 0, none⟩ = some (.int .i64 (D : Int)) ∧ w'.cell? ⟨sb, 1, none⟩ = some (.int .i64 (S : Int)) ∧ w'.cell? ⟨g, i, none⟩ = some (.int .i64 (p : Int))) 28 rfl (by kernel_rfl) ⟨k1, e0, e1, cp⟩ (fun hHeld => ?_)
              clear k1 e0 e1 cp
              simp only [Array.replicate_succ, Array.replicate_zero, List.push_toArray, List.nil_append, List.cons_append]
              refine wpAnyH_take (i := 0) (oi := ⟨some 90, _, _, _, _, _⟩) (v := .slice (some ⟨b, off, none⟩) n cap) rfl (by kernel_rfl) (by kernel_rfl) (by kernel_rfl) (fun _ _ _ h => h) (Or.inl ⟨by rfl, fun w' hw => by go_simp⟩) hHeld ?_
              try simp only [Act.put, List.setIfInBounds_toArray, List.set_cons_zero, List.set_cons_succ]
              refine wpAnyH_take (i := 1) (oi := ⟨some 91, _, _, _, _, _⟩) (v := .int .i64 (i : Int)) rfl (by kernel_rfl) (by kernel_rfl) (by kernel_rfl) (fun _ _ _ h => h) (Or.inl ⟨by rfl, fun w' hw => by go_simp⟩) hHeld ?_
              try simp only [Act.put, List.setIfInBounds_toArray, List.set_cons_zero, List.set_cons_succ]
              refine wpAnyH_take (i := 2) (oi := ⟨some 92, _, _, _, _, _⟩) (v := .pointer (some ⟨b, off + i * 2, none⟩)) rfl (by kernel_rfl) (by kernel_rfl) (by kernel_rfl) (fun _ _ _ h => h) (Or.inl ⟨by rfl, fun w' hw => by go_simp⟩) hHeld ?_
              try simp only [Act.put, List.setIfInBounds_toArray, List.set_cons_zero, List.set_cons_succ]
              refine wpAnyH_take (i := 3) (oi := ⟨some 93, _, _, _, _, _⟩) (v := .pointer (some ⟨b, off + i * 2 + 1, none⟩)) rfl (by kernel_rfl) (by kernel_rfl) (by kernel_rfl) (fun _ _ _ h => h) (Or.inl ⟨by rfl, fun w' hw => by go_simp⟩) hHeld ?_
              try simp only [Act.put, List.setIfInBounds_toArray, List.set_cons_zero, List.set_cons_succ]
              refine wpAnyH_take (i := 4) (oi := ⟨some 94, _, _, _, _, _⟩) (v := .int .i64 yd) rfl (by kernel_rfl) (by kernel_rfl) (by kernel_rfl) (fun _ _ _ h => h) (Or.inl ⟨by rfl, fun w' hw => by (obtain ⟨s1, s2, s3, s4⟩ := hw; go_simp)⟩) hHeld ?_
              try simp only [Act.put, List.setIfInBounds_toArray, List.set_cons_zero, List.set_cons_succ]
              refine wpAnyH_take (i := 5) (oi := ⟨some 95, _, _, _, _, _⟩) (v := .bool true) rfl (by kernel_rfl) (by kernel_rfl) (by kernel_rfl) (fun _ _ _ h => h) (Or.inl ⟨by rfl, fun w' hw => by go_simp⟩) hHeld ?_
              try simp only [Act.put, List.setIfInBounds_toArray, List.set_cons_zero, List.set_cons_succ]
              refine wpAnyH_take (i := 6) (oi := ⟨some 96, _, _, _, _, _⟩) (v := .bool true) rfl (by kernel_rfl) (by kernel_rfl) (by kernel_rfl) (fun _ _ _ h => h) (Or.inl ⟨by rfl, fun w' hw => by go_simp⟩) hHeld ?_
              try simp only [Act.put, List.setIfInBounds_toArray, List.set_cons_zero, List.set_cons_succ]
              refine wpAnyH_take (i := 7) (oi := ⟨some 97, _, _, _, _, _⟩) (v := .slice (some ⟨g, 0, none⟩) n n) rfl (by kernel_rfl) (by kernel_rfl) (by kernel_rfl) (fun _ _ _ h => h) (Or.inl ⟨by rfl, fun w' hw => by go_simp⟩) hHeld ?_
              try simp only [Act.put, List.setIfInBounds_toArray, List.set_cons_zero, List.set_cons_succ]
              refine wpAnyH_take (i := 8) (oi := ⟨some 98, _, _, _, _, _⟩) (v := .int .i64 (i : Int)) rfl (by kernel_rfl) (by kernel_rfl) (by kernel_rfl) (fun _ _ _ h => h) (Or.inl ⟨by rfl, fun w' hw => by go_simp⟩) hHeld ?_
              try simp only [Act.put, List.setIfInBounds_toArray, List.set_cons_zero, List.set_cons_succ]
              refine wpAnyH_take (i := 9) (oi := ⟨some 99, _, _, _, _, _⟩) (v := .pointer (some ⟨g, i, none⟩)) rfl (by kernel_rfl) (by kernel_rfl) (by kernel_rfl) (fun _ _ _ h => h) (Or.inl ⟨by rfl, fun w' hw => by go_simp⟩) hHeld ?_
              try simp only [Act.put, List.setIfInBounds_toArray, List.set_cons_zero, List.set_cons_succ]
              refine wpAnyH_take (i := 10) (oi := ⟨some 100, _, _, _, _, _⟩) (v := .int .i64 (p : Int)) rfl (by kernel_rfl) (by kernel_rfl) (by kernel_rfl) (fun _ _ _ h => h) (Or.inl ⟨by rfl, fun w' hw => by (obtain ⟨s1, s2, s3, s4⟩ := hw; go_simp)⟩) hHeld ?_
              try simp only [Act.put, List.setIfInBounds_toArray, List.set_cons_zero, List.set_cons_succ]
              refine wpAnyH_take (i := 11) (oi := ⟨some 101, _, _, _, _, _⟩) (v := .pointer (some ⟨sb, 1, none⟩)) rfl (by kernel_rfl) (by kernel_rfl) (by kernel_rfl) (fun _ _ _ h => h) (Or.inl ⟨by rfl, fun w' hw => by go_simp⟩) hHeld ?_
              try simp only [Act.put, List.setIfInBounds_toArray, List.set_cons_zero, List.set_cons_succ]
              refine wpAnyH_take (i := 12) (oi := ⟨some 102, _, _, _, _, _⟩) (v := .int .i64 (S : Int)) rfl (by kernel_rfl) (by kernel_rfl) (by kernel_rfl) (fun _ _ _ h => h) (Or.inl ⟨by rfl, fun w' hw => by (obtain ⟨s1, s2, s3, s4⟩ := hw; go_simp)⟩) hHeld ?_
              try simp only [Act.put, List.setIfInBounds_toArray, List.set_cons_zero, List.set_cons_succ]
              refine wpAnyH_take (i := 13) (oi := ⟨some 103, _, _, _, _, _⟩) (v := .pointer (some ⟨sb, 0, none⟩)) rfl (by kernel_rfl) (by kernel_rfl) (by kernel_rfl) (fun _ _ _ h => h) (Or.inl ⟨by rfl, fun w' hw => by go_simp⟩) hHeld ?_
              try simp only [Act.put, List.setIfInBounds_toArray, List.set_cons_zero, List.set_cons_succ]
              refine wpAnyH_take (i := 14) (oi := ⟨some 104, _, _, _, _, _⟩) (v := .int .i64 (D : Int)) rfl (by kernel_rfl) (by kernel_rfl) (by kernel_rfl) (fun _ _ _ h => h) (Or.inl ⟨by rfl, fun w' hw => by (obtain ⟨s1, s2, s3, s4⟩ := hw; go_simp)⟩) hHeld ?_
              try simp only [Act.put, List.setIfInBounds_toArray, List.set_cons_zero, List.set_cons_succ]
              refine wpAnyH_take (i := 15) (oi := ⟨some 105, _, _, _, _, _⟩) (v := .int .i64 ((D : Int) + 1)) rfl (by kernel_rfl) (by kernel_rfl) (by kernel_rfl) (fun _ _ _ h => h) (Or.inl ⟨by rfl, fun w' hw => by go_simp⟩) hHeld ?_
              try simp only [Act.put, List.setIfInBounds_toArray, List.set_cons_zero, List.set_cons_succ]
              refine wpAnyH_take (i := 16) (oi := ⟨some 106, _, _, _, _, _⟩) (v := .int .i64 (L : Int)) rfl (by kernel_rfl) (by kernel_rfl) (by kernel_rfl) (fun _ _ _ h => h) (Or.inl ⟨by rfl, fun w' hw => by go_simp⟩) hHeld ?_
              try simp only [Act.put, List.setIfInBounds_toArray, List.set_cons_zero, List.set_cons_succ]
              refine wpAnyH_take (i := 17) (oi := ⟨some 107, _, _, _, _, _⟩) (v := .bool false) rfl (by kernel_rfl) (by kernel_rfl) (by kernel_rfl) (fun _ _ _ h => h) (Or.inl ⟨by rfl, fun w' hw => by go_simp⟩) hHeld ?_
              try simp only [Act.put, List.setIfInBounds_toArray, List.set_cons_zero, List.set_cons_succ]
              refine wpAnyH_take (i := 18) (oi := ⟨some 108, _, _, _, _, _⟩) (v := .bool false) rfl (by kernel_rfl) (by kernel_rfl) (by kernel_rfl) (fun _ _ _ h => h) (Or.inl ⟨by rfl, fun w' hw => by go_simp⟩) hHeld ?_
              try simp only [Act.put, List.setIfInBounds_toArray, List.set_cons_zero, List.set_cons_succ]
              refine wpAnyH_take (i := 19) (oi := ⟨some 109, _, _, _, _, _⟩) (v := .bool false) rfl (by kernel_rfl) (by kernel_rfl) (by kernel_rfl) (fun _ _ _ h => h) (Or.inl ⟨by rfl, fun w' hw => by go_simp⟩) hHeld ?_
              try simp only [Act.put, List.setIfInBounds_toArray, List.set_cons_zero, List.set_cons_succ]
              refine wpAnyH_take (i := 20) (oi := ⟨some 110, _, _, _, _, _⟩) (v := undef) rfl (by kernel_rfl) (by kernel_rfl) (by kernel_rfl) (fun _ _ _ h => h) (Or.inr ⟨by rfl, rfl⟩) hHeld ?_
              try simp only [Act.put, List.setIfInBounds_toArray, List.set_cons_zero, List.set_cons_succ]
              refine wpAnyH_take (i := 21) (oi := ⟨some 111, _, _, _, _, _⟩) (v := undef) rfl (by kernel_rfl) (by kernel_rfl) (by kernel_rfl) (fun _ _ _ h => h) (Or.inr ⟨by rfl, rfl⟩) hHeld ?_
              try simp only [Act.put, List.setIfInBounds_toArray, List.set_cons_zero, List.set_cons_succ]
              refine wpAnyH_take (i := 22) (oi := ⟨some 112, _, _, _, _, _⟩) (v := undef) rfl (by kernel_rfl) (by kernel_rfl) (by kernel_rfl) (fun _ _ _ h => h) (Or.inr ⟨by rfl, rfl⟩) hHeld ?_
              try simp only [Act.put, List.setIfInBounds_toArray, List.set_cons_zero, List.set_cons_succ]
              refine wpAnyH_take (i := 23) (oi := ⟨some 113, _, _, _, _, _⟩) (v := undef) rfl (by kernel_rfl) (by kernel_rfl) (by kernel_rfl) (fun _ _ _ h => h) (Or.inr ⟨by rfl, rfl⟩) hHeld ?_
              try simp only [Act.put, List.setIfInBounds_toArray, List.set_cons_zero, List.set_cons_succ]
              refine wpAnyH_take (i := 24) (oi := ⟨some 114, _, _, _, _, _⟩) (v := undef) rfl (by kernel_rfl) (by kernel_rfl) (by kernel_rfl) (fun _ _ _ h => h) (Or.inr ⟨by rfl, rfl⟩) hHeld ?_
              try simp only [Act.put, List.setIfInBounds_toArray, List.set_cons_zero, List.set_cons_succ]
              refine wpAnyH_take (i := 25) (oi := ⟨some 115, _, _, _, _, _⟩) (v := undef) rfl (by kernel_rfl) (by kernel_rfl) (by kernel_rfl) (fun _ _ _ h => h) (Or.inr ⟨by rfl, rfl⟩) hHeld ?_
              try simp only [Act.put, List.setIfInBounds_toArray, List.set_cons_zero, List.set_cons_succ]
              refine wpAnyH_take (i := 26) (oi := ⟨some 116, _, _, _, _, _⟩) (v := undef) rfl (by kernel_rfl) (by kernel_rfl) (by kernel_rfl) (fun _ _ _ h => h) (Or.inr ⟨by rfl, rfl⟩) hHeld ?_
              try simp only [Act.put, List.setIfInBounds_toArray, List.set_cons_zero, List.set_cons_succ]
              refine wpAnyH_take (i := 27) (oi := ⟨some 117, _, _, _, _, _⟩) (v := .bool false) rfl (by kernel_rfl) (by kernel_rfl) (by kernel_rfl) (fun _ _ _ h => h) (Or.inl ⟨by rfl, fun w' hw => by go_simp⟩) hHeld ?_
              try simp only [Act.put, List.setIfInBounds_toArray, List.set_cons_zero, List.set_cons_succ]
              refine wpAnyH_done (by kernel_rfl) ?_ _
              clear hHeld hwm hws hwd
              go_wp2_with fail
              go_roundw
              case rel =>
                obtain ⟨q2, hq2⟩ := HW2.out
                exact ⟨i + 1, by go_num, by rw [HC.out, HQ.out]; go_num, by omega, q2 + 1, by rw [hq2]; simp [World.drewN, World.drew, Nat.add_assoc]⟩
              case measure => simp [intOf]; omega
        · obtain rfl : i = n := by omega
          have e2 := ((HBx9.out.drewN q1).drewN q2).cell 2
          rw [← hq1, ← hq2] at e2
          obtain ⟨hf1, hf2⟩ := HF2.out
          generalize cn (ovQ k P L i) i = x1 at *
          have hmx : max 0 ((M : Int) - (T : Int)) = (Q : Int) := by omega
          have HBe := Lib.hid (show Below w.heap.size w wr by rw [hq2]; exact below_drewN HBw.out q2)
          clear hq1 hq2 hin c0 hi
          by_cases hQ : Q = 0
          · have hx := hf2 hQ
            have t1 : decide (0 < Q) = false := decide_eq_false (by omega)
            have t2 : decide ((0 : Int) < (Q : Int)) = false := by simp; omega
            subst hx
            clear hf1 hf2 hQ
            go_wp2_with fail
            go_ret
            exact ⟨rfl, HBe.out⟩
          · have t1 : decide (0 < Q) = true := decide_eq_true (by omega)
            have t2 : decide ((0 : Int) < (Q : Int)) = true := by simp; omega
            clear hf1 hf2 hQ
            go_wp2_with fail
            go_ret
            exact ⟨rfl, HBe.out⟩
set_option maxRecDepth 100000 in
set_option maxHeartbeats 1000000 in
theorem few_law (D S T : Int) (nl c : Nat) (a : Option Addr) (y : Nat → It) (w : World) (hI : Its w w.heap.size a nl y) (hy : ∀ j, j < nl → ItOk (y j)) :
    Calls Try.prog 5 #[.agg #[.int .i64 D, .int .i64 S, .int .i64 T], .slice a nl c] w fun e w' => e = .returned (.bool true) ∧ Below w.heap.size w w' := by
  by_cases hall : isSh D S T = true ∧ nl ≤ 160
  · obtain ⟨d, s, t, rfl, rfl, rfl, h1, h2, h3, h4, h5⟩ := (isSh_iff D S T).1 hall.1
    exact few_in d s t _ _ nl c a y w h1 h2 h3 h4 h5 rfl rfl hI hy hall.2
  · have hor : isSh D S T = false ∨ (isSh D S T = true ∧ 160 < nl) := by
      cases h : isSh D S T
      · exact .inl rfl
      · exact .inr ⟨rfl, Nat.lt_of_not_le fun h2 => hall ⟨h, h2⟩⟩
    clear hall hI hy
    have HR := Lib.hid (fun W => (deal_right D S T W))
    rcases hor with hsh | ⟨hsh, hnl⟩
    · rw [hsh] at HR
      clear hsh
      go_enter Try.func5, Try.ntmps5
      go_wp2_with fail
      refine (shown_any _).mono ?_
      rintro e w1 ⟨rfl, hb1⟩
      have hbx := (Box.new w 23 #[.int .i64 D, .int .i64 S, .int .i64 T]).of (hb1.block _ (by simp))
      have HB := Lib.hid (((Below.refl _ w).alloc (Nat.le_refl _) (.cells #[.int .i64 D, .int .i64 S, .int .i64 T] 23)).trans (hb1.mono (by simp)))
      have c0 := hbx.cell 0
      have c1 := hbx.cell 1
      have c2 := hbx.cell 2
      clear hb1 hbx
      go_wp2_with fail
      refine (HR.out _).mono ?_
      rintro e w2 ⟨rfl, hb2⟩
      have HB2 := Lib.hid (HB.out.trans (hb2.mono HB.out.size))
      clear hb2 HB
      go_wp2_with fail
      go_ret
      exact ⟨rfl, HB2.out⟩
    · rw [hsh] at HR
      have hnl2 : (160 : Int) < (nl : Int) := by omega
      clear hsh
      go_enter Try.func5, Try.ntmps5
      go_wp2_with fail
      refine (shown_any _).mono ?_
      rintro e w1 ⟨rfl, hb1⟩
      have hbx := (Box.new w 23 #[.int .i64 D, .int .i64 S, .int .i64 T]).of (hb1.block _ (by simp))
      have HB := Lib.hid (((Below.refl _ w).alloc (Nat.le_refl _) (.cells #[.int .i64 D, .int .i64 S, .int .i64 T] 23)).trans (hb1.mono (by simp)))
      have c0 := hbx.cell 0
      have c1 := hbx.cell 1
      have c2 := hbx.cell 2
      clear hb1 hbx
      go_wp2_with fail
      refine (HR.out _).mono ?_
      rintro e w2 ⟨rfl, hb2⟩
      have HB2 := Lib.hid (HB.out.trans (hb2.mono HB.out.size))
      clear hb2 HB
      go_wp2_with fail
      go_ret
      exact ⟨rfl, HB2.out⟩
end Go.Proofs.Ythnpfnefmmlajaa
