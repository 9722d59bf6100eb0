/- DealOnce: for every input the law returns true, and of what was in memory nothing changes. -/
import Derived.Test.YthnpfnefmmlajaaDealHead
namespace Go.Proofs.Ythnpfnefmmlajaa
open Go.RowKit Go.ChangeShapes Go.WideShapes Go.ChangeAt

/-- How often a place is met by the first i items. -/
def mtn (P : Nat → Nat) (i p : Nat) : Nat := (List.range i).countP fun j => P j == p
theorem mtn_succ (P : Nat → Nat) (i p : Nat) : mtn P (i + 1) p = mtn P i p + (if p = P i then 1 else 0) := by
  unfold mtn
  rw [List.range_succ, List.countP_append]
  congr 1
  by_cases e : p = P i
  · subst e; simp
  · rw [if_neg e]
    have : ¬ P i = p := fun h => e h.symm
    simp [this]
theorem mtn_le (P : Nat → Nat) (i p : Nat) : mtn P i p ≤ i := by
  unfold mtn
  have := List.countP_le_length (p := fun j => P j == p) (l := List.range i)
  simpa using this
theorem mtn_all {P : Nat → Nat} {n p : Nat} (h : ((List.range n).map P).Perm (List.range n)) (hp : p < n) : mtn P n p = 1 := by
  unfold mtn
  have e : (List.range n).countP (fun j => P j == p) = ((List.range n).map P).countP (· == p) := by rw [List.countP_map]; rfl
  rw [e, h.countP_eq]
  have : (List.range n).countP (· == p) = (List.range n).count p := rfl
  rw [this, List.count_range, if_pos hp]
/-- What is counted of the first i items. -/
def cn (q : Nat → Bool) (i : Nat) : Nat := (List.range i).countP q
theorem cn_succ (q : Nat → Bool) (i : Nat) : cn q (i + 1) = cn q i + (if q i = true then 1 else 0) := by
  unfold cn
  rw [List.range_succ, List.countP_append]
  simp
theorem cn_le (q : Nat → Bool) (i : Nat) : cn q i ≤ i := by
  unfold cn
  have := List.countP_le_length (p := q) (l := List.range i)
  simpa using this
/-- Does an item that is not empty lie on the last place, or too deep? -/
def outQ (k : Nat → It) (P : Nat → Nat) (S L n i : Nat) : Bool := decide (0 ≤ (k i).2) && (decide (P i = n - 1) || (decide (P i < L) && decide ((k i).2 < ((P i / S : Nat) : Int))))
def realQ (k : Nat → It) (i : Nat) : Bool := decide (0 ≤ (k i).2)
/-- In the middle of counting. -/
structure OnAt (w : World) (m n : Nat) (P : Nat → Nat) (i : Nat) (wr : World) : Prop where
  row : wr.rowIs m 3 n (fun p => .int .i64 (mtn P i p : Nat))
  old : w.heap.size ≤ m
  below : Below w.heap.size w wr
theorem OnAt.next {w wr : World} {m n i p : Nat} {P : Nat → Nat} (h : OnAt w m n P i wr) (hp : P i = p) (v : Int) (hv : v = ((mtn P i p : Nat) : Int) + 1) : OnAt w m n P (i + 1) (wr.setCell ⟨m, p, none⟩ (.int .i64 v)) := by
  subst hp hv
  refine ⟨(h.row.set _ _).congr fun j _ => ?_, h.old, h.below.setCell (p := ⟨m, _, none⟩) h.old _⟩
  show (if j = P i then _ else _) = _
  rw [mtn_succ]
  by_cases e : j = P i
  · subst e; rw [if_pos rfl, if_pos rfl]; rfl
  · rw [if_neg e, if_neg e, Nat.add_zero]
theorem OnAt.drewN {w wr : World} {m n i : Nat} {P : Nat → Nat} (h : OnAt w m n P i wr) (q : Nat) : OnAt w m n P i (wr.drewN q) := ⟨row_drewN h.row q, h.old, below_drewN h.below q⟩
theorem once_facts {D S T L n : Nat} {k : Nat → It} {o : List Nat} (h2 : 1 ≤ S) (hL : (D + 1) * S = L) (hn : L + T + 1 = n) (ho : IsOrd k n o) :
    cn (outQ k (outP (goes k S D T o) n) S L n) n ≤ (lostO k S D T o).length ∧ (lostO k S D T o).length ≤ cn (realQ k) n - T := by
  refine ⟨count_lost ho _ fun i hi hq => ?_, lost_few (by omega) ho⟩
  unfold outQ at hq
  simp only [Bool.and_eq_true, Bool.or_eq_true, decide_eq_true_eq] at hq
  refine ⟨hq.1, ?_⟩
  cases hg : goes k S D T o i with
  | none => rfl
  | some p =>
    exfalso
    rw [out_some hg] at hq
    obtain ⟨h3, _⟩ := goes_n h2 hL hn ho hg
    rcases hq.2 with h | ⟨h4, h5⟩
    · omega
    · have := goes_deep (by omega) ho hg (by rw [hL]; exact h4)
      omega
set_option maxRecDepth 100000 in
set_option maxHeartbeats 4000000 in
theorem once_in (D S T L n nl c : Nat) (a : Option Addr) (y : Nat → It) (w : World) (h1 : D ≤ 10) (h2 : 1 ≤ S) (h3 : S ≤ 8) (h4 : 1 ≤ T) (h5 : T ≤ 64) (hL : (D + 1) * S = L) (hn : L + T + 1 = n)
    (hI : Its w w.heap.size a nl y) (hy : ∀ j, j < nl → ItOk (y j)) (hnl : nl ≤ 160) :
    Calls Try.prog 4 #[.agg #[.int .i64 (D : Int), .int .i64 (S : Int), .int .i64 (T : Int)], .slice a nl c] w fun e w' => e = .returned (.bool true) ∧ Below w.heap.size w w' := by
  have hl := (mul_places h1 h3 hL)
  have hl1 : 1 ≤ L := by rw [← hL]; exact Nat.le_trans h2 (Nat.le_mul_of_pos_left S (by omega))
  have hsh := isSh_yes h1 h2 h3 h4 h5
  have HR := Lib.hid (fun W => (deal_right (D : Int) (S : Int) (T : Int) W))
  rw [hsh] at HR
  have HP := Lib.hid (fun W => places_in D S T L n h1 h2 h3 h4 h5 hL hn W)
  have HD := Lib.hid (fun W a c y hI hy => deal_in D S T L n c a y W h1 h2 h3 h4 h5 hL hn hI hy)
  have HL := Lib.hid hL
  have hnb : 3 ≤ n ∧ n ≤ 153 := by omega
  have HN := Lib.hid hn
  have HMul := Lib.hid hl.1
  have hl2 := hl.2
  have HI := Lib.hid hI
  have HY := Lib.hid (fl_ok (n := n) hy)
  have hnl2 : (nl : Int) ≤ 160 := by omega
  have hLn : L < n := by omega
  clear hl hsh hn hL hI hy
  go_enter Try.func4, Try.ntmps4
  go_wp2_with fail
  refine (shown_any _).mono ?_
  rintro e w1 ⟨rfl, hb1⟩
  have hbx := (Box.new w 23 #[.int .i64 (D : Int), .int .i64 (S : Int), .int .i64 (T : Int)]).of (hb1.block _ (by simp))
  have HB := Lib.hid (((Below.refl _ w).alloc (Nat.le_refl _) (.cells #[.int .i64 (D : Int), .int .i64 (S : Int), .int .i64 (T : Int)] 23)).trans (hb1.mono (by simp)))
  have c0 := hbx.cell 0
  have c1 := hbx.cell 1
  have c2 := hbx.cell 2
  have HBx := Lib.hid hbx
  clear hb1 hbx
  go_wp2_with fail
  refine (HR.out _).mono ?_
  rintro e w2 ⟨rfl, hb2⟩
  have HB2 := Lib.hid (HB.out.trans (hb2.mono HB.out.size))
  have HBx2 := Lib.hid (HBx.out.of (hb2.block _ HBx.out.lt))
  clear hb2 HB HBx c0 c1 c2
  have c0 := HBx2.out.cell 0
  have c1 := HBx2.out.cell 1
  have c2 := HBx2.out.cell 2
  go_wp2_with fail
  refine (HP.out _).mono ?_
  rintro e w3 ⟨rfl, hb3⟩
  have HB3 := Lib.hid (HB2.out.trans (hb3.mono HB2.out.size))
  have HBx3 := Lib.hid (HBx2.out.of (hb3.block _ HBx2.out.lt))
  clear hb3 HB2 HBx2 c0 c1 c2
  go_wp2_with fail
  refine (filled_any a nl c n y w3 (by omega) ((HI.out.below HB3.out).more HB3.out.size)).mono ?_
  rintro e w4 ⟨A, cap, rfl, hown, hb4⟩
  have HIt := Lib.hid (own_items hown)
  have HB4 := Lib.hid (HB3.out.trans (hb4.mono HB3.out.size))
  have HBx4 := Lib.hid (HBx3.out.of (hb4.block _ HBx3.out.lt))
  clear hown hb4 HB3 HBx3
  have c0 := HBx4.out.cell 0
  have c1 := HBx4.out.cell 1
  have c2 := HBx4.out.cell 2
  go_wp2_with fail
  refine (HD.out w4 A cap (fl nl y) HIt.out HY.out).mono ?_
  rintro e w8 ⟨o, g, B, cap2, ho, rfl, hir, hnum, hb8⟩
  have HIt8 := Lib.hid ((HIt.out.below hb8).more hb8.size)
  have HB8 := Lib.hid (HB4.out.trans (hb8.mono HB4.out.size))
  have HBx8 := Lib.hid (HBx4.out.of (hb8.block _ HBx4.out.lt))
  have HI8 := Lib.hid hir
  have HO := Lib.hid ho
  have hs48 := hb8.size
  clear hnum hb8 hir ho HB4 HBx4 HIt c0 c1 c2 HD HR HP HI
  have HF := Lib.hid (once_facts (T := T) h2 HL.out HN.out HO.out)
  have HPl := Lib.hid (fun i (hi : i < n) => out_lt (T := T) h2 HL.out HN.out HO.out i hi)
  have HPm := Lib.hid (fun p (hp : p < n) => mtn_all (goes_perm (T := T) (D := D) (S := S) (by omega) (by rw [HL.out]; exact Nat.lt_of_lt_of_le (Nat.lt_succ_self _) (Nat.le_of_eq HN.out)) HO.out) hp)
  generalize outP (goes (fl nl y) S D T o) n = P at *
  generalize (lostO (fl nl y) S D T o).length = Q at *
  generalize fl nl y = k at *
  have hmk := run_make_row' (P := Try.prog) 30 3 (.int .i64 0) 8 Try.underlying30 infoI64 rfl .i64 .i64 n (by omega) (by omega)
  have HA : Hid (OnAt w8 w8.heap.size n P 0 (w8.alloc (.cells (madeCells #[.int .i64 0] n) 3))) := Lib.hid
    ⟨(World.rowIs_made w8 (.int .i64 0) n 3).congr fun p _ => by simp [mtn], Nat.le_refl _, (Below.refl _ w8).alloc (Nat.le_refl _) _⟩
  obtain ⟨m, hm⟩ : ∃ m, w8.heap.size = m := ⟨_, rfl⟩
  have HM := Lib.hid hm
  have hbl := HBx8.out.lt
  have hgl := HI8.out.lt
  rw [hm] at hbl hgl HA
  have hgm : ¬ g = m := by omega
  have hbm : ¬ w.heap.size = m := by omega
  clear hm HO hs48
  go_wp2_with fail
  rw [HM.out]
  go_loopw [11, 12, 13] (fun v11 v12 v13 wr => ∃ i : Nat, v13 = .int .i64 i ∧ v11 = .int .i64 (cn (outQ k P S L n) i : Nat) ∧ v12 = .int .i64 (cn (realQ k) i : Nat) ∧ i ≤ n ∧ OnAt w8 m n P i wr) (fun _ _ v _ => n - (intOf v).toNat)
  case atStart => exact ⟨0, rfl, by simp [cn], by simp [cn], by omega, HA.out⟩
  case round =>
    obtain ⟨i, rfl, rfl, rfl, hle, hS⟩ := hrel
    clear HA
    have hB := hS.below
    by_cases hin : i < n
    · have cp : wr.cell? ⟨g, i, none⟩ = _ := (hB.cell (p := ⟨g, i, none⟩) (by rw [HM.out]; exact hgl)).trans (HI8.out.cell i hin)
      have hpn := HPl.out i hin
      obtain ⟨p, hp⟩ : ∃ p, P i = p := ⟨_, rfl⟩
      rw [hp] at cp hpn
      have cm := hS.row.cell hpn
      have fm := hS.row.frozen p
      have hmp := mtn_le P i p
      have HX := Lib.hid (hS.next hp _ rfl)
      have HPe := Lib.hid hp
      have hc1 := cn_le (outQ k P S L n) i
      have hc2 := cn_le (realQ k) i
      have HC1 := Lib.hid (cn_succ (outQ k P S L n) i)
      have HC2 := Lib.hid (cn_succ (realQ k) i)
      have hq : outQ k P S L n i = (decide (0 ≤ (k i).2) && (decide (p = n - 1) || (decide (p < L) && decide ((k i).2 < ((p / S : Nat) : Int))))) := by unfold outQ; rw [hp]
      have hr : realQ k i = decide (0 ≤ (k i).2) := rfl
      obtain ⟨b, off, rfl, hb, k0, k1⟩ := (HIt8.out.below hB).at hin
      have hbm2 : ¬ b = m := by have := HM.out; omega
      clear hS hp
      generalize cn (outQ k P S L n) i = x1 at *
      generalize cn (realQ k) i = x2 at *
      generalize mtn P i p = x3 at *
      obtain ⟨yd, hyd⟩ : ∃ d, (k i).2 = d := ⟨_, rfl⟩
      rw [hyd] at k1 hq hr
      have HQ := Lib.hid hq
      have HRl := Lib.hid hr
      clear hyd hq hr k0
      have e0 : decide ((p : Int) < 0) = false := by simp
      have e1 : decide ((n : Int) ≤ (p : Int)) = false := by simp; omega
      have e2 : decide (n ≤ p) = false := by simp; omega
      go_upto_region 18 with fail
      have hB2 := HX.out.below
      have cp2 : (wr.setCell ⟨m, p, none⟩ (.int .i64 ((x3 : Int) + 1))).cell? ⟨g, i, none⟩ = _ := (hB2.cell (p := ⟨g, i, none⟩) (by rw [HM.out]; exact hgl)).trans (HI8.out.cell i hin)
      rw [HPe.out] at cp2
      have k2 : (wr.setCell ⟨m, p, none⟩ (.int .i64 ((x3 : Int) + 1))).cell? ⟨b, off + i * 2 + 1, none⟩ = _ := (Below.cell ((Below.refl _ wr).setCell (p := ⟨m, p, none⟩) (show w8.heap.size ≤ m by rw [HM.out]; exact Nat.le_refl _) (.int .i64 ((x3 : Int) + 1))) (p := ⟨b, off + i * 2 + 1, none⟩) hb).trans k1
      have s0 : (wr.setCell ⟨m, p, none⟩ (.int .i64 ((x3 : Int) + 1))).cell? ⟨w.heap.size, 0, none⟩ = _ := (hB2.cell (p := ⟨w.heap.size, 0, none⟩) (by rw [HM.out]; exact hbl)).trans (HBx8.out.cell 0)
      have s1 : (wr.setCell ⟨m, p, none⟩ (.int .i64 ((x3 : Int) + 1))).cell? ⟨w.heap.size, 1, none⟩ = _ := (hB2.cell (p := ⟨w.heap.size, 1, none⟩) (by rw [HM.out]; exact hbl)).trans (HBx8.out.cell 1)
      clear hB2 hB cp cm fm k1
      generalize wr.setCell ⟨m, p, none⟩ (.int .i64 ((x3 : Int) + 1)) = w5 at *
      by_cases hneg : yd < 0
      · have hq2 : outQ k P S L n i = false := by rw [HQ.out, decide_eq_false (by omega)]; rfl
        have hr2 : realQ k i = false := by rw [HRl.out]; exact decide_eq_false (by omega)
        have HQ2 := Lib.hid hq2
        have HR2 := Lib.hid hr2
        clear hq2 hr2
        go_wp2_with fail
        go_roundw
        case rel => exact ⟨i + 1, by go_num, by rw [HC1.out, HQ2.out]; go_num, by rw [HC2.out, HR2.out]; go_num, by omega, HX.out⟩
        case measure => simp [intOf]; omega
      · have hr2 : realQ k i = true := by rw [HRl.out]; exact decide_eq_true (by omega)
        have HR2 := Lib.hid hr2
        have hq3 : outQ k P S L n i = (decide (p = n - 1) || (decide (p < L) && decide (yd < ((p / S : Nat) : Int)))) := by rw [HQ.out, decide_eq_true (show 0 ≤ yd by omega), Bool.true_and]
        have HQ3 := Lib.hid hq3
        have hneg2 : decide (yd < 0) = false := decide_eq_false hneg
        have e5 : (n : Int) - 1 = ((n - 1 : Nat) : Int) := by omega
        have hS0 : ¬ (S : Int) = 0 := by omega
        have hn1 : n - 1 ≤ 153 := by omega
        have hmul := HMul.out
        clear hr2 hq3 e0 e1 e2
        by_cases hlast : p = n - 1
        · have hq2 : outQ k P S L n i = true := by rw [HQ3.out, decide_eq_true hlast]; rfl
          have HQ2 := Lib.hid hq2
          have d1 : ((p : Int) == ((n - 1 : Nat) : Int)) = true := by rw [beq_iff_eq]; omega
          have d2 : (p == n - 1) = true := by rw [beq_iff_eq]; exact hlast
          clear hq2 hlast
          generalize n - 1 = nn at *
          go_wp2_with fail
          go_quiet (fail)
          go_wp2_with fail
          go_roundw
          case rel => exact ⟨i + 1, by go_num, by rw [HC1.out, HQ2.out]; go_num, by rw [HC2.out, HR2.out]; go_num, by omega, HX.out.drewN nq⟩
          case measure => simp [intOf]; omega
        · have d1 : ((p : Int) == ((n - 1 : Nat) : Int)) = false := by rw [beq_eq_false_iff_ne]; omega
          have d2 : (p == n - 1) = false := by rw [beq_eq_false_iff_ne]; exact hlast
          have hq4 : outQ k P S L n i = (decide (p < L) && decide (yd < ((p / S : Nat) : Int))) := by rw [HQ3.out, decide_eq_false hlast, Bool.false_or]
          have HQ4 := Lib.hid hq4
          clear hq4 hlast
          generalize n - 1 = nn at *
          by_cases hpL : p < L
          · have d3 : decide ((p : Int) < (L : Int)) = true := by simp; exact hpL
            have d4 : decide (p < L) = true := decide_eq_true hpL
            have hq5 : outQ k P S L n i = decide (yd < ((p / S : Nat) : Int)) := by rw [HQ4.out, d4, Bool.true_and]
            have hqd : p / S ≤ p := Nat.div_le_self p S
            have f1 : (p : Int) / (S : Int) = ((p / S : Nat) : Int) := by simp
            have f2 : Int.tdiv (p : Int) (S : Int) = ((p / S : Nat) : Int) := rfl
            generalize p / S = qd at *
            by_cases hdp : yd < (qd : Int)
            · have HQ2 : Hid (outQ k P S L n i = true) := Lib.hid (by rw [hq5]; exact decide_eq_true hdp)
              have d5 : decide (yd < (qd : Int)) = true := decide_eq_true hdp
              clear hq5 hpL
              go_wp2_with fail
              go_quiet (fail)
              go_wp2_with fail
              go_roundw
              case rel => exact ⟨i + 1, by go_num, by rw [HC1.out, HQ2.out]; go_num, by rw [HC2.out, HR2.out]; go_num, by omega, HX.out.drewN nq⟩
              case measure => simp [intOf]; omega
            · have HQ2 : Hid (outQ k P S L n i = false) := Lib.hid (by rw [hq5]; exact decide_eq_false hdp)
              have d5 : decide (yd < (qd : Int)) = false := decide_eq_false hdp
              clear hq5 hpL
              go_wp2_with fail
              go_quiet (fail)
              go_wp2_with fail
              go_roundw
              case rel => exact ⟨i + 1, by go_num, by rw [HC1.out, HQ2.out]; go_num, by rw [HC2.out, HR2.out]; go_num, by omega, HX.out.drewN nq⟩
              case measure => simp [intOf]; omega
          · have d3 : decide ((p : Int) < (L : Int)) = false := by simp; omega
            have d4 : decide (p < L) = false := decide_eq_false hpL
            have HQ2 : Hid (outQ k P S L n i = false) := Lib.hid (by rw [HQ4.out, d4, Bool.false_and])
            clear hpL
            go_wp2_with fail
            go_quiet (fail)
            go_wp2_with fail
            go_roundw
            case rel => exact ⟨i + 1, by go_num, by rw [HC1.out, HQ2.out]; go_num, by rw [HC2.out, HR2.out]; go_num, by omega, HX.out.drewN nq⟩
            case measure => simp [intOf]; omega
    · obtain rfl : i = n := by omega
      have hR := hS.row
      have HBw := Lib.hid (HB8.out.trans (hS.below.mono HB8.out.size))
      have s2 : wr.cell? ⟨w.heap.size, 2, none⟩ = _ := (hS.below.cell (p := ⟨w.heap.size, 2, none⟩) (by rw [HM.out]; exact hbl)).trans (HBx8.out.cell 2)
      obtain ⟨hf1, hf2⟩ := HF.out
      generalize cn (outQ k P S L i) i = x1 at *
      have hx2b := cn_le (realQ k) i
      generalize cn (realQ k) i = x2 at *
      have HRow := Lib.hid hR
      clear hS hR hle hin
      obtain ⟨w9, h9⟩ : ∃ x, x = wr := ⟨_, rfl⟩
      subst h9
      go_wp2_with fail
      go_loopw [14] (fun v wr => ∃ j : Nat, v = .int .i64 j ∧ j ≤ i ∧ wr = w9) (fun v _ => i - (intOf v).toNat)
      case atStart => exact ⟨0, rfl, by omega, rfl⟩
      case round =>
        obtain ⟨j, rfl, hj, rfl⟩ := hrel
        by_cases hji : j < i
        · have cj := HRow.out.cell hji
          rw [HPm.out j hji] at cj
          replace cj : wr.cell? ⟨m, j, none⟩ = some (.int .i64 1) := cj
          clear s2
          go_wp2_with fail
          go_roundw
          case rel => exact ⟨j + 1, by go_num, by omega, trivial⟩
          case measure => simp [intOf]; omega
        · obtain rfl : j = i := by omega
          have hx2 : x2 ≤ 153 := by omega
          obtain ⟨z, hz⟩ : ∃ z, x2 - T = z := ⟨_, rfl⟩
          rw [hz] at hf2
          have hmx : max 0 ((x2 : Int) - (T : Int)) = (z : Int) := by omega
          have d6 : decide ((x1 : Int) ≤ (Q : Int)) = true := by simp; omega
          have d7 : decide (x1 ≤ Q) = true := by simp; omega
          have d8 : decide ((Q : Int) ≤ (z : Int)) = true := by simp; omega
          have d9 : decide (Q ≤ z) = true := by simp; omega
          clear hz hji hj
          go_wp2_with fail
          go_ret
          exact ⟨rfl, HBw.out⟩
set_option maxRecDepth 100000 in
set_option maxHeartbeats 1000000 in
theorem once_law (D S T : Int) (nl c : Nat) (a : Option Addr) (y : Nat → It) (w : World) (hI : Its w w.heap.size a nl y) (hy : ∀ j, j < nl → ItOk (y j)) :
    Calls Try.prog 4 #[.agg #[.int .i64 D, .int .i64 S, .int .i64 T], .slice a nl c] w fun e w' => e = .returned (.bool true) ∧ Below w.heap.size w w' := by
  by_cases hall : isSh D S T = true ∧ nl ≤ 160
  · obtain ⟨d, s, t, rfl, rfl, rfl, h1, h2, h3, h4, h5⟩ := (isSh_iff D S T).1 hall.1
    exact once_in d s t _ _ nl c a y w h1 h2 h3 h4 h5 rfl rfl hI hy hall.2
  · have hor : isSh D S T = false ∨ (isSh D S T = true ∧ 160 < nl) := by
      cases h : isSh D S T
      · exact .inl rfl
      · exact .inr ⟨rfl, Nat.lt_of_not_le fun h2 => hall ⟨h, h2⟩⟩
    clear hall hI hy
    have HR := Lib.hid (fun W => (deal_right D S T W))
    rcases hor with hsh | ⟨hsh, hnl⟩
    · rw [hsh] at HR
      clear hsh
      go_enter Try.func4, Try.ntmps4
      go_wp2_with fail
      refine (shown_any _).mono ?_
      rintro e w1 ⟨rfl, hb1⟩
      have hbx := (Box.new w 23 #[.int .i64 D, .int .i64 S, .int .i64 T]).of (hb1.block _ (by simp))
      have HB := Lib.hid (((Below.refl _ w).alloc (Nat.le_refl _) (.cells #[.int .i64 D, .int .i64 S, .int .i64 T] 23)).trans (hb1.mono (by simp)))
      have c0 := hbx.cell 0
      have c1 := hbx.cell 1
      have c2 := hbx.cell 2
      clear hb1 hbx
      go_wp2_with fail
      refine (HR.out _).mono ?_
      rintro e w2 ⟨rfl, hb2⟩
      have HB2 := Lib.hid (HB.out.trans (hb2.mono HB.out.size))
      clear hb2 HB
      go_wp2_with fail
      go_ret
      exact ⟨rfl, HB2.out⟩
    · rw [hsh] at HR
      have hnl2 : (160 : Int) < (nl : Int) := by omega
      clear hsh
      go_enter Try.func4, Try.ntmps4
      go_wp2_with fail
      refine (shown_any _).mono ?_
      rintro e w1 ⟨rfl, hb1⟩
      have hbx := (Box.new w 23 #[.int .i64 D, .int .i64 S, .int .i64 T]).of (hb1.block _ (by simp))
      have HB := Lib.hid (((Below.refl _ w).alloc (Nat.le_refl _) (.cells #[.int .i64 D, .int .i64 S, .int .i64 T] 23)).trans (hb1.mono (by simp)))
      have c0 := hbx.cell 0
      have c1 := hbx.cell 1
      have c2 := hbx.cell 2
      clear hb1 hbx
      go_wp2_with fail
      refine (HR.out _).mono ?_
      rintro e w2 ⟨rfl, hb2⟩
      have HB2 := Lib.hid (HB.out.trans (hb2.mono HB.out.size))
      clear hb2 HB
      go_wp2_with fail
      go_ret
      exact ⟨rfl, HB2.out⟩
end Go.Proofs.Ythnpfnefmmlajaa
