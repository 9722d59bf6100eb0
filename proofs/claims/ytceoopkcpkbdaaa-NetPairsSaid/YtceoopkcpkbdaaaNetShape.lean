/- NetShape: for every number the law returns true, and of what was in memory nothing changes. -/
import Derived.Test.YtceoopkcpkbdaaaNetShown
import Derived.BigQuiet
import Derived.Deep.QuietTactic
namespace Go.Proofs.Ytceoopkcpkbdaaa
open Go.RowKit Go.Shelf Go.ChangeShapes Go.WideShapes Go.ChangeAt

theorem infoInt : (Try.prog.info? 3).map (fun i => (i.zero, i.size, i.bytes)) = some (some (.int .i64 0), 1, 8) := by kernel_rfl
theorem shl_one (L n : Nat) (hn : 2 ^ L = n) (h1 : n ≤ 1024) : wrap64 ((2 : Int) ^ L) = (n : Int) := by
  have e : ((2 : Int) ^ L) = (n : Int) := by rw [← hn]; simp
  rw [e]; unfold wrap64; omega
theorem mets_take (ps : List Pr) (i : Nat) (hi : i < ps.length) (k : Nat) : mets (ps.take (i + 1)) k = mets (ps.take i) k + (if k = ps[i].1 then 1 else 0) + (if k = ps[i].2.1 then 1 else 0) := by
  rw [List.take_succ_eq_append_getElem hi, mets_append]
  have : mets [ps[i]] k = (if k = ps[i].1 then 1 else 0) + (if k = ps[i].2.1 then 1 else 0) := by
    unfold mets
    simp only [List.countP_cons, List.countP_nil, Nat.zero_add, beq_iff_eq]
    congr 1
    · by_cases h : k = ps[i].1
      · rw [if_pos h.symm, if_pos h]
      · rw [if_neg (fun e => h e.symm), if_neg h]
    · by_cases h : k = ps[i].2.1
      · rw [if_pos h.symm, if_pos h]
      · rw [if_neg (fun e => h e.symm), if_neg h]
  omega
theorem mets_wrap (ps : List Pr) (i k : Nat) (h : ps.length ≤ 28160) : wrap64 ((mets (ps.take i) k : Nat) + 1 : Int) = ((mets (ps.take i) k : Nat) + 1 : Int) := by
  have h1 : (ps.take i).countP (fun p => p.1 == k) ≤ (ps.take i).length := List.countP_le_length
  have h2 : (ps.take i).countP (fun p => p.2.1 == k) ≤ (ps.take i).length := List.countP_le_length
  have h3 : (ps.take i).length ≤ ps.length := by simp; omega
  unfold wrap64 mets
  omega
theorem half_prod (L m : Nat) (hL : L ≤ 10) (h : 2 * m = L * (L + 1)) : (((m : Nat) : Int) != wrap64 ((wrap64 ((L : Int) * ((L : Int) + 1))).tdiv 2)) = false := by
  have h1 : L * (L + 1) ≤ 10 * 11 := Nat.mul_le_mul hL (by omega)
  have e : (L : Int) * ((L : Int) + 1) = ((2 * m : Nat) : Int) := by rw [h]; simp
  rw [e]
  have e2 : wrap64 ((2 * m : Nat) : Int) = ((2 * m : Nat) : Int) := by unfold wrap64; omega
  rw [e2]
  have e3 : (((2 * m : Nat) : Int)).tdiv 2 = (m : Int) := by
    rw [Int.tdiv_eq_ediv_of_nonneg (by omega)]; omega
  rw [e3]
  have e4 : wrap64 (m : Int) = (m : Int) := by unfold wrap64; omega
  rw [e4]
  simp
/-- In the middle of counting: i pairs are counted. -/
structure ShAt (w : World) (base : Nat) (A : Option Addr) (ps : List Pr) (g gm n i : Nat) (wr : World) : Prop where
  le : i ≤ ps.length
  prs : Prs wr base A ps g
  ne : 0 < ps.length → g ≠ gm
  row : wr.rowIs gm 3 n (fun k => .int .i64 (mets (ps.take i) k : Nat))
  old : w.heap.size ≤ gm
  below : Below w.heap.size w wr
theorem ShAt.next {w : World} {base : Nat} {A : Option Addr} {ps : List Pr} {g gm n i : Nat} {wr : World} (h : ShAt w base A ps g gm n i wr) (hi : i < ps.length) (hne : ps[i].1 ≠ ps[i].2.1) (k : Nat) :
    ShAt w base A ps g gm n (i + 1) ((((wr.drewN k).setCell ⟨gm, ps[i].1, none⟩ (.int .i64 ((mets (ps.take i) ps[i].1 : Nat) + 1 : Int))).setCell ⟨gm, ps[i].2.1, none⟩ (.int .i64 ((mets (ps.take i) ps[i].2.1 : Nat) + 1 : Int)))) := by
  refine ⟨hi, ((h.prs.drewN k).far h.ne _).far h.ne _, h.ne, ?_, h.old, ((below_drewN h.below k).setCell (p := ⟨gm, _, none⟩) h.old _).setCell (p := ⟨gm, _, none⟩) h.old _⟩
  refine (((row_drewN h.row k).set _ _).set _ _).congr fun j _ => ?_
  show (if j = ps[i].2.1 then _ else if j = ps[i].1 then _ else _) = _
  have e := mets_take ps i hi j
  by_cases h1 : j = ps[i].2.1
  · subst h1
    rw [if_pos rfl, e, if_neg (fun e => hne e.symm), if_pos rfl]
    simp
  · rw [if_neg h1]
    by_cases h2 : j = ps[i].1
    · subst h2
      rw [if_pos rfl, e, if_pos rfl, if_neg h1]
      simp
    · rw [if_neg h2, e, if_neg h2, if_neg h1]
      simp
set_option maxHeartbeats 4000000 in
theorem shape_in (L n : Nat) (hL : L ≤ 10) (hn : 2 ^ L = n) (w : World) : Calls Try.prog 6 #[.int .i64 (L : Int)] w fun e w' => e = .returned (.bool true) ∧ Below w.heap.size w w' := by
  have h0 : decide ((L : Int) < 0) = false := by simp
  have h1 : decide (10 < (L : Int)) = false := by simp; omega
  have hn1 : n ≤ 1024 := by rw [← hn]; exact two_le L hL
  have hn0 : 0 < n := by rw [← hn]; exact two_pos L
  have hsh := shl_one L n hn hn1
  have hmk := run_make_row' (P := Try.prog) 41 3 (.int .i64 0) 8 Try.underlying41 infoInt rfl .i64 .i64 n (by omega) (by omega)
  have hN : Net (n : Int) n (netL L) := ⟨.inl ⟨L, hL, by rw [hn], hn.symm, rfl⟩⟩
  have hlen := hN.len
  have hin : Within n (netL L) := by rw [← hn]; exact netL_within L
  have hmet : ∀ i, i < n → 2 * mets (netL L) i = L * (L + 1) := fun i hi => netL_mets L i (by rw [hn]; exact hi)
  have HN := Lib.hid hN
  clear hN
  generalize netL L = ps at *
  go_enter Try.func6, Try.ntmps6
  go_wp2_with fail
  refine (shown_any _).mono ?_
  rintro e w1 ⟨rfl, hb1⟩
  go_wp2_with fail
  refine (pairs_any (n : Int) n ps HN.out _).mono ?_
  rintro e w2 ⟨v, rfl, hown, hb2⟩
  obtain ⟨A, cap, g, rfl, hP⟩ := Prs.of hown
  have hb := Lib.hid (hb1.trans (hb2.mono hb1.size))
  have hsz : w.heap.size ≤ w2.heap.size := hb.out.size
  clear hown hb1 hb2
  have hS : ShAt w w1.heap.size A ps g w2.heap.size n 0 (w2.alloc (.cells (madeCells #[.int .i64 0] n) 3)) :=
    ⟨by omega, hP.alloc _, fun h => by have := (hP.base h).2; omega, World.rowIs_made w2 (.int .i64 0) n 3, hsz, hb.out.alloc hsz _⟩
  have HS := Lib.hid hS
  clear hS hP
  go_wp2
  go_loopw [7] (fun v wr => ∃ i : Nat, v = .int .i64 i ∧ ShAt w w1.heap.size A ps g w2.heap.size n i wr) (fun v _ => ps.length - (intOf v).toNat)
  case atStart => exact ⟨0, rfl, HS.out⟩
  case round =>
    obtain ⟨i, rfl, hS⟩ := hrel
    clear HS
    have hle := hS.le
    by_cases hlt : i < ps.length
    · have hw := hin ps[i] (List.getElem_mem hlt)
      obtain rfl := hS.prs.adr (by omega)
      have c0 := hS.prs.fst i hlt
      have c1 := hS.prs.snd i hlt
      have m0 := hS.row.cell (show ps[i].1 < n by omega)
      have m1 := hS.row.cell hw.2
      have f0 := hS.row.frozen ps[i].1
      have f1 := hS.row.frozen ps[i].2.1
      have hnx := hS.next hlt (by omega)
      have HX := Lib.hid hnx
      have gne : ¬ g = w2.heap.size := hS.ne (by omega)
      have gne2 : ¬ w2.heap.size = g := fun e => gne e.symm
      have wm0 := mets_wrap ps i ps[i].1 hlen
      have wm1 := mets_wrap ps i ps[i].2.1 hlen
      clear hS hnx
      generalize ps[i].1 = I at *
      generalize ps[i].2.1 = J at *
      have d1 : decide ((I : Int) < 0) = false := by simp
      have d2 : decide (n ≤ J) = false := by simp; omega
      have d3 : decide (J ≤ I) = false := by simp; omega
      have d4 : (I : Int) < (n : Int) := by omega
      have d5 : (J : Int) < (n : Int) := by omega
      have d6 : (i : Int) < (ps.length : Int) := by omega
      have d7 : I ≠ J := by omega
      go_wp2_with fail
      go_quiet (fail)
      go_wp2_with fail
      go_roundw
      case rel => exact ⟨i + 1, by go_num, HX.out nq⟩
      case measure => simp [intOf]; omega
    · obtain rfl : i = ps.length := by omega
      have hrow := hS.row
      rw [List.take_length] at hrow
      have HR := Lib.hid hrow
      have HB := Lib.hid hS.below
      clear hS hrow
      obtain ⟨w9, h9⟩ : ∃ x, x = wr := ⟨_, rfl⟩
      subst h9
      go_wp2_with fail
      go_loopw [8] (fun v wr => ∃ i : Nat, v = .int .i64 i ∧ i ≤ n ∧ wr = w9) (fun v _ => n - (intOf v).toNat)
      case atStart => exact ⟨0, rfl, by omega, rfl⟩
      case round =>
        obtain ⟨i, rfl, hin', rfl⟩ := hrel
        by_cases hlt2 : i < n
        · have ci := HR.out.cell hlt2
          have hm := half_prod L (mets ps i) hL (hmet i hlt2)
          go_wp2_with fail
          go_roundw
          case rel => exact ⟨i + 1, by go_num, by omega, trivial⟩
          case measure => simp [intOf]; omega
        · go_wp2_with fail
          refine (count_any (n : Int) n ps HN.out _).mono ?_
          rintro e w3 ⟨rfl, hb3⟩
          go_wp2_with fail
          go_ret
          exact ⟨rfl, HB.out.trans (hb3.mono HB.out.size)⟩
set_option maxHeartbeats 1000000 in
theorem shape_out (L : Int) (h : L < 0 ∨ 10 < L) (w : World) : Calls Try.prog 6 #[.int .i64 L] w fun e w' => e = .returned (.bool true) ∧ Below w.heap.size w w' := by
  go_enter Try.func6, Try.ntmps6
  go_wp2_with fail
  refine (shown_any _).mono ?_
  rintro e w1 ⟨rfl, hb1⟩
  have HB := Lib.hid hb1
  clear hb1
  have hor : (decide (L < 0) || decide (10 < L)) = true := by simp; exact h
  go_wp2_with fail
  all_goals (go_ret; exact ⟨rfl, HB.out⟩)
theorem shape_law (L : Int) (w : World) : Calls Try.prog 6 #[.int .i64 L] w fun e w' => e = .returned (.bool true) ∧ Below w.heap.size w w' := by
  by_cases h : L < 0 ∨ 10 < L
  · exact shape_out L h w
  · obtain ⟨k, rfl⟩ := Int.eq_ofNat_of_zero_le (a := L) (by omega)
    exact shape_in k _ (by omega) rfl w
end Go.Proofs.Ytceoopkcpkbdaaa
