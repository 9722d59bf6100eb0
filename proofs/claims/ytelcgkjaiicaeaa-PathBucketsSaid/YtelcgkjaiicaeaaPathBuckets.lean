/- PathBuckets: for every input the law returns true, and of what was in memory nothing changes. -/
import Derived.Test.YtelcgkjaiicaeaaPathMeet
namespace Go.Proofs.Ytelcgkjaiicaeaa
open Go.RowKit Go.Shelf Go.ChangeShapes Go.WideShapes Go.ChangeAt

/-- Is a node among the first i ones of a way? -/
def onB (L k m : Nat) : Nat → Bool
  | 0 => false
  | i + 1 => onB L k m i || (nd L k i == m)
theorem onB_succ (L k m i : Nat) : onB L k m (i + 1) = (onB L k m i || (nd L k i == m)) := rfl
theorem onB_iff (L k m : Nat) : ∀ i, onB L k m i = true ↔ ∃ j, j < i ∧ nd L k j = m
  | 0 => ⟨fun h => (by cases h), fun ⟨j, h, _⟩ => absurd h (Nat.not_lt_zero _)⟩
  | i + 1 => by
    rw [onB_succ, Bool.or_eq_true, onB_iff L k m i, beq_iff_eq]
    constructor
    · rintro (⟨j, h1, h2⟩ | h)
      · exact ⟨j, by omega, h2⟩
      · exact ⟨i, by omega, h⟩
    · rintro ⟨j, h1, h2⟩
      by_cases e : j = i
      · subst e; exact .inr h2
      · exact .inl ⟨j, by omega, h2⟩
/-- A node is on the way to a leaf just if both ways are one down to there. -/
theorem onB_all (L k l dd : Nat) (hk : k < 2 ^ L) (hl : l < 2 ^ L) (hd : dd ≤ L) : onB L k (nd L l dd) (L + 1) = decide (dd ≤ deep L l k L) := by
  have h1 := onB_iff L k (nd L l dd) (L + 1)
  have h2 := deep_iff L l k hl hk dd hd
  rw [Bool.eq_iff_iff, h1, decide_eq_true_iff, ← h2]
  constructor
  · rintro ⟨j, hj, e⟩
    obtain rfl := nd_depth L k l j dd (by omega) hd hk hl e
    exact e.symm
  · intro e
    exact ⟨dd, by omega, e.symm⟩
theorem met_next (L k l dd : Nat) (hk : k < 2 ^ L) (hl : l < 2 ^ L) (hd : dd ≤ L) : met L dd (l / 2 ^ (L - dd)) (k + 1) = met L dd (l / 2 ^ (L - dd)) k + if dd ≤ deep L l k L then 1 else 0 := by
  rw [met_succ]
  have h2 := deep_iff L l k hl hk dd hd
  rw [nd_eq] at h2
  congr 1
  by_cases h : dd ≤ deep L l k L
  · rw [if_pos h, if_pos (h2.2 h).symm]
  · rw [if_neg h, if_neg (fun e => h (h2.1 e.symm))]
theorem met_le (L dd p : Nat) : ∀ k, met L dd p k ≤ k
  | 0 => Nat.le_refl _
  | k + 1 => by
    have := met_le L dd p k
    rw [met_succ]
    split <;> omega
theorem shr_two (L dd n : Nat) (hn : 2 ^ L = n) (hd : dd ≤ L) : (n : Int) / 2 ^ dd = ((2 ^ (L - dd) : Nat) : Int) := by
  rw [← pow_cast dd, ← Int.natCast_ediv, ← hn, Nat.pow_div hd (by decide)]
theorem clamp_to (n : Nat) (p : Int) : ∃ k : Nat, max 0 (min p (n : Int)) = (k : Int) ∧ k ≤ n := ⟨(max 0 (min p (n : Int))).toNat, by omega, by omega⟩
set_option maxHeartbeats 1000000 in
theorem buckets_out (L l d : Int) (h : L < 0 ∨ 7 < L) (w : World) : Calls Try.prog 7 #[.int .i64 L, .int .i64 l, .int .i64 d] w fun e w' => e = .returned (.bool true) ∧ Below w.heap.size w w' := by
  go_enter Try.func7, Try.ntmps7
  go_wp2_with fail
  refine (shown_any _).mono ?_
  rintro e w1 ⟨rfl, hb1⟩
  have HB := Lib.hid hb1
  clear hb1
  have hor : (decide (L < 0) || decide (7 < L)) = true := by simp; exact h
  go_wp2_with fail
  all_goals (go_ret; exact ⟨rfl, HB.out⟩)
set_option maxRecDepth 100000 in
set_option maxHeartbeats 2000000 in
theorem buckets_in (L n : Nat) (l d : Int) (hL : L ≤ 7) (hn : 2 ^ L = n) (w : World) : Calls Try.prog 7 #[.int .i64 (L : Int), .int .i64 l, .int .i64 d] w fun e w' => e = .returned (.bool true) ∧ Below w.heap.size w w' := by
  have h0 : decide ((L : Int) < 0) = false := by simp
  have h1 : decide (7 < (L : Int)) = false := by simp; omega
  have hn1 : n ≤ 128 := by rw [← hn]; exact Nat.pow_le_pow_right (by decide) hL
  have hn0 : 0 < n := by rw [← hn]; exact two_pow_pos L
  have hsh := shl_tree L n hn (by omega)
  obtain ⟨x, hx, hmx⟩ := mask_leaf l L n hn (by omega)
  obtain ⟨dd, hdd, hdL⟩ := clamp_to L d
  have WN := Lib.hid (fun W => node_in L n x dd W (by omega) hn hx hdL)
  have WP := Lib.hid (fun W k (hk : k < n) => way_in L n k W (by omega) hn hk)
  have WD := Lib.hid (fun W k (hk : k < n) => deep_in L n x k W (by omega) hn hx hk)
  have HO := Lib.hid (fun k (hk : k < n) => onB_all L k x dd (by omega) (by omega) hdL)
  have HM := Lib.hid (fun k (hk : k < n) => met_next L k x dd (by omega) (by omega) hdL)
  have HE := Lib.hid (met_all L dd (x / 2 ^ (L - dd)) hdL (part_lt L x dd hdL (by omega)))
  have HZ := Lib.hid (fun k => met_le L dd (x / 2 ^ (L - dd)) k)
  have hshr := shr_two L dd n hn hdL
  have hpl : 2 ^ (L - dd) ≤ 128 := Nat.le_trans (Nat.pow_le_pow_right (by decide) (Nat.sub_le L dd)) (by omega)
  have WX := Lib.hid (fun W => node_no (n : Int) (x : Int) ((L : Int) + 1) W (by omega) (by omega) (by rw [dpt_two (by omega) hn]; intro h; omega))
  have hno : inT (n : Int) (n : Int) = false := by
    rw [inT_on (isTree_two (by omega) hn) (by omega)]; simp
  have WY := Lib.hid (fun W => deep_no (n : Int) (x : Int) (n : Int) W (by omega) (by omega) (by rw [hno]; simp))
  have WZ := Lib.hid (fun W => way_no (n : Int) (n : Int) W (by omega) (by omega) hno)
  rw [hn] at HE
  clear hn hno
  generalize met L dd (x / 2 ^ (L - dd)) = cnt at *
  generalize nd L x dd = m at *
  generalize 2 ^ (L - dd) = many at *
  go_enter Try.func7, Try.ntmps7
  go_wp2_with fail
  refine (shown_any _).mono ?_
  rintro e w1 ⟨rfl, hb1⟩
  have HB1 := Lib.hid hb1
  clear hb1
  go_wp2_with fail
  with_reducible refine (WN.out _).mono ?_
  rintro e w2 ⟨rfl, rfl⟩
  go_wp2_with fail
  have z0 : cnt 0 = 0 := by have := HZ.out 0; omega
  go_loopw [10, 11] (fun v10 v wr => ∃ k : Nat, v = .int .i64 k ∧ v10 = .int .i64 (cnt k : Nat) ∧ k ≤ n ∧ Below w.heap.size w wr) (fun _ v _ => n - (intOf v).toNat)
  case atStart => exact ⟨0, rfl, by rw [z0]; rfl, by omega, HB1.out⟩
  case round =>
    obtain ⟨k, rfl, rfl, hk, hB⟩ := hrel
    have HB := Lib.hid hB
    have hz := HZ.out k
    clear hB
    by_cases hlt : k < n
    · have hO := HO.out k hlt
      have hMt := HM.out k hlt
      have HD := Lib.hid (fun W => WD.out W k hlt)
      obtain ⟨w9, h9⟩ : ∃ x, x = wr := ⟨_, rfl⟩
      subst h9
      generalize deep L x k L = q at *
      have HOn := Lib.hid hO
      have HMt := Lib.hid hMt
      clear hO hMt
      go_wp2_with fail
      with_reducible refine (WP.out _ k hlt).mono ?_
      rintro e w3 ⟨g, cap, rfl, hc, hi, hb⟩
      have HI := Lib.hid hi
      have HB3 := Lib.hid (HB.out.trans (hb.mono HB.out.size))
      clear hi hb
      go_wp2_with fail
      go_loopw [13, 14] (fun v13 v14 wr => ∃ i : Nat, v14 = .int .i64 i ∧ v13 = .bool (onB L k m i) ∧ i ≤ L + 1 ∧ wr = w3) (fun _ v14 _ => L + 1 - (intOf v14).toNat)
      case atStart => exact ⟨0, rfl, rfl, by omega, rfl⟩
      case round =>
        obtain ⟨i, rfl, rfl, hi, rfl⟩ := hrel
        by_cases hiL : i < L + 1
        · have hs := onB_succ L k m i
          have c0 := HI.out.cell i hiL
          have d1 : (i : Int) < (L : Int) + 1 := by omega
          cases ho : onB L k m i
          · rw [ho, Bool.false_or] at hs
            have HS := Lib.hid hs
            clear hs ho
            have hbe : (((nd L k i : Nat) : Int) == (m : Int)) = (nd L k i == m) := by
              show decide (_ = _) = decide (_ = _)
              rw [decide_eq_decide]
              omega
            generalize nd L k i = y at *
            go_wp2_with fail
            go_roundw
            case rel => exact ⟨i + 1, by go_num, by rw [HS.out], by omega, trivial⟩
            case measure => simp [intOf]; omega
          · rw [ho, Bool.true_or] at hs
            have HS := Lib.hid hs
            clear hs ho
            go_wp2_with fail
            go_roundw
            case rel => exact ⟨i + 1, by go_num, by rw [HS.out], by omega, trivial⟩
            case measure => simp [intOf]; omega
        · obtain rfl : i = L + 1 := by omega
          rw [HOn.out]
          clear hiL hi
          by_cases hq : dd ≤ q
          · have e1 : decide (dd ≤ q) = true := by simp [hq]
            rw [e1]
            have e2 : decide ((dd : Int) ≤ (q : Int)) = true := by simp [hq]
            have HN := HMt.out
            rw [if_pos hq] at HN
            have HN := Lib.hid HN
            clear HMt
            go_wp2_with fail
            with_reducible refine (HD.out _).mono ?_
            rintro e w5 ⟨rfl, rfl⟩
            go_wp2_with fail
            go_roundw
            case rel => exact ⟨k + 1, by go_num, by rw [HN.out]; go_num, by omega, HB3.out⟩
            case measure => simp [intOf]; omega
          · have e1 : decide (dd ≤ q) = false := by simp; omega
            rw [e1]
            have e2 : decide ((dd : Int) ≤ (q : Int)) = false := by simp; omega
            have HN := HMt.out
            rw [if_neg hq] at HN
            have HN := Lib.hid HN
            clear HMt
            go_wp2_with fail
            with_reducible refine (HD.out _).mono ?_
            rintro e w5 ⟨rfl, rfl⟩
            go_wp2_with fail
            go_roundw
            case rel => exact ⟨k + 1, by go_num, by rw [HN.out]; rfl, by omega, HB3.out⟩
            case measure => simp [intOf]; omega
    · have hkn : k = n := by omega
      subst hkn
      rw [HE.out]
      clear hz hlt hk
      go_wp2_with fail
      with_reducible refine (WX.out _).mono ?_
      rintro e w5 ⟨rfl, rfl⟩
      go_wp2_with fail
      with_reducible refine (WY.out _).mono ?_
      rintro e w6 ⟨rfl, rfl⟩
      go_wp2_with fail
      with_reducible refine (WZ.out _).mono ?_
      rintro e w7 ⟨rfl, rfl⟩
      go_wp2_with fail
      go_ret
      exact ⟨rfl, HB.out⟩
theorem buckets_law (L l d : Int) (w : World) : Calls Try.prog 7 #[.int .i64 L, .int .i64 l, .int .i64 d] w fun e w' => e = .returned (.bool true) ∧ Below w.heap.size w w' := by
  by_cases h : L < 0 ∨ 7 < L
  · exact buckets_out L l d h w
  · obtain ⟨k, rfl⟩ := Int.eq_ofNat_of_zero_le (a := L) (by omega)
    exact buckets_in k _ l d (by omega) rfl w
end Go.Proofs.Ytelcgkjaiicaeaa
