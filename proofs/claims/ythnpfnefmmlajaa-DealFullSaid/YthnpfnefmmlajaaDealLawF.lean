/- DealFull: for every input the law returns true, and of what was in memory nothing changes. -/
import Derived.Test.YthnpfnefmmlajaaDealShown
namespace Go.Proofs.Ythnpfnefmmlajaa
open Go.RowKit Go.ChangeShapes Go.WideShapes Go.ChangeAt

/-- Items that all may lie deepest, and empty ones behind them. -/
def fy (m D i : Nat) : It := if i < m then ((i : Int), (D : Int)) else ((i : Int), -1)
theorem fy_ord (m D n : Nat) : IsOrd (fy m D) n (List.range n) := by
  refine ⟨List.Perm.refl _, List.pairwise_lt_range.imp fun {i j} h => ?_⟩
  by_cases h1 : i < m <;> by_cases h2 : j < m
  · have ei : fy m D i = ((i : Int), (D : Int)) := by unfold fy; rw [if_pos h1]
    have ej : fy m D j = ((j : Int), (D : Int)) := by unfold fy; rw [if_pos h2]
    rw [bef_real (by rw [ei]; exact Int.natCast_nonneg _) (by rw [ej]; exact Int.natCast_nonneg _), ei, ej]
    exact .inr ⟨rfl, .inl (by show (i : Int) < (j : Int); omega)⟩
  · have ei : fy m D i = ((i : Int), (D : Int)) := by unfold fy; rw [if_pos h1]
    have ej : fy m D j = ((j : Int), -1) := by unfold fy; rw [if_neg h2]
    exact bef_mix (by rw [ei]; exact Int.natCast_nonneg _) (by rw [ej]; show (-1 : Int) < 0; decide)
  · omega
  · have ei : fy m D i = ((i : Int), -1) := by unfold fy; rw [if_neg h1]
    have ej : fy m D j = ((j : Int), -1) := by unfold fy; rw [if_neg h2]
    exact (bef_none (by rw [ei]; show (-1 : Int) < 0; decide) (by rw [ej]; show (-1 : Int) < 0; decide)).2 h
theorem fy_reals {m D n : Nat} (h : m ≤ n) : reals (fy m D) (List.range n) = List.range m := by
  unfold reals
  have e : n = m + (n - m) := by omega
  rw [e, List.range_add, List.filter_append]
  have h1 : (List.range m).filter (fun i => decide (0 ≤ (fy m D i).2)) = List.range m := by
    rw [List.filter_eq_self]
    intro i hi
    have := List.mem_range.1 hi
    unfold fy
    rw [if_pos this]
    simp
  have h2 : ((List.range (n - m)).map (m + ·)).filter (fun i => decide (0 ≤ (fy m D i).2)) = [] := by
    rw [List.filter_eq_nil_iff]
    intro i hi
    obtain ⟨k, _, rfl⟩ := List.mem_map.1 hi
    unfold fy
    rw [if_neg (by omega)]
    simp
  rw [h1, h2, List.append_nil]
theorem fy_goes {m D S T n k : Nat} (hS : 0 < S) (hn : (D + 1) * S + T + 1 = n) (hm : m < n) (hk : k < m) :
    goes (fy m D) S D T (List.range n) k = some (if k < (D + 1) * S then (D - k / S) * S + k % S else k) := by
  unfold goes
  have hp : plc (fy m D) S D T (List.range n) = dl S ((D + 1) * S) T ((D + 1) * S) 0 (List.replicate m D) := by
    unfold plc deeps
    rw [fy_reals (by omega)]
    congr 1
    apply List.ext_getElem
    · simp
    · intro i h1 h2
      have hi : i < m := by simpa using h2
      simp [fy, hi]
  rw [hp, fy_reals (by omega)]
  have hlen : (dl S ((D + 1) * S) T ((D + 1) * S) 0 (List.replicate m D)).length = m := by rw [dl_len, List.length_replicate]
  have h1 := asg_at (List.range m) (dl S ((D + 1) * S) T ((D + 1) * S) 0 (List.replicate m D)) k List.nodup_range (by simpa using hk) (by rw [hlen]; exact hk)
  rw [List.getElem_range] at h1
  rw [h1]
  have h2 := dl_full S D T hS m ((D + 1) * S) 0 k (Nat.le_refl _) hk
  rw [List.getElem?_eq_getElem (by rw [hlen]; exact hk)] at h2
  injection h2 with h2
  rw [h2]
  by_cases hkl : k < (D + 1) * S
  · rw [if_pos hkl, if_pos hkl, rv_full S D k hS hkl]
  · rw [if_neg hkl, if_pos (by omega), if_neg hkl]
    congr 1
    omega
theorem fy_lost {m D S T n : Nat} (hS : 0 < S) (hn : (D + 1) * S + T + 1 = n) (hm : m < n) : lostO (fy m D) S D T (List.range n) = [] := by
  rw [List.eq_nil_iff_forall_not_mem]
  intro i hi
  obtain ⟨⟨h1, h2⟩, h3⟩ := (lost_mem (fy_ord m D n) i).1 hi
  by_cases him : i < m
  · rw [fy_goes hS hn hm him] at h3; cases h3
  · unfold fy at h2
    rw [if_neg him] at h2
    omega
set_option maxHeartbeats 1000000 in
theorem pick_any (c : Int) (n : Nat) (w : World) (hn : 0 < n) (h63 : n ≤ 9223372036854775807) (h0 : -9223372036854775808 ≤ c) (h1 : c ≤ 9223372036854775807) :
    Calls Try.prog 21 #[.int .i64 c, .int .i64 (n : Int)] w fun e w' => ∃ q : Nat, q < n ∧ e = .returned (.int .i64 (q : Int)) ∧ w' = w := by
  by_cases hc : c < 0
  · obtain ⟨k, hk⟩ := Int.eq_ofNat_of_zero_le (a := -(c + 1)) (by omega)
    have hkn := Nat.mod_lt k hn
    have hq : (Int.tmod (-(c + 1)) (n : Int)) = ((k % n : Nat) : Int) := by rw [hk]; rfl
    have hk0 : ¬ (n : Int) = 0 := by omega
    have hw1 : IntKind.i64.wrap (c + 1) = c + 1 := by rw [IntKind.wrap_i64]; omega
    have hw2 : IntKind.i64.wrap (-(c + 1)) = -(c + 1) := by rw [IntKind.wrap_i64]; omega
    have hw3 : IntKind.i64.wrap ((k % n : Nat) : Int) = ((k % n : Nat) : Int) := by rw [IntKind.wrap_i64]; omega
    have HK := Lib.hid hkn
    clear hkn hk
    go_enter Try.func21, Try.ntmps21
    go_wp2_with fail
    go_ret
    exact ⟨k % n, HK.out, ret_int (by first | rfl | simp [hq]), rfl⟩
  · obtain ⟨k, rfl⟩ := Int.eq_ofNat_of_zero_le (a := c) (by omega)
    have hkn := Nat.mod_lt k hn
    have hk0 : ¬ (n : Int) = 0 := by omega
    have HK := Lib.hid hkn
    clear hkn hc
    go_enter Try.func21, Try.ntmps21
    go_wp2_with fail
    go_ret
    exact ⟨k % n, HK.out, ret_int (by first | rfl | simp), rfl⟩
set_option maxRecDepth 100000 in
set_option maxHeartbeats 4000000 in
theorem full_in (D S T L n : Nat) (less : Int) (w : World) (h1 : D ≤ 10) (h2 : 1 ≤ S) (h3 : S ≤ 8) (h4 : 1 ≤ T) (h5 : T ≤ 64) (hL : (D + 1) * S = L) (hn : L + T + 1 = n) (l0 : -9223372036854775808 ≤ less) (l1 : less ≤ 9223372036854775807) :
    Calls Try.prog 8 #[.agg #[.int .i64 (D : Int), .int .i64 (S : Int), .int .i64 (T : Int)], .int .i64 less] w fun e w' => e = .returned (.bool true) ∧ Below w.heap.size w w' := by
  have hl := (mul_places h1 h3 hL)
  have hl1 : 1 ≤ L := by rw [← hL]; exact Nat.le_trans h2 (Nat.le_mul_of_pos_left S (by omega))
  have hsh := isSh_yes h1 h2 h3 h4 h5
  have HR := Lib.hid (fun W => (deal_right (D : Int) (S : Int) (T : Int) W))
  rw [hsh] at HR
  have HP := Lib.hid (fun W => places_in D S T L n h1 h2 h3 h4 h5 hL hn W)
  have HK := Lib.hid (fun W => pick_any less n W (by omega) (by omega) l0 l1)
  have HD := Lib.hid (fun W a c y hI hy => deal_in D S T L n c a y W h1 h2 h3 h4 h5 hL hn hI hy)
  have HL := Lib.hid hL
  have hnb : 3 ≤ n ∧ n ≤ 153 := by omega
  have HN := Lib.hid hn
  have HMul := Lib.hid hl.1
  have hl2 := hl.2
  clear hl hsh hn hL l0 l1
  go_enter Try.func8, Try.ntmps8
  go_wp2_with fail
  refine (shown_any _).mono ?_
  rintro e w1 ⟨rfl, hb1⟩
  have hbx := (Box.new w 23 #[.int .i64 (D : Int), .int .i64 (S : Int), .int .i64 (T : Int)]).of (hb1.block _ (by simp))
  have HB := Lib.hid (((Below.refl _ w).alloc (Nat.le_refl _) (.cells #[.int .i64 (D : Int), .int .i64 (S : Int), .int .i64 (T : Int)] 23)).trans (hb1.mono (by simp)))
  have c0 := hbx.cell 0
  have c1 := hbx.cell 1
  have c2 := hbx.cell 2
  have HBx := Lib.hid hbx
  clear hb1 hbx
  go_wp2_with fail
  refine (HR.out _).mono ?_
  rintro e w2 ⟨rfl, hb2⟩
  have HB2 := Lib.hid (HB.out.trans (hb2.mono HB.out.size))
  have HBx2 := Lib.hid (HBx.out.of (hb2.block _ HBx.out.lt))
  clear hb2 HB HBx c0 c1 c2
  have c0 := HBx2.out.cell 0
  have c1 := HBx2.out.cell 1
  have c2 := HBx2.out.cell 2
  go_wp2_with fail
  refine (HP.out _).mono ?_
  rintro e w3 ⟨rfl, hb3⟩
  have HB3 := Lib.hid (HB2.out.trans (hb3.mono HB2.out.size))
  have HBx3 := Lib.hid (HBx2.out.of (hb3.block _ HBx2.out.lt))
  clear hb3 HB2 HBx2 c0 c1 c2
  go_wp2_with fail
  refine (HK.out _).mono ?_
  rintro e w4 ⟨q, hq, rfl, rfl⟩
  obtain ⟨m, hm⟩ : ∃ m, m = n - 1 - q := ⟨_, rfl⟩
  have hmn : (n : Int) - 1 - (q : Int) = (m : Int) := by omega
  have hm1 : m < n := by omega
  have hmx : max 0 (min (m : Int) ((n : Int) - 1)) = (m : Int) := by omega
  clear hm HK
  go_wp2_with fail
  clear hmx hmn
  have HI0 : Hid (ItAt 44 w4 (.slice none 0 0) (lsI 0 (fy m D)) w4) := ItAt.nil _ w4
  go_loopw [8, 9] (fun v8 v9 wr => ∃ i : Nat, v9 = .int .i64 i ∧ i ≤ n ∧ ItAt 44 w4 v8 (lsI i (fy m D)) wr) (fun _ v _ => n - (intOf v).toNat)
  case atStart => exact ⟨0, rfl, by omega, HI0.out⟩
  case round =>
    obtain ⟨i, rfl, hle, hS⟩ := hrel
    clear HI0
    have hbx := HBx3.out.of (hS.below.block _ HBx3.out.lt)
    have c0 := hbx.cell 0
    by_cases hin : i < n
    · have HNx := Lib.hid (lsI_succ i (fy m D))
      have hll := lsI_len i (fy m D)
      generalize hlq : lsI i (fy m D) = lq at *
      obtain ⟨it, hit⟩ : ∃ it, wr.heap.size = it := ⟨_, rfl⟩
      have hbi : Box (wr.alloc (.cells #[.int .u64 (i : Int), .int .i64 (D : Int)] 44)) it 44 #[.int .u64 (i : Int), .int .i64 (D : Int)] := by rw [← hit]; exact Box.new wr _ _
      have HS5 := Lib.hid (hS.grow ((Below.refl _ wr).alloc (Nat.le_refl _) (.cells #[.int .u64 (i : Int), .int .i64 (D : Int)] 44)))
      have hvi : ∀ g, u8.ownBlock = some g → g < it := fun g hg => by rw [← hit]; exact (own_lt hS.own hg).2
      have hio : w4.heap.size ≤ it := by have := hS.below.size; omega
      have HIT := Lib.hid hit
      have HBi := Lib.hid hbi
      have HVi := Lib.hid hvi
      clear hbi hit hlq hS hvi hbx
      go_upto_region 11 with fail
      rw [HIT.out]
      clear c0
      generalize wr.alloc (.cells #[.int .u64 (i : Int), .int .i64 (D : Int)] 44) = w5 at *
      have k0 := HBi.out.cell 0
      have k1 := HBi.out.cell 1
      have g1 := HBi.out.frozen 1
      by_cases him : i < m
      · have hf : fy m D i = ((i : Int), (D : Int)) := by unfold fy; rw [if_pos him]
        rw [hf] at HNx
        have d1 : decide ((m : Int) ≤ (i : Int)) = false := by simp; omega
        have d2 : decide (m ≤ i) = false := by simp; omega
        have HS6 := HS5
        clear HS5 hf HBi g1
        obtain ⟨w6, h6⟩ : ∃ x, x = w5 := ⟨_, rfl⟩
        subst h6
        go_wp2_with (with_reducible refine wpList_append_where _ rfl (.tmp 51) (.tmp 53) 24 rfl w4.heap.size 44 (.agg #[.int .u64 0, .int .i64 0]) 2 16 Try.underlying24 infoItem rfl (by decide) u8 lq.length (itl lq) rfl (row_stay HS6.out.own (fun b _ hb => Below.heap_alloc _ _ b hb)) ⟨w6.heap.size, 0, none⟩ 1 1 [.int .u64 (i : Int), .int .i64 (D : Int)] rfl rfl ?c0 ?c1 ?c2 ?c3 ?c4 ?_)
        case c0 => exact new_two w6 _ _ _ rfl
        case c1 => simp [Value.oneCell']
        case c2 => simp only [maxLen]; omega
        case c3 => omega
        case c4 => have := HS6.out.below.size; simp; omega
        intro A2 cap2 w7 hown hgr _
        have HS7 := Lib.hid (HS6.out.next (x := ((i : Int), (D : Int))) (by rw [hll]; exact hown) hgr)
        clear hown hgr HS6
        rw [hll] at HS7
        go_wp2_with fail
        go_roundw
        case rel => exact ⟨i + 1, by go_num, by omega, by rw [HNx.out]; exact HS7.out⟩
        case measure => simp [intOf]; omega
      · have hf : fy m D i = ((i : Int), -1) := by unfold fy; rw [if_neg him]
        rw [hf] at HNx
        have d1 : decide ((m : Int) ≤ (i : Int)) = true := by simp; omega
        have d2 : decide (m ≤ i) = true := by simp; omega
        go_upto_region 13 with fail
        have HBi2 : Hid (Box (w5.setCell ⟨it, 1, none⟩ (.int .i64 (-1))) it 44 #[.int .u64 (i : Int), .int .i64 (-1)]) := HBi.out.put 1 _
        have HS6 : Hid (ItAt 44 w4 u8 lq (w5.setCell ⟨it, 1, none⟩ (.int .i64 (-1)))) := Lib.hid ⟨row_at HS5.out.own (fun g hg => Below.heap_setCell _ ⟨it, 1, none⟩ _ g (by have := HVi.out g hg; show g ≠ it; omega)), HS5.out.below.setCell (p := ⟨it, 1, none⟩) hio _⟩
        clear HS5 hf HBi g1 k0 k1
        generalize w5.setCell ⟨it, 1, none⟩ (.int .i64 (-1)) = w6 at *
        have k0 := HBi2.out.cell 0
        have k1 := HBi2.out.cell 1
        go_wp2_with (with_reducible refine wpList_append_where _ rfl (.tmp 51) (.tmp 53) 24 rfl w4.heap.size 44 (.agg #[.int .u64 0, .int .i64 0]) 2 16 Try.underlying24 infoItem rfl (by decide) u8 lq.length (itl lq) rfl (row_stay HS6.out.own (fun b _ hb => Below.heap_alloc _ _ b hb)) ⟨w6.heap.size, 0, none⟩ 1 1 [.int .u64 (i : Int), .int .i64 (-1)] rfl rfl ?c0 ?c1 ?c2 ?c3 ?c4 ?_)
        case c0 => exact new_two w6 _ _ _ rfl
        case c1 => simp [Value.oneCell']
        case c2 => simp only [maxLen]; omega
        case c3 => omega
        case c4 => have := HS6.out.below.size; simp; omega
        intro A2 cap2 w7 hown hgr _
        have HS7 := Lib.hid (HS6.out.next (x := ((i : Int), (-1))) (by rw [hll]; exact hown) hgr)
        clear hown hgr HS6
        rw [hll] at HS7
        go_wp2_with fail
        go_roundw
        case rel => exact ⟨i + 1, by go_num, by omega, by rw [HNx.out]; exact HS7.out⟩
        case measure => simp [intOf]; omega
    · obtain rfl : i = n := by omega
      clear hle hin c0
      have hS' := hS.own
      obtain ⟨A, cap, rfl⟩ := own_slice2 hS'
      rw [lsI_len] at hS' ⊢
      have hits := own_items hS'
      have HBx5 := Lib.hid hbx
      have HB5 := Lib.hid (HB3.out.trans (hS.below.mono HB3.out.size))
      have HD5 := Lib.hid (HD.out wr A cap (fy m D) hits (fun j hj => by unfold fy; split <;> simp <;> omega))
      obtain ⟨w9, h9⟩ : ∃ x, x = wr := ⟨_, rfl⟩
      subst h9
      have c0 := HBx5.out.cell 0
      have c1 := HBx5.out.cell 1
      have c2 := HBx5.out.cell 2
      clear hS hS' hits hbx HD HBx3 HB3
      go_wp2_with fail
      refine HD5.out.mono ?_
      rintro e w8 ⟨o, g, B, cap2, ho, rfl, hir, hnum, hb8⟩
      obtain rfl := ho.only (fy_ord m D i)
      rw [fy_lost (by omega) (by rw [HL.out]; exact HN.out) hm1] at hnum ⊢
      have HBx8 := Lib.hid (HBx5.out.of (hb8.block _ HBx5.out.lt))
      have HB8 := Lib.hid (HB5.out.trans (hb8.mono HB5.out.size))
      have HI8 := Lib.hid hir
      clear hb8 hir hnum ho HBx5 HB5 HD5 c0 c1 c2
      have c0 := HBx8.out.cell 0
      have c1 := HBx8.out.cell 1
      have hmul : IntKind.i64.wrap ((S : Int) * ((D : Int) + 1)) = (L : Int) := by rw [HMul.out, IntKind.wrap_i64]; omega
      go_wp2_with fail
      have HC := Lib.hid (fun k (hk : k < m) => (out_some (n := i) (fy_goes (T := T) (by omega) (by rw [HL.out]; exact HN.out) hm1 hk) : outP (goes (fy m D) S D T (List.range i)) i k = _))
      rw [HL.out] at HC
      clear c0 c1 hmul
      go_loopw [14] (fun v wr => ∃ k : Nat, v = .int .i64 k ∧ k ≤ m ∧ ∃ q, wr = w8.drewN q) (fun v _ => m - (intOf v).toNat)
      case atStart => exact ⟨0, rfl, by omega, 0, rfl⟩
      case round =>
        obtain ⟨k, rfl, hkm, hw⟩ := hrel
        have HW := Lib.hid hw
        obtain ⟨q', hq'⟩ := hw
        have c0 := (HBx8.out.drewN q').cell 0
        have c1 := (HBx8.out.drewN q').cell 1
        rw [← hq'] at c0 c1
        by_cases hlt : k < m
        · have cp := (HI8.out.drewN q').cell k (by omega)
          rw [← hq', HC.out k hlt] at cp
          clear hq'
          by_cases hkL : k < L
          · rw [if_pos hkL] at cp
            have hS0 : 0 < S := by omega
            have hkS : k / S < D + 1 := (Nat.div_lt_iff_lt_mul hS0).2 (by rw [HL.out]; exact hkL)
            have hb := Nat.mod_lt k hS0
            have hQ : (D - k / S) * S ≤ 80 := Nat.mul_le_mul (Nat.le_trans (Nat.sub_le _ _) h1) h3
            have e1 : (k : Int) / (S : Int) = ((k / S : Nat) : Int) := by simp
            have e2 : Int.tdiv (k : Int) (S : Int) = ((k / S : Nat) : Int) := rfl
            have e3 : (k : Int) % (S : Int) = ((k % S : Nat) : Int) := by simp
            have e4 : Int.tmod (k : Int) (S : Int) = ((k % S : Nat) : Int) := rfl
            have e5 : ((D - k / S : Nat) : Int) * (S : Int) = (((D - k / S) * S : Nat) : Int) := by simp
            generalize (D - k / S) * S = Q at *
            generalize k % S = b at *
            generalize k / S = a at *
            have e6 : (D : Int) - (a : Int) = ((D - a : Nat) : Int) := by omega
            have hac : D - a ≤ 10 := by omega
            generalize D - a = cc at *
            have d1 : decide ((k : Int) < (L : Int)) = true := by simp; omega
            have d2 : decide (k < L) = true := by simp; omega
            have hS1 : ¬ (S : Int) = 0 := by omega
            go_wp2_with fail
            go_quiet (fail)
            go_wp2_with fail
            go_roundw
            case rel =>
              obtain ⟨q', hq'⟩ := HW.out
              exact ⟨k + 1, by go_num, by omega, q' + nq, by rw [hq']; simp [World.drewN, Nat.add_assoc]⟩
            case measure => simp [intOf]; omega
          · rw [if_neg hkL] at cp
            have d1 : decide ((k : Int) < (L : Int)) = false := by simp; omega
            have d2 : decide (k < L) = false := by simp; omega
            go_wp2_with fail
            go_roundw
            case rel =>
              obtain ⟨q', hq'⟩ := HW.out
              exact ⟨k + 1, by go_num, by omega, q', hq'⟩
            case measure => simp [intOf]; omega
        · obtain rfl : k = m := by omega
          clear hq' c0 c1 hlt hkm
          go_wp2_with fail
          go_ret
          obtain ⟨q', hq'⟩ := HW.out
          exact ⟨rfl, by rw [hq']; exact below_drewN HB8.out q'⟩
set_option maxHeartbeats 1000000 in
theorem full_law (D S T less : Int) (w : World) (hw : (Lit.int .i64 less).wf = true) :
    Calls Try.prog 8 #[.agg #[.int .i64 D, .int .i64 S, .int .i64 T], .int .i64 less] w fun e w' => e = .returned (.bool true) ∧ Below w.heap.size w w' := by
  obtain ⟨l0, l1⟩ := i64_rng hw
  cases hsh : isSh D S T
  · have HR := Lib.hid (fun W => (deal_right D S T W))
    rw [hsh] at HR
    clear hsh
    go_enter Try.func8, Try.ntmps8
    go_wp2_with fail
    refine (shown_any _).mono ?_
    rintro e w1 ⟨rfl, hb1⟩
    have hbx := (Box.new w 23 #[.int .i64 D, .int .i64 S, .int .i64 T]).of (hb1.block _ (by simp))
    have HB := Lib.hid (((Below.refl _ w).alloc (Nat.le_refl _) (.cells #[.int .i64 D, .int .i64 S, .int .i64 T] 23)).trans (hb1.mono (by simp)))
    have c0 := hbx.cell 0
    have c1 := hbx.cell 1
    have c2 := hbx.cell 2
    clear hb1 hbx
    go_wp2_with fail
    refine (HR.out _).mono ?_
    rintro e w2 ⟨rfl, hb2⟩
    have HB2 := Lib.hid (HB.out.trans (hb2.mono HB.out.size))
    clear hb2 HB
    go_wp2_with fail
    go_ret
    exact ⟨rfl, HB2.out⟩
  · obtain ⟨d, s, t, rfl, rfl, rfl, h1, h2, h3, h4, h5⟩ := (isSh_iff D S T).1 hsh
    exact full_in d s t _ _ less w h1 h2 h3 h4 h5 rfl rfl l0 l1
end Go.Proofs.Ythnpfnefmmlajaa
