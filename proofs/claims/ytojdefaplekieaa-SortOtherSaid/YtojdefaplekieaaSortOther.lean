/- The walk of the law on another word: put in order by one word, and then by another one, cells are in order by the other one; whole cells are moved. Conditions: the slice's cells hold words. -/
import Derived.Test.YtojdefaplekieaaSortLooks
namespace Go.Proofs.Ytojdefaplekieaa
open Go.RowKit Go.ChangeShapes Go.WideShapes Go.ChangeAt

theorem other_out (a : Option Addr) (n cap : Nat) (L x y : Int) (W : World) (h : L < 0 ∨ 6 < L ∨ x < 0 ∨ 11 < x ∨ y < 0 ∨ 11 < y) :
    Calls Try.prog 7 #[.slice a n cap, .int .i64 L, .int .i64 x, .int .i64 y] W (Yes W) := by
  by_cases h1 : L < 0
  · go_enter Try.func7, Try.ntmps7
    go_wp2_with fail
    refine (shown_any W).mono ?_
    rintro e w0 ⟨rfl, hb0⟩
    have HB := Lib.hid hb0
    clear hb0
    go_wp2_with fail
    go_ret
    exact ⟨rfl, HB.out⟩
  by_cases h2 : 6 < L
  · go_enter Try.func7, Try.ntmps7
    go_wp2_with fail
    refine (shown_any W).mono ?_
    rintro e w0 ⟨rfl, hb0⟩
    have HB := Lib.hid hb0
    clear hb0
    go_wp2_with fail
    go_ret
    exact ⟨rfl, HB.out⟩
  by_cases h3 : x < 0
  · go_enter Try.func7, Try.ntmps7
    go_wp2_with fail
    refine (shown_any W).mono ?_
    rintro e w0 ⟨rfl, hb0⟩
    have HB := Lib.hid hb0
    clear hb0
    go_wp2_with fail
    go_ret
    exact ⟨rfl, HB.out⟩
  by_cases h4 : 11 < x
  · go_enter Try.func7, Try.ntmps7
    go_wp2_with fail
    refine (shown_any W).mono ?_
    rintro e w0 ⟨rfl, hb0⟩
    have HB := Lib.hid hb0
    clear hb0
    go_wp2_with fail
    go_ret
    exact ⟨rfl, HB.out⟩
  by_cases h5 : y < 0
  · go_enter Try.func7, Try.ntmps7
    go_wp2_with fail
    refine (shown_any W).mono ?_
    rintro e w0 ⟨rfl, hb0⟩
    have HB := Lib.hid hb0
    clear hb0
    go_wp2_with fail
    go_ret
    exact ⟨rfl, HB.out⟩
  have h6 : 11 < y := by omega
  go_enter Try.func7, Try.ntmps7
  go_wp2_with fail
  refine (shown_any W).mono ?_
  rintro e w0 ⟨rfl, hb0⟩
  have HB := Lib.hid hb0
  clear hb0
  go_wp2_with fail
  go_ret
  exact ⟨rfl, HB.out⟩
/-- The word ahead of a place. -/
def prev (C : Nat → Nat → Int) (κ i : Nat) : Int := if i = 0 then 0 else C (i - 1) κ
theorem prev_next (C : Nat → Nat → Int) (κ i : Nat) : prev C κ (i + 1) = C i κ := by unfold prev; rw [if_neg (by omega)]; rfl
/-- Between two looks. -/
def OtherAt (W : World) (p : Nat) (M : MS) (i : Nat) (wr : World) : Prop := Own wr (old W) p (M.looked 0 i) ∧ Kept (old W) W wr
set_option maxRecDepth 100000 in
set_option maxHeartbeats 1000000 in
theorem other_in (a : Option Addr) (nl cap : Nat) (z : Nat → Int) (L n κ lam : Nat) (W : World) (hz : Nums .u64 W W.heap.size a nl z) (hzr : ∀ j, j < nl → 0 ≤ z j ∧ z j ≤ 18446744073709551615) (hL : L ≤ 6) (hn : 2 ^ L = n) (hκ : κ < 12) (hlam : lam < 12) :
    Calls Try.prog 7 #[.slice a nl cap, .int .i64 (L : Int), .int .i64 (κ : Int), .int .i64 (lam : Int)] W (Yes W) := by
  have HZ := Lib.hid hz
  have hn1 : n ≤ 64 := by rw [← hn]; exact Nat.pow_le_pow_right (by decide) hL
  have hn0 : 1 ≤ n := by rw [← hn]; exact two_pos L
  have hsh := shl_one L n hn (by omega)
  have hps := netL_short L (by omega)
  obtain ⟨M0, hM0⟩ : ∃ M, laidM 1 n z (min nl n) = M := ⟨_, rfl⟩
  obtain ⟨M1, hM1⟩ : ∃ M, M0.sorted 0 κ (netL L) = M := ⟨_, rfl⟩
  obtain ⟨M2, hM2⟩ : ∃ M, M1.sorted 0 lam (netL L) = M := ⟨_, rfl⟩
  have f0 : 0 < M0.k ∧ n ≤ M0.sz 0 ∧ M0.wd ∧ M0.es.length < 1000 := by rw [← hM0]; exact ⟨by show 0 < 1; decide, Nat.le_refl _, laidM_wd _ _ _ _, by rw [laidM_len]; omega⟩
  have f1 : 0 < M1.k ∧ n ≤ M1.sz 0 ∧ M1.wd ∧ M1.es.length < 200000 := by
    rw [← hM1]; exact ⟨f0.1, f0.2.1, wd_sorted f0.2.2.1 _ _ _ ⟨_, netL_within L⟩, by rw [sorted_len]; have := f0.2.2.2; omega⟩
  have f2 : 0 < M2.k ∧ n ≤ M2.sz 0 ∧ M2.wd ∧ M2.es.length < 400000 := by
    rw [← hM2]; exact ⟨f1.1, f1.2.1, wd_sorted f1.2.2.1 _ _ _ ⟨_, netL_within L⟩, by rw [sorted_len]; have := f1.2.2.2; omega⟩
  have hg0 : ∀ j, Good (M0.c 0 j) := fun j => by rw [← hM0]; exact laid_good 1 n z _ (fun j hj => hzr j (by omega)) j
  have hg1 : ∀ j, j < n → Good (M1.c 0 j) := fun j hj => by
    rw [← hM1]
    show Good ((if 0 = 0 then runC κ (netL L) (M0.c 0) else M0.c 0) j)
    rw [if_pos rfl]
    exact runC_all κ (2 ^ L) _ _ (netL_within L) Good (fun j _ => hg0 j) j (by omega)
  have hc2 : M2.c 0 = runC lam (netL L) (M1.c 0) := by
    rw [← hM2]
    show (if 0 = 0 then runC lam (netL L) (M1.c 0) else M1.c 0) = _
    rw [if_pos rfl]
  have hg2 : ∀ j, j < n → Good (M2.c 0 j) := fun j hj => by
    rw [hc2]
    exact runC_all lam (2 ^ L) _ _ (netL_within L) Good (fun j hj => hg1 j (by omega)) j (by omega)
  have hs2 : ∀ i, i < n → prev (M2.c 0) lam i ≤ M2.c 0 i lam := fun i hi => by
    unfold prev
    split
    · exact (f2.2.2.1 0 i lam).1
    · rw [hc2]; exact netC_sorted lam L _ (i - 1) i (by omega) (by omega)
  have HN := Lib.hid hn
  have E0 := Lib.hid hM0
  have E1 := Lib.hid hM1
  have E2 := Lib.hid hM2
  have F0 := Lib.hid f0
  have F1 := Lib.hid f1
  have F2 := Lib.hid f2
  have HG := Lib.hid hg2
  have HS := Lib.hid hs2
  clear hz hzr hn hM0 hM1 hM2 f0 f1 f2 hg0 hg1 hg2 hc2 hs2
  have t1 : decide ((L : Int) < 0) = false := decide_eq_false (by omega)
  have t2 : decide (6 < (L : Int)) = false := decide_eq_false (by omega)
  have t3 : decide ((κ : Int) < 0) = false := decide_eq_false (by omega)
  have t4 : decide (11 < (κ : Int)) = false := decide_eq_false (by omega)
  have t5 : decide ((lam : Int) < 0) = false := decide_eq_false (by omega)
  have t6 : decide (11 < (lam : Int)) = false := decide_eq_false (by omega)
  go_enter Try.func7, Try.ntmps7
  go_wp2_with fail
  refine (shown_any W).mono ?_
  rintro e w0 ⟨rfl, hb0⟩
  have B0 := Lib.hid hb0
  have K0 : Hid (Kept (old W) W w0) := Only.of_below hb0
  clear hb0
  go_wp2_with fail
  try simp only [hsh]
  refine (laid_any 1 n a nl cap W.heap.size z _ (by decide) (by decide) hn0 (by omega) (HZ.out.below B0.out) B0.out.size).mono ?_
  rintro e w1 ⟨p, q, rfl, hm, ho⟩
  rw [E0.out] at hm
  have O1 := Lib.hid (hm.left.weak (Y := old W) (fun i (hi : i < W.heap.size) => Nat.lt_of_lt_of_le hi B0.out.size))
  have K1 := Lib.hid (K0.out.trans (Kept.of_none ho))
  clear hm ho K0 B0
  go_wp2_with fail
  try simp only [hsh]
  refine (run_n _ p M0 0 κ L n _ O1.out HN.out (by omega) F0.out.1 F0.out.2.1 hκ F0.out.2.2.1 (by have := F0.out.2.2.2; omega)).mono ?_
  rw [E1.out]
  rintro e w2 ⟨rfl, ho, hk⟩
  have O2 := Lib.hid ho
  have K2 := Lib.hid (K1.out.trans hk)
  clear ho hk O1 K1
  go_wp2_with fail
  try simp only [hsh]
  refine (run_n _ p M1 0 lam L n _ O2.out HN.out (by omega) F1.out.1 F1.out.2.1 hlam F1.out.2.2.1 (by have := F1.out.2.2.2; omega)).mono ?_
  rw [E2.out]
  rintro e w3 ⟨rfl, ho, hk⟩
  have R3 : Hid (OtherAt W p M2 0 w3) := by
    show OtherAt W p M2 0 w3
    unfold OtherAt
    rw [looked_zero]
    exact ⟨ho, K2.out.trans hk⟩
  clear ho hk O2 K2
  go_wp2_with fail
  try simp only [hsh]
  go_loopw [13, 14, 15] (fun v13 v14 v15 wr => ∃ i : Nat, v15 = .int .i64 i ∧ i ≤ n ∧ v14 = .int .i64 i ∧ v13 = .int .u64 (prev (M2.c 0) lam i) ∧ OtherAt W p M2 i wr) (fun _ _ v _ => n - (intOf v).toNat)
  case atStart => exact ⟨0, rfl, Nat.zero_le _, rfl, rfl, R3.out⟩
  case round =>
    obtain ⟨i, rfl, hi, rfl, rfl, hO, hK⟩ := hrel
    have HO := Lib.hid hO
    have HK := Lib.hid hK
    clear hO hK R3
    by_cases hlt : i < n
    · have hst := looked_step M2 0 i F2.out.1 (by have := F2.out.2.1; omega)
      have hcl := looked_cell M2 0 i F2.out.1 (by have := F2.out.2.1; omega)
      have hel := looked_len M2 0 i
      have hle := HS.out i hlt
      have hpn := prev_next (M2.c 0) lam i
      have hgd := HG.out i hlt
      have HST := Lib.hid hst
      have HCL := Lib.hid hcl
      have HPN := Lib.hid hpn
      have HEL : Hid ((M2.looked 0 i).es.length < 900000000) := by show (M2.looked 0 i).es.length < 900000000; have := F2.out.2.2.2; omega
      clear hst hcl hpn hel
      obtain ⟨c, hc⟩ : ∃ c, M2.c 0 i = c := ⟨_, rfl⟩
      rw [hc] at hle hgd HCL HPN
      have HGD := Lib.hid hgd
      clear hc hgd
      obtain ⟨pv, hpv⟩ : ∃ x, prev (M2.c 0) lam i = x := ⟨_, rfl⟩
      rw [hpv] at hle ⊢
      clear hpv
      have hlt2 : decide (c lam < pv) = false := decide_eq_false (by omega)
      go_wp2_with fail
      refine (own_read _ p (M2.looked 0 i) _ (0 : Nat) (i : Int) HO.out (by have := HEL.out; omega)).mono ?_
      rw [HST.out, HCL.out]
      rintro e w5 ⟨rfl, ho, hk⟩
      have O5 := Lib.hid (ho.alloc (.cells (CA c) 40))
      have K5 := Lib.hid ((HK.out.trans hk).alloc (.cells (CA c) 40))
      have R5 := Lib.hid (range_alloc_new w5 c 40)
      have x1 : (w5.alloc (.cells (CA c) 40)).cell? ⟨w5.heap.size, lam, none⟩ = some (.int .u64 (c lam)) := cell_in_range R5.out hlam
      clear ho hk HO HK
      have k12 : ¬ (12 : Int) ≤ (lam : Int) := by omega
      go_wp2_with (with_reducible refine wpList_store_new rfl (.tmp 16) (.tmp 76) rfl rfl c rfl rfl ?_)
      obtain ⟨y0, y1, y2, y3, y4, y5, y6, y7, y8, y9, y10, y11⟩ := grow_cells R5.out
      have O6 : Hid (∀ g : Gr (w5.alloc (.cells (CA c) 40)), OtherAt W p M2 (i + 1) g.w') := fun g => ⟨(O5.out.weak (fun i hi => .inl hi)).none g.ok, K5.out.trans (Kept.of_none g.ok)⟩
      cases hq : ceq c (fun _ => 0)
      · have q1 := eql_nul c false hq
        have q2 := eql_own c (cw (c 0)) true (HGD.out.eq hq)
        refine wp_region_grow (by kernel_rfl) (by kernel_rfl) ?_
        repeat (go_big_quiet_step (first | (go_at_call 20; exact Gr.calls (cell_only _ _))))
        refine wpQuiet_nil ?_
        intro w9 hw9
        obtain ⟨G9, hG9⟩ := hw9
        subst hG9
        have F9 := Lib.hid (O6.out G9)
        obtain ⟨w9, hw9⟩ : ∃ w9, G9.w' = w9 := ⟨_, rfl⟩
        rw [hw9] at F9 ⊢
        clear hw9 G9 q1 q2 y0 y1 y2 y3 y4 y5 y6 y7 y8 y9 y10 y11 O6
        go_wp2_with fail
        go_roundw
        case rel => exact ⟨i + 1, by go_num, by omega, by go_num, by rw [HPN.out], F9.out⟩
        case measure => simp [intOf]; omega
      · have q1 := eql_nul c true hq
        refine wp_region_grow (by kernel_rfl) (by kernel_rfl) ?_
        repeat (go_big_quiet_step (first | (go_at_call 20; exact Gr.calls (cell_only _ _))))
        refine wpQuiet_nil ?_
        intro w9 hw9
        obtain ⟨G9, hG9⟩ := hw9
        subst hG9
        have F9 := Lib.hid (O6.out G9)
        obtain ⟨w9, hw9⟩ : ∃ w9, G9.w' = w9 := ⟨_, rfl⟩
        rw [hw9] at F9 ⊢
        clear hw9 G9 q1 y0 y1 y2 y3 y4 y5 y6 y7 y8 y9 y10 y11 O6
        go_wp2_with fail
        go_roundw
        case rel => exact ⟨i + 1, by go_num, by omega, by go_num, by rw [HPN.out], F9.out⟩
        case measure => simp [intOf]; omega
    · obtain rfl : i = n := by omega
      go_wp2_with fail
      go_ret
      exact ⟨rfl, HK.out.below (Nat.le_refl _) (fun i hi => hi)⟩
theorem other_law (a : Option Addr) (nl cap : Nat) (z : Nat → Int) (L x y : Int) (W : World) (hz : Nums .u64 W W.heap.size a nl z) (hw : ∀ j, j < nl → (Lit.int .u64 (z j)).wf = true) :
    Calls Try.prog 7 #[.slice a nl cap, .int .i64 L, .int .i64 x, .int .i64 y] W (Yes W) := by
  by_cases h : L < 0 ∨ 6 < L ∨ x < 0 ∨ 11 < x ∨ y < 0 ∨ 11 < y
  · exact other_out a nl cap L x y W h
  · obtain ⟨L', rfl⟩ := Int.eq_ofNat_of_zero_le (a := L) (by omega)
    obtain ⟨κ, rfl⟩ := Int.eq_ofNat_of_zero_le (a := x) (by omega)
    obtain ⟨lam, rfl⟩ := Int.eq_ofNat_of_zero_le (a := y) (by omega)
    exact other_in a nl cap z L' _ κ lam W hz (fun j hj => u64_rng (hw j hj)) (by omega) rfl (by omega) (by omega)
end Go.Proofs.Ytojdefaplekieaa
