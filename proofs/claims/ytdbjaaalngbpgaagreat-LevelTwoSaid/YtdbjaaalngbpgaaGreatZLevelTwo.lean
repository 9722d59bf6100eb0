/- LevelTwo: two levels of one memory, in regions of their own, do not know of each other. -/
import Derived.Deep.CutRange
import Derived.Test.YtdbjaaalngbpgaaGreatG51
namespace Go.Proofs.YtdbjaaalngbpgaaGreat
set_option maxRecDepth 100000
open Go.RowKit Go.ChangeShapes Go.WideShapes Go.ChangeAt Go.Maps Go.Deep

theorem st_in {u : World} {B b o nl : Nat} {y : Nat → Stp} (h : Stps u B (some ⟨b, o, none⟩) nl y) {i : Nat} (hi : i < nl) : u.rangeAt b (o + i * 6) (stc (y i)).toList := by
  obtain ⟨b', o', e, _, hr⟩ := h.at hi
  injection e with e
  injection e with e1 e2
  rw [e1, e2]
  exact hr
theorem tw_size {N S T D Q N' S' T' D' Q' mp np lx bx ly yb lz bz : Nat} {W : World} {Z : Nat → Prop} {F : World → Prop} {v : TwV} {wr : World} (_ : TwS N S T D Q N' S' T' D' Q' mp np lx bx ly yb lz bz W Z F v wr) : ∃ b, wr.heap.size = b := ⟨_, rfl⟩
/-- The memory of both. -/
def twL (S D T Q S' D' T' Q' : Nat) : List Nat := [S * (2 * 2 ^ D - 1), T, Q, S' * (2 * 2 ^ D' - 1), T', Q']
def twM (S D T Q S' D' T' Q' : Nat) : MS := MS.new 6 (fun i => (twL S D T Q S' D' T' Q').getD i 0)
theorem twM_0 (S D T Q S' D' T' Q' : Nat) : LvM (twM S D T Q S' D' T' Q') 0 S D T Q := ⟨by show 0 + 2 < 6; decide, Nat.le_refl _, Nat.le_refl _, Nat.le_refl _, fun _ _ => wd_zero, by show ([] : List Ev).length < 900000000; decide⟩
theorem twM_3 (S D T Q S' D' T' Q' : Nat) : LvM (twM S D T Q S' D' T' Q') 3 S' D' T' Q' := ⟨by show 3 + 2 < 6; decide, Nat.le_refl _, Nat.le_refl _, Nat.le_refl _, fun _ _ => wd_zero, by show ([] : List Ev).length < 900000000; decide⟩
/-- Behind an access of both that are asked the same. -/
theorem TwE.next {N S D T n P : Nat} {v : TwV} {a : Ask} {o o2 : List Nat} (h : TwE v) (ho : a.ok N = true → IsOrd (acT S D T 0 n P a v.M) n o) (ho2 : a.ok N = true → IsOrd (acT S D T 1 n P a v.M2) n o2) (hS : 0 < S) (hN : 2 ^ D = N) :
    TwE ⟨v.ox || acO N S D T 0 n P a v.M o, v.oy, v.oz || acO N S D T 1 n P a v.M2 o2, acI N a v.Ix, v.Iy, acI N a v.Iz, acM N S D T 0 P a v.M o, acM N S D T 1 P a v.M2 o2, v.k + 1 + 1⟩ := by
  cases ha : a.ok N
  · have e1 : acO N S D T 0 n P a v.M o = false := by unfold acO; rw [ha]; rfl
    have e2 : acO N S D T 1 n P a v.M2 o2 = false := by unfold acO; rw [ha]; rfl
    have e3 : acM N S D T 0 P a v.M o = v.M := by unfold acM; rw [ha]; rfl
    have e4 : acM N S D T 1 P a v.M2 o2 = v.M2 := by unfold acM; rw [ha]; rfl
    exact ⟨by show (v.oz || acO _ _ _ _ _ _ _ _ _ _) = (v.ox || acO _ _ _ _ _ _ _ _ _ _); rw [e1, e2, h.ov], by show acI N a v.Iz = acI N a v.Ix; rw [h.ids], by show eqE 0 1 (acM _ _ _ _ _ _ _ _ _).c (acM _ _ _ _ _ _ _ _ _).c; rw [e3, e4]; exact h.eq, by show (acM _ _ _ _ _ _ _ _ _).ft = false; rw [e3]; exact h.ft⟩
  · have g1 := ho ha
    have g2 := ho2 ha
    rw [ac_tab h.eq] at g1
    obtain rfl := g1.only g2
    exact ⟨by show (v.oz || acO _ _ _ _ _ _ _ _ _ _) = (v.ox || acO _ _ _ _ _ _ _ _ _ _); rw [ac_lost h.eq, h.ov], by show acI N a v.Iz = acI N a v.Ix; rw [h.ids], ac_cells h.eq hS hN, by show (acM _ _ _ _ _ _ _ _ _).ft = false; rw [ac_ft]; exact h.ft⟩
theorem TwE.other {N S D T P : Nat} {v : TwV} {a : Ask} {o : List Nat} {oy : Bool} {Iy : List Int} {k : Nat} (h : TwE v) : TwE ⟨v.ox, oy, v.oz, v.Ix, Iy, v.Iz, acM N S D T 3 P a v.M o, v.M2, k⟩ :=
  ⟨h.ov, h.ids, (ac_eq (.inl (by decide))).trans h.eq, by show (acM _ _ _ _ _ _ _ _ _).ft = false; rw [ac_ft]; exact h.ft⟩
set_option maxRecDepth 100000 in
set_option maxHeartbeats 8000000 in
theorem two_law (n k : Int) (a : Option Addr) (nl c : Nat) (y : Nat → Stp) (w : World) (hn : (Lit.int .i64 n).wf = true) (hk : (Lit.int .i64 k).wf = true) (hS : Stps w w.heap.size a nl y) (hy : ∀ j, j < nl → StOk (y j)) :
    Calls Tryz.prog 10 #[.int .i64 n, .int .i64 k, .slice a nl c] w fun e w' => e = .returned (.bool true) ∧ Below w.heap.size w w' := by
  by_cases hl : 12 < nl
  · have h12 : (12 : Int) < (nl : Int) := by omega
    clear hS hy
    go_enter Tryz.func10, Tryz.ntmps10
    go_wp2_with fail
    refine (shown_of _).mono ?_
    rintro e w1 ⟨rfl, hb1⟩
    have HB1 := Lib.hid hb1
    clear hb1
    go_wp2_with fail
    go_ret
    exact ⟨rfl, HB1.out⟩
  · have h12 : ¬ (12 : Int) < (nl : Int) := by omega
    obtain ⟨N, S, T, D, L, n5, Q, P, hC, hsz, hsm, hcf⟩ := law_config n (i64_rng hn).1 (i64_rng hn).2
    obtain ⟨N', S', T', D', L', n6, Q', P', hC2, hsz2, hsm2, hcf2⟩ := law_config k (i64_rng hk).1 (i64_rng hk).2
    have hL6 : (decide (1 ≤ (twL S D T Q S' D' T' Q').length) && decide ((twL S D T Q S' D' T' Q').length ≤ 16) && (twL S D T Q S' D' T' Q').all fun s => decide (1 ≤ s) && decide (s ≤ 4096)) = true := by
      have a1 : 1 ≤ S * (2 * 2 ^ D - 1) := Nat.mul_pos hC.s1 (by have := Nat.two_pow_pos D; omega)
      have a2 : 1 ≤ S' * (2 * 2 ^ D' - 1) := Nat.mul_pos hC2.s1 (by have := Nat.two_pow_pos D'; omega)
      have b1 := hC.t1
      have b2 := hC2.t1
      have c1 := hC.big
      have c2 := hC2.big
      have d1 := hC.le
      have d2 := hC2.le
      unfold twL
      simp only [List.length_cons, List.length_nil, List.all_cons, List.all_nil, Bool.and_true, Bool.and_eq_true, decide_eq_true_eq]
      omega
    have HCf := Lib.hid hcf
    have HCg := Lib.hid hcf2
    have HMd := Lib.hid (fun W => made_of (H := Unit) hC W hsz)
    have HZ1 := Lib.hid (fun W => sizes_of hC W)
    have HZ2 := Lib.hid (fun W => sizes_of hC2 W)
    have HNm := Lib.hid (fun W cs t hc => new_list (twL S D T Q S' D' T' Q') hL6 W cs t hc)
    have HNx := Lib.hid (fun X p W (ho : Own W X p (twM S D T Q S' D' T' Q')) => lnew_of (H := Unit) hC X p 0 (twM S D T Q S' D' T' Q') W (twM_0 S D T Q S' D' T' Q') (by decide) ho)
    have HNy := Lib.hid (fun X p W (ho : Own W X p (twM S D T Q S' D' T' Q')) => lnew_of (H := Unit) hC2 X p 3 (twM S D T Q S' D' T' Q') W (twM_3 S D T Q S' D' T' Q') (by decide) ho)
    have HC := Lib.hid hC
    have HC2 := Lib.hid hC2
    have HSt0 := Lib.hid hS
    have HYk := Lib.hid hy
    clear hcf hcf2 hsz hsz2 hC hC2 hS hy hn hk hL6
    go_enter Tryz.func10, Tryz.ntmps10
    go_wp2_with fail
    refine (shown_of _).mono ?_
    rintro e w1 ⟨rfl, hb1⟩
    have HB1 := Lib.hid hb1
    clear hb1
    go_wp2_with fail
    refine (HCf.out _).mono ?_
    rintro e w2 ⟨rfl, hb2⟩
    have HB2 := Lib.hid (HB1.out.trans (hb2.mono HB1.out.size))
    clear hb2 HB1 HCf
    go_upto_region 5 with (refine wpList_store_newC rfl (.tmp 8) (.tmp 39) rfl rfl N S T rfl rfl ?_)
    obtain ⟨cb, hcb⟩ : ∃ b, w2.heap.size = b := ⟨_, rfl⟩
    have hbx := Box.new w2 25 (cfA N S T)
    have HB3 := Lib.hid (HB2.out.alloc HB2.out.size (.cells (cfA N S T) 25))
    have hcs : cb < (w2.alloc (.cells (cfA N S T) 25)).heap.size := by rw [← hcb]; exact hbx.lt
    have hws : w.heap.size ≤ cb := by rw [← hcb]; exact HB2.out.size
    rw [hcb] at hbx ⊢
    have HBx := Lib.hid hbx
    have HCs := Lib.hid hcs
    have HWs := Lib.hid hws
    clear hcb hbx hcs hws HB2
    generalize w2.alloc (.cells (cfA N S T) 25) = w3 at *
    have k0 := cf_0 HBx.out
    have k1 := cf_1 HBx.out
    have k2 := cf_2 HBx.out
    clear k0 k1 k2
    go_wp2_with fail
    refine (HCg.out _).mono ?_
    rintro e w4 ⟨rfl, hb4⟩
    have HO4 : Hid (Only nobody w3 w4) := Lib.hid (Only.of_below hb4)
    clear hb4 HCg
    go_upto_region 6 with (refine wpList_store_newC rfl (.tmp 9) (.tmp 41) rfl rfl N' S' T' rfl rfl ?_)
    obtain ⟨db, hdb⟩ : ∃ b, w4.heap.size = b := ⟨_, rfl⟩
    have hbd := Box.new w4 25 (cfA N' S' T')
    have HO5 := Lib.hid (HO4.out.alloc (.cells (cfA N' S' T') 25))
    rw [hdb] at hbd ⊢
    clear hdb HO4
    generalize w4.alloc (.cells (cfA N' S' T') 25) = w5 at *
    have HBd := Lib.hid hbd
    have HBx5 := Lib.hid (HBx.out.only HO5.out (not_nobody _))
    have k0 := cf_0 HBx5.out
    have k1 := cf_1 HBx5.out
    have k2 := cf_2 HBx5.out
    clear hbd HBx
    go_wp2_with fail
    refine (HZ1.out _).mono ?_
    rintro e w6 ⟨rfl, hb6⟩
    have HO6 := Lib.hid (HO5.out.trans (Only.of_below hb6))
    have HBd6 := Lib.hid (HBd.out.only (Only.of_below hb6) (not_nobody _))
    have HBx6 := Lib.hid (HBx5.out.only (Only.of_below hb6) (not_nobody _))
    clear hb6 HO5 HBd HBx5 k0 k1 k2 HZ1
    have k0 := cf_0 HBd6.out
    have k1 := cf_1 HBd6.out
    have k2 := cf_2 HBd6.out
    go_wp2_with fail
    refine (HZ2.out _).mono ?_
    rintro e w7 ⟨rfl, hb7⟩
    have HO7 := Lib.hid (HO6.out.trans (Only.of_below hb7))
    have HBd7 := Lib.hid (HBd6.out.only (Only.of_below hb7) (not_nobody _))
    have HBx7 := Lib.hid (HBx6.out.only (Only.of_below hb7) (not_nobody _))
    clear hb7 HO6 HBd6 HBx6 k0 k1 k2 HZ2
    go_wp2_with fail
    refine (HNm.out w7 _ _ rfl).mono ?_
    rintro e w8 ⟨mp, rfl, hO8, ho8⟩
    have HOw := Lib.hid hO8
    have HBd8 := Lib.hid ((HBd7.out.alloc (.cells _ _)).only ho8 (not_nobody _))
    have HBx8 := Lib.hid ((HBx7.out.alloc (.cells _ _)).only ho8 (not_nobody _))
    have HO8 := Lib.hid ((HO7.out.alloc (.cells _ _)).trans ho8)
    clear hO8 ho8 HBd7 HBx7 HNm
    have k0 := cf_0 HBx8.out
    have k1 := cf_1 HBx8.out
    have k2 := cf_2 HBx8.out
    go_wp2_with fail
    refine (HNx.out _ mp w8 HOw.out).mono ?_
    rintro e w9 ⟨lx, bx, rfl, ho9, hlx, hbx, hBx, hmx⟩
    have HOw9 := Lib.hid (HOw.out.grow ho9)
    have HBd9 := Lib.hid (HBd8.out.only ho9 (not_nobody _))
    have HBx9 := Lib.hid (HBx8.out.only ho9 (not_nobody _))
    have HX := Lib.hid (show w8.heap.size ≤ lx ∧ w8.heap.size ≤ bx ∧ lx < w9.heap.size ∧ bx < w9.heap.size from ⟨hlx, hbx, hBx.lt, map_lt hmx⟩)
    have HLx := Lib.hid hBx
    have HMx := Lib.hid hmx
    have HO9 := Lib.hid (HO8.out.trans ho9)
    clear hlx hbx hBx hmx ho9 HBd8 HBx8 k0 k1 k2 HNx
    have k0 := cf_0 HBd9.out
    have k1 := cf_1 HBd9.out
    have k2 := cf_2 HBd9.out
    go_wp2_with fail
    refine (HNy.out _ mp w9 HOw9.out).mono ?_
    rintro e w10 ⟨ly, yb, rfl, ho10, hly, hyb, hBy, hmy⟩
    have HOw10 := Lib.hid (HOw9.out.grow ho10)
    have HBx10 := Lib.hid (HBx9.out.only ho10 (not_nobody _))
    have HY := Lib.hid (show w9.heap.size ≤ ly ∧ w9.heap.size ≤ yb ∧ ly < w10.heap.size ∧ yb < w10.heap.size from ⟨hly, hyb, hBy.lt, map_lt hmy⟩)
    have HLx10 := Lib.hid (HLx.out.only ho10 (not_nobody _))
    have HMx10 := Lib.hid (map_only HMx.out ho10 (not_nobody _))
    have HLy := Lib.hid hBy
    have HMy := Lib.hid hmy
    have HO10 := Lib.hid (HO9.out.trans ho10)
    clear hly hyb hBy hmy ho10 HBd9 HBx9 k0 k1 k2 HNy HLx HMx HOw9
    have k0 := cf_0 HBx10.out
    have k1 := cf_1 HBx10.out
    have k2 := cf_2 HBx10.out
    go_wp2_with fail
    refine (HMd.out _).mono ?_
    rintro e w11 ⟨np, lz, bz, rfl, ho11, hlz, hbz, hL⟩
    obtain ⟨Z, hE⟩ : ∃ Z : Nat → Prop, TwS N S T D Q N' S' T' D' Q' mp np lx bx ly yb lz bz w Z (fun u => Stps u w.heap.size a nl y) ⟨false, false, false, [], [], [], twM S D T Q S' D' T' Q', mdM S D T Q, 0⟩ w11 := by
      have X1 := HX.out
      have Y1 := HY.out
      have s1 := HO8.out.size
      have s2 := HO9.out.size
      have s3 := HO10.out.size
      have s0 := HB3.out.size
      have lz1 := hL.lt hL.x1
      have bz1 := hL.lt hL.x2
      have hb11 : Below w.heap.size w w11 := below_only HB3.out (HO10.out.trans ho11) HB3.out.size (fun _ _ h => h)
      refine ⟨fun i => i < w.heap.size, ⟨_, ⟨duo_made HOw10.out ho11 hL.own hlz hbz lz1 bz1, .inl (.inl (.inr ⟨X1.1, X1.2.2.1⟩)), .inl (.inl (.inr ⟨X1.2.1, X1.2.2.2⟩)), .inl (.inr ⟨Y1.1, Y1.2.2.1⟩), .inl (.inr ⟨Y1.2.1, Y1.2.2.2⟩), .inr (.inl rfl), .inr (.inr rfl),
        ⟨⟨by omega, by omega⟩, by omega, by omega⟩, ⟨⟨by omega, by omega⟩, by omega, by omega⟩, ⟨⟨by omega, by omega⟩, by omega, by omega⟩, HLx10.out.only ho11 (not_nobody _), HLy.out.only ho11 (not_nobody _), hL.box, ⟨0, Nat.le_refl _, map_only HMx10.out ho11 (not_nobody _)⟩, ⟨0, Nat.le_refl _, map_only HMy.out ho11 (not_nobody _)⟩, hL.map,
        twM_0 S D T Q S' D' T' Q', twM_3 S D T Q S' D' T' Q', hL.lvm, Nat.zero_le _, Nat.zero_le _, fun _ _ => .inl rfl, fun _ _ => .inl rfl, hL.wk⟩, fun i hi => ?_⟩, fun i hi => hi, HSt0.out.below hb11, fun u u' hs hk g => g.below (hk.below hs (fun i hi => hi)), hb11⟩
      have hi : i < w.heap.size := hi
      exact ⟨.inl (.inl (.inl (by show i < _; simp; have := HO7.out.size; omega))), ⟨by omega, by omega⟩, ⟨by omega, by omega⟩, by omega, by omega⟩
    have HE := Lib.hid hE
    have HSt := Lib.hid hE.st
    have HHz := Lib.hid hE.hz
    clear hE ho11 hlz hbz hL HMd k0 k1 k2 HO8 HO9 HO10 HO7 HX HY HLx10 HMx10 HLy HMy HOw10 HOw HBx10 HB3 HCs HWs HSt0
    go_wp2_with fail
    go_loopw [24] (fun v24 wr => ∃ i : Nat, v24 = .int .i64 i ∧ i ≤ nl ∧ ∃ v, v.k ≤ 3 * i ∧ TwE v ∧ TwS N S T D Q N' S' T' D' Q' mp np lx bx ly yb lz bz w Z (fun u => Stps u w.heap.size a nl y) v wr) (fun v24 _ => nl - (intOf v24).toNat)
    case atStart => exact ⟨0, rfl, by omega, _, by show 0 ≤ 0; omega, ⟨rfl, rfl, fun _ _ => rfl, rfl⟩, HE.out⟩
    case round =>
      obtain ⟨i, rfl, hle, v, hvk, hte, hE⟩ := hrel
      clear HE
      by_cases hin : i < nl
      · obtain ⟨sb, so, rfl, _, _⟩ := hE.hF.at hin
        obtain ⟨r0, r1, r2, r3, r4, r5⟩ := (HYk.out i hin).rng
        go_upto_region 19 with fail
        go_cut [25, 26] from 102 to 235 (fun s25 s26 w' => ∃ xb o, s25 = .pointer (some ⟨xb, 0, none⟩) ∧ s26 = .bool (acW N S D T 0 ⟨(y i).1, (y i).2.1, (y i).2.2.1, dw (y i).2.2.2.1, (y i).2.2.2.2.1, (y i).2.2.2.2.2⟩ v.M 0 == 1) ∧ ((⟨(y i).1, (y i).2.1, (y i).2.2.1, dw (y i).2.2.2.1, (y i).2.2.2.2.1, (y i).2.2.2.2.2⟩ : Ask).ok N = true → IsOrd (acT S D T 0 n5 P ⟨(y i).1, (y i).2.1, (y i).2.2.1, dw (y i).2.2.2.1, (y i).2.2.2.2.1, (y i).2.2.2.2.2⟩ v.M) n5 o) ∧ w.heap.size ≤ xb ∧ ¬ Z xb ∧ TwS N S T D Q N' S' T' D' Q' mp np lx bx ly yb lz bz w (fun i => Z i ∨ i = xb) (fun u => Stps u w.heap.size (some ⟨sb, so, none⟩) nl y ∧ u.rangeAt xb 0 (DA (fun j => acW N S D T 0 ⟨(y i).1, (y i).2.1, (y i).2.2.1, dw (y i).2.2.2.1, (y i).2.2.2.2.1, (y i).2.2.2.2.2⟩ v.M (3 + j))).toList) ⟨v.ox || acO N S D T 0 n5 P ⟨(y i).1, (y i).2.1, (y i).2.2.1, dw (y i).2.2.2.1, (y i).2.2.2.2.1, (y i).2.2.2.2.2⟩ v.M o, v.oy, v.oz, acI N ⟨(y i).1, (y i).2.1, (y i).2.2.1, dw (y i).2.2.2.1, (y i).2.2.2.2.1, (y i).2.2.2.2.2⟩ v.Ix, v.Iy, v.Iz, acM N S D T 0 P ⟨(y i).1, (y i).2.1, (y i).2.2.1, dw (y i).2.2.2.1, (y i).2.2.2.2.1, (y i).2.2.2.2.2⟩ v.M o, v.M2, v.k + 1⟩ w')
        case first =>
          as_aux_lemma =>
            have hE := hE.drew
            refine held_s (S := (fun u => Stps u w.heap.size (some ⟨sb, so, none⟩) nl y)) 39 rfl (by kernel_rfl) hE.hF (fun hHeld => ?_)
            simp only [Array.replicate_succ, Array.replicate_zero, List.push_toArray, List.nil_append, List.cons_append]
            generalize World.drew _ = wd at *
            refine wpAnyH_take (i := 0) (oi := ⟨some 109, _, _, _, _, _⟩) (v := (.pointer (some ⟨lx, 0, none⟩))) rfl (by kernel_rfl) (by kernel_rfl) (by kernel_rfl) (fun _ _ _ h => h) (Or.inl ⟨by rfl, fun w' hw => by go_simp⟩) hHeld ?_
            try simp only [Act.put, List.setIfInBounds_toArray, List.set_cons_zero, List.set_cons_succ]
            refine wpAnyH_take (i := 1) (oi := ⟨some 110, _, _, _, _, _⟩) (v := (.slice (some ⟨sb, so, none⟩) nl c)) rfl (by kernel_rfl) (by kernel_rfl) (by kernel_rfl) (fun _ _ _ h => h) (Or.inl ⟨by rfl, fun w' hw => by go_simp⟩) hHeld ?_
            try simp only [Act.put, List.setIfInBounds_toArray, List.set_cons_zero, List.set_cons_succ]
            refine wpAnyH_take (i := 2) (oi := ⟨some 111, _, _, _, _, _⟩) (v := (.int .i64 (i : Int))) rfl (by kernel_rfl) (by kernel_rfl) (by kernel_rfl) (fun _ _ _ h => h) (Or.inl ⟨by rfl, fun w' hw => by go_simp⟩) hHeld ?_
            try simp only [Act.put, List.setIfInBounds_toArray, List.set_cons_zero, List.set_cons_succ]
            refine wpAnyH_take (i := 3) (oi := ⟨some 112, _, _, _, _, _⟩) (v := (.pointer (some ⟨sb, so + i * 6, none⟩))) rfl (by kernel_rfl) (by kernel_rfl) (by kernel_rfl) (fun _ _ _ h => h) (Or.inl ⟨by rfl, fun w' hw => by go_simp⟩) hHeld ?_
            try simp only [Act.put, List.setIfInBounds_toArray, List.set_cons_zero, List.set_cons_succ]
            refine wpAnyH_take (i := 4) (oi := ⟨some 113, _, _, _, _, _⟩) (v := (.pointer (some ⟨sb, so + i * 6, none⟩))) rfl (by kernel_rfl) (by kernel_rfl) (by kernel_rfl) (fun _ _ _ h => h) (Or.inl ⟨by rfl, fun w' hw => by go_simp⟩) hHeld ?_
            try simp only [Act.put, List.setIfInBounds_toArray, List.set_cons_zero, List.set_cons_succ]
            refine wpAnyH_take (i := 5) (oi := ⟨some 114, _, _, _, _, _⟩) (v := (.int .i64 (y i).1)) rfl (by kernel_rfl) (by kernel_rfl) (by kernel_rfl) (fun _ _ _ h => h) (Or.inl ⟨by rfl, fun w' hw => by (obtain ⟨q0, q1, q2, q3, q4, q5⟩ := st_cells (st_in hw hin); go_simp)⟩) hHeld ?_
            try simp only [Act.put, List.setIfInBounds_toArray, List.set_cons_zero, List.set_cons_succ]
            refine wpAnyH_take (i := 6) (oi := ⟨some 115, _, _, _, _, _⟩) (v := (.slice (some ⟨sb, so, none⟩) nl c)) rfl (by kernel_rfl) (by kernel_rfl) (by kernel_rfl) (fun _ _ _ h => h) (Or.inl ⟨by rfl, fun w' hw => by go_simp⟩) hHeld ?_
            try simp only [Act.put, List.setIfInBounds_toArray, List.set_cons_zero, List.set_cons_succ]
            refine wpAnyH_take (i := 7) (oi := ⟨some 116, _, _, _, _, _⟩) (v := (.int .i64 (i : Int))) rfl (by kernel_rfl) (by kernel_rfl) (by kernel_rfl) (fun _ _ _ h => h) (Or.inl ⟨by rfl, fun w' hw => by go_simp⟩) hHeld ?_
            try simp only [Act.put, List.setIfInBounds_toArray, List.set_cons_zero, List.set_cons_succ]
            refine wpAnyH_take (i := 8) (oi := ⟨some 117, _, _, _, _, _⟩) (v := (.pointer (some ⟨sb, so + i * 6, none⟩))) rfl (by kernel_rfl) (by kernel_rfl) (by kernel_rfl) (fun _ _ _ h => h) (Or.inl ⟨by rfl, fun w' hw => by go_simp⟩) hHeld ?_
            try simp only [Act.put, List.setIfInBounds_toArray, List.set_cons_zero, List.set_cons_succ]
            refine wpAnyH_take (i := 9) (oi := ⟨some 118, _, _, _, _, _⟩) (v := (.pointer (some ⟨sb, so + i * 6 + 1, none⟩))) rfl (by kernel_rfl) (by kernel_rfl) (by kernel_rfl) (fun _ _ _ h => h) (Or.inl ⟨by rfl, fun w' hw => by go_simp⟩) hHeld ?_
            try simp only [Act.put, List.setIfInBounds_toArray, List.set_cons_zero, List.set_cons_succ]
            refine wpAnyH_take (i := 10) (oi := ⟨some 119, _, _, _, _, _⟩) (v := (.int .u64 (y i).2.1)) rfl (by kernel_rfl) (by kernel_rfl) (by kernel_rfl) (fun _ _ _ h => h) (Or.inl ⟨by rfl, fun w' hw => by (obtain ⟨q0, q1, q2, q3, q4, q5⟩ := st_cells (st_in hw hin); go_simp)⟩) hHeld ?_
            try simp only [Act.put, List.setIfInBounds_toArray, List.set_cons_zero, List.set_cons_succ]
            refine wpAnyH_take (i := 11) (oi := ⟨some 120, _, _, _, _, _⟩) (v := (.slice (some ⟨sb, so, none⟩) nl c)) rfl (by kernel_rfl) (by kernel_rfl) (by kernel_rfl) (fun _ _ _ h => h) (Or.inl ⟨by rfl, fun w' hw => by go_simp⟩) hHeld ?_
            try simp only [Act.put, List.setIfInBounds_toArray, List.set_cons_zero, List.set_cons_succ]
            refine wpAnyH_take (i := 12) (oi := ⟨some 121, _, _, _, _, _⟩) (v := (.int .i64 (i : Int))) rfl (by kernel_rfl) (by kernel_rfl) (by kernel_rfl) (fun _ _ _ h => h) (Or.inl ⟨by rfl, fun w' hw => by go_simp⟩) hHeld ?_
            try simp only [Act.put, List.setIfInBounds_toArray, List.set_cons_zero, List.set_cons_succ]
            refine wpAnyH_take (i := 13) (oi := ⟨some 122, _, _, _, _, _⟩) (v := (.pointer (some ⟨sb, so + i * 6, none⟩))) rfl (by kernel_rfl) (by kernel_rfl) (by kernel_rfl) (fun _ _ _ h => h) (Or.inl ⟨by rfl, fun w' hw => by go_simp⟩) hHeld ?_
            try simp only [Act.put, List.setIfInBounds_toArray, List.set_cons_zero, List.set_cons_succ]
            refine wpAnyH_take (i := 14) (oi := ⟨some 123, _, _, _, _, _⟩) (v := (.pointer (some ⟨sb, so + i * 6 + 2, none⟩))) rfl (by kernel_rfl) (by kernel_rfl) (by kernel_rfl) (fun _ _ _ h => h) (Or.inl ⟨by rfl, fun w' hw => by go_simp⟩) hHeld ?_
            try simp only [Act.put, List.setIfInBounds_toArray, List.set_cons_zero, List.set_cons_succ]
            refine wpAnyH_take (i := 15) (oi := ⟨some 124, _, _, _, _, _⟩) (v := (.int .i64 (y i).2.2.1)) rfl (by kernel_rfl) (by kernel_rfl) (by kernel_rfl) (fun _ _ _ h => h) (Or.inl ⟨by rfl, fun w' hw => by (obtain ⟨q0, q1, q2, q3, q4, q5⟩ := st_cells (st_in hw hin); go_simp)⟩) hHeld ?_
            try simp only [Act.put, List.setIfInBounds_toArray, List.set_cons_zero, List.set_cons_succ]
            refine wpAnyH_take (i := 16) (oi := ⟨some 125, _, _, _, _, _⟩) (v := (.slice (some ⟨sb, so, none⟩) nl c)) rfl (by kernel_rfl) (by kernel_rfl) (by kernel_rfl) (fun _ _ _ h => h) (Or.inl ⟨by rfl, fun w' hw => by go_simp⟩) hHeld ?_
            try simp only [Act.put, List.setIfInBounds_toArray, List.set_cons_zero, List.set_cons_succ]
            refine wpAnyH_take (i := 17) (oi := ⟨some 126, _, _, _, _, _⟩) (v := (.int .i64 (i : Int))) rfl (by kernel_rfl) (by kernel_rfl) (by kernel_rfl) (fun _ _ _ h => h) (Or.inl ⟨by rfl, fun w' hw => by go_simp⟩) hHeld ?_
            try simp only [Act.put, List.setIfInBounds_toArray, List.set_cons_zero, List.set_cons_succ]
            refine wpAnyH_take (i := 18) (oi := ⟨some 127, _, _, _, _, _⟩) (v := (.pointer (some ⟨sb, so + i * 6, none⟩))) rfl (by kernel_rfl) (by kernel_rfl) (by kernel_rfl) (fun _ _ _ h => h) (Or.inl ⟨by rfl, fun w' hw => by go_simp⟩) hHeld ?_
            try simp only [Act.put, List.setIfInBounds_toArray, List.set_cons_zero, List.set_cons_succ]
            refine wpAnyH_take (i := 19) (oi := ⟨some 128, _, _, _, _, _⟩) (v := (.pointer (some ⟨sb, so + i * 6 + 3, none⟩))) rfl (by kernel_rfl) (by kernel_rfl) (by kernel_rfl) (fun _ _ _ h => h) (Or.inl ⟨by rfl, fun w' hw => by go_simp⟩) hHeld ?_
            try simp only [Act.put, List.setIfInBounds_toArray, List.set_cons_zero, List.set_cons_succ]
            refine wpAnyH_take (i := 20) (oi := ⟨some 129, _, _, _, _, _⟩) (v := (.int .u64 (y i).2.2.2.1)) rfl (by kernel_rfl) (by kernel_rfl) (by kernel_rfl) (fun _ _ _ h => h) (Or.inl ⟨by rfl, fun w' hw => by (obtain ⟨q0, q1, q2, q3, q4, q5⟩ := st_cells (st_in hw hin); go_simp)⟩) hHeld ?_
            try simp only [Act.put, List.setIfInBounds_toArray, List.set_cons_zero, List.set_cons_succ]
            refine wpAnyH_take (i := 22) (oi := ⟨some 131, _, _, _, _, _⟩) (v := (.slice (some ⟨sb, so, none⟩) nl c)) rfl (by kernel_rfl) (by kernel_rfl) (by kernel_rfl) (fun _ _ _ h => h) (Or.inl ⟨by rfl, fun w' hw => by go_simp⟩) hHeld ?_
            try simp only [Act.put, List.setIfInBounds_toArray, List.set_cons_zero, List.set_cons_succ]
            refine wpAnyH_take (i := 23) (oi := ⟨some 132, _, _, _, _, _⟩) (v := (.int .i64 (i : Int))) rfl (by kernel_rfl) (by kernel_rfl) (by kernel_rfl) (fun _ _ _ h => h) (Or.inl ⟨by rfl, fun w' hw => by go_simp⟩) hHeld ?_
            try simp only [Act.put, List.setIfInBounds_toArray, List.set_cons_zero, List.set_cons_succ]
            refine wpAnyH_take (i := 24) (oi := ⟨some 133, _, _, _, _, _⟩) (v := (.pointer (some ⟨sb, so + i * 6, none⟩))) rfl (by kernel_rfl) (by kernel_rfl) (by kernel_rfl) (fun _ _ _ h => h) (Or.inl ⟨by rfl, fun w' hw => by go_simp⟩) hHeld ?_
            try simp only [Act.put, List.setIfInBounds_toArray, List.set_cons_zero, List.set_cons_succ]
            refine wpAnyH_take (i := 25) (oi := ⟨some 134, _, _, _, _, _⟩) (v := (.pointer (some ⟨sb, so + i * 6 + 4, none⟩))) rfl (by kernel_rfl) (by kernel_rfl) (by kernel_rfl) (fun _ _ _ h => h) (Or.inl ⟨by rfl, fun w' hw => by go_simp⟩) hHeld ?_
            try simp only [Act.put, List.setIfInBounds_toArray, List.set_cons_zero, List.set_cons_succ]
            refine wpAnyH_take (i := 26) (oi := ⟨some 135, _, _, _, _, _⟩) (v := (.int .i64 (y i).2.2.2.2.1)) rfl (by kernel_rfl) (by kernel_rfl) (by kernel_rfl) (fun _ _ _ h => h) (Or.inl ⟨by rfl, fun w' hw => by (obtain ⟨q0, q1, q2, q3, q4, q5⟩ := st_cells (st_in hw hin); go_simp)⟩) hHeld ?_
            try simp only [Act.put, List.setIfInBounds_toArray, List.set_cons_zero, List.set_cons_succ]
            refine wpAnyH_take (i := 27) (oi := ⟨some 136, _, _, _, _, _⟩) (v := (.slice (some ⟨sb, so, none⟩) nl c)) rfl (by kernel_rfl) (by kernel_rfl) (by kernel_rfl) (fun _ _ _ h => h) (Or.inl ⟨by rfl, fun w' hw => by go_simp⟩) hHeld ?_
            try simp only [Act.put, List.setIfInBounds_toArray, List.set_cons_zero, List.set_cons_succ]
            refine wpAnyH_take (i := 28) (oi := ⟨some 137, _, _, _, _, _⟩) (v := (.int .i64 (i : Int))) rfl (by kernel_rfl) (by kernel_rfl) (by kernel_rfl) (fun _ _ _ h => h) (Or.inl ⟨by rfl, fun w' hw => by go_simp⟩) hHeld ?_
            try simp only [Act.put, List.setIfInBounds_toArray, List.set_cons_zero, List.set_cons_succ]
            refine wpAnyH_take (i := 29) (oi := ⟨some 138, _, _, _, _, _⟩) (v := (.pointer (some ⟨sb, so + i * 6, none⟩))) rfl (by kernel_rfl) (by kernel_rfl) (by kernel_rfl) (fun _ _ _ h => h) (Or.inl ⟨by rfl, fun w' hw => by go_simp⟩) hHeld ?_
            try simp only [Act.put, List.setIfInBounds_toArray, List.set_cons_zero, List.set_cons_succ]
            refine wpAnyH_take (i := 30) (oi := ⟨some 139, _, _, _, _, _⟩) (v := (.pointer (some ⟨sb, so + i * 6 + 5, none⟩))) rfl (by kernel_rfl) (by kernel_rfl) (by kernel_rfl) (fun _ _ _ h => h) (Or.inl ⟨by rfl, fun w' hw => by go_simp⟩) hHeld ?_
            try simp only [Act.put, List.setIfInBounds_toArray, List.set_cons_zero, List.set_cons_succ]
            refine wpAnyH_take (i := 31) (oi := ⟨some 140, _, _, _, _, _⟩) (v := (.int .i64 (y i).2.2.2.2.2)) rfl (by kernel_rfl) (by kernel_rfl) (by kernel_rfl) (fun _ _ _ h => h) (Or.inl ⟨by rfl, fun w' hw => by (obtain ⟨q0, q1, q2, q3, q4, q5⟩ := st_cells (st_in hw hin); go_simp)⟩) hHeld ?_
            try simp only [Act.put, List.setIfInBounds_toArray, List.set_cons_zero, List.set_cons_succ]
            refine wpAnyH_ready (rs := [21, 36]) (by kernel_rfl) (by simp) ?_
            refine AllReadyH.cons rfl (fun K hK => ?_) ?_
            · go_simp
              refine (data_of (y i).2.2.2.1 _).mono ?_
              rintro e w13 ⟨rfl, hb⟩
              have hE := hE.nob (Only.of_below hb)
              refine hK.out _ _ hE.hF (fun hHeld => ?_)
              clear hK K hb
              simp only [List.setIfInBounds_toArray, List.set_cons_zero, List.set_cons_succ]
              refine wpAnyH_ready (rs := [32, 36]) (by kernel_rfl) (by simp) ?_
              refine AllReadyH.cons rfl (fun K hK => ?_) ?_
              · go_simp
                refine (hE.stepX HC.out ⟨(y i).1, (y i).2.1, (y i).2.2.1, dw (y i).2.2.2.1, (y i).2.2.2.2.1, (y i).2.2.2.2.2⟩ (by show v.k < 20000; omega) r1.1 (fun j => dw_rng _ j)).mono ?_
                rintro e w13 ⟨rfl, o', ho', hE'⟩
                have HOr := Lib.hid ho'
                clear hE ho'
                have hE := hE'
                clear hE'
                refine hK.out _ _ hE.hF (fun hHeld => ?_)
                clear hK K
                simp only [List.setIfInBounds_toArray, List.set_cons_zero, List.set_cons_succ]
                refine wpAnyH_take (i := 33) (oi := ⟨some 108, _, _, _, _, _⟩) (v := (.tuple #[.agg (DA (fun j => acW N S D T 0 ⟨(y i).1, (y i).2.1, (y i).2.2.1, dw (y i).2.2.2.1, (y i).2.2.2.2.1, (y i).2.2.2.2.2⟩ v.M (3 + j))), .bool (acW N S D T 0 ⟨(y i).1, (y i).2.1, (y i).2.2.1, dw (y i).2.2.2.1, (y i).2.2.2.2.1, (y i).2.2.2.2.2⟩ v.M 0 == 1)])) rfl (by kernel_rfl) (by kernel_rfl) (by kernel_rfl) (fun _ _ _ h => h) (Or.inl ⟨by rfl, fun w' hw => by go_simp⟩) hHeld ?_
                try simp only [Act.put, List.setIfInBounds_toArray, List.set_cons_zero, List.set_cons_succ]
                refine wpAnyH_take (i := 34) (oi := ⟨some 142, _, _, _, _, _⟩) (v := (.agg (DA (fun j => acW N S D T 0 ⟨(y i).1, (y i).2.1, (y i).2.2.1, dw (y i).2.2.2.1, (y i).2.2.2.2.1, (y i).2.2.2.2.2⟩ v.M (3 + j))))) rfl (by kernel_rfl) (by kernel_rfl) (by kernel_rfl) (fun _ _ _ h => h) (Or.inl ⟨by rfl, fun w' hw => by go_simp⟩) hHeld ?_
                try simp only [Act.put, List.setIfInBounds_toArray, List.set_cons_zero, List.set_cons_succ]
                refine wpAnyH_take (i := 35) (oi := ⟨some 143, _, _, _, _, _⟩) (v := (.bool (acW N S D T 0 ⟨(y i).1, (y i).2.1, (y i).2.2.1, dw (y i).2.2.2.1, (y i).2.2.2.2.1, (y i).2.2.2.2.2⟩ v.M 0 == 1))) rfl (by kernel_rfl) (by kernel_rfl) (by kernel_rfl) (fun _ _ _ h => h) (Or.inl ⟨by rfl, fun w' hw => by go_simp⟩) hHeld ?_
                try simp only [Act.put, List.setIfInBounds_toArray, List.set_cons_zero, List.set_cons_succ]
                refine one_ready 36 rfl (by kernel_rfl) (fun K hK => ?_)
                go_simp
                obtain ⟨bb, hbb⟩ := tw_size hE
                have hxz : ¬ (Z) bb := fun h => by have := hE.mem h; omega
                have hwb : w.heap.size ≤ bb := by have := hE.kp.size; omega
                have hE' := hE.box 48 #[.int .u64 0, .int .u64 0, .int .u64 0, .int .u64 0, .int .u64 0, .int .u64 0, .int .u64 0, .int .u64 0] hbb
                rw [hbb]
                clear hE hbb
                have hE := hE'
                clear hE'
                refine hK.out _ _ hE.hF.1 (fun hHeld => ?_)
                clear hK K
                simp only [List.setIfInBounds_toArray, List.set_cons_zero, List.set_cons_succ]
                refine one_ready 37 (o := ⟨none, _, _, _, _, _⟩) rfl (by kernel_rfl) (fun K hK => ?_)
                refine step_store_data rfl (.tmp 25) (.tmp 142) rfl bb 0 rfl (fun j => acW N S D T 0 ⟨(y i).1, (y i).2.1, (y i).2.2.1, dw (y i).2.2.2.1, (y i).2.2.2.2.1, (y i).2.2.2.2.2⟩ v.M (3 + j)) rfl (hE.hF.2.there 8 (by decide)) ?_
                have hR := World.rangeAt_setCells_same _ bb 0 (DA (fun j => acW N S D T 0 ⟨(y i).1, (y i).2.1, (y i).2.2.1, dw (y i).2.2.2.1, (y i).2.2.2.2.1, (y i).2.2.2.2.2⟩ v.M (3 + j))).toList (hE.hF.2.there 8 (by decide))
                have hE' := hE.anew (Z0 := Z) (b := bb) (only_setCells (S := just bb) (DA (fun j => acW N S D T 0 ⟨(y i).1, (y i).2.1, (y i).2.2.1, dw (y i).2.2.2.1, (y i).2.2.2.2.1, (y i).2.2.2.2.2⟩ v.M (3 + j))).toList 0 _ (Only.refl _ _) (.inl (just_self _))) (fun i hi => .inl hi) HSt.out hxz (.inr rfl) hwb hR (fun _ _ _ hk g => hk.range g (.inr rfl))
                clear hE hR
                have hE := hE'
                clear hE'
                refine hK.out _ _ hE.hF.1 (fun hHeld => ?_)
                clear hK K
                simp only [List.setIfInBounds_toArray, List.set_cons_zero, List.set_cons_succ]
                refine wpAnyH_take (i := 38) (oi := ⟨some 26, _, _, _, _, _⟩) (v := (.bool (acW N S D T 0 ⟨(y i).1, (y i).2.1, (y i).2.2.1, dw (y i).2.2.2.1, (y i).2.2.2.2.1, (y i).2.2.2.2.2⟩ v.M 0 == 1))) rfl (by kernel_rfl) (by kernel_rfl) (by kernel_rfl) (fun _ _ _ h => h) (Or.inl ⟨by rfl, fun w' hw => by go_simp⟩) hHeld ?_
                try simp only [Act.put, List.setIfInBounds_toArray, List.set_cons_zero, List.set_cons_succ]
                refine wpAnyH_done (by kernel_rfl) ?_ _
                clear hHeld
                go_wp2_with fail
                go_meet
                case rel => exact ⟨bb, o', rfl, rfl, HOr.out, hwb, hxz, hE⟩
              · refine AllReadyH.cons rfl (fun K hK => ?_) AllReadyH.nil
                go_simp
                obtain ⟨bb, hbb⟩ := tw_size hE
                have hxz : ¬ (Z) bb := fun h => by have := hE.mem h; omega
                have hwb : w.heap.size ≤ bb := by have := hE.kp.size; omega
                have hE' := hE.box 48 #[.int .u64 0, .int .u64 0, .int .u64 0, .int .u64 0, .int .u64 0, .int .u64 0, .int .u64 0, .int .u64 0] hbb
                rw [hbb]
                clear hE hbb
                have hE := hE'
                clear hE'
                refine hK.out _ _ hE.hF.1 (fun hHeld => ?_)
                clear hK K
                simp only [List.setIfInBounds_toArray, List.set_cons_zero, List.set_cons_succ]
                refine one_ready 32 rfl (by kernel_rfl) (fun K hK => ?_)
                go_simp
                refine (hE.stepX HC.out ⟨(y i).1, (y i).2.1, (y i).2.2.1, dw (y i).2.2.2.1, (y i).2.2.2.2.1, (y i).2.2.2.2.2⟩ (by show v.k < 20000; omega) r1.1 (fun j => dw_rng _ j)).mono ?_
                rintro e w13 ⟨rfl, o', ho', hE'⟩
                have HOr := Lib.hid ho'
                clear hE ho'
                have hE := hE'
                clear hE'
                refine hK.out _ _ hE.hF.1 (fun hHeld => ?_)
                clear hK K
                simp only [List.setIfInBounds_toArray, List.set_cons_zero, List.set_cons_succ]
                refine wpAnyH_take (i := 33) (oi := ⟨some 108, _, _, _, _, _⟩) (v := (.tuple #[.agg (DA (fun j => acW N S D T 0 ⟨(y i).1, (y i).2.1, (y i).2.2.1, dw (y i).2.2.2.1, (y i).2.2.2.2.1, (y i).2.2.2.2.2⟩ v.M (3 + j))), .bool (acW N S D T 0 ⟨(y i).1, (y i).2.1, (y i).2.2.1, dw (y i).2.2.2.1, (y i).2.2.2.2.1, (y i).2.2.2.2.2⟩ v.M 0 == 1)])) rfl (by kernel_rfl) (by kernel_rfl) (by kernel_rfl) (fun _ _ _ h => h) (Or.inl ⟨by rfl, fun w' hw => by go_simp⟩) hHeld ?_
                try simp only [Act.put, List.setIfInBounds_toArray, List.set_cons_zero, List.set_cons_succ]
                refine wpAnyH_take (i := 34) (oi := ⟨some 142, _, _, _, _, _⟩) (v := (.agg (DA (fun j => acW N S D T 0 ⟨(y i).1, (y i).2.1, (y i).2.2.1, dw (y i).2.2.2.1, (y i).2.2.2.2.1, (y i).2.2.2.2.2⟩ v.M (3 + j))))) rfl (by kernel_rfl) (by kernel_rfl) (by kernel_rfl) (fun _ _ _ h => h) (Or.inl ⟨by rfl, fun w' hw => by go_simp⟩) hHeld ?_
                try simp only [Act.put, List.setIfInBounds_toArray, List.set_cons_zero, List.set_cons_succ]
                refine wpAnyH_take (i := 35) (oi := ⟨some 143, _, _, _, _, _⟩) (v := (.bool (acW N S D T 0 ⟨(y i).1, (y i).2.1, (y i).2.2.1, dw (y i).2.2.2.1, (y i).2.2.2.2.1, (y i).2.2.2.2.2⟩ v.M 0 == 1))) rfl (by kernel_rfl) (by kernel_rfl) (by kernel_rfl) (fun _ _ _ h => h) (Or.inl ⟨by rfl, fun w' hw => by go_simp⟩) hHeld ?_
                try simp only [Act.put, List.setIfInBounds_toArray, List.set_cons_zero, List.set_cons_succ]
                refine one_ready 37 (o := ⟨none, _, _, _, _, _⟩) rfl (by kernel_rfl) (fun K hK => ?_)
                refine step_store_data rfl (.tmp 25) (.tmp 142) rfl bb 0 rfl (fun j => acW N S D T 0 ⟨(y i).1, (y i).2.1, (y i).2.2.1, dw (y i).2.2.2.1, (y i).2.2.2.2.1, (y i).2.2.2.2.2⟩ v.M (3 + j)) rfl (hE.hF.2.there 8 (by decide)) ?_
                have hR := World.rangeAt_setCells_same _ bb 0 (DA (fun j => acW N S D T 0 ⟨(y i).1, (y i).2.1, (y i).2.2.1, dw (y i).2.2.2.1, (y i).2.2.2.2.1, (y i).2.2.2.2.2⟩ v.M (3 + j))).toList (hE.hF.2.there 8 (by decide))
                have hE' := hE.anew (Z0 := Z) (b := bb) (only_setCells (S := just bb) (DA (fun j => acW N S D T 0 ⟨(y i).1, (y i).2.1, (y i).2.2.1, dw (y i).2.2.2.1, (y i).2.2.2.2.1, (y i).2.2.2.2.2⟩ v.M (3 + j))).toList 0 _ (Only.refl _ _) (.inl (just_self _))) (fun i hi => .inl hi) HSt.out hxz (.inr rfl) hwb hR (fun _ _ _ hk g => hk.range g (.inr rfl))
                clear hE hR
                have hE := hE'
                clear hE'
                refine hK.out _ _ hE.hF.1 (fun hHeld => ?_)
                clear hK K
                simp only [List.setIfInBounds_toArray, List.set_cons_zero, List.set_cons_succ]
                refine wpAnyH_take (i := 38) (oi := ⟨some 26, _, _, _, _, _⟩) (v := (.bool (acW N S D T 0 ⟨(y i).1, (y i).2.1, (y i).2.2.1, dw (y i).2.2.2.1, (y i).2.2.2.2.1, (y i).2.2.2.2.2⟩ v.M 0 == 1))) rfl (by kernel_rfl) (by kernel_rfl) (by kernel_rfl) (fun _ _ _ h => h) (Or.inl ⟨by rfl, fun w' hw => by go_simp⟩) hHeld ?_
                try simp only [Act.put, List.setIfInBounds_toArray, List.set_cons_zero, List.set_cons_succ]
                refine wpAnyH_done (by kernel_rfl) ?_ _
                clear hHeld
                go_wp2_with fail
                go_meet
                case rel => exact ⟨bb, o', rfl, rfl, HOr.out, hwb, hxz, hE⟩
            · refine AllReadyH.cons rfl (fun K hK => ?_) AllReadyH.nil
              go_simp
              obtain ⟨bb, hbb⟩ := tw_size hE
              have hxz : ¬ (Z) bb := fun h => by have := hE.mem h; omega
              have hwb : w.heap.size ≤ bb := by have := hE.kp.size; omega
              have hE' := hE.box 48 #[.int .u64 0, .int .u64 0, .int .u64 0, .int .u64 0, .int .u64 0, .int .u64 0, .int .u64 0, .int .u64 0] hbb
              rw [hbb]
              clear hE hbb
              have hE := hE'
              clear hE'
              refine hK.out _ _ hE.hF.1 (fun hHeld => ?_)
              clear hK K
              simp only [List.setIfInBounds_toArray, List.set_cons_zero, List.set_cons_succ]
              refine one_ready 21 rfl (by kernel_rfl) (fun K hK => ?_)
              go_simp
              refine (data_of (y i).2.2.2.1 _).mono ?_
              rintro e w13 ⟨rfl, hb⟩
              have hE := hE.nob (Only.of_below hb)
              refine hK.out _ _ hE.hF.1 (fun hHeld => ?_)
              clear hK K hb
              simp only [List.setIfInBounds_toArray, List.set_cons_zero, List.set_cons_succ]
              refine one_ready 32 rfl (by kernel_rfl) (fun K hK => ?_)
              go_simp
              refine (hE.stepX HC.out ⟨(y i).1, (y i).2.1, (y i).2.2.1, dw (y i).2.2.2.1, (y i).2.2.2.2.1, (y i).2.2.2.2.2⟩ (by show v.k < 20000; omega) r1.1 (fun j => dw_rng _ j)).mono ?_
              rintro e w13 ⟨rfl, o', ho', hE'⟩
              have HOr := Lib.hid ho'
              clear hE ho'
              have hE := hE'
              clear hE'
              refine hK.out _ _ hE.hF.1 (fun hHeld => ?_)
              clear hK K
              simp only [List.setIfInBounds_toArray, List.set_cons_zero, List.set_cons_succ]
              refine wpAnyH_take (i := 33) (oi := ⟨some 108, _, _, _, _, _⟩) (v := (.tuple #[.agg (DA (fun j => acW N S D T 0 ⟨(y i).1, (y i).2.1, (y i).2.2.1, dw (y i).2.2.2.1, (y i).2.2.2.2.1, (y i).2.2.2.2.2⟩ v.M (3 + j))), .bool (acW N S D T 0 ⟨(y i).1, (y i).2.1, (y i).2.2.1, dw (y i).2.2.2.1, (y i).2.2.2.2.1, (y i).2.2.2.2.2⟩ v.M 0 == 1)])) rfl (by kernel_rfl) (by kernel_rfl) (by kernel_rfl) (fun _ _ _ h => h) (Or.inl ⟨by rfl, fun w' hw => by go_simp⟩) hHeld ?_
              try simp only [Act.put, List.setIfInBounds_toArray, List.set_cons_zero, List.set_cons_succ]
              refine wpAnyH_take (i := 34) (oi := ⟨some 142, _, _, _, _, _⟩) (v := (.agg (DA (fun j => acW N S D T 0 ⟨(y i).1, (y i).2.1, (y i).2.2.1, dw (y i).2.2.2.1, (y i).2.2.2.2.1, (y i).2.2.2.2.2⟩ v.M (3 + j))))) rfl (by kernel_rfl) (by kernel_rfl) (by kernel_rfl) (fun _ _ _ h => h) (Or.inl ⟨by rfl, fun w' hw => by go_simp⟩) hHeld ?_
              try simp only [Act.put, List.setIfInBounds_toArray, List.set_cons_zero, List.set_cons_succ]
              refine wpAnyH_take (i := 35) (oi := ⟨some 143, _, _, _, _, _⟩) (v := (.bool (acW N S D T 0 ⟨(y i).1, (y i).2.1, (y i).2.2.1, dw (y i).2.2.2.1, (y i).2.2.2.2.1, (y i).2.2.2.2.2⟩ v.M 0 == 1))) rfl (by kernel_rfl) (by kernel_rfl) (by kernel_rfl) (fun _ _ _ h => h) (Or.inl ⟨by rfl, fun w' hw => by go_simp⟩) hHeld ?_
              try simp only [Act.put, List.setIfInBounds_toArray, List.set_cons_zero, List.set_cons_succ]
              refine one_ready 37 (o := ⟨none, _, _, _, _, _⟩) rfl (by kernel_rfl) (fun K hK => ?_)
              refine step_store_data rfl (.tmp 25) (.tmp 142) rfl bb 0 rfl (fun j => acW N S D T 0 ⟨(y i).1, (y i).2.1, (y i).2.2.1, dw (y i).2.2.2.1, (y i).2.2.2.2.1, (y i).2.2.2.2.2⟩ v.M (3 + j)) rfl (hE.hF.2.there 8 (by decide)) ?_
              have hR := World.rangeAt_setCells_same _ bb 0 (DA (fun j => acW N S D T 0 ⟨(y i).1, (y i).2.1, (y i).2.2.1, dw (y i).2.2.2.1, (y i).2.2.2.2.1, (y i).2.2.2.2.2⟩ v.M (3 + j))).toList (hE.hF.2.there 8 (by decide))
              have hE' := hE.anew (Z0 := Z) (b := bb) (only_setCells (S := just bb) (DA (fun j => acW N S D T 0 ⟨(y i).1, (y i).2.1, (y i).2.2.1, dw (y i).2.2.2.1, (y i).2.2.2.2.1, (y i).2.2.2.2.2⟩ v.M (3 + j))).toList 0 _ (Only.refl _ _) (.inl (just_self _))) (fun i hi => .inl hi) HSt.out hxz (.inr rfl) hwb hR (fun _ _ _ hk g => hk.range g (.inr rfl))
              clear hE hR
              have hE := hE'
              clear hE'
              refine hK.out _ _ hE.hF.1 (fun hHeld => ?_)
              clear hK K
              simp only [List.setIfInBounds_toArray, List.set_cons_zero, List.set_cons_succ]
              refine wpAnyH_take (i := 38) (oi := ⟨some 26, _, _, _, _, _⟩) (v := (.bool (acW N S D T 0 ⟨(y i).1, (y i).2.1, (y i).2.2.1, dw (y i).2.2.2.1, (y i).2.2.2.2.1, (y i).2.2.2.2.2⟩ v.M 0 == 1))) rfl (by kernel_rfl) (by kernel_rfl) (by kernel_rfl) (fun _ _ _ h => h) (Or.inl ⟨by rfl, fun w' hw => by go_simp⟩) hHeld ?_
              try simp only [Act.put, List.setIfInBounds_toArray, List.set_cons_zero, List.set_cons_succ]
              refine wpAnyH_done (by kernel_rfl) ?_ _
              clear hHeld
              go_wp2_with fail
              go_meet
              case rel => exact ⟨bb, o', rfl, rfl, HOr.out, hwb, hxz, hE⟩
        case rest =>
          as_aux_lemma =>
            clear hE
            obtain ⟨xb, o, rfl, rfl, ho, hwx, hzx, hE⟩ := hcut
            have HOx := Lib.hid ho
            have HSt1 := Lib.hid hE.st
            have HZx := Lib.hid hzx
            have HWx := Lib.hid hwx
            clear ho hwx hzx
            go_upto_region 20 with fail
            go_cut [27, 28] from 102 to 235 (fun s27 s28 w' => ∃ xc o2, s27 = .pointer (some ⟨xc, 0, none⟩) ∧ s28 = .bool (acW N S D T 0 ⟨(y i).1, (y i).2.1, (y i).2.2.1, dw (y i).2.2.2.1, (y i).2.2.2.2.1, (y i).2.2.2.2.2⟩ v.M 0 == 1) ∧ ((⟨(y i).1, (y i).2.1, (y i).2.2.1, dw (y i).2.2.2.1, (y i).2.2.2.2.1, (y i).2.2.2.2.2⟩ : Ask).ok N = true → IsOrd (acT S D T 1 n5 P ⟨(y i).1, (y i).2.1, (y i).2.2.1, dw (y i).2.2.2.1, (y i).2.2.2.2.1, (y i).2.2.2.2.2⟩ v.M2) n5 o2) ∧ w.heap.size ≤ xc ∧ ¬ (fun i => Z i ∨ i = xb) xc ∧ TwS N S T D Q N' S' T' D' Q' mp np lx bx ly yb lz bz w (fun i => (Z i ∨ i = xb) ∨ i = xc) (fun u => (Stps u w.heap.size (some ⟨sb, so, none⟩) nl y ∧ u.rangeAt xb 0 (DA (fun j => acW N S D T 0 ⟨(y i).1, (y i).2.1, (y i).2.2.1, dw (y i).2.2.2.1, (y i).2.2.2.2.1, (y i).2.2.2.2.2⟩ v.M (3 + j))).toList) ∧ u.rangeAt xc 0 (DA (fun j => acW N S D T 0 ⟨(y i).1, (y i).2.1, (y i).2.2.1, dw (y i).2.2.2.1, (y i).2.2.2.2.1, (y i).2.2.2.2.2⟩ v.M (3 + j))).toList) ⟨v.ox || acO N S D T 0 n5 P ⟨(y i).1, (y i).2.1, (y i).2.2.1, dw (y i).2.2.2.1, (y i).2.2.2.2.1, (y i).2.2.2.2.2⟩ v.M o, v.oy, v.oz || acO N S D T 1 n5 P ⟨(y i).1, (y i).2.1, (y i).2.2.1, dw (y i).2.2.2.1, (y i).2.2.2.2.1, (y i).2.2.2.2.2⟩ v.M2 o2, acI N ⟨(y i).1, (y i).2.1, (y i).2.2.1, dw (y i).2.2.2.1, (y i).2.2.2.2.1, (y i).2.2.2.2.2⟩ v.Ix, v.Iy, acI N ⟨(y i).1, (y i).2.1, (y i).2.2.1, dw (y i).2.2.2.1, (y i).2.2.2.2.1, (y i).2.2.2.2.2⟩ v.Iz, acM N S D T 0 P ⟨(y i).1, (y i).2.1, (y i).2.2.1, dw (y i).2.2.2.1, (y i).2.2.2.2.1, (y i).2.2.2.2.2⟩ v.M o, acM N S D T 1 P ⟨(y i).1, (y i).2.1, (y i).2.2.1, dw (y i).2.2.2.1, (y i).2.2.2.2.1, (y i).2.2.2.2.2⟩ v.M2 o2, v.k + 1 + 1⟩ w')
            case first =>
              as_aux_lemma =>
                have hE := hE.drew
                refine held_s (S := (fun u => Stps u w.heap.size (some ⟨sb, so, none⟩) nl y ∧ u.rangeAt xb 0 (DA (fun j => acW N S D T 0 ⟨(y i).1, (y i).2.1, (y i).2.2.1, dw (y i).2.2.2.1, (y i).2.2.2.2.1, (y i).2.2.2.2.2⟩ v.M (3 + j))).toList)) 39 rfl (by kernel_rfl) hE.hF (fun hHeld => ?_)
                simp only [Array.replicate_succ, Array.replicate_zero, List.push_toArray, List.nil_append, List.cons_append]
                generalize World.drew _ = wd at *
                refine wpAnyH_take (i := 0) (oi := ⟨some 145, _, _, _, _, _⟩) (v := (.pointer (some ⟨lz, 0, none⟩))) rfl (by kernel_rfl) (by kernel_rfl) (by kernel_rfl) (fun _ _ _ h => h) (Or.inl ⟨by rfl, fun w' hw => by go_simp⟩) hHeld ?_
                try simp only [Act.put, List.setIfInBounds_toArray, List.set_cons_zero, List.set_cons_succ]
                refine wpAnyH_take (i := 1) (oi := ⟨some 146, _, _, _, _, _⟩) (v := (.slice (some ⟨sb, so, none⟩) nl c)) rfl (by kernel_rfl) (by kernel_rfl) (by kernel_rfl) (fun _ _ _ h => h) (Or.inl ⟨by rfl, fun w' hw => by go_simp⟩) hHeld ?_
                try simp only [Act.put, List.setIfInBounds_toArray, List.set_cons_zero, List.set_cons_succ]
                refine wpAnyH_take (i := 2) (oi := ⟨some 147, _, _, _, _, _⟩) (v := (.int .i64 (i : Int))) rfl (by kernel_rfl) (by kernel_rfl) (by kernel_rfl) (fun _ _ _ h => h) (Or.inl ⟨by rfl, fun w' hw => by go_simp⟩) hHeld ?_
                try simp only [Act.put, List.setIfInBounds_toArray, List.set_cons_zero, List.set_cons_succ]
                refine wpAnyH_take (i := 3) (oi := ⟨some 148, _, _, _, _, _⟩) (v := (.pointer (some ⟨sb, so + i * 6, none⟩))) rfl (by kernel_rfl) (by kernel_rfl) (by kernel_rfl) (fun _ _ _ h => h) (Or.inl ⟨by rfl, fun w' hw => by go_simp⟩) hHeld ?_
                try simp only [Act.put, List.setIfInBounds_toArray, List.set_cons_zero, List.set_cons_succ]
                refine wpAnyH_take (i := 4) (oi := ⟨some 149, _, _, _, _, _⟩) (v := (.pointer (some ⟨sb, so + i * 6, none⟩))) rfl (by kernel_rfl) (by kernel_rfl) (by kernel_rfl) (fun _ _ _ h => h) (Or.inl ⟨by rfl, fun w' hw => by go_simp⟩) hHeld ?_
                try simp only [Act.put, List.setIfInBounds_toArray, List.set_cons_zero, List.set_cons_succ]
                refine wpAnyH_take (i := 5) (oi := ⟨some 150, _, _, _, _, _⟩) (v := (.int .i64 (y i).1)) rfl (by kernel_rfl) (by kernel_rfl) (by kernel_rfl) (fun _ _ _ h => h) (Or.inl ⟨by rfl, fun w' hw => by (obtain ⟨q0, q1, q2, q3, q4, q5⟩ := st_cells (st_in hw.1 hin); go_simp)⟩) hHeld ?_
                try simp only [Act.put, List.setIfInBounds_toArray, List.set_cons_zero, List.set_cons_succ]
                refine wpAnyH_take (i := 6) (oi := ⟨some 151, _, _, _, _, _⟩) (v := (.slice (some ⟨sb, so, none⟩) nl c)) rfl (by kernel_rfl) (by kernel_rfl) (by kernel_rfl) (fun _ _ _ h => h) (Or.inl ⟨by rfl, fun w' hw => by go_simp⟩) hHeld ?_
                try simp only [Act.put, List.setIfInBounds_toArray, List.set_cons_zero, List.set_cons_succ]
                refine wpAnyH_take (i := 7) (oi := ⟨some 152, _, _, _, _, _⟩) (v := (.int .i64 (i : Int))) rfl (by kernel_rfl) (by kernel_rfl) (by kernel_rfl) (fun _ _ _ h => h) (Or.inl ⟨by rfl, fun w' hw => by go_simp⟩) hHeld ?_
                try simp only [Act.put, List.setIfInBounds_toArray, List.set_cons_zero, List.set_cons_succ]
                refine wpAnyH_take (i := 8) (oi := ⟨some 153, _, _, _, _, _⟩) (v := (.pointer (some ⟨sb, so + i * 6, none⟩))) rfl (by kernel_rfl) (by kernel_rfl) (by kernel_rfl) (fun _ _ _ h => h) (Or.inl ⟨by rfl, fun w' hw => by go_simp⟩) hHeld ?_
                try simp only [Act.put, List.setIfInBounds_toArray, List.set_cons_zero, List.set_cons_succ]
                refine wpAnyH_take (i := 9) (oi := ⟨some 154, _, _, _, _, _⟩) (v := (.pointer (some ⟨sb, so + i * 6 + 1, none⟩))) rfl (by kernel_rfl) (by kernel_rfl) (by kernel_rfl) (fun _ _ _ h => h) (Or.inl ⟨by rfl, fun w' hw => by go_simp⟩) hHeld ?_
                try simp only [Act.put, List.setIfInBounds_toArray, List.set_cons_zero, List.set_cons_succ]
                refine wpAnyH_take (i := 10) (oi := ⟨some 155, _, _, _, _, _⟩) (v := (.int .u64 (y i).2.1)) rfl (by kernel_rfl) (by kernel_rfl) (by kernel_rfl) (fun _ _ _ h => h) (Or.inl ⟨by rfl, fun w' hw => by (obtain ⟨q0, q1, q2, q3, q4, q5⟩ := st_cells (st_in hw.1 hin); go_simp)⟩) hHeld ?_
                try simp only [Act.put, List.setIfInBounds_toArray, List.set_cons_zero, List.set_cons_succ]
                refine wpAnyH_take (i := 11) (oi := ⟨some 156, _, _, _, _, _⟩) (v := (.slice (some ⟨sb, so, none⟩) nl c)) rfl (by kernel_rfl) (by kernel_rfl) (by kernel_rfl) (fun _ _ _ h => h) (Or.inl ⟨by rfl, fun w' hw => by go_simp⟩) hHeld ?_
                try simp only [Act.put, List.setIfInBounds_toArray, List.set_cons_zero, List.set_cons_succ]
                refine wpAnyH_take (i := 12) (oi := ⟨some 157, _, _, _, _, _⟩) (v := (.int .i64 (i : Int))) rfl (by kernel_rfl) (by kernel_rfl) (by kernel_rfl) (fun _ _ _ h => h) (Or.inl ⟨by rfl, fun w' hw => by go_simp⟩) hHeld ?_
                try simp only [Act.put, List.setIfInBounds_toArray, List.set_cons_zero, List.set_cons_succ]
                refine wpAnyH_take (i := 13) (oi := ⟨some 158, _, _, _, _, _⟩) (v := (.pointer (some ⟨sb, so + i * 6, none⟩))) rfl (by kernel_rfl) (by kernel_rfl) (by kernel_rfl) (fun _ _ _ h => h) (Or.inl ⟨by rfl, fun w' hw => by go_simp⟩) hHeld ?_
                try simp only [Act.put, List.setIfInBounds_toArray, List.set_cons_zero, List.set_cons_succ]
                refine wpAnyH_take (i := 14) (oi := ⟨some 159, _, _, _, _, _⟩) (v := (.pointer (some ⟨sb, so + i * 6 + 2, none⟩))) rfl (by kernel_rfl) (by kernel_rfl) (by kernel_rfl) (fun _ _ _ h => h) (Or.inl ⟨by rfl, fun w' hw => by go_simp⟩) hHeld ?_
                try simp only [Act.put, List.setIfInBounds_toArray, List.set_cons_zero, List.set_cons_succ]
                refine wpAnyH_take (i := 15) (oi := ⟨some 160, _, _, _, _, _⟩) (v := (.int .i64 (y i).2.2.1)) rfl (by kernel_rfl) (by kernel_rfl) (by kernel_rfl) (fun _ _ _ h => h) (Or.inl ⟨by rfl, fun w' hw => by (obtain ⟨q0, q1, q2, q3, q4, q5⟩ := st_cells (st_in hw.1 hin); go_simp)⟩) hHeld ?_
                try simp only [Act.put, List.setIfInBounds_toArray, List.set_cons_zero, List.set_cons_succ]
                refine wpAnyH_take (i := 16) (oi := ⟨some 161, _, _, _, _, _⟩) (v := (.slice (some ⟨sb, so, none⟩) nl c)) rfl (by kernel_rfl) (by kernel_rfl) (by kernel_rfl) (fun _ _ _ h => h) (Or.inl ⟨by rfl, fun w' hw => by go_simp⟩) hHeld ?_
                try simp only [Act.put, List.setIfInBounds_toArray, List.set_cons_zero, List.set_cons_succ]
                refine wpAnyH_take (i := 17) (oi := ⟨some 162, _, _, _, _, _⟩) (v := (.int .i64 (i : Int))) rfl (by kernel_rfl) (by kernel_rfl) (by kernel_rfl) (fun _ _ _ h => h) (Or.inl ⟨by rfl, fun w' hw => by go_simp⟩) hHeld ?_
                try simp only [Act.put, List.setIfInBounds_toArray, List.set_cons_zero, List.set_cons_succ]
                refine wpAnyH_take (i := 18) (oi := ⟨some 163, _, _, _, _, _⟩) (v := (.pointer (some ⟨sb, so + i * 6, none⟩))) rfl (by kernel_rfl) (by kernel_rfl) (by kernel_rfl) (fun _ _ _ h => h) (Or.inl ⟨by rfl, fun w' hw => by go_simp⟩) hHeld ?_
                try simp only [Act.put, List.setIfInBounds_toArray, List.set_cons_zero, List.set_cons_succ]
                refine wpAnyH_take (i := 19) (oi := ⟨some 164, _, _, _, _, _⟩) (v := (.pointer (some ⟨sb, so + i * 6 + 3, none⟩))) rfl (by kernel_rfl) (by kernel_rfl) (by kernel_rfl) (fun _ _ _ h => h) (Or.inl ⟨by rfl, fun w' hw => by go_simp⟩) hHeld ?_
                try simp only [Act.put, List.setIfInBounds_toArray, List.set_cons_zero, List.set_cons_succ]
                refine wpAnyH_take (i := 20) (oi := ⟨some 165, _, _, _, _, _⟩) (v := (.int .u64 (y i).2.2.2.1)) rfl (by kernel_rfl) (by kernel_rfl) (by kernel_rfl) (fun _ _ _ h => h) (Or.inl ⟨by rfl, fun w' hw => by (obtain ⟨q0, q1, q2, q3, q4, q5⟩ := st_cells (st_in hw.1 hin); go_simp)⟩) hHeld ?_
                try simp only [Act.put, List.setIfInBounds_toArray, List.set_cons_zero, List.set_cons_succ]
                refine wpAnyH_take (i := 22) (oi := ⟨some 167, _, _, _, _, _⟩) (v := (.slice (some ⟨sb, so, none⟩) nl c)) rfl (by kernel_rfl) (by kernel_rfl) (by kernel_rfl) (fun _ _ _ h => h) (Or.inl ⟨by rfl, fun w' hw => by go_simp⟩) hHeld ?_
                try simp only [Act.put, List.setIfInBounds_toArray, List.set_cons_zero, List.set_cons_succ]
                refine wpAnyH_take (i := 23) (oi := ⟨some 168, _, _, _, _, _⟩) (v := (.int .i64 (i : Int))) rfl (by kernel_rfl) (by kernel_rfl) (by kernel_rfl) (fun _ _ _ h => h) (Or.inl ⟨by rfl, fun w' hw => by go_simp⟩) hHeld ?_
                try simp only [Act.put, List.setIfInBounds_toArray, List.set_cons_zero, List.set_cons_succ]
                refine wpAnyH_take (i := 24) (oi := ⟨some 169, _, _, _, _, _⟩) (v := (.pointer (some ⟨sb, so + i * 6, none⟩))) rfl (by kernel_rfl) (by kernel_rfl) (by kernel_rfl) (fun _ _ _ h => h) (Or.inl ⟨by rfl, fun w' hw => by go_simp⟩) hHeld ?_
                try simp only [Act.put, List.setIfInBounds_toArray, List.set_cons_zero, List.set_cons_succ]
                refine wpAnyH_take (i := 25) (oi := ⟨some 170, _, _, _, _, _⟩) (v := (.pointer (some ⟨sb, so + i * 6 + 4, none⟩))) rfl (by kernel_rfl) (by kernel_rfl) (by kernel_rfl) (fun _ _ _ h => h) (Or.inl ⟨by rfl, fun w' hw => by go_simp⟩) hHeld ?_
                try simp only [Act.put, List.setIfInBounds_toArray, List.set_cons_zero, List.set_cons_succ]
                refine wpAnyH_take (i := 26) (oi := ⟨some 171, _, _, _, _, _⟩) (v := (.int .i64 (y i).2.2.2.2.1)) rfl (by kernel_rfl) (by kernel_rfl) (by kernel_rfl) (fun _ _ _ h => h) (Or.inl ⟨by rfl, fun w' hw => by (obtain ⟨q0, q1, q2, q3, q4, q5⟩ := st_cells (st_in hw.1 hin); go_simp)⟩) hHeld ?_
                try simp only [Act.put, List.setIfInBounds_toArray, List.set_cons_zero, List.set_cons_succ]
                refine wpAnyH_take (i := 27) (oi := ⟨some 172, _, _, _, _, _⟩) (v := (.slice (some ⟨sb, so, none⟩) nl c)) rfl (by kernel_rfl) (by kernel_rfl) (by kernel_rfl) (fun _ _ _ h => h) (Or.inl ⟨by rfl, fun w' hw => by go_simp⟩) hHeld ?_
                try simp only [Act.put, List.setIfInBounds_toArray, List.set_cons_zero, List.set_cons_succ]
                refine wpAnyH_take (i := 28) (oi := ⟨some 173, _, _, _, _, _⟩) (v := (.int .i64 (i : Int))) rfl (by kernel_rfl) (by kernel_rfl) (by kernel_rfl) (fun _ _ _ h => h) (Or.inl ⟨by rfl, fun w' hw => by go_simp⟩) hHeld ?_
                try simp only [Act.put, List.setIfInBounds_toArray, List.set_cons_zero, List.set_cons_succ]
                refine wpAnyH_take (i := 29) (oi := ⟨some 174, _, _, _, _, _⟩) (v := (.pointer (some ⟨sb, so + i * 6, none⟩))) rfl (by kernel_rfl) (by kernel_rfl) (by kernel_rfl) (fun _ _ _ h => h) (Or.inl ⟨by rfl, fun w' hw => by go_simp⟩) hHeld ?_
                try simp only [Act.put, List.setIfInBounds_toArray, List.set_cons_zero, List.set_cons_succ]
                refine wpAnyH_take (i := 30) (oi := ⟨some 175, _, _, _, _, _⟩) (v := (.pointer (some ⟨sb, so + i * 6 + 5, none⟩))) rfl (by kernel_rfl) (by kernel_rfl) (by kernel_rfl) (fun _ _ _ h => h) (Or.inl ⟨by rfl, fun w' hw => by go_simp⟩) hHeld ?_
                try simp only [Act.put, List.setIfInBounds_toArray, List.set_cons_zero, List.set_cons_succ]
                refine wpAnyH_take (i := 31) (oi := ⟨some 176, _, _, _, _, _⟩) (v := (.int .i64 (y i).2.2.2.2.2)) rfl (by kernel_rfl) (by kernel_rfl) (by kernel_rfl) (fun _ _ _ h => h) (Or.inl ⟨by rfl, fun w' hw => by (obtain ⟨q0, q1, q2, q3, q4, q5⟩ := st_cells (st_in hw.1 hin); go_simp)⟩) hHeld ?_
                try simp only [Act.put, List.setIfInBounds_toArray, List.set_cons_zero, List.set_cons_succ]
                refine wpAnyH_ready (rs := [21, 36]) (by kernel_rfl) (by simp) ?_
                refine AllReadyH.cons rfl (fun K hK => ?_) ?_
                · go_simp
                  refine (data_of (y i).2.2.2.1 _).mono ?_
                  rintro e w13 ⟨rfl, hb⟩
                  have hE := hE.nob (Only.of_below hb)
                  refine hK.out _ _ hE.hF (fun hHeld => ?_)
                  clear hK K hb
                  simp only [List.setIfInBounds_toArray, List.set_cons_zero, List.set_cons_succ]
                  refine wpAnyH_ready (rs := [32, 36]) (by kernel_rfl) (by simp) ?_
                  refine AllReadyH.cons rfl (fun K hK => ?_) ?_
                  · go_simp
                    refine (hE.stepZ HC.out ⟨(y i).1, (y i).2.1, (y i).2.2.1, dw (y i).2.2.2.1, (y i).2.2.2.2.1, (y i).2.2.2.2.2⟩ (by show v.k + 1 < 20000; omega) r1.1 (fun j => dw_rng _ j)).mono ?_
                    rintro e w13 ⟨rfl, o', ho', hE'⟩
                    have HOr := Lib.hid ho'
                    clear hE ho'
                    have hE := hE'
                    clear hE'
                    refine hK.out _ _ hE.hF (fun hHeld => ?_)
                    clear hK K
                    simp only [List.setIfInBounds_toArray, List.set_cons_zero, List.set_cons_succ]
                    refine wpAnyH_take (i := 33) (oi := ⟨some 144, _, _, _, _, _⟩) (v := (.tuple #[.agg (DA (fun j => acW N S D T 1 ⟨(y i).1, (y i).2.1, (y i).2.2.1, dw (y i).2.2.2.1, (y i).2.2.2.2.1, (y i).2.2.2.2.2⟩ v.M2 (3 + j))), .bool (acW N S D T 1 ⟨(y i).1, (y i).2.1, (y i).2.2.1, dw (y i).2.2.2.1, (y i).2.2.2.2.1, (y i).2.2.2.2.2⟩ v.M2 0 == 1)])) rfl (by kernel_rfl) (by kernel_rfl) (by kernel_rfl) (fun _ _ _ h => h) (Or.inl ⟨by rfl, fun w' hw => by go_simp⟩) hHeld ?_
                    try simp only [Act.put, List.setIfInBounds_toArray, List.set_cons_zero, List.set_cons_succ]
                    refine wpAnyH_take (i := 34) (oi := ⟨some 178, _, _, _, _, _⟩) (v := (.agg (DA (fun j => acW N S D T 1 ⟨(y i).1, (y i).2.1, (y i).2.2.1, dw (y i).2.2.2.1, (y i).2.2.2.2.1, (y i).2.2.2.2.2⟩ v.M2 (3 + j))))) rfl (by kernel_rfl) (by kernel_rfl) (by kernel_rfl) (fun _ _ _ h => h) (Or.inl ⟨by rfl, fun w' hw => by go_simp⟩) hHeld ?_
                    try simp only [Act.put, List.setIfInBounds_toArray, List.set_cons_zero, List.set_cons_succ]
                    refine wpAnyH_take (i := 35) (oi := ⟨some 179, _, _, _, _, _⟩) (v := (.bool (acW N S D T 1 ⟨(y i).1, (y i).2.1, (y i).2.2.1, dw (y i).2.2.2.1, (y i).2.2.2.2.1, (y i).2.2.2.2.2⟩ v.M2 0 == 1))) rfl (by kernel_rfl) (by kernel_rfl) (by kernel_rfl) (fun _ _ _ h => h) (Or.inl ⟨by rfl, fun w' hw => by go_simp⟩) hHeld ?_
                    try simp only [Act.put, List.setIfInBounds_toArray, List.set_cons_zero, List.set_cons_succ]
                    refine one_ready 36 rfl (by kernel_rfl) (fun K hK => ?_)
                    go_simp
                    obtain ⟨bb, hbb⟩ := tw_size hE
                    have hxz : ¬ ((fun i => Z i ∨ i = xb)) bb := fun h => by have := hE.mem h; omega
                    have hwb : w.heap.size ≤ bb := by have := hE.kp.size; omega
                    have hE' := hE.box 48 #[.int .u64 0, .int .u64 0, .int .u64 0, .int .u64 0, .int .u64 0, .int .u64 0, .int .u64 0, .int .u64 0] hbb
                    rw [hbb]
                    clear hE hbb
                    have hE := hE'
                    clear hE'
                    refine hK.out _ _ hE.hF.1 (fun hHeld => ?_)
                    clear hK K
                    simp only [List.setIfInBounds_toArray, List.set_cons_zero, List.set_cons_succ]
                    refine one_ready 37 (o := ⟨none, _, _, _, _, _⟩) rfl (by kernel_rfl) (fun K hK => ?_)
                    refine step_store_data rfl (.tmp 27) (.tmp 178) rfl bb 0 rfl (fun j => acW N S D T 1 ⟨(y i).1, (y i).2.1, (y i).2.2.1, dw (y i).2.2.2.1, (y i).2.2.2.2.1, (y i).2.2.2.2.2⟩ v.M2 (3 + j)) rfl (hE.hF.2.there 8 (by decide)) ?_
                    have hR := World.rangeAt_setCells_same _ bb 0 (DA (fun j => acW N S D T 1 ⟨(y i).1, (y i).2.1, (y i).2.2.1, dw (y i).2.2.2.1, (y i).2.2.2.2.1, (y i).2.2.2.2.2⟩ v.M2 (3 + j))).toList (hE.hF.2.there 8 (by decide))
                    have hE' := hE.anew (Z0 := (fun i => Z i ∨ i = xb)) (b := bb) (only_setCells (S := just bb) (DA (fun j => acW N S D T 1 ⟨(y i).1, (y i).2.1, (y i).2.2.1, dw (y i).2.2.2.1, (y i).2.2.2.2.1, (y i).2.2.2.2.2⟩ v.M2 (3 + j))).toList 0 _ (Only.refl _ _) (.inl (just_self _))) (fun i hi => .inl hi) HSt1.out hxz (.inr rfl) hwb hR (fun _ _ _ hk g => hk.range g (.inr rfl))
                    clear hE hR
                    have hE := hE'
                    clear hE'
                    refine hK.out _ _ hE.hF.1 (fun hHeld => ?_)
                    clear hK K
                    simp only [List.setIfInBounds_toArray, List.set_cons_zero, List.set_cons_succ]
                    refine wpAnyH_take (i := 38) (oi := ⟨some 28, _, _, _, _, _⟩) (v := (.bool (acW N S D T 1 ⟨(y i).1, (y i).2.1, (y i).2.2.1, dw (y i).2.2.2.1, (y i).2.2.2.2.1, (y i).2.2.2.2.2⟩ v.M2 0 == 1))) rfl (by kernel_rfl) (by kernel_rfl) (by kernel_rfl) (fun _ _ _ h => h) (Or.inl ⟨by rfl, fun w' hw => by go_simp⟩) hHeld ?_
                    try simp only [Act.put, List.setIfInBounds_toArray, List.set_cons_zero, List.set_cons_succ]
                    refine wpAnyH_done (by kernel_rfl) ?_ _
                    clear hHeld
                    go_wp2_with fail
                    go_meet
                    case rel => 
                      have htold := ac_told (N := N) (S := S) (D := D) (T := T) (a := ⟨(y i).1, (y i).2.1, (y i).2.2.1, dw (y i).2.2.2.1, (y i).2.2.2.2.1, (y i).2.2.2.2.2⟩) hte.eq
                      rw [← htold] at hE ⊢
                      exact ⟨bb, o', rfl, rfl, HOr.out, hwb, hxz, hE⟩
                  · refine AllReadyH.cons rfl (fun K hK => ?_) AllReadyH.nil
                    go_simp
                    obtain ⟨bb, hbb⟩ := tw_size hE
                    have hxz : ¬ ((fun i => Z i ∨ i = xb)) bb := fun h => by have := hE.mem h; omega
                    have hwb : w.heap.size ≤ bb := by have := hE.kp.size; omega
                    have hE' := hE.box 48 #[.int .u64 0, .int .u64 0, .int .u64 0, .int .u64 0, .int .u64 0, .int .u64 0, .int .u64 0, .int .u64 0] hbb
                    rw [hbb]
                    clear hE hbb
                    have hE := hE'
                    clear hE'
                    refine hK.out _ _ hE.hF.1 (fun hHeld => ?_)
                    clear hK K
                    simp only [List.setIfInBounds_toArray, List.set_cons_zero, List.set_cons_succ]
                    refine one_ready 32 rfl (by kernel_rfl) (fun K hK => ?_)
                    go_simp
                    refine (hE.stepZ HC.out ⟨(y i).1, (y i).2.1, (y i).2.2.1, dw (y i).2.2.2.1, (y i).2.2.2.2.1, (y i).2.2.2.2.2⟩ (by show v.k + 1 < 20000; omega) r1.1 (fun j => dw_rng _ j)).mono ?_
                    rintro e w13 ⟨rfl, o', ho', hE'⟩
                    have HOr := Lib.hid ho'
                    clear hE ho'
                    have hE := hE'
                    clear hE'
                    refine hK.out _ _ hE.hF.1 (fun hHeld => ?_)
                    clear hK K
                    simp only [List.setIfInBounds_toArray, List.set_cons_zero, List.set_cons_succ]
                    refine wpAnyH_take (i := 33) (oi := ⟨some 144, _, _, _, _, _⟩) (v := (.tuple #[.agg (DA (fun j => acW N S D T 1 ⟨(y i).1, (y i).2.1, (y i).2.2.1, dw (y i).2.2.2.1, (y i).2.2.2.2.1, (y i).2.2.2.2.2⟩ v.M2 (3 + j))), .bool (acW N S D T 1 ⟨(y i).1, (y i).2.1, (y i).2.2.1, dw (y i).2.2.2.1, (y i).2.2.2.2.1, (y i).2.2.2.2.2⟩ v.M2 0 == 1)])) rfl (by kernel_rfl) (by kernel_rfl) (by kernel_rfl) (fun _ _ _ h => h) (Or.inl ⟨by rfl, fun w' hw => by go_simp⟩) hHeld ?_
                    try simp only [Act.put, List.setIfInBounds_toArray, List.set_cons_zero, List.set_cons_succ]
                    refine wpAnyH_take (i := 34) (oi := ⟨some 178, _, _, _, _, _⟩) (v := (.agg (DA (fun j => acW N S D T 1 ⟨(y i).1, (y i).2.1, (y i).2.2.1, dw (y i).2.2.2.1, (y i).2.2.2.2.1, (y i).2.2.2.2.2⟩ v.M2 (3 + j))))) rfl (by kernel_rfl) (by kernel_rfl) (by kernel_rfl) (fun _ _ _ h => h) (Or.inl ⟨by rfl, fun w' hw => by go_simp⟩) hHeld ?_
                    try simp only [Act.put, List.setIfInBounds_toArray, List.set_cons_zero, List.set_cons_succ]
                    refine wpAnyH_take (i := 35) (oi := ⟨some 179, _, _, _, _, _⟩) (v := (.bool (acW N S D T 1 ⟨(y i).1, (y i).2.1, (y i).2.2.1, dw (y i).2.2.2.1, (y i).2.2.2.2.1, (y i).2.2.2.2.2⟩ v.M2 0 == 1))) rfl (by kernel_rfl) (by kernel_rfl) (by kernel_rfl) (fun _ _ _ h => h) (Or.inl ⟨by rfl, fun w' hw => by go_simp⟩) hHeld ?_
                    try simp only [Act.put, List.setIfInBounds_toArray, List.set_cons_zero, List.set_cons_succ]
                    refine one_ready 37 (o := ⟨none, _, _, _, _, _⟩) rfl (by kernel_rfl) (fun K hK => ?_)
                    refine step_store_data rfl (.tmp 27) (.tmp 178) rfl bb 0 rfl (fun j => acW N S D T 1 ⟨(y i).1, (y i).2.1, (y i).2.2.1, dw (y i).2.2.2.1, (y i).2.2.2.2.1, (y i).2.2.2.2.2⟩ v.M2 (3 + j)) rfl (hE.hF.2.there 8 (by decide)) ?_
                    have hR := World.rangeAt_setCells_same _ bb 0 (DA (fun j => acW N S D T 1 ⟨(y i).1, (y i).2.1, (y i).2.2.1, dw (y i).2.2.2.1, (y i).2.2.2.2.1, (y i).2.2.2.2.2⟩ v.M2 (3 + j))).toList (hE.hF.2.there 8 (by decide))
                    have hE' := hE.anew (Z0 := (fun i => Z i ∨ i = xb)) (b := bb) (only_setCells (S := just bb) (DA (fun j => acW N S D T 1 ⟨(y i).1, (y i).2.1, (y i).2.2.1, dw (y i).2.2.2.1, (y i).2.2.2.2.1, (y i).2.2.2.2.2⟩ v.M2 (3 + j))).toList 0 _ (Only.refl _ _) (.inl (just_self _))) (fun i hi => .inl hi) HSt1.out hxz (.inr rfl) hwb hR (fun _ _ _ hk g => hk.range g (.inr rfl))
                    clear hE hR
                    have hE := hE'
                    clear hE'
                    refine hK.out _ _ hE.hF.1 (fun hHeld => ?_)
                    clear hK K
                    simp only [List.setIfInBounds_toArray, List.set_cons_zero, List.set_cons_succ]
                    refine wpAnyH_take (i := 38) (oi := ⟨some 28, _, _, _, _, _⟩) (v := (.bool (acW N S D T 1 ⟨(y i).1, (y i).2.1, (y i).2.2.1, dw (y i).2.2.2.1, (y i).2.2.2.2.1, (y i).2.2.2.2.2⟩ v.M2 0 == 1))) rfl (by kernel_rfl) (by kernel_rfl) (by kernel_rfl) (fun _ _ _ h => h) (Or.inl ⟨by rfl, fun w' hw => by go_simp⟩) hHeld ?_
                    try simp only [Act.put, List.setIfInBounds_toArray, List.set_cons_zero, List.set_cons_succ]
                    refine wpAnyH_done (by kernel_rfl) ?_ _
                    clear hHeld
                    go_wp2_with fail
                    go_meet
                    case rel => 
                      have htold := ac_told (N := N) (S := S) (D := D) (T := T) (a := ⟨(y i).1, (y i).2.1, (y i).2.2.1, dw (y i).2.2.2.1, (y i).2.2.2.2.1, (y i).2.2.2.2.2⟩) hte.eq
                      rw [← htold] at hE ⊢
                      exact ⟨bb, o', rfl, rfl, HOr.out, hwb, hxz, hE⟩
                · refine AllReadyH.cons rfl (fun K hK => ?_) AllReadyH.nil
                  go_simp
                  obtain ⟨bb, hbb⟩ := tw_size hE
                  have hxz : ¬ ((fun i => Z i ∨ i = xb)) bb := fun h => by have := hE.mem h; omega
                  have hwb : w.heap.size ≤ bb := by have := hE.kp.size; omega
                  have hE' := hE.box 48 #[.int .u64 0, .int .u64 0, .int .u64 0, .int .u64 0, .int .u64 0, .int .u64 0, .int .u64 0, .int .u64 0] hbb
                  rw [hbb]
                  clear hE hbb
                  have hE := hE'
                  clear hE'
                  refine hK.out _ _ hE.hF.1 (fun hHeld => ?_)
                  clear hK K
                  simp only [List.setIfInBounds_toArray, List.set_cons_zero, List.set_cons_succ]
                  refine one_ready 21 rfl (by kernel_rfl) (fun K hK => ?_)
                  go_simp
                  refine (data_of (y i).2.2.2.1 _).mono ?_
                  rintro e w13 ⟨rfl, hb⟩
                  have hE := hE.nob (Only.of_below hb)
                  refine hK.out _ _ hE.hF.1 (fun hHeld => ?_)
                  clear hK K hb
                  simp only [List.setIfInBounds_toArray, List.set_cons_zero, List.set_cons_succ]
                  refine one_ready 32 rfl (by kernel_rfl) (fun K hK => ?_)
                  go_simp
                  refine (hE.stepZ HC.out ⟨(y i).1, (y i).2.1, (y i).2.2.1, dw (y i).2.2.2.1, (y i).2.2.2.2.1, (y i).2.2.2.2.2⟩ (by show v.k + 1 < 20000; omega) r1.1 (fun j => dw_rng _ j)).mono ?_
                  rintro e w13 ⟨rfl, o', ho', hE'⟩
                  have HOr := Lib.hid ho'
                  clear hE ho'
                  have hE := hE'
                  clear hE'
                  refine hK.out _ _ hE.hF.1 (fun hHeld => ?_)
                  clear hK K
                  simp only [List.setIfInBounds_toArray, List.set_cons_zero, List.set_cons_succ]
                  refine wpAnyH_take (i := 33) (oi := ⟨some 144, _, _, _, _, _⟩) (v := (.tuple #[.agg (DA (fun j => acW N S D T 1 ⟨(y i).1, (y i).2.1, (y i).2.2.1, dw (y i).2.2.2.1, (y i).2.2.2.2.1, (y i).2.2.2.2.2⟩ v.M2 (3 + j))), .bool (acW N S D T 1 ⟨(y i).1, (y i).2.1, (y i).2.2.1, dw (y i).2.2.2.1, (y i).2.2.2.2.1, (y i).2.2.2.2.2⟩ v.M2 0 == 1)])) rfl (by kernel_rfl) (by kernel_rfl) (by kernel_rfl) (fun _ _ _ h => h) (Or.inl ⟨by rfl, fun w' hw => by go_simp⟩) hHeld ?_
                  try simp only [Act.put, List.setIfInBounds_toArray, List.set_cons_zero, List.set_cons_succ]
                  refine wpAnyH_take (i := 34) (oi := ⟨some 178, _, _, _, _, _⟩) (v := (.agg (DA (fun j => acW N S D T 1 ⟨(y i).1, (y i).2.1, (y i).2.2.1, dw (y i).2.2.2.1, (y i).2.2.2.2.1, (y i).2.2.2.2.2⟩ v.M2 (3 + j))))) rfl (by kernel_rfl) (by kernel_rfl) (by kernel_rfl) (fun _ _ _ h => h) (Or.inl ⟨by rfl, fun w' hw => by go_simp⟩) hHeld ?_
                  try simp only [Act.put, List.setIfInBounds_toArray, List.set_cons_zero, List.set_cons_succ]
                  refine wpAnyH_take (i := 35) (oi := ⟨some 179, _, _, _, _, _⟩) (v := (.bool (acW N S D T 1 ⟨(y i).1, (y i).2.1, (y i).2.2.1, dw (y i).2.2.2.1, (y i).2.2.2.2.1, (y i).2.2.2.2.2⟩ v.M2 0 == 1))) rfl (by kernel_rfl) (by kernel_rfl) (by kernel_rfl) (fun _ _ _ h => h) (Or.inl ⟨by rfl, fun w' hw => by go_simp⟩) hHeld ?_
                  try simp only [Act.put, List.setIfInBounds_toArray, List.set_cons_zero, List.set_cons_succ]
                  refine one_ready 37 (o := ⟨none, _, _, _, _, _⟩) rfl (by kernel_rfl) (fun K hK => ?_)
                  refine step_store_data rfl (.tmp 27) (.tmp 178) rfl bb 0 rfl (fun j => acW N S D T 1 ⟨(y i).1, (y i).2.1, (y i).2.2.1, dw (y i).2.2.2.1, (y i).2.2.2.2.1, (y i).2.2.2.2.2⟩ v.M2 (3 + j)) rfl (hE.hF.2.there 8 (by decide)) ?_
                  have hR := World.rangeAt_setCells_same _ bb 0 (DA (fun j => acW N S D T 1 ⟨(y i).1, (y i).2.1, (y i).2.2.1, dw (y i).2.2.2.1, (y i).2.2.2.2.1, (y i).2.2.2.2.2⟩ v.M2 (3 + j))).toList (hE.hF.2.there 8 (by decide))
                  have hE' := hE.anew (Z0 := (fun i => Z i ∨ i = xb)) (b := bb) (only_setCells (S := just bb) (DA (fun j => acW N S D T 1 ⟨(y i).1, (y i).2.1, (y i).2.2.1, dw (y i).2.2.2.1, (y i).2.2.2.2.1, (y i).2.2.2.2.2⟩ v.M2 (3 + j))).toList 0 _ (Only.refl _ _) (.inl (just_self _))) (fun i hi => .inl hi) HSt1.out hxz (.inr rfl) hwb hR (fun _ _ _ hk g => hk.range g (.inr rfl))
                  clear hE hR
                  have hE := hE'
                  clear hE'
                  refine hK.out _ _ hE.hF.1 (fun hHeld => ?_)
                  clear hK K
                  simp only [List.setIfInBounds_toArray, List.set_cons_zero, List.set_cons_succ]
                  refine wpAnyH_take (i := 38) (oi := ⟨some 28, _, _, _, _, _⟩) (v := (.bool (acW N S D T 1 ⟨(y i).1, (y i).2.1, (y i).2.2.1, dw (y i).2.2.2.1, (y i).2.2.2.2.1, (y i).2.2.2.2.2⟩ v.M2 0 == 1))) rfl (by kernel_rfl) (by kernel_rfl) (by kernel_rfl) (fun _ _ _ h => h) (Or.inl ⟨by rfl, fun w' hw => by go_simp⟩) hHeld ?_
                  try simp only [Act.put, List.setIfInBounds_toArray, List.set_cons_zero, List.set_cons_succ]
                  refine wpAnyH_done (by kernel_rfl) ?_ _
                  clear hHeld
                  go_wp2_with fail
                  go_meet
                  case rel => 
                    have htold := ac_told (N := N) (S := S) (D := D) (T := T) (a := ⟨(y i).1, (y i).2.1, (y i).2.2.1, dw (y i).2.2.2.1, (y i).2.2.2.2.1, (y i).2.2.2.2.2⟩) hte.eq
                    rw [← htold] at hE ⊢
                    exact ⟨bb, o', rfl, rfl, HOr.out, hwb, hxz, hE⟩
            case rest =>
              as_aux_lemma =>
                clear hE
                obtain ⟨xc, o2, rfl, rfl, ho2, hwc, hzc, hE⟩ := hcut
                have hte2 := hte.next HOx.out ho2 HC.out.s1 HC.out.hN
                clear ho2 hwc hzc
                go_upto_region 21 with fail
                have hE := hE.drew
                refine held_s (S := (fun u => (Stps u w.heap.size (some ⟨sb, so, none⟩) nl y ∧ u.rangeAt xb 0 (DA (fun j => acW N S D T 0 ⟨(y i).1, (y i).2.1, (y i).2.2.1, dw (y i).2.2.2.1, (y i).2.2.2.2.1, (y i).2.2.2.2.2⟩ v.M (3 + j))).toList) ∧ u.rangeAt xc 0 (DA (fun j => acW N S D T 0 ⟨(y i).1, (y i).2.1, (y i).2.2.1, dw (y i).2.2.2.1, (y i).2.2.2.2.1, (y i).2.2.2.2.2⟩ v.M (3 + j))).toList)) 34 rfl (by kernel_rfl) hE.hF (fun hHeld => ?_)
                simp only [Array.replicate_succ, Array.replicate_zero, List.push_toArray, List.nil_append, List.cons_append]
                generalize World.drew _ = wd at *
                refine wpAnyH_take (i := 0) (oi := ⟨some 180, _, _, _, _, _⟩) (v := (.pointer (some ⟨ly, 0, none⟩))) rfl (by kernel_rfl) (by kernel_rfl) (by kernel_rfl) (fun _ _ _ h => h) (Or.inl ⟨by rfl, fun w' hw => by go_simp⟩) hHeld ?_
                try simp only [Act.put, List.setIfInBounds_toArray, List.set_cons_zero, List.set_cons_succ]
                refine wpAnyH_take (i := 1) (oi := ⟨some 181, _, _, _, _, _⟩) (v := (.slice (some ⟨sb, so, none⟩) nl c)) rfl (by kernel_rfl) (by kernel_rfl) (by kernel_rfl) (fun _ _ _ h => h) (Or.inl ⟨by rfl, fun w' hw => by go_simp⟩) hHeld ?_
                try simp only [Act.put, List.setIfInBounds_toArray, List.set_cons_zero, List.set_cons_succ]
                refine wpAnyH_take (i := 2) (oi := ⟨some 182, _, _, _, _, _⟩) (v := (.int .i64 (i : Int))) rfl (by kernel_rfl) (by kernel_rfl) (by kernel_rfl) (fun _ _ _ h => h) (Or.inl ⟨by rfl, fun w' hw => by go_simp⟩) hHeld ?_
                try simp only [Act.put, List.setIfInBounds_toArray, List.set_cons_zero, List.set_cons_succ]
                refine wpAnyH_take (i := 3) (oi := ⟨some 183, _, _, _, _, _⟩) (v := (.pointer (some ⟨sb, so + i * 6, none⟩))) rfl (by kernel_rfl) (by kernel_rfl) (by kernel_rfl) (fun _ _ _ h => h) (Or.inl ⟨by rfl, fun w' hw => by go_simp⟩) hHeld ?_
                try simp only [Act.put, List.setIfInBounds_toArray, List.set_cons_zero, List.set_cons_succ]
                refine wpAnyH_take (i := 4) (oi := ⟨some 184, _, _, _, _, _⟩) (v := (.pointer (some ⟨sb, so + i * 6, none⟩))) rfl (by kernel_rfl) (by kernel_rfl) (by kernel_rfl) (fun _ _ _ h => h) (Or.inl ⟨by rfl, fun w' hw => by go_simp⟩) hHeld ?_
                try simp only [Act.put, List.setIfInBounds_toArray, List.set_cons_zero, List.set_cons_succ]
                refine wpAnyH_take (i := 5) (oi := ⟨some 185, _, _, _, _, _⟩) (v := (.int .i64 (y i).1)) rfl (by kernel_rfl) (by kernel_rfl) (by kernel_rfl) (fun _ _ _ h => h) (Or.inl ⟨by rfl, fun w' hw => by (obtain ⟨q0, q1, q2, q3, q4, q5⟩ := st_cells (st_in hw.1.1 hin); go_simp)⟩) hHeld ?_
                try simp only [Act.put, List.setIfInBounds_toArray, List.set_cons_zero, List.set_cons_succ]
                refine wpAnyH_take (i := 6) (oi := ⟨some 186, _, _, _, _, _⟩) (v := (.slice (some ⟨sb, so, none⟩) nl c)) rfl (by kernel_rfl) (by kernel_rfl) (by kernel_rfl) (fun _ _ _ h => h) (Or.inl ⟨by rfl, fun w' hw => by go_simp⟩) hHeld ?_
                try simp only [Act.put, List.setIfInBounds_toArray, List.set_cons_zero, List.set_cons_succ]
                refine wpAnyH_take (i := 7) (oi := ⟨some 187, _, _, _, _, _⟩) (v := (.int .i64 (i : Int))) rfl (by kernel_rfl) (by kernel_rfl) (by kernel_rfl) (fun _ _ _ h => h) (Or.inl ⟨by rfl, fun w' hw => by go_simp⟩) hHeld ?_
                try simp only [Act.put, List.setIfInBounds_toArray, List.set_cons_zero, List.set_cons_succ]
                refine wpAnyH_take (i := 8) (oi := ⟨some 188, _, _, _, _, _⟩) (v := (.pointer (some ⟨sb, so + i * 6, none⟩))) rfl (by kernel_rfl) (by kernel_rfl) (by kernel_rfl) (fun _ _ _ h => h) (Or.inl ⟨by rfl, fun w' hw => by go_simp⟩) hHeld ?_
                try simp only [Act.put, List.setIfInBounds_toArray, List.set_cons_zero, List.set_cons_succ]
                refine wpAnyH_take (i := 9) (oi := ⟨some 189, _, _, _, _, _⟩) (v := (.pointer (some ⟨sb, so + i * 6 + 1, none⟩))) rfl (by kernel_rfl) (by kernel_rfl) (by kernel_rfl) (fun _ _ _ h => h) (Or.inl ⟨by rfl, fun w' hw => by go_simp⟩) hHeld ?_
                try simp only [Act.put, List.setIfInBounds_toArray, List.set_cons_zero, List.set_cons_succ]
                refine wpAnyH_take (i := 10) (oi := ⟨some 190, _, _, _, _, _⟩) (v := (.int .u64 (y i).2.1)) rfl (by kernel_rfl) (by kernel_rfl) (by kernel_rfl) (fun _ _ _ h => h) (Or.inl ⟨by rfl, fun w' hw => by (obtain ⟨q0, q1, q2, q3, q4, q5⟩ := st_cells (st_in hw.1.1 hin); go_simp)⟩) hHeld ?_
                try simp only [Act.put, List.setIfInBounds_toArray, List.set_cons_zero, List.set_cons_succ]
                refine wpAnyH_take (i := 11) (oi := ⟨some 191, _, _, _, _, _⟩) (v := (.slice (some ⟨sb, so, none⟩) nl c)) rfl (by kernel_rfl) (by kernel_rfl) (by kernel_rfl) (fun _ _ _ h => h) (Or.inl ⟨by rfl, fun w' hw => by go_simp⟩) hHeld ?_
                try simp only [Act.put, List.setIfInBounds_toArray, List.set_cons_zero, List.set_cons_succ]
                refine wpAnyH_take (i := 12) (oi := ⟨some 192, _, _, _, _, _⟩) (v := (.int .i64 (i : Int))) rfl (by kernel_rfl) (by kernel_rfl) (by kernel_rfl) (fun _ _ _ h => h) (Or.inl ⟨by rfl, fun w' hw => by go_simp⟩) hHeld ?_
                try simp only [Act.put, List.setIfInBounds_toArray, List.set_cons_zero, List.set_cons_succ]
                refine wpAnyH_take (i := 13) (oi := ⟨some 193, _, _, _, _, _⟩) (v := (.pointer (some ⟨sb, so + i * 6, none⟩))) rfl (by kernel_rfl) (by kernel_rfl) (by kernel_rfl) (fun _ _ _ h => h) (Or.inl ⟨by rfl, fun w' hw => by go_simp⟩) hHeld ?_
                try simp only [Act.put, List.setIfInBounds_toArray, List.set_cons_zero, List.set_cons_succ]
                refine wpAnyH_take (i := 14) (oi := ⟨some 194, _, _, _, _, _⟩) (v := (.pointer (some ⟨sb, so + i * 6 + 2, none⟩))) rfl (by kernel_rfl) (by kernel_rfl) (by kernel_rfl) (fun _ _ _ h => h) (Or.inl ⟨by rfl, fun w' hw => by go_simp⟩) hHeld ?_
                try simp only [Act.put, List.setIfInBounds_toArray, List.set_cons_zero, List.set_cons_succ]
                refine wpAnyH_take (i := 15) (oi := ⟨some 195, _, _, _, _, _⟩) (v := (.int .i64 (y i).2.2.1)) rfl (by kernel_rfl) (by kernel_rfl) (by kernel_rfl) (fun _ _ _ h => h) (Or.inl ⟨by rfl, fun w' hw => by (obtain ⟨q0, q1, q2, q3, q4, q5⟩ := st_cells (st_in hw.1.1 hin); go_simp)⟩) hHeld ?_
                try simp only [Act.put, List.setIfInBounds_toArray, List.set_cons_zero, List.set_cons_succ]
                refine wpAnyH_take (i := 16) (oi := ⟨some 196, _, _, _, _, _⟩) (v := (.slice (some ⟨sb, so, none⟩) nl c)) rfl (by kernel_rfl) (by kernel_rfl) (by kernel_rfl) (fun _ _ _ h => h) (Or.inl ⟨by rfl, fun w' hw => by go_simp⟩) hHeld ?_
                try simp only [Act.put, List.setIfInBounds_toArray, List.set_cons_zero, List.set_cons_succ]
                refine wpAnyH_take (i := 17) (oi := ⟨some 197, _, _, _, _, _⟩) (v := (.int .i64 (i : Int))) rfl (by kernel_rfl) (by kernel_rfl) (by kernel_rfl) (fun _ _ _ h => h) (Or.inl ⟨by rfl, fun w' hw => by go_simp⟩) hHeld ?_
                try simp only [Act.put, List.setIfInBounds_toArray, List.set_cons_zero, List.set_cons_succ]
                refine wpAnyH_take (i := 18) (oi := ⟨some 198, _, _, _, _, _⟩) (v := (.pointer (some ⟨sb, so + i * 6, none⟩))) rfl (by kernel_rfl) (by kernel_rfl) (by kernel_rfl) (fun _ _ _ h => h) (Or.inl ⟨by rfl, fun w' hw => by go_simp⟩) hHeld ?_
                try simp only [Act.put, List.setIfInBounds_toArray, List.set_cons_zero, List.set_cons_succ]
                refine wpAnyH_take (i := 19) (oi := ⟨some 199, _, _, _, _, _⟩) (v := (.pointer (some ⟨sb, so + i * 6 + 3, none⟩))) rfl (by kernel_rfl) (by kernel_rfl) (by kernel_rfl) (fun _ _ _ h => h) (Or.inl ⟨by rfl, fun w' hw => by go_simp⟩) hHeld ?_
                try simp only [Act.put, List.setIfInBounds_toArray, List.set_cons_zero, List.set_cons_succ]
                refine wpAnyH_take (i := 20) (oi := ⟨some 200, _, _, _, _, _⟩) (v := (.int .u64 (y i).2.2.2.1)) rfl (by kernel_rfl) (by kernel_rfl) (by kernel_rfl) (fun _ _ _ h => h) (Or.inl ⟨by rfl, fun w' hw => by (obtain ⟨q0, q1, q2, q3, q4, q5⟩ := st_cells (st_in hw.1.1 hin); go_simp)⟩) hHeld ?_
                try simp only [Act.put, List.setIfInBounds_toArray, List.set_cons_zero, List.set_cons_succ]
                refine wpAnyH_take (i := 21) (oi := ⟨some 201, _, _, _, _, _⟩) (v := (.int .u64 (IntKind.u64.wrap ((y i).2.2.2.1 + 1)))) rfl (by kernel_rfl) (by kernel_rfl) (by kernel_rfl) (fun _ _ _ h => h) (Or.inl ⟨by rfl, fun w' hw => by go_simp⟩) hHeld ?_
                try simp only [Act.put, List.setIfInBounds_toArray, List.set_cons_zero, List.set_cons_succ]
                refine wpAnyH_take (i := 23) (oi := ⟨some 203, _, _, _, _, _⟩) (v := (.slice (some ⟨sb, so, none⟩) nl c)) rfl (by kernel_rfl) (by kernel_rfl) (by kernel_rfl) (fun _ _ _ h => h) (Or.inl ⟨by rfl, fun w' hw => by go_simp⟩) hHeld ?_
                try simp only [Act.put, List.setIfInBounds_toArray, List.set_cons_zero, List.set_cons_succ]
                refine wpAnyH_take (i := 24) (oi := ⟨some 204, _, _, _, _, _⟩) (v := (.int .i64 (i : Int))) rfl (by kernel_rfl) (by kernel_rfl) (by kernel_rfl) (fun _ _ _ h => h) (Or.inl ⟨by rfl, fun w' hw => by go_simp⟩) hHeld ?_
                try simp only [Act.put, List.setIfInBounds_toArray, List.set_cons_zero, List.set_cons_succ]
                refine wpAnyH_take (i := 25) (oi := ⟨some 205, _, _, _, _, _⟩) (v := (.pointer (some ⟨sb, so + i * 6, none⟩))) rfl (by kernel_rfl) (by kernel_rfl) (by kernel_rfl) (fun _ _ _ h => h) (Or.inl ⟨by rfl, fun w' hw => by go_simp⟩) hHeld ?_
                try simp only [Act.put, List.setIfInBounds_toArray, List.set_cons_zero, List.set_cons_succ]
                refine wpAnyH_take (i := 26) (oi := ⟨some 206, _, _, _, _, _⟩) (v := (.pointer (some ⟨sb, so + i * 6 + 5, none⟩))) rfl (by kernel_rfl) (by kernel_rfl) (by kernel_rfl) (fun _ _ _ h => h) (Or.inl ⟨by rfl, fun w' hw => by go_simp⟩) hHeld ?_
                try simp only [Act.put, List.setIfInBounds_toArray, List.set_cons_zero, List.set_cons_succ]
                refine wpAnyH_take (i := 27) (oi := ⟨some 207, _, _, _, _, _⟩) (v := (.int .i64 (y i).2.2.2.2.2)) rfl (by kernel_rfl) (by kernel_rfl) (by kernel_rfl) (fun _ _ _ h => h) (Or.inl ⟨by rfl, fun w' hw => by (obtain ⟨q0, q1, q2, q3, q4, q5⟩ := st_cells (st_in hw.1.1 hin); go_simp)⟩) hHeld ?_
                try simp only [Act.put, List.setIfInBounds_toArray, List.set_cons_zero, List.set_cons_succ]
                refine wpAnyH_take (i := 28) (oi := ⟨some 208, _, _, _, _, _⟩) (v := (.slice (some ⟨sb, so, none⟩) nl c)) rfl (by kernel_rfl) (by kernel_rfl) (by kernel_rfl) (fun _ _ _ h => h) (Or.inl ⟨by rfl, fun w' hw => by go_simp⟩) hHeld ?_
                try simp only [Act.put, List.setIfInBounds_toArray, List.set_cons_zero, List.set_cons_succ]
                refine wpAnyH_take (i := 29) (oi := ⟨some 209, _, _, _, _, _⟩) (v := (.int .i64 (i : Int))) rfl (by kernel_rfl) (by kernel_rfl) (by kernel_rfl) (fun _ _ _ h => h) (Or.inl ⟨by rfl, fun w' hw => by go_simp⟩) hHeld ?_
                try simp only [Act.put, List.setIfInBounds_toArray, List.set_cons_zero, List.set_cons_succ]
                refine wpAnyH_take (i := 30) (oi := ⟨some 210, _, _, _, _, _⟩) (v := (.pointer (some ⟨sb, so + i * 6, none⟩))) rfl (by kernel_rfl) (by kernel_rfl) (by kernel_rfl) (fun _ _ _ h => h) (Or.inl ⟨by rfl, fun w' hw => by go_simp⟩) hHeld ?_
                try simp only [Act.put, List.setIfInBounds_toArray, List.set_cons_zero, List.set_cons_succ]
                refine wpAnyH_take (i := 31) (oi := ⟨some 211, _, _, _, _, _⟩) (v := (.pointer (some ⟨sb, so + i * 6 + 4, none⟩))) rfl (by kernel_rfl) (by kernel_rfl) (by kernel_rfl) (fun _ _ _ h => h) (Or.inl ⟨by rfl, fun w' hw => by go_simp⟩) hHeld ?_
                try simp only [Act.put, List.setIfInBounds_toArray, List.set_cons_zero, List.set_cons_succ]
                refine wpAnyH_take (i := 32) (oi := ⟨some 212, _, _, _, _, _⟩) (v := (.int .i64 (y i).2.2.2.2.1)) rfl (by kernel_rfl) (by kernel_rfl) (by kernel_rfl) (fun _ _ _ h => h) (Or.inl ⟨by rfl, fun w' hw => by (obtain ⟨q0, q1, q2, q3, q4, q5⟩ := st_cells (st_in hw.1.1 hin); go_simp)⟩) hHeld ?_
                try simp only [Act.put, List.setIfInBounds_toArray, List.set_cons_zero, List.set_cons_succ]
                refine one_ready 22 rfl (by kernel_rfl) (fun K hK => ?_)
                go_simp
                refine (data_of (IntKind.u64.wrap ((y i).2.2.2.1 + 1)) _).mono ?_
                rintro e w13 ⟨rfl, hb⟩
                have hE := hE.nob (Only.of_below hb)
                refine hK.out _ _ hE.hF (fun hHeld => ?_)
                clear hK K hb
                simp only [List.setIfInBounds_toArray, List.set_cons_zero, List.set_cons_succ]
                refine one_ready 33 rfl (by kernel_rfl) (fun K hK => ?_)
                go_simp
                refine (hE.stepY HC2.out ⟨(y i).1, (y i).2.1, (y i).2.2.1, dw (IntKind.u64.wrap ((y i).2.2.2.1 + 1)), (y i).2.2.2.2.2, (y i).2.2.2.2.1⟩ (by show v.k + 1 + 1 < 20000; omega) r1.1 (fun j => dw_rng _ j)).mono ?_
                rintro e w13 ⟨⟨x, rfl⟩, o3, oy3, Iy3, hE'⟩
                clear hE
                have hE := hE'
                clear hE'
                refine hK.out _ _ hE.hF (fun hHeld => ?_)
                clear hK K
                simp only [List.setIfInBounds_toArray, List.set_cons_zero, List.set_cons_succ]
                refine wpAnyH_done (by kernel_rfl) ?_ _
                obtain ⟨v3, hE3, hte3, hk3⟩ : ∃ v3 : TwV, TwS N S T D Q N' S' T' D' Q' mp np lx bx ly yb lz bz w (fun i => (Z i ∨ i = xb) ∨ i = xc) (fun u => (Stps u w.heap.size (some ⟨sb, so, none⟩) nl y ∧ u.rangeAt xb 0 (DA (fun j => acW N S D T 0 ⟨(y i).1, (y i).2.1, (y i).2.2.1, dw (y i).2.2.2.1, (y i).2.2.2.2.1, (y i).2.2.2.2.2⟩ v.M (3 + j))).toList) ∧ u.rangeAt xc 0 (DA (fun j => acW N S D T 0 ⟨(y i).1, (y i).2.1, (y i).2.2.1, dw (y i).2.2.2.1, (y i).2.2.2.2.1, (y i).2.2.2.2.2⟩ v.M (3 + j))).toList) v3 w13 ∧ TwE v3 ∧ v3.k ≤ 3 * (i + 1) := ⟨_, hE, TwE.other (N := N') (S := S') (D := D') (T := T') (P := P') (a := ⟨(y i).1, (y i).2.1, (y i).2.2.1, dw (IntKind.u64.wrap ((y i).2.2.2.1 + 1)), (y i).2.2.2.2.2, (y i).2.2.2.2.1⟩) (o := o3) (oy := oy3) (Iy := Iy3) (k := v.k + 1 + 1 + 1) hte2, by show v.k + 1 + 1 + 1 ≤ _; omega⟩
                have HE := Lib.hid hE3
                have HTe := Lib.hid hte3
                have hRx := Lib.hid hE3.hF.1.2
                have hRz := Lib.hid hE3.hF.2
                have q1 := neq_data (fun j => acW N S D T 0 ⟨(y i).1, (y i).2.1, (y i).2.2.1, dw (y i).2.2.2.1, (y i).2.2.2.2.1, (y i).2.2.2.2.2⟩ v.M (3 + j)) (fun j => acW N S D T 0 ⟨(y i).1, (y i).2.1, (y i).2.2.1, dw (y i).2.2.2.1, (y i).2.2.2.2.1, (y i).2.2.2.2.2⟩ v.M (3 + j))
                rw [deq_self] at q1
                clear hE hE3 hHeld hte hte2 hte3 hvk
                go_wp2_with (first | with_reducible refine wpList_load_data rfl (.tmp 25) rfl xb 0 rfl (fun j => acW N S D T 0 ⟨(y i).1, (y i).2.1, (y i).2.2.1, dw (y i).2.2.2.1, (y i).2.2.2.2.1, (y i).2.2.2.2.2⟩ v.M (3 + j)) hRx.out ?_ | with_reducible refine wpList_load_data rfl (.tmp 27) rfl xc 0 rfl (fun j => acW N S D T 0 ⟨(y i).1, (y i).2.1, (y i).2.2.1, dw (y i).2.2.2.1, (y i).2.2.2.2.1, (y i).2.2.2.2.2⟩ v.M (3 + j)) hRz.out ?_)
                refine (HE.out.overX).mono ?_
                rintro e w20 ⟨rfl, rfl⟩
                go_wp2_with fail
                refine (HE.out.overZ).mono ?_
                rintro e w20 ⟨rfl, rfl⟩
                rw [HTe.out.ov]
                go_wp2_with fail
                refine (HE.out.blocksX).mono ?_
                rintro e w20 ⟨rfl, rfl⟩
                go_wp2_with fail
                refine (HE.out.blocksZ).mono ?_
                rintro e w20 ⟨rfl, rfl⟩
                rw [HTe.out.ids]
                clear q1
                go_wp2_with fail
                go_roundw
                case rel => exact ⟨i + 1, by go_num, by omega, v3, hk3, HTe.out, (HE.out.back (Z0 := (fun i => Z i ∨ i = xb)) (fun i hi => .inl hi) (fun i hi => .inl (HHz.out i hi)) HSt1.out).back (Z0 := Z) (fun i hi => .inl hi) HHz.out HSt.out⟩
                case measure => simp [intOf]; omega
      · have hn' : ¬ (i : Int) < (nl : Int) := by omega
        have HE := Lib.hid hE
        have hft := hte.ft
        clear hE
        go_wp2_with fail
        refine (HE.out.fault).mono ?_
        rintro e w12 ⟨rfl, rfl⟩
        rw [hft]
        go_wp2_with fail
        go_ret
        exact ⟨rfl, HE.out.kp⟩
end Go.Proofs.YtdbjaaalngbpgaaGreat
