/- PathDown: for every number the law returns true, and of what was in memory nothing changes. -/
import Derived.Test.YtelcgkjaiicaeaaPathBuckets
namespace Go.Proofs.Ytelcgkjaiicaeaa
open Go.RowKit Go.Shelf Go.ChangeShapes Go.WideShapes Go.ChangeAt

/-- How often a node is met on the first i depths of a way; on the ways to the first leaves. -/
def visW (L l v : Nat) : Nat → Nat
  | 0 => 0
  | i + 1 => visW L l v i + if nd L l i = v then 1 else 0
def vis (L v : Nat) : Nat → Nat
  | 0 => 0
  | l + 1 => vis L v l + visW L l v (L + 1)
theorem visW_succ (L l v i : Nat) : visW L l v (i + 1) = visW L l v i + if nd L l i = v then 1 else 0 := rfl
theorem visW_le (L l v : Nat) : ∀ i, visW L l v i ≤ i
  | 0 => Nat.le_refl _
  | i + 1 => by
    have := visW_le L l v i
    rw [visW_succ]
    split <;> omega
theorem vis_le (L v : Nat) (hL : L ≤ 8) : ∀ l, vis L v l ≤ 9 * l
  | 0 => Nat.le_refl _
  | l + 1 => by
    have h1 := vis_le L v hL l
    have h2 := visW_le L l v (L + 1)
    show vis L v l + visW L l v (L + 1) ≤ _
    omega
/-- A node of depth k, which part of its depth it is: on a way just at that depth. -/
theorem nd_here (L l i k p : Nat) (hl : l < 2 ^ L) (hi : i ≤ L) (hp : p < 2 ^ k) : nd L l i = 2 ^ k - 1 + p ↔ i = k ∧ l / 2 ^ (L - k) = p := by
  constructor
  · intro h
    have h1 := nd_lt L l i hi hl
    have h2 := nd_ge L l i
    have h6 := two_pow_pos k
    have e : i = k := by
      rcases Nat.lt_trichotomy i k with h5 | h5 | h5
      · have := pow_le (i + 1) k h5; omega
      · exact h5
      · have := pow_le (k + 1) i h5; rw [Nat.pow_succ] at this; omega
    subst e
    refine ⟨rfl, ?_⟩
    unfold nd at h
    omega
  · rintro ⟨rfl, rfl⟩; rfl
theorem visW_is (L l k p : Nat) (hl : l < 2 ^ L) (hp : p < 2 ^ k) : ∀ i, i ≤ L + 1 → visW L l (2 ^ k - 1 + p) i = if k < i ∧ l / 2 ^ (L - k) = p then 1 else 0
  | 0, _ => by rw [if_neg (by omega)]; rfl
  | i + 1, hi => by
    rw [visW_succ, visW_is L l k p hl hp i (by omega)]
    have h := nd_here L l i k p hl (by omega) hp
    by_cases h1 : l / 2 ^ (L - k) = p
    · rcases Nat.lt_trichotomy k i with h2 | h2 | h2
      · rw [if_pos ⟨h2, h1⟩, if_neg (fun e => by have := (h.1 e).1; omega), if_pos ⟨by omega, h1⟩]
      · rw [if_neg (by omega), if_pos (h.2 ⟨h2.symm, h1⟩), if_pos ⟨by omega, h1⟩]
      · rw [if_neg (by omega), if_neg (fun e => by have := (h.1 e).1; omega), if_neg (by omega)]
    · rw [if_neg (fun e => h1 e.2), if_neg (fun e => h1 (h.1 e).2), if_neg (fun e => h1 e.2)]
theorem vis_is (L k p : Nat) (hk : k ≤ L) (hp : p < 2 ^ k) : ∀ n, n ≤ 2 ^ L → vis L (2 ^ k - 1 + p) n = met L k p n
  | 0, _ => rfl
  | n + 1, hn => by
    show vis L _ n + visW L n _ (L + 1) = _
    rw [vis_is L k p hk hp n (by omega), visW_is L n k p (by omega) hp (L + 1) (Nat.le_refl _), met_succ]
    congr 1
    by_cases h : n / 2 ^ (L - k) = p
    · rw [if_pos ⟨by omega, h⟩, if_pos h]
    · rw [if_neg (fun e => h e.2), if_neg h]
theorem vis_all (L k p : Nat) (hk : k ≤ L) (hp : p < 2 ^ k) : vis L (2 ^ k - 1 + p) (2 ^ L) = 2 ^ (L - k) := by
  rw [vis_is L k p hk hp _ (Nat.le_refl _), met_all L k p hk hp]
/-- In the middle of counting. -/
structure DnAt (w : World) (gm n L l i : Nat) (wr : World) : Prop where
  row : wr.rowIs gm 3 (2 * n) (fun v => .int .i64 ((vis L v l + visW L l v i : Nat) : Int))
  old : w.heap.size ≤ gm
  below : Below w.heap.size w wr
section
variable {w wr : World} {gm n L l i : Nat}
theorem DnAt.next (h : DnAt w gm n L l i wr) (k : Nat) : DnAt w gm n L l (i + 1) ((wr.drewN k).setCell ⟨gm, nd L l i, none⟩ (.int .i64 (((vis L (nd L l i) l + visW L l (nd L l i) i : Nat) : Int) + 1))) := by
  refine ⟨?_, h.old, (below_drewN h.below k).setCell (p := ⟨gm, _, none⟩) h.old _⟩
  refine ((row_drewN h.row k).set _ _).congr fun j _ => ?_
  show (if j = nd L l i then _ else _) = _
  rw [visW_succ]
  by_cases e : j = nd L l i
  · subst e
    rw [if_pos rfl, if_pos rfl]
    simp [Int.add_assoc]
  · rw [if_neg e, if_neg (fun x => e x.symm)]
    simp
theorem DnAt.leaf (h : DnAt w gm n L l (L + 1) wr) : DnAt w gm n L (l + 1) 0 wr := ⟨h.row, h.old, h.below⟩
theorem DnAt.grow {wr' : World} (h : DnAt w gm n L l i wr) (hb : Below wr.heap.size wr wr') : DnAt w gm n L l i wr' :=
  ⟨h.row.of_block (hb.block gm h.row.lt), h.old, h.below.trans (hb.mono h.below.size)⟩
end
set_option maxHeartbeats 1000000 in
theorem down_out (L : Int) (h : L < 0 ∨ 8 < L) (w : World) : Calls Try.prog 5 #[.int .i64 L] w fun e w' => e = .returned (.bool true) ∧ Below w.heap.size w w' := by
  go_enter Try.func5, Try.ntmps5
  go_wp2_with fail
  refine (shown_any _).mono ?_
  rintro e w1 ⟨rfl, hb1⟩
  have HB := Lib.hid hb1
  clear hb1
  have hor : (decide (L < 0) || decide (8 < L)) = true := by simp; exact h
  go_wp2_with fail
  all_goals (go_ret; exact ⟨rfl, HB.out⟩)
set_option maxRecDepth 100000 in
set_option maxHeartbeats 4000000 in
theorem down_in (L n : Nat) (hL : L ≤ 8) (hn : 2 ^ L = n) (w : World) : Calls Try.prog 5 #[.int .i64 (L : Int)] w fun e w' => e = .returned (.bool true) ∧ Below w.heap.size w w' := by
  have h0 : decide ((L : Int) < 0) = false := by simp
  have h1 : decide (8 < (L : Int)) = false := by simp; omega
  have hn1 : n ≤ 256 := by rw [← hn]; exact Nat.pow_le_pow_right (by decide) hL
  have hn0 : 0 < n := by rw [← hn]; exact two_pow_pos L
  have hsh := shl_tree L n hn (by omega)
  have e2n : ((2 * n : Nat) : Int) = 2 * (n : Int) := by omega
  have hmk := run_make_row' (P := Try.prog) 27 3 (.int .i64 0) 8 Try.underlying27 infoI64 rfl .i64 .i64 (2 * n) (by omega) (by omega)
  rw [e2n] at hmk
  have WP := Lib.hid (fun W k (hk : k < n) => way_in L n k W (by omega) hn hk)
  have WN := Lib.hid (fun W => path_nodes (n : Int) W (by omega) (by omega))
  rw [ndsI_yes (isTree_two (by omega) hn)] at WN
  have WD := Lib.hid (fun W => path_depth (n : Int) W (by omega) (by omega))
  rw [dpt_two (by omega) hn] at WD
  have N0 := Lib.hid (fun l (hl : l < n) => nd_zero L l (by omega))
  have NL := Lib.hid (fun l => nd_last L l)
  rw [hn] at NL
  have NI := Lib.hid (fun l i (hl : l < n) (hi : i ≤ L) => nd_in L l i hi (by omega))
  rw [hn] at NI
  have ND := Lib.hid (fun l i (hi : i < L) => nd_down L l i hi)
  have NA := Lib.hid (fun v (hv : v < 2 * n - 1) => nd_all L v (by rw [hn]; exact hv))
  have NV := Lib.hid (fun k p (hk : k ≤ L) (hp : p < 2 ^ k) => vis_all L k p hk hp)
  rw [hn] at NV
  have NS := Lib.hid (fun k (hk : k ≤ L) => shr_two L k n hn hk)
  have VL := Lib.hid (fun v l => vis_le L v hL l)
  have VW := Lib.hid (fun l v i => visW_le L l v i)
  clear e2n hn
  go_enter Try.func5, Try.ntmps5
  go_wp2_with fail
  refine (shown_any _).mono ?_
  rintro e w1 ⟨rfl, hb1⟩
  have HD : DnAt w w1.heap.size n L 0 0 (w1.alloc (.cells (madeCells #[.int .i64 0] (2 * n)) 3)) :=
    ⟨World.rowIs_made w1 (.int .i64 0) (2 * n) 3, hb1.size, hb1.alloc hb1.size _⟩
  have HD := Lib.hid HD
  clear hb1
  go_wp2_with fail
  simp only [hsh]
  go_loopw [6] (fun v wr => ∃ l : Nat, v = .int .i64 l ∧ l ≤ n ∧ DnAt w w1.heap.size n L l 0 wr) (fun v _ => n - (intOf v).toNat)
  case atStart => exact ⟨0, rfl, by omega, HD.out⟩
  case round =>
    obtain ⟨l, rfl, hl, hS⟩ := hrel
    clear HD
    have HS := Lib.hid hS
    have hgm := hS.row.lt
    clear hS
    obtain ⟨w9, h9⟩ : ∃ x, x = wr := ⟨_, rfl⟩
    subst h9
    by_cases hlt : l < n
    · have n0 := N0.out l hlt
      have nL := NL.out l
      go_wp2_with fail
      with_reducible refine (WP.out _ l hlt).mono ?_
      rintro e w3 ⟨g, cap, rfl, hc, hi, hb⟩
      have c0 := hi.cell 0 (by omega)
      have cL := hi.cell L (by omega)
      simp only [n0, nL] at c0 cL
      rw [show ((n - 1 + l : Nat) : Int) = (n : Int) - 1 + (l : Int) by omega] at cL
      have HI := Lib.hid hi
      have HS3 := Lib.hid (HS.out.grow hb)
      have hgne : ¬ g = w1.heap.size := by have := hi.old; omega
      clear hi hb n0 nL
      go_wp2_with fail
      go_loopw [8] (fun v wr => ∃ i : Nat, v = .int .i64 i ∧ i ≤ L + 1 ∧ DnAt w w1.heap.size n L l i wr ∧ Ir wr w9.heap.size g (L + 1) (fun k => (nd L l k : Int))) (fun v _ => L + 1 - (intOf v).toNat)
      case atStart => exact ⟨0, rfl, by omega, HS3.out, HI.out⟩
      case round =>
        obtain ⟨i, rfl, hi, hS, hIr⟩ := hrel
        clear HS3 HI c0 cL
        have HIr := Lib.hid hIr
        by_cases hiL : i < L + 1
        · have hin := NI.out l i hlt (by omega)
          have ci := hIr.cell i hiL
          have cm := hS.row.cell (show nd L l i < 2 * n by omega)
          have fm := hS.row.frozen (nd L l i)
          have HX := Lib.hid (fun k => hS.next k)
          have b1 := VL.out (nd L l i) l
          have b2 := VW.out l (nd L l i) i
          have d1 : (i : Int) < (L : Int) + 1 := by omega
          have gne2 : ¬ w1.heap.size = g := fun e => hgne e.symm
          clear hS hIr
          cases i with
          | zero =>
            have hcb : vis L (nd L l 0) l + visW L l (nd L l 0) 0 ≤ 4096 := by omega
            clear b1 b2
            generalize vis L (nd L l 0) l + visW L l (nd L l 0) 0 = cnt at *
            generalize nd L l 0 = m at *
            have d2 : decide ((m : Int) < 0) = false := by simp
            have d3 : decide (2 * (n : Int) - 1 ≤ (m : Int)) = false := by simp; omega
            have d4 : (m : Int) < 2 * (n : Int) := by omega
            go_wp2_with fail
            go_quiet (first | (go_at_call 14; exact Calls.quiet_of_same (WN.out _)))
            go_wp2_with fail
            go_roundw
            case rel => exact ⟨1, rfl, by omega, HX.out nq, (HIr.out.drewN nq).far hgne _⟩
            case measure => simp [intOf]
          | succ j =>
            have cj := HIr.out.cell j (by omega)
            have hdn := ND.out l j (by omega)
            have hcb : vis L (nd L l (j + 1)) l + visW L l (nd L l (j + 1)) (j + 1) ≤ 4096 := by omega
            have hmj : nd L l j ≤ nd L l (j + 1) := by omega
            clear b1 b2
            generalize vis L (nd L l (j + 1)) l + visW L l (nd L l (j + 1)) (j + 1) = cnt at *
            generalize nd L l (j + 1) = m at *
            generalize nd L l j = m' at *
            have ht : m = 2 * m' + 1 ∨ m = 2 * m' + 2 := by omega
            clear hdn
            have d2 : decide ((m : Int) < 0) = false := by simp
            have d3 : decide (2 * (n : Int) - 1 ≤ (m : Int)) = false := by simp; omega
            have d4 : (m : Int) < 2 * (n : Int) := by omega
            have d5 : (0 : Int) < ((j + 1 : Nat) : Int) := by omega
            rcases ht with ht | ht
            · have t1 : ((m : Int) != 2 * (m' : Int) + 1) = false := by rw [bne_eq_false_iff_eq]; omega
              clear ht
              go_wp2_with fail
              go_quiet (first | (go_at_call 14; exact Calls.quiet_of_same (WN.out _)))
              go_wp2_with fail
              go_roundw
              case rel => exact ⟨j + 1 + 1, by go_num, by omega, HX.out nq, (HIr.out.drewN nq).far hgne _⟩
              case measure => simp [intOf]; omega
            · have t1 : ((m : Int) != 2 * (m' : Int) + 1) = true := by rw [bne_iff_ne]; omega
              have t2 : ((m : Int) != 2 * (m' : Int) + 2) = false := by rw [bne_eq_false_iff_eq]; omega
              clear ht
              go_wp2_with fail
              go_quiet (first | (go_at_call 14; exact Calls.quiet_of_same (WN.out _)))
              go_wp2_with fail
              go_roundw
              case rel => exact ⟨j + 1 + 1, by go_num, by omega, HX.out nq, (HIr.out.drewN nq).far hgne _⟩
              case measure => simp [intOf]; omega
        · obtain rfl : i = L + 1 := by omega
          have HN := Lib.hid hS.leaf
          clear hS hIr HIr
          go_wp2_with fail
          go_roundw
          case rel => exact ⟨l + 1, by go_num, by omega, HN.out⟩
          case measure => simp [intOf]; omega
    · have hln : l = n := by omega
      subst hln
      have HR : Hid (w9.rowIs w1.heap.size 3 (2 * l) (fun v => .int .i64 ((vis L v l : Nat) : Int))) := HS.out.row
      have HB := Lib.hid HS.out.below
      clear HS hlt
      go_wp2_with fail
      go_loopw [9] (fun v wr => ∃ v9 : Nat, v = .int .i64 v9 ∧ v9 ≤ 2 * l - 1 ∧ ∃ q, wr = w9.drewN q) (fun v _ => 2 * l - (intOf v).toNat)
      case atStart => exact ⟨0, rfl, by omega, 0, rfl⟩
      case round =>
        obtain ⟨v, rfl, hv, hw⟩ := hrel
        have HW := Lib.hid hw
        clear hw
        obtain ⟨w8, h8⟩ : ∃ x, x = wr := ⟨_, rfl⟩
        subst h8
        by_cases hvl : v < 2 * l - 1
        · obtain ⟨K, p, hK, hp, hvK⟩ := NA.out v hvl
          have hvs := NV.out K p hK hp
          rw [← hvK] at hvs
          have hsr := NS.out K hK
          have cv : w8.cell? ⟨w1.heap.size, v, none⟩ = some (.int .i64 ((2 ^ (L - K) : Nat) : Int)) := by
            obtain ⟨q, hq⟩ := HW.out
            rw [hq, ← hvs]
            exact HR.out.cell (by omega)
          have hst : (v : Int) + 1 = ((2 ^ (K - 0) + p : Nat) : Int) := by
            have := two_pow_pos K
            rw [Nat.sub_zero]; omega
          have HST := Lib.hid hst
          have HP := Lib.hid hp
          have d1 : (v : Int) < 2 * (l : Int) - 1 := by omega
          clear hst hp hvs hvK
          generalize 2 ^ (L - K) = big at *
          go_wp2_with fail
          with_reducible refine (WN.out _).mono ?_
          rintro e w4 ⟨rfl, rfl⟩
          go_wp2_with fail
          go_loopw [10, 11] (fun v10 v11 wr => ∃ c r : Nat, v10 = .int .i64 c ∧ v11 = .int .i64 ((2 ^ (K - c) + r : Nat) : Int) ∧ r < 2 ^ (K - c) ∧ c ≤ K ∧ wr = w4) (fun v10 _ _ => K - (intOf v10).toNat)
          case atStart => exact ⟨0, p, rfl, by rw [← HST.out], HP.out, by omega, rfl⟩
          case round =>
            obtain ⟨c, r, rfl, rfl, hr, hc, rfl⟩ := hrel
            clear HST HP
            by_cases hcK : c < K
            · have e1 : K - c = (K - (c + 1)) + 1 := by omega
              have h2 : 2 ^ (K - c) = 2 * 2 ^ (K - (c + 1)) := by rw [e1, Nat.pow_succ, Nat.mul_comm]
              have h3 := two_pow_pos (K - (c + 1))
              have h4 : 2 ^ (K - c) ≤ 1024 := tree_le (K - c) (by omega)
              clear e1
              generalize 2 ^ (K - c) = x at *
              generalize hy : 2 ^ (K - (c + 1)) = y at *
              have HY := Lib.hid hy
              clear hy
              have hh : ((x + r : Nat) : Int) / 2 = ((y + r / 2 : Nat) : Int) := by omega
              have HH := Lib.hid hh
              have hr2 : r / 2 < y := by omega
              have hx2 : 2 ≤ x := by omega
              clear hh h2
              obtain ⟨t, ht⟩ : ∃ t, t = x + r := ⟨_, rfl⟩
              have ht1 : 1 < t := by omega
              have ht2 : t ≤ 4096 := by omega
              rw [← ht] at HH ⊢
              clear ht
              go_wp2_with fail
              go_roundw
              case rel => exact ⟨c + 1, r / 2, by go_num, by rw [HY.out, ← HH.out], by rw [HY.out]; exact hr2, by omega, trivial⟩
              case measure => simp [intOf]; omega
            · obtain rfl : c = K := by omega
              have e1 : 2 ^ (c - c) + r = 1 := by rw [Nat.sub_self] at hr ⊢; omega
              rw [e1]
              clear hr hcK
              have d4 : (v : Int) < 2 * (l : Int) := by omega
              go_wp2_with fail
              go_quiet (fail)
              go_wp2_with fail
              go_roundw
              case rel =>
                obtain ⟨q, hq⟩ := HW.out
                exact ⟨v + 1, by go_num, by omega, q + nq, by rw [hq]; simp [World.drewN, Nat.add_assoc]⟩
              case measure => simp [intOf]; omega
        · obtain rfl : v = 2 * l - 1 := by omega
          have e1 : ((2 * l - 1 : Nat) : Int) = 2 * (l : Int) - 1 := by omega
          rw [e1]
          clear hvl hv
          go_wp2_with fail
          with_reducible refine (WN.out _).mono ?_
          rintro e w4 ⟨rfl, rfl⟩
          go_wp2_with fail
          with_reducible refine (WD.out _).mono ?_
          rintro e w5 ⟨rfl, rfl⟩
          go_wp2_with fail
          go_ret
          obtain ⟨q, hq⟩ := HW.out
          exact ⟨rfl, by rw [hq]; exact below_drewN HB.out q⟩
theorem down_law (L : Int) (w : World) : Calls Try.prog 5 #[.int .i64 L] w fun e w' => e = .returned (.bool true) ∧ Below w.heap.size w w' := by
  by_cases h : L < 0 ∨ 8 < L
  · exact down_out L h w
  · obtain ⟨k, rfl⟩ := Int.eq_ofNat_of_zero_le (a := L) (by omega)
    exact down_in k _ (by omega) rfl w
end Go.Proofs.Ytelcgkjaiicaeaa
