/- The law PolicyLate, walked: for every ranks and every batch it returns true, and nothing that was in memory changes. Conditions: the slice's cells are words, the batch is an int. -/
import Derived.Test.YtigifbijmchdcaaPolHelp
import Derived.Deep.Cut
import Derived.Deep.QuietTactic
namespace Go.Proofs.Ytigifbijmchdcaa
open Go.RowKit Go.ChangeShapes Go.WideShapes Go.ChangeAt

/-- All of them are expired, or none. -/
def ylt (z : Nat → Int) (e : Bool) (i : Nat) : Pi := ((i : Int), (z i).toNat % 4611686018427387904, e)
theorem ylt_exp (z : Nat → Int) (e : Bool) (n : Nat) : expd (lsP n (ylt z e)) = if e then n else 0 := by
  induction n with
  | zero => cases e <;> rfl
  | succ n ih => rw [expd_succ, ih]; cases e <;> simp [ylt]
theorem dif_self (n : Nat) : dif (n : Int) (n : Int) = 0 := by unfold dif; rw [Int.sub_self]; rfl
theorem ylt_many (z : Nat → Int) (n : Nat) (b : Nat) : kMany (lsP n (ylt z true)) n b = min b n := by
  unfold kMany manyI
  rw [ylt_exp, lsP_len, dif_self, if_pos rfl]
  omega
theorem ylf_many (z : Nat → Int) (n : Nat) (b : Nat) : kMany (lsP n (ylt z false)) n b = 0 := by
  unfold kMany manyI
  rw [ylt_exp, lsP_len, dif_self, if_neg (by decide)]
  omega
/-- The key of what stands at i. -/
def rkI (l : List Pi) (i : Nat) : Nat := ((ranked l).getD i (0, 0)).1
theorem rkI_at {l : List Pi} {i : Nat} {p : Nat × Int} (h : (ranked l)[i]? = some p) : rkI l i = p.1 := by
  unfold rkI; rw [List.getD_eq_getElem?_getD, h]; rfl
theorem rkI_le {l : List Pi} {i : Nat} (h : i + 1 < l.length) : rkI l i ≤ rkI l (i + 1) := by
  have h1 : i < (ranked l).length := by rw [ranked_len]; omega
  have h2 : i + 1 < (ranked l).length := by rw [ranked_len]; omega
  have := ranked_le (l := l) (Nat.lt_succ_self i) (List.getElem?_eq_getElem h1) (List.getElem?_eq_getElem h2)
  rw [kle_iff] at this
  rw [rkI_at (List.getElem?_eq_getElem h1), rkI_at (List.getElem?_eq_getElem h2)]
  omega
/-- The two rows, while they grow. -/
structure LtAt (w : World) (v7 v8 : Value) (z : Nat → Int) (i : Nat) (wr : World) : Prop where
  l : PtAt 29 w v7 (lsP i (ylt z true)) wr
  k : PtAt 29 w v8 (lsP i (ylt z false)) wr
  ne : ∀ g h, v7.ownBlock = some g → v8.ownBlock = some h → g ≠ h
theorem LtAt.grow {w wr wx : World} {v7 v8 : Value} {z : Nat → Int} {i : Nat} (h : LtAt w v7 v8 z i wr) (hb : Below wr.heap.size wr wx) : LtAt w v7 v8 z i wx := ⟨h.l.grow hb, h.k.grow hb, h.ne⟩
set_option maxRecDepth 100000 in
set_option maxHeartbeats 4000000 in
theorem late_law (a0 : Option Addr) (n0 c0 : Nat) (z : Nat → Int) (m1 : Int) (w : World) (hz : Nums .u64 w w.heap.size a0 n0 z) (hw : ∀ j, j < n0 → 0 ≤ z j) (hm : -9223372036854775808 ≤ m1 ∧ m1 ≤ 9223372036854775807) :
    Calls Try.prog 8 #[.slice a0 n0 c0, .int .i64 m1] w fun e w' => e = .returned (.bool true) ∧ Below w.heap.size w w' := by
  have HZ := Lib.hid hz
  have HW := Lib.hid hw
  have HPk := Lib.hid (fun W => ppik_any m1 60 W (by decide) (by decide) hm.1 hm.2)
  have hpl := ppik_lt m1 (n := 60) (by decide)
  obtain ⟨b, hbq⟩ : ∃ b, b = ppik m1 60 := ⟨_, rfl⟩
  rw [← hbq] at HPk hpl
  clear hz hw hm hbq
  go_enter Try.func8, Try.ntmps8
  go_wp2_with fail
  refine (pshown_any _).mono ?_
  rintro e w1 ⟨rfl, hb1⟩
  have HB1 := Lib.hid hb1
  clear hb1
  by_cases hbig : n0 > 50
  · have hbz : (n0 : Int) > 50 := by omega
    go_wp2_with fail
    go_ret
    exact ⟨rfl, HB1.out⟩
  · have hbz : ¬ (n0 : Int) > 50 := by omega
    go_wp2_with fail
    refine (HPk.out _).mono ?_
    rintro e w2 ⟨rfl, rfl⟩
    have HS0 : Hid (LtAt w2 (.slice none 0 0) (.slice none 0 0) z 0 w2) := ⟨PtAt.nil _ _, PtAt.nil _ _, fun g h hg _ => by simp [Value.ownBlock] at hg⟩
    clear HPk
    go_wp2_with fail
    go_loopw [7, 8, 9, 10] (fun v7 v8 v9 _ wr => ∃ i : Nat, v9 = .int .i64 i ∧ i ≤ n0 ∧ LtAt w2 v7 v8 z i wr) (fun _ _ v _ _ => n0 - (intOf v).toNat)
    case atStart => exact ⟨0, rfl, by omega, HS0.out⟩
    case round =>
      clear HS0
      obtain ⟨i, rfl, hle, hS⟩ := hrel
      have HS := Lib.hid hS
      by_cases hin : i < n0
      · have hb2 : Below w.heap.size w wr := HB1.out.trans (hS.l.below.mono HB1.out.size)
        obtain ⟨bb, off, rfl, hbl, cz⟩ := (HZ.out.below hb2).at hin
        have hz0 := HW.out i hin
        have hr := rem_62 (z i).toNat
        rw [Int.toNat_of_nonneg hz0] at hr
        have HY1 : Hid (lsP (i + 1) (ylt z true) = lsP i (ylt z true) ++ [((i : Int), (z i).toNat % 4611686018427387904, true)]) := lsP_succ i _
        have HY2 : Hid (lsP (i + 1) (ylt z false) = lsP i (ylt z false) ++ [((i : Int), (z i).toNat % 4611686018427387904, false)]) := lsP_succ i _
        have hl1 := lsP_len i (ylt z true)
        have hl2 := lsP_len i (ylt z false)
        obtain ⟨q, hq⟩ : ∃ q, q = (z i).toNat % 4611686018427387904 := ⟨_, rfl⟩
        have hq9 : q < 4611686018427387904 := by omega
        rw [← hq] at hr HY1 HY2
        have hwr := hS.l.below.size
        have hw2 := HB1.out.size
        have hbw : bb < wr.heap.size := by omega
        obtain ⟨it, hit⟩ : ∃ it, wr.heap.size = it := ⟨_, rfl⟩
        have HIT := Lib.hid hit
        have hne : ¬ bb = it := by omega
        have hio : w2.heap.size ≤ it := by omega
        clear hq hS hit hz0
        go_upto_region 11 with fail
        have hbx : Box (wr.alloc (.cells #[.int .i64 (i : Int), .int .u64 (q : Int), .bool true] 29)) it 29 #[.int .i64 (i : Int), .int .u64 (q : Int), .bool true] := by rw [← HIT.out]; exact Box.new wr _ _
        have HS2 := Lib.hid (HS.out.grow ((Below.refl _ wr).alloc (Nat.le_refl _) (.cells #[.int .i64 (i : Int), .int .u64 (q : Int), .bool true] 29)))
        have HN7 : Hid (∀ g, u7.ownBlock = some g → g < it) := fun g hg => by rw [← HIT.out]; exact (own_lt HS.out.l.own hg).2
        have HN8 : Hid (∀ g, u8.ownBlock = some g → g < it) := fun g hg => by rw [← HIT.out]; exact (own_lt HS.out.k.own hg).2
        rw [HIT.out]
        generalize wr.alloc (.cells #[.int .i64 (i : Int), .int .u64 (q : Int), .bool true] 29) = w3 at *
        have HBx := Lib.hid hbx
        have hi3 := hbx.lt
        have k0 := hbx.cell 0
        have k1 := hbx.cell 1
        have k2 := hbx.cell 2
        clear hbx HS HIT
        go_wp2_with (with_reducible refine wpList_append_where _ rfl (.tmp 38) (.tmp 40) 22 rfl w2.heap.size 29 (.agg #[.int .i64 0, .int .u64 0, .bool false]) 3 24 Try.underlying22 infoPit rfl (by decide) u7 i (pil (lsP i (ylt z true))) rfl (by have := HS2.out.l.own; rw [lsP_len] at this; exact row_keep this (fun g hg => Below.heap_alloc _ _ g (own_lt this hg).2)) ⟨w3.heap.size, 0, none⟩ 1 1 [.int .i64 (i : Int), .int .u64 (q : Int), .bool true] rfl rfl ?c0 ?c1 ?c2 ?c3 ?c4 ?_)
        case c0 => exact new_three w3 _ _ _ _ rfl
        case c1 => simp [Value.oneCell']
        case c2 => simp only [maxLen]; omega
        case c3 => omega
        case c4 => have := HS2.out.l.below.size; simp; omega
        intro A4 cap4 w4 hown hgr hwh
        have hL4 : PtAt 29 w2 (.slice A4 (i + 1) cap4) (lsP (i + 1) (ylt z true)) w4 := by
          rw [HY1.out]
          have := HS2.out.l.next (x := ((i : Int), q, true)) (by rw [hl1]; exact hown) hgr
          rwa [hl1] at this
        have hgs : w3.heap.size ≤ w4.heap.size := by have := hgr.size; simp at this; omega
        have hold : ∀ g, g < w3.heap.size → u7.ownBlock ≠ some g → w4.heap[g]? = w3.heap[g]? := fun g hg hn => (hgr.block g (by simp; omega) (fun e => hn e.symm)).trans (Below.heap_alloc w3 _ g hg)
        have HB4 : Hid (Below w2.heap.size w2 w4) := hL4.below
        have hK4 : PtAt 29 w2 u8 (lsP i (ylt z false)) w4 := ⟨row_keep HS2.out.k.own (fun g hg => hold g (own_lt HS2.out.k.own hg).2 (fun e => HS2.out.ne g g e hg rfl)), hL4.below⟩
        have hx4 : Box w4 it 29 #[.int .i64 (i : Int), .int .u64 (q : Int), .bool true] := HBx.out.of (hold it HBx.out.lt (fun e => by have := HN7.out it e; omega))
        have hne4 : ∀ g h, (Value.slice A4 (i + 1) cap4).ownBlock = some g → u8.ownBlock = some h → g ≠ h := fun g h hg hh => by
          rcases hwh with e | e
          · rw [e] at hg; exact HS2.out.ne g h hg hh
          · rw [e] at hg
            injection hg with hg
            have := HN8.out h hh
            omega
        have hv4 : ∀ g, (Value.slice A4 (i + 1) cap4).ownBlock = some g → g ≠ it := fun g hg e => by
          rcases hwh with e2 | e2
          · rw [e2] at hg; have := HN7.out g hg; omega
          · rw [e2] at hg
            injection hg with hg
            omega
        have HL4 := Lib.hid hL4
        have HK4 := Lib.hid hK4
        have HX4 := Lib.hid hx4
        have HNE4 := Lib.hid hne4
        have HV4 := Lib.hid hv4
        have hi4 := hx4.lt
        clear hown hgr hwh hL4 hK4 hx4 hne4 hv4 hold hgs HS2 HBx k0 k1 k2 HN7
        have k0 := HX4.out.cell 2
        have z0 := HX4.out.frozen 2
        go_upto_region 13 with fail
        have hx5 : Box (w4.setCell ⟨it, 2, none⟩ (.bool false)) it 29 #[.int .i64 (i : Int), .int .u64 (q : Int), .bool false] := HX4.out.put 2 _
        have ho5 : Only (just it) w4 (w4.setCell ⟨it, 2, none⟩ (.bool false)) := (Only.refl _ w4).setCell (p := ⟨it, 2, none⟩) (.inl (just_self it)) _
        have HL5 := Lib.hid (HL4.out.only ho5 (fun g hg => just_ne (HV4.out g hg)) (fun g hg => just_ne (by omega)))
        have HK5 := Lib.hid (HK4.out.only ho5 (fun g hg => just_ne (by have := HN8.out g hg; omega)) (fun g hg => just_ne (by omega)))
        generalize w4.setCell ⟨it, 2, none⟩ (.bool false) = w5 at *
        have HX5 := Lib.hid hx5
        have hi5 := hx5.lt
        clear hx5 ho5 HL4 HK4 HX4 HB4 z0 k0 hi4
        have k0 := HX5.out.cell 0
        have k1 := HX5.out.cell 1
        have k2 := HX5.out.cell 2
        go_wp2_with (with_reducible refine wpList_append_where _ rfl (.tmp 43) (.tmp 45) 22 rfl w2.heap.size 29 (.agg #[.int .i64 0, .int .u64 0, .bool false]) 3 24 Try.underlying22 infoPit rfl (by decide) u8 i (pil (lsP i (ylt z false))) rfl (by have := HK5.out.own; rw [lsP_len] at this; exact row_keep this (fun g hg => Below.heap_alloc _ _ g (own_lt this hg).2)) ⟨w5.heap.size, 0, none⟩ 1 1 [.int .i64 (i : Int), .int .u64 (q : Int), .bool false] rfl rfl ?c0 ?c1 ?c2 ?c3 ?c4 ?_)
        case c0 => exact new_three w5 _ _ _ _ rfl
        case c1 => simp [Value.oneCell']
        case c2 => simp only [maxLen]; omega
        case c3 => omega
        case c4 => have := HK5.out.below.size; simp; omega
        intro A6 cap6 w6 hown hgr hwh
        have hK6 : PtAt 29 w2 (.slice A6 (i + 1) cap6) (lsP (i + 1) (ylt z false)) w6 := by
          rw [HY2.out]
          have := HK5.out.next (x := ((i : Int), q, false)) (by rw [hl2]; exact hown) hgr
          rwa [hl2] at this
        have hL6 : PtAt 29 w2 (.slice A4 (i + 1) cap4) (lsP (i + 1) (ylt z true)) w6 := ⟨row_keep HL5.out.own (fun g hg => (hgr.block g (by have := (own_lt HL5.out.own hg).2; simp; omega) (fun e => HNE4.out g g hg e.symm rfl)).trans (Below.heap_alloc w5 _ g (own_lt HL5.out.own hg).2)), hK6.below⟩
        have hS6 : LtAt w2 (.slice A4 (i + 1) cap4) (.slice A6 (i + 1) cap6) z (i + 1) w6 := ⟨hL6, hK6, fun g h hg hh => by
          rcases hwh with e | e
          · rw [e] at hh; exact HNE4.out g h hg hh
          · rw [e] at hh
            injection hh with hh
            have := (own_lt HL5.out.own hg).2
            omega⟩
        have HS6 := Lib.hid hS6
        clear hown hgr hwh hK6 hL6 hS6 HL5 HK5 HX5 HNE4 HV4 HN8 k0 k1 k2
        go_wp2_with fail
        go_roundw
        case rel => exact ⟨i + 1, by go_num, by omega, HS6.out⟩
        case measure => simp [intOf]; omega
      · obtain rfl : i = n0 := by omega
        clear hS hle hin
        obtain ⟨A7, cp7, rfl, hA7, hP7⟩ := HS.out.l.out
        obtain ⟨A8, cp8, rfl, hA8, hP8⟩ := HS.out.k.out
        have HB := Lib.hid (HB1.out.trans (HS.out.l.below.mono HB1.out.size))
        have HV7 := Lib.hid (victims_any A7 i cp7 _ i b wr (by omega) hA7 hP7)
        have HV8 := Lib.hid (fun W (h : Below wr.heap.size wr W) => victims_any A8 i cp8 _ i b W (by omega) hA8 ((hP8.below h).more h.size))
        unfold VicPost at HV7 HV8
        rw [ylt_many] at HV7
        rw [ylf_many] at HV8
        have HP7 := Lib.hid hP7
        clear hA7 hA8 hP7 hP8 HS
        obtain ⟨K, hK⟩ : ∃ K, K = min b i := ⟨_, rfl⟩
        rw [← hK] at HV7
        have hKm : min (b : Int) (i : Int) = (K : Int) := by omega
        have hKi : K ≤ i := by omega
        have HKK := Lib.hid hK
        clear hK
        go_wp2_with fail
        refine HV7.out.mono ?_
        rintro e w3 ⟨g, rfl, hir, hb3⟩
        have HI := Lib.hid hir
        have HB3 := Lib.hid (HB.out.trans (hb3.mono HB.out.size))
        have HP3 := Lib.hid (HP7.out.below hb3)
        have hs3 := hb3.size
        have HV9 := Lib.hid (HV8.out w3 hb3)
        clear hir hb3 HV7 HV8 HP7 HB
        go_wp2_with fail
        refine HV9.out.mono ?_
        rintro e w4 ⟨g2, rfl, _, hb4⟩
        have HI4 := Lib.hid (HI.out.below hb4 (Nat.le_refl _))
        have HB4 := Lib.hid (HB3.out.trans (hb4.mono HB3.out.size))
        have HP4 := Lib.hid (HP3.out.below (hb4.mono hs3))
        clear hb4 HV9 HI HB3 HP3 hs3
        have HR : Hid (∀ j, j < K → ∃ c, c < i ∧ (ranked (lsP i (ylt z true)))[j]? = some (kc (ylt z true c)) ∧ (victims (lsP i (ylt z true)) i b).getD j 0 = (c : Int)) := fun j hj => by
          obtain ⟨c, hc, e⟩ := ranked_mem (y := ylt z true) (show j < i by omega)
          exact ⟨c, hc, e, vic_ranked (by rw [ylt_many, ← HKK.out]; exact hj) e⟩
        have HM : Hid (∀ j, j + 1 < i → rkI (lsP i (ylt z true)) j ≤ rkI (lsP i (ylt z true)) (j + 1)) := fun j hj => rkI_le (by rw [lsP_len]; exact hj)
        go_wp2_with fail
        go_loopw [12, 13] (fun v12 v13 wr2 => ∃ j : Nat, v13 = .int .i64 j ∧ j ≤ K ∧ v12 = .int .u64 ((if j = 0 then 0 else rkI (lsP i (ylt z true)) (j - 1) : Nat) : Int) ∧ ∃ nn, wr2 = w4.drewN nn) (fun _ v _ => K - (intOf v).toNat)
        case atStart => exact ⟨0, rfl, by omega, rfl, 0, rfl⟩
        case round =>
          obtain ⟨j, rfl, hj, rfl, nn, rfl⟩ := hrel
          by_cases hjK : j < K
          · obtain ⟨c, hc, hrk, hv⟩ := HR.out j hjK
            have hcell := HI4.out.cell j hjK
            rw [hv] at hcell
            obtain ⟨b7, o7, rfl, hb7, d0, d1, d2⟩ := HP4.out.at hc
            have hrj : rkI (lsP i (ylt z true)) j = (z c).toNat % 4611686018427387904 := by
              rw [rkI_at hrk]; show pkey (ylt z true c) = _; unfold pkey ylt; simp
            have hle7 : (if j = 0 then 0 else rkI (lsP i (ylt z true)) (j - 1)) ≤ rkI (lsP i (ylt z true)) j := by
              split
              · omega
              · have := HM.out (j - 1) (by omega)
                rwa [show j - 1 + 1 = j by omega] at this
            have d1' : w4.cell? ⟨b7, o7 + c * 3 + 1, none⟩ = some (.int .u64 (rkI (lsP i (ylt z true)) j : Nat)) := by rw [d1, hrj]; rfl
            have HN : Hid ((if j + 1 = 0 then 0 else rkI (lsP i (ylt z true)) (j + 1 - 1)) = rkI (lsP i (ylt z true)) j) := by show _ = _; rw [if_neg (by omega)]; rfl
            generalize (if j = 0 then 0 else rkI (lsP i (ylt z true)) (j - 1)) = q1 at *
            generalize rkI (lsP i (ylt z true)) j = q2 at *
            have e1 : (w4.drewN nn).cell? ⟨g, j, none⟩ = some (.int .i64 (c : Int)) := hcell
            have e2 : (w4.drewN nn).cell? ⟨b7, o7 + c * 3 + 1, none⟩ = some (.int .u64 (q2 : Int)) := d1'
            have hq9 : ¬ (q2 : Int) < (q1 : Int) := by omega
            have hc9 : ¬ (c : Int) ≥ (i : Int) := by omega
            have hc8 : ¬ (c : Int) < 0 := by omega
            obtain ⟨w5, hw5⟩ : ∃ w5, w4.drewN nn = w5 := ⟨_, rfl⟩
            rw [hw5] at e1 e2 ⊢
            have HW5 := Lib.hid hw5
            clear hcell d0 d1 d2 d1' hrj hrk hv hle7 hw5
            go_wp2_with fail
            go_roundw
            case rel => exact ⟨j + 1, by go_num, by omega, by rw [HN.out], nn, HW5.out.symm⟩
            case measure => simp [intOf]; omega
          · obtain rfl : j = K := by omega
            generalize (if j = 0 then 0 else rkI (lsP i (ylt z true)) (j - 1)) = q1
            go_wp2_with fail
            go_ret
            exact ⟨rfl, HB4.out.trans (below_drewN (Below.refl _ _) nn)⟩
end Go.Proofs.Ytigifbijmchdcaa
