/- Texts of ours put together: CfRefB. -/
import Derived.Test.YteiilfdbddpodaaDoorG21
import Derived.Test.YteiilfdbddpodaaDoorG22
/- The document's answers on configs: a store's Right and Sizes; out, table, store, Why: the same plain words as the program's. Nothing that was in memory changes. Conditions: as they are named. -/
namespace Go.Proofs.YteiilfdbddpodaaDoor
set_option maxRecDepth 100000
open Go.RowKit Go.ChangeShapes Go.WideShapes Go.ChangeAt

set_option maxRecDepth 100000 in
set_option maxHeartbeats 2000000 in
theorem rsright_in (b : Nat) (S H : Int) (n : Nat) (w : World) (hb : b ≤ 10) (n1 : 1 ≤ n) (n4 : n ≤ 4) :
    Calls Tryd.prog 34 #[.agg (scA b S H n)] w fun e w' => e = .returned (.bool (isSt S H)) ∧ Below w.heap.size w w' := by
  have HLc := Lib.hid (fun W (h : Nat) (hh : h ≤ 100) => rlcfg_any b S H n h W hb hh)
  have HLr := Lib.hid (fun W (h : Nat) => (show Calls Tryd.prog 57 #[.agg #[.int .i64 ((blN b h : Nat) : Int), .int .i64 S, .int .i64 H]] W fun e w' => e = .returned (.bool (isSt S H)) ∧ Below W.heap.size W w' from rlright_any (b - 2 * h) S H W (by omega)))
  unfold scA at *
  generalize blN b = NB at *
  generalize 2 ^ b = B at *
  obtain ⟨p, hp⟩ : ∃ p, w.heap.size = p := ⟨_, rfl⟩
  obtain ⟨w2, hw2⟩ : ∃ w2, w.alloc (.cells #[.int .i64 (B : Int), .int .i64 S, .int .i64 H, .int .i64 (n : Int)] 34) = w2 := ⟨_, rfl⟩
  have hx : Box w2 p 34 #[.int .i64 (B : Int), .int .i64 S, .int .i64 H, .int .i64 (n : Int)] := by rw [← hw2, ← hp]; exact Box.new w _ _
  have HB := Lib.hid (show Below w.heap.size w w2 by rw [← hw2]; exact (Below.refl _ w).alloc (Nat.le_refl _) _)
  have HX := Lib.hid hx
  have HPP := Lib.hid hp
  have HWW := Lib.hid hw2
  have k3 := hx.cell 3
  clear hx hp hw2
  go_enter Tryd.func34, Tryd.ntmps34
  go_upto_region 1 with fail
  rw [HPP.out, HWW.out]
  go_wp2_with fail
  go_loopw [3] (fun i wr => ∃ k : Nat, i = .int .i64 k ∧ k ≤ n ∧ (k = 0 ∨ isSt S H = true) ∧ Box wr p 34 #[.int .i64 (B : Int), .int .i64 S, .int .i64 H, .int .i64 (n : Int)] ∧ Below w.heap.size w wr) (fun i _ => n - (intOf i).toNat)
  case atStart => exact ⟨0, rfl, by omega, .inl rfl, HX.out, HB.out⟩
  case round =>
    obtain ⟨k, rfl, hk, hi, hX, hB⟩ := hrel
    have HXr := Lib.hid hX
    have HBr := Lib.hid hB
    have HI := Lib.hid hi
    clear hX hB hi HX HB k3 HWW
    have k0 := HXr.out.cell 0
    have k1 := HXr.out.cell 1
    have k2 := HXr.out.cell 2
    have k3 := HXr.out.cell 3
    by_cases hlt : k < n
    · go_wp2_with fail
      refine (HLc.out _ k (by omega)).mono ?_
      rintro e w3 ⟨rfl, hb3⟩
      have HX3 := Lib.hid (HXr.out.of (hb3.block _ HXr.out.lt))
      have HB3 := Lib.hid (HBr.out.trans (hb3.mono HBr.out.size))
      clear hb3 k0 k1 k2 k3 HXr HBr
      go_wp2_with fail
      refine (HLr.out _ k).mono ?_
      rintro e w4 ⟨rfl, hb4⟩
      have HX4 := Lib.hid (HX3.out.of (hb4.block _ HX3.out.lt))
      have HB4 := Lib.hid (HB3.out.trans (hb4.mono HB3.out.size))
      clear hb4 HX3 HB3
      cases hs : isSt S H
      · have HS := Lib.hid hs
        clear hs
        go_wp2_with fail
        go_ret
        exact ⟨by rw [HS.out]; rfl, HB4.out⟩
      · have HS := Lib.hid hs
        clear hs
        go_wp2_with fail
        go_roundw
        case rel => exact ⟨k + 1, by go_num, by omega, .inr (by first | exact HS.out | trivial), HX4.out, HB4.out⟩
        case measure => simp [intOf]; omega
    · obtain rfl : k = n := by omega
      have hs : isSt S H = true := HI.out.elim (fun e => absurd e (by omega)) id
      have HS := Lib.hid hs
      clear hs
      go_wp2_with fail
      go_ret
      exact ⟨by rw [HS.out]; rfl, HBr.out⟩
set_option maxRecDepth 100000 in
set_option maxHeartbeats 2000000 in
theorem rsright_no (N S H V : Int) (w : World) (hV : V < 1 ∨ 4 < V) : Calls Tryd.prog 34 #[.agg #[.int .i64 N, .int .i64 S, .int .i64 H, .int .i64 V]] w fun e w' => e = .returned (.bool false) ∧ Below w.heap.size w w' := by
  have HE := Lib.hid (show Below w.heap.size w (w.alloc (.cells #[.int .i64 N, .int .i64 S, .int .i64 H, .int .i64 V] 34)) from (Below.refl _ w).alloc (Nat.le_refl _) _)
  rcases hV with h | h
  · go_enter Tryd.func34, Tryd.ntmps34
    go_wp2_with fail
    go_ret
    exact ⟨rfl, HE.out⟩
  · go_enter Tryd.func34, Tryd.ntmps34
    go_wp2_with fail
    go_ret
    exact ⟨rfl, HE.out⟩
theorem rsright_any (b : Nat) (S H V : Int) (w : World) (hb : b ≤ 10) : Calls Tryd.prog 34 #[.agg #[.int .i64 ((2 ^ b : Nat) : Int), .int .i64 S, .int .i64 H, .int .i64 V]] w fun e w' => e = .returned (.bool (stR ((2 ^ b : Nat) : Int) S H V)) ∧ Below w.heap.size w w' := by
  have ht := isTree_two hb (N := 2 ^ b) rfl
  cases hv : isVs V
  · have e : stR ((2 ^ b : Nat) : Int) S H V = false := by unfold stR; rw [ht, hv]; rfl
    rw [e]
    exact rsright_no _ S H V w (isVs_no hv)
  · obtain ⟨v1, v4⟩ := (isVs_iff V).1 hv
    obtain ⟨n, rfl⟩ : ∃ n : Nat, V = (n : Int) := ⟨V.toNat, by omega⟩
    have e : stR ((2 ^ b : Nat) : Int) S H (n : Int) = isSt S H := by unfold stR; rw [ht, hv]; rfl
    rw [e]
    exact rsright_in b S H n w hb (by omega) (by omega)
set_option maxRecDepth 100000 in
set_option maxHeartbeats 2000000 in
theorem rssizes_in (b s t n : Nat) (w : World) (hb : b ≤ 10) (s1 : 1 ≤ s) (s8 : s ≤ 8) (t1 : 1 ≤ t) (t64 : t ≤ 64) (n1 : 1 ≤ n) (n4 : n ≤ 4) :
    Calls Tryd.prog 27 #[.agg (scA b s t n)] w (SzPost w (szS b s t n)) := by
  have HR := Lib.hid (fun W => rsright_in b s t n W hb n1 n4)
  have hst : isSt (s : Int) (t : Int) = true := (isSt_iff _ _).2 ⟨⟨by omega, by omega⟩, by omega, by omega⟩
  rw [hst] at HR
  have HT : Hid (∀ W, Calls Tryd.prog 47 #[.agg (scA b s t n), .int .i64 ((n : Int) - 1)] W fun e w' => e = .returned (.int .i64 ((blN b (n - 1) : Nat) : Int)) ∧ Below W.heap.size W w') := Lib.hid (fun W => by
    have h9 := rblocks_any b s t n (n - 1) W hb (by omega)
    rw [show ((n - 1 : Nat) : Int) = (n : Int) - 1 by omega] at h9
    refine h9.mono ?_
    rintro e w9 ⟨rfl, rfl⟩
    exact ⟨rfl, (Below.refl _ _).alloc (Nat.le_refl _) _⟩)
  have HC := Lib.hid (fun W (h : Nat) (hh : h ≤ 100) => rlcfg_any b s t n h W hb hh)
  have HZ := Lib.hid (fun W (h : Nat) => rlsizes_of hb s1 s8 t1 t64 h W)
  have HL := Lib.hid (fun h => szL_len b s t h)
  have HSC : Hid (∀ h, szL b s t (h + 1) = szL b s t h ++ szOf b s t h) := Lib.hid (fun _ => rfl)
  have HE0 : Hid (szS b s t n = ((blN b (n - 1) : Nat) : Int) :: szL b s t n) := Lib.hid rfl
  have HS0 : Hid (szL b s t 0 = []) := Lib.hid rfl
  clear hst s1 s8 t1 t64
  generalize szS b s t n = ls at *
  generalize szL b s t = zl at *
  generalize szOf b s t = zo at *
  generalize blN b (n - 1) = tp at *
  generalize blN b = NB at *
  unfold scA at *
  generalize 2 ^ b = B at *
  obtain ⟨p, hp⟩ : ∃ p, w.heap.size = p := ⟨_, rfl⟩
  obtain ⟨w2, hw2⟩ : ∃ w2, w.alloc (.cells #[.int .i64 (B : Int), .int .i64 (s : Int), .int .i64 (t : Int), .int .i64 (n : Int)] 34) = w2 := ⟨_, rfl⟩
  have hx : Box w2 p 34 #[.int .i64 (B : Int), .int .i64 (s : Int), .int .i64 (t : Int), .int .i64 (n : Int)] := by rw [← hw2, ← hp]; exact Box.new w _ _
  have HB := Lib.hid (show Below w.heap.size w w2 by rw [← hw2]; exact (Below.refl _ w).alloc (Nat.le_refl _) _)
  have HX := Lib.hid hx
  have HW2 := Lib.hid hw2
  have HPP := Lib.hid hp
  have k0 := hx.cell 0
  have k1 := hx.cell 1
  have k2 := hx.cell 2
  have k3 := hx.cell 3
  clear hx hw2 hp
  go_enter Tryd.func27, Tryd.ntmps27
  go_upto_region 1 with fail
  rw [HPP.out, HW2.out]
  go_wp2_with fail
  refine (HR.out _).mono ?_
  rintro e w3 ⟨rfl, hb3⟩
  have HB3 := Lib.hid (HB.out.trans (hb3.mono HB.out.size))
  have HX3 := Lib.hid (HX.out.of (hb3.block _ HX.out.lt))
  have k0 := HX3.out.cell 0
  have k1 := HX3.out.cell 1
  have k2 := HX3.out.cell 2
  have k3 := HX3.out.cell 3
  clear hb3 HX HB HW2
  go_wp2_with fail
  refine (HT.out _).mono ?_
  rintro e w4 ⟨rfl, hb4⟩
  obtain ⟨w5, hw5⟩ : ∃ w5, (w4.alloc (.cells #[.int .i64 (tp : Int)] 3)) = w5 := ⟨_, rfl⟩
  obtain ⟨v0, hv0⟩ : ∃ v0 : Value, (.slice (some ⟨w4.heap.size, 0, none⟩) 1 1 : Value) = v0 := ⟨_, rfl⟩
  have HI : Hid (IrAt w v0 [(tp : Int)] w5) := Lib.hid (by rw [← hw5, ← hv0]; exact IrAt.one _ (HB3.out.trans (hb4.mono HB3.out.size)))
  have HX5 : Hid (Box w5 p 34 #[.int .i64 (B : Int), .int .i64 (s : Int), .int .i64 (t : Int), .int .i64 (n : Int)]) := Lib.hid (by rw [← hw5]; exact (HX3.out.of (hb4.block _ HX3.out.lt)).alloc _)
  clear hb4 HX3 HB3 k0 k1 k2 k3
  have k3 := HX5.out.cell 3
  go_wp2_with fail
  go_loopw [3, 4] (fun v i wr => ∃ k : Nat, i = .int .i64 k ∧ k ≤ n ∧ IrAt w v (tp :: zl k) wr ∧ Box wr p 34 #[.int .i64 (B : Int), .int .i64 (s : Int), .int .i64 (t : Int), .int .i64 (n : Int)]) (fun _ i _ => n - (intOf i).toNat)
  case atStart => exact ⟨0, rfl, by omega, by rw [HS0.out]; exact HI.out, HX5.out⟩
  case round =>
    obtain ⟨k, rfl, hk, hI, hX⟩ := hrel
    have HIr := Lib.hid hI
    have HXr := Lib.hid hX
    clear hI hX HI HX5 k3 hw5 hv0
    by_cases hlt : k < n
    · obtain ⟨x, y, z, hz, hcz⟩ := HZ.out wr k
      clear hcz
      have HO := Lib.hid hz
      have hz' : ∀ W, Calls Tryd.prog 48 #[.agg #[.int .i64 ((NB k : Nat) : Int), .int .i64 (s : Int), .int .i64 (t : Int)]] W fun e w' => e = .returned (.tuple #[.int .i64 x, .int .i64 y, .int .i64 z]) ∧ Below W.heap.size W w' := by
        intro W
        obtain ⟨x', y', z', h', hc'⟩ := HZ.out W k
        rw [hz] at h'
        injection h' with e1 h'
        injection h' with e2 h'
        injection h' with e3 _
        subst e1 e2 e3
        exact hc'
      have HZ' := Lib.hid hz'
      clear hz hz'
      have k0 := HXr.out.cell 0
      have k1 := HXr.out.cell 1
      have k2 := HXr.out.cell 2
      have k3 := HXr.out.cell 3
      go_wp2_with fail
      refine (HC.out _ k (by omega)).mono ?_
      rintro e w6 ⟨rfl, hb6⟩
      have HI6 := Lib.hid (HIr.out.more hb6)
      have HX6 := Lib.hid (HXr.out.of (hb6.block _ HXr.out.lt))
      clear hb6 k0 k1 k2 k3 HIr HXr
      go_wp2_with fail
      refine (HZ'.out _).mono ?_
      rintro e w7 ⟨rfl, hb7⟩
      have HI7 := Lib.hid (HI6.out.more hb7)
      have HX7 := Lib.hid (HX6.out.of (hb7.block _ HX6.out.lt))
      clear hb7 HI6 HX6
      obtain ⟨l, hl⟩ : ∃ l, ((tp : Int) :: zl k) = l := ⟨_, rfl⟩
      have hlen : l.length = 3 * k + 1 := by rw [← hl, List.length_cons, HL.out]
      have HL2 := Lib.hid hl
      rw [hl] at HI7
      have HLen := Lib.hid hlen
      have HOW : Hid (w7.ownsRow w.heap.size 3 1 u3 (3 * k + 1) (irow l)) := Lib.hid (by have := HI7.out.own; rwa [HLen.out] at this)
      have hsz := HI7.out.below.size
      clear hl hlen
      go_wp2_with (with_reducible refine wpList_append_where _ rfl (.tmp 31) (.tmp 35) 42 rfl w.heap.size 3 (.int .i64 0) 1 8 Tryd.underlying42 infoI64 rfl (by decide) u3 (3 * k + 1) (irow l) rfl (HOW.out.alloc _) ⟨w7.heap.size, 0, none⟩ 3 3 (irow [x, y, z]) rfl rfl ?c0 (irow_one _) ?c2 ?c3 ?c4 ?_)
      case c0 => exact irow_new w7 _ [x, y, z] rfl
      case c2 => simp only [maxLen]; omega
      case c3 => omega
      case c4 => simp; omega
      intro A2 cap2 w8 hown hgr _
      have HN2 : Hid (IrAt w (.slice A2 (3 * k + 1 + 3) cap2) (l ++ [x, y, z]) w8) := by
        have h := HI7.out.next (m := [x, y, z]) (Below.refl _ w7) (by rw [HLen.out]; exact hown) hgr
        rw [HLen.out] at h
        exact h
      have HX8 : Hid (Box w8 p 34 #[.int .i64 (B : Int), .int .i64 (s : Int), .int .i64 (t : Int), .int .i64 (n : Int)]) := Lib.hid ((HX7.out.alloc _).of (hgr.block p (by have := HX7.out.lt; simp; omega) (fun e => by
        rcases HI7.out.own.2 with ⟨e0, _⟩ | ⟨g, cap, cur, e0, _, hg, _⟩
        · rw [e0] at e; cases e
        · rw [e0] at e
          obtain rfl : g = p := by simpa [Value.ownBlock] using e.symm
          exact absurd rfl (Box.ne (cs' := cur) HX7.out hg (by decide)))))
      clear hown hgr
      go_wp2_with fail
      go_roundw
      case rel => exact ⟨k + 1, by go_num, by omega, by rw [HSC.out, HO.out, ← List.cons_append, HL2.out]; exact HN2.out, HX8.out⟩
      case measure => simp [intOf]; omega
    · obtain rfl : k = n := by omega
      have HD : Hid (SzPost w ls (.returned u3) wr) := Lib.hid ⟨_, rfl, by rw [HE0.out]; exact HIr.out⟩
      have k3 := HXr.out.cell 3
      clear HIr HXr
      go_wp2_with fail
      go_ret
      exact HD.out
set_option maxRecDepth 100000 in
set_option maxHeartbeats 2000000 in
theorem rssizes_no (N S H V : Int) (w : World) (hV : V < 1 ∨ 4 < V) : Calls Tryd.prog 27 #[.agg #[.int .i64 N, .int .i64 S, .int .i64 H, .int .i64 V]] w (SzPost w []) := by
  have HR := Lib.hid (fun W => rsright_no N S H V W hV)
  have HB := Lib.hid (show Below w.heap.size w (w.alloc (.cells #[.int .i64 N, .int .i64 S, .int .i64 H, .int .i64 V] 34)) from (Below.refl _ w).alloc (Nat.le_refl _) _)
  clear hV
  go_enter Tryd.func27, Tryd.ntmps27
  go_wp2_with fail
  refine (HR.out _).mono ?_
  rintro e w3 ⟨rfl, hb3⟩
  have HB3 := Lib.hid (szPost_no w w3 (HB.out.trans (hb3.mono HB.out.size)))
  clear hb3
  go_wp2_with fail
  go_ret
  exact HB3.out
theorem rssizes_any (b : Nat) (S H V : Int) (w : World) (hb : b ≤ 10) (h : stR ((2 ^ b : Nat) : Int) S H V = true) : Calls Tryd.prog 27 #[.agg #[.int .i64 ((2 ^ b : Nat) : Int), .int .i64 S, .int .i64 H, .int .i64 V]] w (SzPost w (szI ((2 ^ b : Nat) : Int) S H V)) := by
  obtain ⟨b', s, t, n, hb', e0, rfl, rfl, rfl, h1, h2, h3, h4, h5, h6⟩ := (stR_iff _ _ _ _).1 h
  rw [szI_yes hb h1 h2 h3 h4 h5 h6]
  exact rssizes_in b s t n w hb h1 h2 h3 h4 h5 h6
theorem rout_any (n l g : Int) (w : World) : Calls Tryd.prog 32 #[.int .i64 n, .int .i64 l, .int .i64 g] w fun e w' => e = .returned (.bool (wtE n l g != 0)) ∧ w' = w := by
  by_cases h1 : n < l
  · have e : wtE n l g = 2 := by unfold wtE; rw [if_pos (.inl h1)]
    rw [e]
    go_enter Tryd.func32, Tryd.ntmps32
    go_wp2_with fail
    go_ret
    exact ⟨rfl, rfl⟩
  · by_cases h2 : n > g
    · have e : wtE n l g = 2 := by unfold wtE; rw [if_pos (.inr h2)]
      rw [e]
      go_enter Tryd.func32, Tryd.ntmps32
      go_wp2_with fail
      go_ret
      exact ⟨rfl, rfl⟩
    · have e : wtE n l g = 0 := by unfold wtE; rw [if_neg (by omega)]
      rw [e]
      go_enter Tryd.func32, Tryd.ntmps32
      go_wp2_with fail
      go_ret
      exact ⟨rfl, rfl⟩
theorem rout_no {n l g : Int} (h : wtE n l g = 0) (w : World) : Calls Tryd.prog 32 #[.int .i64 n, .int .i64 l, .int .i64 g] w fun e w' => e = .returned (.bool false) ∧ w' = w := by
  have := rout_any n l g w
  rw [h] at this
  exact this
theorem rout_yes {n l g : Int} (h : wtE n l g ≠ 0) (w : World) : Calls Tryd.prog 32 #[.int .i64 n, .int .i64 l, .int .i64 g] w fun e w' => e = .returned (.bool true) ∧ w' = w := by
  have := rout_any n l g w
  rw [wtE_two h] at this
  exact this
set_option maxRecDepth 100000 in
set_option maxHeartbeats 2000000 in
theorem rtable_any (c : Cfg) (w : World) : Calls Tryd.prog 33 #[.agg c.a] w fun e w' => e = .returned (.int .i64 (tbE c)) ∧ Below w.heap.size w w' := by
  have HR := Lib.hid (fun W => rround_any c.T W)
  have hE : tbE c = if wtE c.T 1 128 ≠ 0 then wtE c.T 1 128 else if rd c.T ≠ c.T then 3 else if c.T < wA c then 4 else 0 := rfl
  have hX : wrap64 (c.A + c.B) = wA c := rfl
  have hw := @wtE_two c.T 1 128
  generalize tbE c = E at *
  generalize wA c = X at *
  have HNO := Lib.hid (fun (h : wtE c.T 1 128 = 0) W => rout_no h W)
  have HYES := Lib.hid (fun (h : wtE c.T 1 128 ≠ 0) W => rout_yes h W)
  obtain ⟨A, B, K, P, T, S, H, V, O⟩ := c
  simp only [Cfg.a] at *
  generalize wtE T 1 128 = r at *
  generalize rd T = R at *
  have HEE := Lib.hid hE
  have HXX := Lib.hid hX
  clear hE hX
  obtain ⟨p, hp⟩ : ∃ p, w.heap.size = p := ⟨_, rfl⟩
  obtain ⟨w2, hw2⟩ : ∃ w2, w.alloc (.cells #[.int .i64 A, .int .i64 B, .int .i64 K, .int .i64 P, .int .i64 T, .int .i64 S, .int .i64 H, .int .i64 V, .int .i64 O] 29) = w2 := ⟨_, rfl⟩
  have hx : Box w2 p 29 #[.int .i64 A, .int .i64 B, .int .i64 K, .int .i64 P, .int .i64 T, .int .i64 S, .int .i64 H, .int .i64 V, .int .i64 O] := by rw [← hw2, ← hp]; exact Box.new w _ _
  have HB := Lib.hid (show Below w.heap.size w w2 by rw [← hw2]; exact (Below.refl _ w).alloc (Nat.le_refl _) _)
  have HX := Lib.hid hx
  have HPP := Lib.hid hp
  have HWW := Lib.hid hw2
  have k0 := hx.cell 0
  have k1 := hx.cell 1
  have k2 := hx.cell 2
  have k3 := hx.cell 3
  have k4 := hx.cell 4
  have k5 := hx.cell 5
  have k6 := hx.cell 6
  have k7 := hx.cell 7
  have k8 := hx.cell 8
  clear hx hp hw2
  by_cases h0 : r = 0
  · have HO := Lib.hid (HNO.out h0)
    have HE2 : Hid (E = if R ≠ T then 3 else if T < X then 4 else 0) := Lib.hid (by rw [HEE.out, if_neg (by omega)])
    clear HNO HYES HEE hw h0
    go_enter Tryd.func33, Tryd.ntmps33
    go_upto_region 1 with fail
    rw [HPP.out, HWW.out]
    go_wp2_with fail
    refine (HO.out _).mono ?_
    rintro e w3 ⟨rfl, rfl⟩
    clear k0 k1 k2 k3 k4 k5 k6 k7 k8
    have c4 := Gr.cell (HX.out.cell 4)
    go_wp2_with fail
    refine wp_region_grow (by kernel_rfl) (by kernel_rfl) ?_
    repeat (go_big_quiet_step (first | (go_at_call 40; exact Gr.same ((HR.out _).mono fun _ _ ⟨he, hw⟩ => ⟨he, hw.symm⟩))))
    refine wpQuiet_nil ?_
    intro w9 hw9
    obtain ⟨G, hG⟩ := hw9
    subst hG
    have HX9 := Lib.hid (show Box G.w' p _ _ from HX.out.only G.ok (not_nobody _))
    have HB9 := Lib.hid (HB.out.trans (G.ok.none.mono HB.out.size))
    clear c4 HX
    by_cases h1 : R = T
    · have HE3 : Hid (E = if T < X then 4 else 0) := Lib.hid (by rw [HE2.out, if_neg (by omega)])
      subst h1
      generalize G.w' = w4 at *
      have k0 := HX9.out.cell 0
      have k1 := HX9.out.cell 1
      have k4 := HX9.out.cell 4
      obtain ⟨X', hX'⟩ : ∃ X', wrap64 (A + B) = X' := ⟨_, rfl⟩
      have HX2 := Lib.hid (hX'.symm.trans HXX.out)
      by_cases h2 : R < X'
      · have HE9 : Hid (E = 4) := Lib.hid (by rw [HE3.out, if_pos (by have := HX2.out; omega)])
        go_wp2_with fail
        go_ret
        exact ⟨by rw [HE9.out]; rfl, HB9.out⟩
      · have HE9 : Hid (E = 0) := Lib.hid (by rw [HE3.out, if_neg (by have := HX2.out; omega)])
        go_wp2_with fail
        go_ret
        exact ⟨by rw [HE9.out]; rfl, HB9.out⟩
    · have HE9 : Hid (E = 3) := Lib.hid (by rw [HE2.out, if_pos h1])
      go_wp2_with fail
      go_ret
      exact ⟨by rw [HE9.out]; rfl, HB9.out⟩
  · have HO := Lib.hid (HYES.out h0)
    have HE9 : Hid (E = 2) := Lib.hid (by rw [HEE.out, if_pos h0]; exact hw h0)
    clear HNO HYES HEE hw h0
    go_enter Tryd.func33, Tryd.ntmps33
    go_upto_region 1 with fail
    rw [HPP.out, HWW.out]
    go_wp2_with fail
    refine (HO.out _).mono ?_
    rintro e w3 ⟨rfl, rfl⟩
    go_wp2_with fail
    go_ret
    exact ⟨by rw [HE9.out]; rfl, HB.out⟩
end Go.Proofs.YteiilfdbddpodaaDoor
