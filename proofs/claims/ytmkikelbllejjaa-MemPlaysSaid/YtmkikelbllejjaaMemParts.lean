/- The walk of the law on parts: the events behind some of them are the last ones; two memories do not share their cells. Conditions: the slice's cells hold looks; it is no longer than memory can hold. -/
import Derived.Test.YtmkikelbllejjaaMemCut
namespace Go.Proofs.Ytmkikelbllejjaa
open Go.RowKit Go.ChangeShapes Go.WideShapes Go.ChangeAt

/-- What stands while a round is walked: what came in, and a look's cells in it. -/
def Rl (W : World) (b o : Nat) (x : Lk) (w' : World) : Prop := Kept (old W) W w' ∧ w'.cell? ⟨b, o, none⟩ = some (.int .i64 x.1) ∧ w'.cell? ⟨b, o + 1, none⟩ = some (.int .i64 x.2.1) ∧ w'.cell? ⟨b, o + 2, none⟩ = some (.int .u64 x.2.2.1)
section
variable {W w1 w2 : World} {X : Nat → Prop} {b o : Nat} {x : Lk}
theorem Rl.kept (h : Rl W b o x w1) (hk : Kept X w1 w2) (hx : X b) (hX : ∀ i, old W i → X i) : Rl W b o x w2 :=
  ⟨h.1.trans (hk.mono hX), hk.cell h.2.1 hx, hk.cell h.2.2.1 hx, hk.cell h.2.2.2 hx⟩
theorem Rl.none (h : Rl W b o x w1) (ho : Only nobody w1 w2) : Rl W b o x w2 :=
  have hk : Kept (fun i => i = b) w1 w2 := Kept.of_none ho
  ⟨h.1.trans (Kept.of_none ho), hk.cell h.2.1 rfl, hk.cell h.2.2.1 rfl, hk.cell h.2.2.2 rfl⟩
end
theorem Looks.block {w : World} {B : Nat} {a : Option Addr} {n : Nat} {x : Nat → Lk} (h : Looks w B a n x) (hn : 0 < n) : ∃ b off, a = some ⟨b, off, none⟩ ∧ b < B := by
  obtain ⟨b, off, e, hb, _⟩ := h hn
  exact ⟨b, off, e, hb⟩

/-- Each look is an event, or a fault. -/
def Told2 (M : MS) (k : Nat) : Prop := M.es.length ≤ k ∧ M.ft = decide (M.es.length < k)
theorem Told2.read {M : MS} {k : Nat} (h : Told2 M k) (r a : Int) : Told2 (M.read r a) (k + 1) := by
  obtain ⟨h1, h2⟩ := h
  unfold MS.read
  split
  · refine ⟨by simp [MS.see]; omega, ?_⟩
    simp only [MS.see, h2, List.length_append, List.length_cons, List.length_nil]
    exact decide_eq_decide.2 (by omega)
  · exact ⟨by simp only [MS.bad]; omega, (decide_eq_true (by simp only [MS.bad]; omega)).symm⟩
theorem Told2.write {M : MS} {k : Nat} (h : Told2 M k) (r a : Int) (f : Nat → Int) : Told2 (M.write r a f) (k + 1) := by
  obtain ⟨h1, h2⟩ := h
  unfold MS.write
  split
  · refine ⟨by simp [MS.see, MS.put]; omega, ?_⟩
    simp only [MS.see, MS.put, h2, List.length_append, List.length_cons, List.length_nil]
    exact decide_eq_decide.2 (by omega)
  · exact ⟨by simp only [MS.bad]; omega, (decide_eq_true (by simp only [MS.bad]; omega)).symm⟩
/-- Its sizes. -/
def Sized (M : MS) (L : List Nat) : Prop := M.k = L.length ∧ M.sz = fun i => L.getD i 0
theorem Sized.read {M : MS} {L : List Nat} (h : Sized M L) (r a : Int) : Sized (M.read r a) L := by
  unfold MS.read
  split <;> exact h
theorem Sized.write {M : MS} {L : List Nat} (h : Sized M L) (r a : Int) (f : Nat → Int) : Sized (M.write r a f) L := by
  unfold MS.write
  split <;> exact h
theorem Sized.size {M : MS} {L : List Nat} (h : Sized M L) (r : Nat) : M.size r = L.getD r 0 := by
  obtain ⟨h1, h2⟩ := h
  unfold MS.size
  rw [h1, h2]
  by_cases hr : r < L.length
  · rw [if_pos (by omega), Int.toNat_natCast]
  · rw [if_neg (by omega)]
    simp [List.getElem?_eq_none (Nat.le_of_not_lt hr)]

/-- In the first loop: k looks are done. -/
def PartsAt (W : World) (p q : Nat) (k : Nat) (wr : World) : Prop := ∃ M, Duo wr (old W) p M q (MS.new [4, 3].length fun i => [4, 3].getD i 0) ∧ Kept (old W) W wr ∧ Told2 M k ∧ Sized M [4, 3]
/-- In the second loop: the second memory has noughts. -/
def Blank (N : MS) (k : Nat) : Prop := N.es.length ≤ k ∧ N.ft = false ∧ (∀ r a, N.c r a = fun _ => 0) ∧ Sized N [4, 3]
def BlankAt (W : World) (p : Nat) (M : MS) (q k : Nat) (wr : World) : Prop := ∃ N, Duo wr (old W) p M q N ∧ Kept (old W) W wr ∧ Blank N k
theorem Blank.hit {N : MS} {k : Nat} (h : Blank N k) {i : Nat} (hi : i < 4) : N.hit 0 i = true := by
  have := h.2.2.2.size 0
  unfold MS.hit
  rw [show (0 : Int) = ((0 : Nat) : Int) from rfl, this]
  refine decide_eq_true ?_
  show (0 : Int) ≤ i ∧ (i : Int) < ((4 : Nat) : Int)
  omega
theorem Blank.read {N : MS} {k : Nat} (h : Blank N k) {i : Nat} (hi : i < 4) : Blank (N.read 0 i) (k + 1) ∧ N.cell 0 i = fun _ => 0 := by
  have hh := h.hit hi
  obtain ⟨h1, h2, h3, h4⟩ := h
  refine ⟨⟨Nat.le_trans (len_read N 0 i) (by omega), ?_, ?_, h4.read 0 i⟩, ?_⟩
  · unfold MS.read; rw [if_pos hh]; exact h2
  · unfold MS.read; rw [if_pos hh]; exact h3
  · unfold MS.cell; rw [if_pos hh]; exact h3 _ _

set_option maxRecDepth 100000 in
set_option maxHeartbeats 4000000 in
theorem parts_loop (a : Option Addr) (T cap : Nat) (x : Nat → Lk) (fr : Int) (W : World) (hx : Looks W W.heap.size a T x) (hT : T ≤ 60) :
    Calls Try.prog 6 #[.slice a T cap, .int .i64 fr] W (Yes W) := by
  have HX := Lib.hid hx
  clear hx
  go_enter Try.func6, Try.ntmps6
  go_wp2_with fail
  refine (shown_any W).mono ?_
  rintro e w0 ⟨rfl, hb0⟩
  have K0 : Hid (Kept (old W) W w0) := Only.of_below hb0
  have S0 := Lib.hid hb0.size
  clear hb0
  go_wp2_with fail
  refine (new_list [4, 3] (by decide) w0 _ _ rfl).mono ?_
  rintro e w1 ⟨p, rfl, ho, hn⟩
  have O1 := Lib.hid (ho.weak (Y := old W) (fun i (hi : i < W.heap.size) => by show i < _; have := S0.out; simp; omega))
  have K1 : Hid (Kept (old W) W w1) := (K0.out.alloc _).trans (Kept.of_none hn)
  clear ho hn K0
  go_wp2_with fail
  refine (new_list [4, 3] (by decide) w1 _ _ rfl).mono ?_
  rintro e w2 ⟨q, rfl, ho, hn⟩
  have R2 := Lib.hid (show PartsAt W p q 0 w2 from ⟨_, duo_new (O1.out.none ((Only.refl nobody w1).alloc _)) hn ho, (K1.out.alloc _).trans (Kept.of_none hn), ⟨Nat.le_refl _, rfl⟩, rfl, rfl⟩)
  clear ho hn K1 O1 S0
  go_wp2
  go_loopw [10] (fun i wr => ∃ k : Nat, i = .int .i64 k ∧ k ≤ T ∧ PartsAt W p q k wr) (fun i _ => T - (intOf i).toNat)
  case atStart => exact ⟨0, rfl, Nat.zero_le _, R2.out⟩
  case round =>
    obtain ⟨k, rfl, hk, M, hD, hK, hT2, hS⟩ := hrel
    have HD := Lib.hid hD
    have HK := Lib.hid hK
    have HT2 := Lib.hid hT2
    have HS := Lib.hid hS
    have hl := hT2.1
    clear hD hK hT2 hS
    by_cases hlt : k < T
    · obtain ⟨b, off, rfl, hbW⟩ := HX.out.block (by omega)
      obtain ⟨b', off', e', hr⟩ := HX.out.at (HK.out.below (Nat.le_refl _) (fun i hi => hi)) hlt
      injection e' with e'
      injection e' with e1 e2
      subst e1 e2
      obtain ⟨⟨r, at', nn, v⟩, hxk⟩ : ∃ y, x k = y := ⟨_, rfl⟩
      rw [hxk] at hr
      obtain ⟨x0, x1, x2, x3⟩ := lk_cells hr
      clear hr hxk
      dsimp only at x0 x1 x2 x3
      have hR3 : Rl W b (off + k * 4) (r, at', nn, v) wr := ⟨HK.out, x0, x1, x2⟩
      clear x0 x1 x2
      have HR3 := Lib.hid hR3
      clear hR3
      cases v
      · go_wp2_with fail
        have hR3 := HR3.out
        go_region_held3 (fun w' => Kept (old W) W w' ∧ w'.cell? ⟨b, off + k * 4, none⟩ = some (.int .i64 r) ∧ w'.cell? ⟨b, off + k * 4 + 1, none⟩ = some (.int .i64 at') ∧ w'.cell? ⟨b, off + k * 4 + 2, none⟩ = some (.int .u64 nn)) (first | assumption | (exact Rl.none (x := (r, at', nn, false)) (by assumption) (Only.refl _ _).drew)) (first | (go_at_call 14; refine (duo_read _ p q M _ _ r at' (HD.out.none (by first | exact (Only.refl _ _).drew)) (by omega)).mono ?_; rintro e w4 ⟨rfl, hD, hk4⟩; have hR4 : Rl W b (off + k * 4) (r, at', nn, false) w4 := Rl.kept (by assumption) hk4 hbW (fun i h => h); have HB4 := Lib.hid (show PartsAt W p q (k + 1) w4 from ⟨_, hD, hR4.1, HT2.out.read r at', HS.out.read r at'⟩); clear hD hk4))
        go_wp2
        go_roundw
        case rel => exact ⟨k + 1, by go_num, by omega, HB4.out⟩
        case measure => simp [intOf]; omega
      · go_wp2_with fail
        have hR3 := HR3.out
        go_region_held3 (fun w' => Kept (old W) W w' ∧ w'.cell? ⟨b, off + k * 4, none⟩ = some (.int .i64 r) ∧ w'.cell? ⟨b, off + k * 4 + 1, none⟩ = some (.int .i64 at') ∧ w'.cell? ⟨b, off + k * 4 + 2, none⟩ = some (.int .u64 nn)) (first | assumption | (exact Rl.none (x := (r, at', nn, true)) (by assumption) (Only.refl _ _).drew) | (exact Rl.none (x := (r, at', nn, true)) (by assumption) (((Only.refl _ _).alloc _).alloc _))) (first | (go_at_call 12; refine (cell_any _ _).mono ?_; rintro e w' ⟨rfl, rfl⟩) | (go_at_call 11; refine (duo_write _ p q M _ _ r at' _ (HD.out.none (by first | exact (((Only.refl _ _).alloc _).alloc _).drew | exact ((Only.refl _ _).drew.alloc _).alloc _)) (by omega)).mono ?_; rintro e w4 ⟨rfl, hD, hk4⟩; have hR4 : Rl W b (off + k * 4) (r, at', nn, true) w4 := Rl.kept (by assumption) hk4 hbW (fun i h => h); have HB4 := Lib.hid (show PartsAt W p q (k + 1) w4 from ⟨_, hD, hR4.1, HT2.out.write r at' _, HS.out.write r at' _⟩); clear hD hk4))
        go_wp2
        go_roundw
        case rel => exact ⟨k + 1, by go_num, by omega, HB4.out⟩
        case measure => simp [intOf]; omega
    · obtain rfl : T = k := by omega
      obtain ⟨n, hn⟩ : ∃ n, M.es.length = n := ⟨_, rfl⟩
      obtain ⟨t, hmin⟩ : ∃ t, (if (n : Int) < fr then (n : Int) else fr) = t := ⟨_, rfl⟩
      obtain ⟨kk, hkk⟩ : ∃ kk, cut n fr = kk := ⟨_, rfl⟩
      have hmax : (if 0 < t then t else 0) = (kk : Int) := by
        rw [← hkk]; unfold cut; split at hmin <;> split <;> (try split) <;> (try split) <;> omega
      have hkn : kk ≤ n := by rw [← hkk]; exact cut_le n fr
      have hft : M.ft = decide (n < T) := by rw [HT2.out.2, hn]
      rw [hn] at hl
      have HN := Lib.hid hn
      have HKK := Lib.hid hkk
      have HFT := Lib.hid hft
      clear hn hkk hft
      go_wp2_with fail
      refine (own_trace _ p M _ HD.out.left (by rw [HN.out]; omega)).mono ?_
      rintro e w3 ⟨A, c3, rfl, ht, ho, hsh⟩
      rw [HN.out] at hsh ⊢
      have HT3 := Lib.hid ht.view
      have HD3 := Lib.hid (HD.out.none ho)
      have HK3 := Lib.hid (HK.out.trans (Kept.of_none ho))
      have HSH := Lib.hid hsh
      clear ht ho hsh
      go_wp2_with fail
      refine (own_since _ p M _ fr HD3.out.left (by rw [HN.out]; omega)).mono ?_
      rw [HN.out, HKK.out]
      rintro e w4 ⟨A', c4, rfl, ht, ho, _⟩
      have hlen : (M.es.drop kk).length = n - kk := by rw [List.length_drop, HN.out]
      have HLEN := Lib.hid hlen
      rw [hlen]
      have HT4 := Lib.hid ht.view
      have HT5 := Lib.hid (HT3.out.only ho)
      have HD4 := Lib.hid (HD3.out.none ho)
      have HK4 := Lib.hid (HK3.out.trans (Kept.of_none ho))
      clear ht ho hlen HT3 HD3 HK3
      have hTn : decide ((T : Int) < (n : Int)) = false := decide_eq_false (by omega)
      have hTn' : decide (T < n) = false := decide_eq_false (by omega)
      have hcap : n ≤ c3 := by
        rcases HSH.out with ⟨_, h1, h2⟩ | ⟨_, _, _, h⟩ <;> omega
      obtain ⟨A2, hA2⟩ : ∃ A2, (if c3 = kk then A else A.map (·.add (kk * 3))) = A2 := ⟨_, rfl⟩
      have HA2 := Lib.hid hA2
      have HV2 := Lib.hid (view_from HT5.out HN.out hcap hA2)
      clear hA2
      go_wp2_with (with_reducible refine wpList_slice_from rfl (.tmp 104) (.tmp 105) rfl A A2 n c3 kk rfl rfl hkn HA2.out ?_)
      refine (same_len A' A2 (n - kk) (n - kk) c4 (c3 - kk) (M.es.drop kk) (M.es.drop kk) _ HLEN.out HLEN.out HT4.out HV2.out (by omega)).mono ?_
      rw [decide_eq_true rfl]
      rintro e w5 ⟨rfl, n5, rfl⟩
      go_wp2_with fail
      refine (own_many _ p M _ (HD4.out.left.drewN n5)).mono ?_
      rw [HN.out]
      rintro e w6 ⟨rfl, rfl⟩
      have hD5 := HD4.out.drewN n5
      have hK5 := HK4.out.drewN n5
      obtain ⟨w7, hw7⟩ : ∃ w7, w4.drewN n5 = w7 := ⟨_, rfl⟩
      rw [hw7] at hD5 hK5 ⊢
      clear hw7
      have B7 := Lib.hid (show BlankAt W p M q 0 w7 from ⟨_, hD5, hK5, Nat.le_refl _, rfl, fun _ _ => rfl, rfl, rfl⟩)
      have D7 := Lib.hid hD5
      clear hD5 hK5 HK4 HD4 HT4 HT5 HV2
      obtain ⟨bf, hbf, hcase⟩ : ∃ bf, M.ft = bf ∧ ((bf = true ∧ n < T ∧ decide ((n : Int) < (T : Int)) = true) ∨ (bf = false ∧ decide (n < T) = false ∧ decide ((n : Int) < (T : Int)) = false)) := by
        refine ⟨_, HFT.out, ?_⟩
        by_cases h : n < T
        · exact .inl ⟨decide_eq_true h, h, decide_eq_true (by omega)⟩
        · exact .inr ⟨decide_eq_false h, decide_eq_false h, decide_eq_false (by omega)⟩
      have HBF := Lib.hid hbf
      clear hbf
      rcases hcase with ⟨rfl, hnt, hnt'⟩ | ⟨rfl, hnt, hnt'⟩
      all_goals
        go_wp2_with fail
        refine (own_fault _ p M _ D7.out.left).mono ?_
        rw [HBF.out]
        rintro e w6 ⟨rfl, rfl⟩
        go_wp2
        go_loopw [14] (fun i wr => ∃ k : Nat, i = .int .i64 k ∧ k ≤ 4 ∧ BlankAt W p M q k wr) (fun i _ => 4 - (intOf i).toNat)
        case atStart => exact ⟨0, rfl, by omega, B7.out⟩
        case round =>
          obtain ⟨j, rfl, hj, N, hD, hK, hB⟩ := hrel
          have HD6 := Lib.hid hD
          have HK6 := Lib.hid hK
          have HB6 := Lib.hid hB
          have hl6 := hB.1
          clear hD hK hB
          by_cases hj4 : j < 4
          · obtain ⟨hB2, hc⟩ := HB6.out.read hj4
            have hq := neq_nought (fun _ => 0) true (ceq_self _)
            rw [Bool.not_true] at hq
            have HB7 := Lib.hid hB2
            have HC := Lib.hid hc
            clear hB2 hc
            go_wp2_with fail
            refine (duo_read _ q p N M _ 0 j HD6.out.swap (by omega)).mono ?_
            rw [HC.out]
            rintro e w8 ⟨rfl, hD8, hk8⟩
            have R8 := Lib.hid (show BlankAt W p M q (j + 1) w8 from ⟨_, hD8.swap, HK6.out.trans hk8, HB7.out⟩)
            clear hD8 hk8
            go_wp2
            go_roundw
            case rel => exact ⟨j + 1, by go_num, by omega, R8.out⟩
            case measure => simp [intOf]; omega
          · have hq := eql_nought (fun _ => 0) true (ceq_self _)
            have hM2 : M.hit 2 0 = false := by
              unfold MS.hit
              rw [show (2 : Int) = ((2 : Nat) : Int) from rfl, HS.out.size 2]
              rfl
            have e1 : M.read 2 0 = M.bad := by unfold MS.read; rw [hM2]; rfl
            have e2 : M.cell 2 0 = fun _ => 0 := by unfold MS.cell; rw [hM2]; rfl
            have E1 := Lib.hid e1
            have E2 := Lib.hid e2
            clear hM2 e1 e2
            go_wp2_with fail
            refine (own_many _ p M _ HD6.out.left).mono ?_
            rw [HN.out]
            rintro e w9 ⟨rfl, rfl⟩
            go_wp2_with fail
            refine (duo_read _ p q M N _ 2 0 HD6.out (by rw [HN.out]; omega)).mono ?_
            rw [E1.out, E2.out]
            rintro e w9 ⟨rfl, hD9, hk9⟩
            have R9 := Lib.hid (rg_new w9 (fun _ => 0) 37 _ rfl)
            have D9 := Lib.hid ((hD9.alloc (.cells (CA fun _ => 0) 37)).weak (fun i h => .inl h))
            have K9 := Lib.hid ((HK6.out.trans hk9).alloc (.cells (CA fun _ => 0) 37))
            clear hD9 hk9
            go_wp2_with (first | refine wpList_store_new rfl (.tmp 16) (.tmp 145) rfl rfl _ rfl rfl ?_ | with_reducible refine wpList_load_cell rfl (.tmp 16) rfl w9.heap.size 0 rfl (fun _ => 0) R9.out ?_)
            refine (own_fault _ p M.bad _ D9.out.left).mono ?_
            rintro e w10 ⟨rfl, rfl⟩
            have ef : M.bad.ft = true := rfl
            rw [ef]
            go_wp2_with fail
            refine (own_many _ p M.bad _ D9.out.left).mono ?_
            have en : M.bad.es.length = n := HN.out
            rw [en]
            rintro e w10 ⟨rfl, rfl⟩
            go_wp2_with fail
            refine (own_size _ p M.bad _ 2 D9.out.left).mono ?_
            have es2 : M.bad.size 2 = 0 := Sized.size (M := M.bad) HS.out 2
            rw [es2]
            rintro e w10 ⟨rfl, rfl⟩
            go_wp2_with fail
            refine (own_size _ p M.bad _ 0 D9.out.left).mono ?_
            have es0 : M.bad.size 0 = 4 := Sized.size (M := M.bad) HS.out 0
            rw [es0]
            rintro e w10 ⟨rfl, rfl⟩
            go_wp2_with fail
            refine (own_fault _ q N _ D9.out.right).mono ?_
            rw [HB6.out.2.1]
            rintro e w10 ⟨rfl, rfl⟩
            go_wp2
            go_ret
            exact ⟨rfl, K9.out.below (Nat.le_refl _) (fun i hi => hi)⟩

set_option maxRecDepth 100000 in
set_option maxHeartbeats 2000000 in
theorem parts_many (a : Option Addr) (T cap : Nat) (fr : Int) (W : World) (hT : 60 < T) (hT2 : T ≤ 9223372036854775807) :
    Calls Try.prog 6 #[.slice a T cap, .int .i64 fr] W (Yes W) := by
  go_enter Try.func6, Try.ntmps6
  go_wp2_with fail
  refine (shown_any W).mono ?_
  rintro e w0 ⟨rfl, hb0⟩
  have K0 : Hid (Kept (old W) W w0) := Only.of_below hb0
  clear hb0
  go_wp2_with fail
  refine (new_list [4, 3] (by decide) w0 _ _ rfl).mono ?_
  rintro e w1 ⟨p, rfl, ho, hn⟩
  have K1 : Hid (Kept (old W) W w1) := (K0.out.alloc _).trans (Kept.of_none hn)
  clear ho hn K0
  go_wp2_with fail
  refine (new_list [4, 3] (by decide) w1 _ _ rfl).mono ?_
  rintro e w2 ⟨q, rfl, ho, hn⟩
  have K2 : Hid (Kept (old W) W w2) := (K1.out.alloc _).trans (Kept.of_none hn)
  clear ho hn K1
  go_wp2
  go_ret
  exact ⟨rfl, K2.out.below (Nat.le_refl _) (fun i hi => hi)⟩

theorem parts_any (a : Option Addr) (T cap : Nat) (x : Nat → Lk) (fr : Int) (W : World) (hT : T ≤ 9223372036854775807) (hx : Looks W W.heap.size a T x) :
    Calls Try.prog 6 #[.slice a T cap, .int .i64 fr] W (Yes W) := by
  by_cases h : 60 < T
  · exact parts_many a T cap fr W h hT
  · exact parts_loop a T cap x fr W hx (by omega)
end Go.Proofs.Ytmkikelbllejjaa
