/- Contracts of package hash and of the document's answer: what each returns; of what was in memory nothing turns. Conditions: a key is a word of 64 bits, a size an int. -/
import Derived.Test.YtdfnnljfihlniaaHashMath
import Derived.Test.YtdfnnljfihlniaaRnd
import Derived.Test.YtdfnnljfihlniaaHeap
import Derived.BigQuiet
import Derived.OwnWalk
import Derived.Deep.QuietTactic
namespace Go.Proofs.Ytdfnnljfihlniaa
open Go.RowKit Go.Shelf Go.ChangeShapes Go.WideShapes Go.ChangeAt

theorem fold_29 (n : Int) (w : World) : Calls Try.prog 17 #[.int .u64 n, .int .i64 29] w fun e w' => e = .returned (.int .u64 (fo n 536870912)) ∧ w' = w := by
  go_enter Try.func17, Try.ntmps17
  go_wp2_with fail
  go_ret
  exact ⟨rfl, rfl⟩
theorem fold_32 (n : Int) (w : World) : Calls Try.prog 17 #[.int .u64 n, .int .i64 32] w fun e w' => e = .returned (.int .u64 (fo n 4294967296)) ∧ w' = w := by
  go_enter Try.func17, Try.ntmps17
  go_wp2_with fail
  go_ret
  exact ⟨rfl, rfl⟩
theorem mix_any (n : Int) (w : World) : Calls Try.prog 12 #[.int .u64 n] w fun e w' => e = .returned (.int .u64 (mx n)) ∧ w' = w := by
  go_enter Try.func12, Try.ntmps12
  go_wp2_with fail
  refine (fold_29 n _).mono ?_
  rintro e w1 ⟨rfl, rfl⟩
  go_wp2_with fail
  refine (fold_32 _ _).mono ?_
  rintro e w1 ⟨rfl, rfl⟩
  go_wp2_with fail
  go_ret
  exact ⟨rfl, rfl⟩
theorem rmix_any (n : Int) (w : World) (h0 : 0 ≤ n) (h1 : n ≤ 18446744073709551615) : Calls Try.prog 13 #[.int .u64 n] w fun e w' => e = .returned (.int .u64 (mx n)) ∧ w' = w := by
  go_enter Try.func13, Try.ntmps13
  have hm := wrap_rng (fo n 536870912 * 11400714819323198485)
  have e0 : bits .xor .u64 n (n / 536870912) = fo n 536870912 := rfl
  have HX : Hid (mx n = fo (IntKind.u64.wrap (fo n 536870912 * 11400714819323198485)) 4294967296) := Lib.hid rfl
  generalize fo n 536870912 = x at *
  go_wp2_with fail
  go_ret
  exact ⟨ret_int HX.out.symm, rfl⟩
theorem size_right (n : Int) (w : World) (h0 : -9223372036854775808 ≤ n) (h1 : n ≤ 9223372036854775807) :
    Calls Try.prog 18 #[.int .i64 n] w fun e w' => e = .returned (.bool (isTree n)) ∧ w' = w := by
  by_cases h : n ≤ 1024
  · have he := rd_tree n h
    go_enter Try.func18, Try.ntmps18
    go_wp2_with fail
    refine (round_any n _ h0 h1).mono ?_
    rintro e w1 ⟨rfl, rfl⟩
    go_wp2_with fail
    go_ret
    exact ⟨rfl, rfl⟩
  · rw [tree_big (by omega)]
    go_enter Try.func18, Try.ntmps18
    go_wp2_with fail
    go_ret
    exact ⟨rfl, rfl⟩
theorem place_any (a b k s : Int) (w : World) (h0 : 1 ≤ s) (h1 : s ≤ 1024) : Calls Try.prog 19 #[.int .u64 a, .int .u64 b, .int .u64 k, .int .i64 s] w fun e w' => e = .returned (.int .i64 (plc a b k s)) ∧ w' = w := by
  have hr := plc_rng a b k s h0
  have hm := mx_rng (lin a b k)
  have HP := Lib.hid (show mx (lin a b k) % s = plc a b k s from rfl)
  have HW := Lib.hid (w64 (plc a b k s) (by omega) (by omega))
  have ws : IntKind.u64.wrap s = s := by rw [IntKind.wrap_u64]; omega
  go_enter Try.func19, Try.ntmps19
  go_wp2_with fail
  refine (mix_any (lin a b k) _).mono ?_
  rintro e w1 ⟨rfl, hw⟩
  subst hw
  generalize mx (lin a b k) = m at *
  go_wp2_with fail
  rw [HP.out, HW.out]
  go_ret
  exact ⟨rfl, rfl⟩
theorem at_any (f : Nat → Int) (t k s : Int) (w : World) (h0 : -9223372036854775808 ≤ s) (h1 : s ≤ 9223372036854775807) :
    Calls Try.prog 14 #[.agg (H4 f), .int .i64 t, .int .u64 k, .int .i64 s] w fun e w' => e = .returned (.int .i64 (atI f t k s)) ∧ w' = w.alloc (.cells (H4 f) 26) := by
  unfold H4
  cases ht : isTree s
  · rw [atI_no f t k ht]
    go_enter Try.func14, Try.ntmps14
    go_wp2_with fail
    refine (size_right s _ h0 h1).mono ?_
    rintro e w1 ⟨rfl, rfl⟩
    rw [ht]
    go_wp2_with fail
    go_ret
    exact ⟨rfl, rfl⟩
  · have hs := isTree_rng ht
    by_cases t0 : t = 0
    · subst t0
      rw [atI_0 f k ht]
      have HT := Lib.hid ht
      clear ht
      go_enter Try.func14, Try.ntmps14
      go_wp2_with fail
      refine (size_right s _ h0 h1).mono ?_
      rintro e w1 ⟨rfl, rfl⟩
      rw [HT.out]
      go_wp2_with fail
      refine (place_any _ _ _ _ _ hs.1 hs.2).mono ?_
      rintro e w1 ⟨rfl, rfl⟩
      go_wp2_with fail
      go_ret
      exact ⟨rfl, rfl⟩
    · by_cases t1 : t = 1
      · subst t1
        rw [atI_1 f k ht]
        have HT := Lib.hid ht
        clear ht
        go_enter Try.func14, Try.ntmps14
        go_wp2_with fail
        refine (size_right s _ h0 h1).mono ?_
        rintro e w1 ⟨rfl, rfl⟩
        rw [HT.out]
        go_wp2_with fail
        refine (place_any _ _ _ _ _ hs.1 hs.2).mono ?_
        rintro e w1 ⟨rfl, rfl⟩
        go_wp2_with fail
        go_ret
        exact ⟨rfl, rfl⟩
      · rw [atI_off f t k s t0 t1]
        have HT := Lib.hid ht
        clear ht
        go_enter Try.func14, Try.ntmps14
        go_wp2_with fail
        refine (size_right s _ h0 h1).mono ?_
        rintro e w1 ⟨rfl, rfl⟩
        rw [HT.out]
        go_wp2_with fail
        go_ret
        exact ⟨rfl, rfl⟩
attribute [local go_sem] H4_at
/-- The first words, of any words. -/
theorem of_any (A : Option Addr) (n cap : Nat) (z : Nat → Int) (w : World) (hn : n ≤ 9223372036854775807) (hz : Nums .u64 w w.heap.size A n z) :
    Calls Try.prog 9 #[.slice A n cap] w fun e w' => e = .returned (.agg (H4 (hW n z))) ∧ Below w.heap.size w w' := by
  go_enter Try.func9, Try.ntmps9
  go_wp2_with fail
  go_loopw [8] (fun i wr => ∃ k : Nat, k ≤ min 4 n ∧ i = .int .i64 k ∧ wr = (w.alloc (.cells (H4 fun _ => 0) 26)).alloc (.cells (H4 (upto4 k z fun _ => 0)) 39)) (fun i _ => 4 - (intOf i).toNat)
  case atStart => exact ⟨0, by omega, rfl, rfl⟩
  case round =>
    obtain ⟨k, hk, rfl, rfl⟩ := hrel
    by_cases hlt : k < min 4 n
    · obtain ⟨b, off, hA, hb, hc⟩ := hz.at (show k < n by omega)
      obtain rfl := hA
      have hk4 : k < 4 := by omega
      go_wp2_with fail
      go_roundw
      case rel => exact ⟨k + 1, by omega, by go_num, by rw [← H4_step k (by omega)]⟩
      case measure => simp [intOf]; omega
    · obtain rfl : k = min 4 n := by omega
      rw [hW_done]
      go_wp2_with fail
      rw [H4_over]
      exact bodyPost_ret (v := .agg (H4 (hW n z))) (by simp [results, Try.results9, go_sem]; rfl) rfl ⟨rfl, ((Below.refl _ w).alloc (Nat.le_refl _) _).alloc (by simp) _⟩
theorem as_any (f : Nat → Int) (w : World) :
    Calls Try.prog 10 #[.agg (H4 f)] w fun e w' => e = .returned (.agg (H4 f)) ∧ Below w.heap.size w w' := by
  unfold H4
  go_enter Try.func10, Try.ntmps10
  go_wp2_with fail
  exact bodyPost_ret (v := .agg (H4 f)) (by simp [results, Try.results10, go_sem]; rfl) rfl ⟨rfl, ((Below.refl _ w).alloc (Nat.le_refl _) _).alloc (by simp) _⟩
theorem word_any (A : Option Addr) (n cap : Nat) (z : Nat → Int) (w : World) (j : Nat) (hz : Nums .u64 w w.heap.size A n z) :
    Calls Try.prog 16 #[.slice A n cap, .int .i64 j] w fun e w' => e = .returned (.int .u64 (hW n z j)) ∧ w' = w := by
  by_cases hlt : j < n
  · obtain ⟨b, off, hA, hb, hc⟩ := hz.at hlt
    obtain rfl := hA
    have e : hW n z j = z j := by unfold hW; rw [if_pos hlt]
    rw [e]
    go_enter Try.func16, Try.ntmps16
    go_wp2_with fail
    go_ret
    exact ⟨rfl, rfl⟩
  · have e : hW n z j = 0 := by unfold hW; rw [if_neg hlt]
    rw [e]
    go_enter Try.func16, Try.ntmps16
    go_wp2_with fail
    go_ret
    exact ⟨rfl, rfl⟩
theorem rof_any (A : Option Addr) (n cap : Nat) (z : Nat → Int) (w : World) (hz : Nums .u64 w w.heap.size A n z) :
    Calls Try.prog 11 #[.slice A n cap] w fun e w' => e = .returned (.agg (H4 (hW n z))) ∧ Below w.heap.size w w' := by
  have HZ := Lib.hid (fun j : Nat => fun W hW => word_any A n cap z W j hW)
  have hz2 : Nums .u64 (w.alloc (.cells (H4 fun _ => 0) 28)) (w.alloc (.cells (H4 fun _ => 0) 28)).heap.size A n z := (hz.below ((Below.refl _ w).alloc (Nat.le_refl _) _)).more (by simp)
  have HZ2 := Lib.hid hz2
  clear hz hz2
  go_enter Try.func11, Try.ntmps11
  go_wp2_with fail
  refine (HZ.out 0 _ HZ2.out).mono ?_
  rintro e w1 ⟨rfl, rfl⟩
  go_wp2_with fail
  refine (HZ.out 1 _ HZ2.out).mono ?_
  rintro e w1 ⟨rfl, rfl⟩
  go_wp2_with fail
  refine (HZ.out 2 _ HZ2.out).mono ?_
  rintro e w1 ⟨rfl, rfl⟩
  go_wp2_with fail
  refine (HZ.out 3 _ HZ2.out).mono ?_
  rintro e w1 ⟨rfl, rfl⟩
  go_wp2_with fail
  rw [H4_over]
  exact bodyPost_ret (v := .agg (H4 (hW n z))) (by simp [results, Try.results11, go_sem]; rfl) rfl ⟨rfl, ((Below.refl _ w).alloc (Nat.le_refl _) _)⟩
/-- All lesser powers of two are below n. -/
def Rtw (n : Int) (c : Nat) : Prop := c ≤ 10 ∧ ∀ d, d < c → ((2 ^ d : Nat) : Int) < n
theorem Rtw.next {n : Int} {c : Nat} (h : Rtw n c) (h1 : ((2 ^ c : Nat) : Int) < n) (h2 : 2 ^ c < 1024) : Rtw n (c + 1) := by
  have hc : c < 10 := by
    rcases Nat.lt_or_ge c 10 with h3 | h3
    · exact h3
    · have : 2 ^ 10 ≤ 2 ^ c := Nat.pow_le_pow_right (by decide) h3
      omega
  refine ⟨hc, fun d hd => ?_⟩
  by_cases e : d = c
  · subst e; exact h1
  · exact h.2 d (by omega)
theorem Rtw.done {n : Int} {c : Nat} (h : Rtw n c) (he : ¬ (((2 ^ c : Nat) : Int) < n ∧ 2 ^ c < 1024)) : (((2 ^ c : Nat) : Int) == n) = isTree n := by
  cases hn : isTree n
  · rw [beq_eq_false_iff_ne]
    intro e
    have : isTree n = true := (isTree_iff n).2 ⟨c, h.1, e.symm⟩
    rw [hn] at this; cases this
  · obtain ⟨p, hp, rfl⟩ := (isTree_iff n).1 hn
    have hcp : c = p := by
      rcases Nat.lt_trichotomy c p with h1 | h1 | h1
      · exfalso
        have h2 : 2 ^ c < 2 ^ p := Nat.pow_lt_pow_right (by decide) h1
        have h3 := tree_le p hp
        exact he ⟨by omega, by omega⟩
      · exact h1
      · have := h.2 p h1
        omega
    rw [hcp]; simp
def RatPost (f : Nat → Int) (t y s : Int) (w : World) (e : Ending) (w' : World) : Prop := e = .returned (.int .i64 (atI f t y s)) ∧ w' = w.alloc (.cells (H4 f) 28)
theorem RatPost.mk {f : Nat → Int} {t y s x : Int} {w : World} (h : x = atI f t y s) : RatPost f t y s w (.returned (.int .i64 x)) (w.alloc (.cells #[.int .u64 (f 0), .int .u64 (f 1), .int .u64 (f 2), .int .u64 (f 3)] 28)) := ⟨by rw [h], rfl⟩
set_option maxRecDepth 100000 in
set_option maxHeartbeats 1000000 in
theorem rat_any (f : Nat → Int) (t y s : Int) (w : World) :
    Calls Try.prog 15 #[.agg (H4 f), .int .i64 t, .int .u64 y, .int .i64 s] w (RatPost f t y s w) := by
  have HN := Lib.hid (fun h => atI_no f t y (s := s) h)
  unfold H4
  go_enter Try.func15, Try.ntmps15
  go_wp2_with fail
  go_loopw [9] (fun v wr => ∃ c : Nat, v = .int .i64 (2 ^ c : Nat) ∧ Rtw s c ∧ wr = w.alloc (.cells #[.int .u64 (f 0), .int .u64 (f 1), .int .u64 (f 2), .int .u64 (f 3)] 28)) (fun v _ => 4096 - (intOf v).toNat)
  case atStart => exact ⟨0, rfl, ⟨by omega, fun d hd => by omega⟩, rfl⟩
  case round =>
    obtain ⟨c, rfl, hR, rfl⟩ := hrel
    have hc2 := tree_le c hR.1
    have hc0 := two_pow_pos c
    have hnx := hR.next
    have hdn := hR.done
    have hps : 2 ^ (c + 1) = 2 * 2 ^ c := by rw [Nat.pow_succ, Nat.mul_comm]
    have HX := Lib.hid hnx
    have HD := Lib.hid hdn
    have HP := Lib.hid hps
    clear hR hnx hdn hps
    generalize 2 ^ c = k at *
    by_cases h1 : (k : Int) < s ∧ k < 1024
    · obtain ⟨h1, h2⟩ := h1
      go_wp2_with fail
      go_roundw
      case rel => exact ⟨c + 1, by rw [HP.out]; go_num, HX.out h1 h2, trivial⟩
      case measure => simp [intOf]; omega
    · have hd := HD.out h1
      cases ht : isTree s
      · rw [ht] at hd
        have HT := Lib.hid ht
        clear ht
        have hne : ¬ (k : Int) = s := beq_eq_false_iff_ne.1 hd
        by_cases h2 : (k : Int) < s
        · have h3 : ¬ k < 1024 := fun h => h1 ⟨h2, h⟩
          clear h1
          go_wp2_with fail
          go_ret
          exact .mk (by rw [HN.out HT.out])
        · clear h1
          go_wp2_with fail
          go_ret
          exact .mk (by rw [HN.out HT.out])
      · have hs := isTree_rng ht
        rw [ht] at hd
        have hks : (k : Int) = s := beq_iff_eq.1 hd
        obtain rfl := hks
        have H0 := Lib.hid (atI_0 f y ht)
        have H1 := Lib.hid (atI_1 f y ht)
        have HO := Lib.hid (atI_off f t y (k : Int))
        have HP1 : Hid (∀ a b : Int, mx (lin a b y) % (k : Int) = plc a b y k) := Lib.hid (fun a b => rfl)
        have HW := Lib.hid (fun a b => w64 (plc a b y k) (by have := plc_rng a b y k hs.1; omega) (by have := plc_rng a b y k hs.1; omega))
        have HR := Lib.hid (fun a b W => rmix_any (lin a b y) W (wrap_rng _).1 (wrap_rng _).2)
        have HB := Lib.hid (fun a b => mx_rng (lin a b y))
        have wk : IntKind.u64.wrap (k : Int) = (k : Int) := by rw [IntKind.wrap_u64]; omega
        clear h1 ht hd
        by_cases t0 : t = 0
        · subst t0
          go_wp2_with fail
          refine (HR.out (f 0) (f 1) _).mono ?_
          rintro e w1 ⟨rfl, rfl⟩
          have HP2 := Lib.hid (HP1.out (f 0) (f 1))
          have hb := HB.out (f 0) (f 1)
          generalize mx (lin (f 0) (f 1) y) = m at *
          go_wp2_with fail
          rw [HP2.out, HW.out]
          go_ret
          exact .mk (by rw [H0.out])
        · by_cases t1 : t = 1
          · subst t1
            go_wp2_with fail
            refine (HR.out (f 2) (f 3) _).mono ?_
            rintro e w1 ⟨rfl, rfl⟩
            have HP2 := Lib.hid (HP1.out (f 2) (f 3))
            have hb := HB.out (f 2) (f 3)
            generalize mx (lin (f 2) (f 3) y) = m at *
            go_wp2_with fail
            rw [HP2.out, HW.out]
            go_ret
            exact .mk (by rw [H1.out])
          · have HO2 := Lib.hid (HO.out t0 t1)
            by_cases t2 : t < 0
            · go_wp2_with fail
              go_ret
              exact .mk (by rw [HO2.out])
            · have t3 : 1 < t := by omega
              clear t0 t1
              go_wp2_with fail
              go_ret
              exact .mk (by rw [HO2.out])
end Go.Proofs.Ytdfnnljfihlniaa
