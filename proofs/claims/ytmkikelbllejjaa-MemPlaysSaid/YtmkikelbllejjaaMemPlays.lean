/- The walk of the law on plays: look behind look the cells, the events, and the fault, are as the document's own memory tells. Conditions: the slices' cells hold numbers and looks; they are no longer than memory can hold. -/
import Derived.Test.YtmkikelbllejjaaMix
namespace Go.Proofs.Ytmkikelbllejjaa
open Go.RowKit Go.ChangeShapes Go.WideShapes Go.ChangeAt

/-- In the loop: both memories are the same. -/
def PlaysAt (W : World) (p q : Nat) (k : Nat) (wr : World) : Prop := ∃ M, Mix wr (old W) p M q M ∧ Kept (old W) W wr ∧ M.es.length ≤ k

/-- What stands while the last line is reckoned: the world has only grown, and the document's events are where they were. -/
def En (w : World) (q : Nat) (A : Option Addr) (n c : Nat) (w' : World) : Prop := Only nobody w w' ∧ w'.cell? ⟨q, 1, none⟩ = some (.slice A n c)
theorem En.none {w w1 w2 : World} {q : Nat} {A : Option Addr} {n c : Nat} (h : En w q A n c w1) (ho : Only nobody w1 w2) : En w q A n c w2 :=
  ⟨h.1.trans ho, (Kept.of_none (X := fun _ => True) ho).cell h.2 trivial⟩

set_option maxRecDepth 100000 in
set_option maxHeartbeats 2000000 in
theorem plays_many (a : Option Addr) (n cap : Nat) (a2 : Option Addr) (T cap2 : Nat) (fr : Int) (W : World) (hn : n ≤ 9223372036854775807) (hT : T ≤ 9223372036854775807) (h : 80 < T ∨ 40 < n) :
    Calls Try.prog 3 #[.slice a n cap, .slice a2 T cap2, .int .i64 fr] W (Yes W) := by
  by_cases h1 : 80 < T
  · go_enter Try.func3, Try.ntmps3
    go_wp2_with fail
    refine (shown_any W).mono ?_
    rintro e w0 ⟨rfl, hb0⟩
    have B0 := Lib.hid hb0
    clear hb0
    go_wp2
    go_ret
    exact ⟨rfl, B0.out⟩
  · have h2 : 40 < n := by omega
    clear h
    go_enter Try.func3, Try.ntmps3
    go_wp2_with fail
    refine (shown_any W).mono ?_
    rintro e w0 ⟨rfl, hb0⟩
    have B0 := Lib.hid hb0
    clear hb0
    go_wp2
    go_ret
    exact ⟨rfl, B0.out⟩

set_option maxRecDepth 100000 in
set_option maxHeartbeats 2000000 in
theorem plays_none (a : Option Addr) (n cap : Nat) (z : Nat → Int) (a2 : Option Addr) (T cap2 : Nat) (fr : Int) (W : World) (hn : n ≤ 40) (hz : Nums .i64 W W.heap.size a n z) (hT : T ≤ 80) (hf : ¬ Fits n z) :
    Calls Try.prog 3 #[.slice a n cap, .slice a2 T cap2, .int .i64 fr] W (Yes W) := by
  have HZ := Lib.hid hz
  have HF := Lib.hid hf
  clear hz hf
  go_enter Try.func3, Try.ntmps3
  go_wp2_with fail
  refine (shown_any W).mono ?_
  rintro e w0 ⟨rfl, hb0⟩
  have B0 := Lib.hid hb0
  clear hb0
  go_wp2_with fail
  refine (new_no a n cap W.heap.size z _ (by omega) (HZ.out.below B0.out) HF.out).mono ?_
  rintro e w1 ⟨rfl, rfl⟩
  go_wp2_with fail
  refine (rnew_no a n cap W.heap.size z _ (by omega) (HZ.out.below B0.out) B0.out.size HF.out).mono ?_
  rintro e w1 ⟨rfl, ho⟩
  have HO := Lib.hid ho
  clear ho
  go_wp2
  go_ret
  exact ⟨rfl, B0.out.trans (HO.out.none.mono B0.out.size)⟩

set_option maxRecDepth 100000 in
set_option maxHeartbeats 4000000 in
theorem plays_loop (a : Option Addr) (n cap : Nat) (z : Nat → Int) (a2 : Option Addr) (T cap2 : Nat) (x : Nat → Lk) (fr : Int) (W : World)
    (hz : Nums .i64 W W.heap.size a n z) (hx : Looks W W.heap.size a2 T x) (hT : T ≤ 80) (hf : Fits n z) :
    Calls Try.prog 3 #[.slice a n cap, .slice a2 T cap2, .int .i64 fr] W (Yes W) := by
  have HZ := Lib.hid hz
  have HX := Lib.hid hx
  have HF := Lib.hid hf
  have hn : n ≤ 16 := hf.2.1
  have hsz : ∀ i, i < n → z i = ((z i).toNat : Nat) := fun i hi => by have := (hf.2.2 i hi).1; omega
  have HSZ := Lib.hid hsz
  clear hz hx hf hsz
  go_enter Try.func3, Try.ntmps3
  go_wp2_with fail
  refine (shown_any W).mono ?_
  rintro e w0 ⟨rfl, hb0⟩
  have K0 : Hid (Kept (old W) W w0) := Only.of_below hb0
  have B0 := Lib.hid hb0
  clear hb0
  go_wp2_with fail
  refine (new_yes a n cap W.heap.size z (fun i => (z i).toNat) _ (HZ.out.below B0.out) B0.out.size HF.out HSZ.out).mono ?_
  rintro e w1 ⟨p, F, rfl, hm, ho, hF⟩
  have O1 := Lib.hid (own_new (X := old W) (fun i (hi : i < W.heap.size) => Nat.lt_of_lt_of_le hi B0.out.size) hm ho hF)
  have K1 := Lib.hid (K0.out.trans (Kept.of_none ho))
  have B1 := Lib.hid (K1.out.below (Nat.le_refl _) (fun i hi => hi))
  clear hm ho hF F K0 B0
  go_wp2_with fail
  refine (rnew_yes a n cap W.heap.size z (fun i => (z i).toNat) _ (HZ.out.below B1.out) B1.out.size HF.out HSZ.out).mono ?_
  rintro e w2 ⟨q, F, rfl, hm, ho, hF⟩
  have R2 := Lib.hid (show PlaysAt W p q 0 w2 from ⟨_, mix_new O1.out ho hm hF, K1.out.trans (Kept.of_none ho), Nat.le_refl _⟩)
  clear hm ho hF F K1 B1 O1
  go_wp2
  go_loopw [12] (fun i wr => ∃ k : Nat, i = .int .i64 k ∧ k ≤ T ∧ PlaysAt W p q k wr) (fun i _ => T - (intOf i).toNat)
  case atStart => exact ⟨0, rfl, Nat.zero_le _, R2.out⟩
  case round =>
    obtain ⟨k, rfl, hk, M, hD, hK, hl⟩ := hrel
    have HD := Lib.hid hD
    have HK := Lib.hid hK
    clear hD hK
    by_cases hlt : k < T
    · obtain ⟨b, off, rfl, hr⟩ := HX.out.at (HK.out.below (Nat.le_refl _) (fun i hi => hi)) hlt
      obtain ⟨⟨r, at', nn, v⟩, hxk⟩ : ∃ y, x k = y := ⟨_, rfl⟩
      rw [hxk] at hr
      obtain ⟨x0, x1, x2, x3⟩ := lk_cells hr
      clear hr hxk
      dsimp only at x0 x1 x2 x3
      have HD3 := Lib.hid (HD.out.alloc (.cells #[.int .i64 r, .int .i64 at', .int .u64 nn, .bool v] 34))
      have HR3 := Lib.hid (Rd.new HK.out (r, at', nn, v) 34)
      cases v
      · go_wp2_with fail
        have hR3 := HR3.out
        have hq := neq_cell (M.cell r at') (M.cell r at')
        rw [ceq_self, Bool.not_true] at hq
        go_region_held3 (fun w' => Kept (old W) W w' ∧ w'.cell? ⟨wr.heap.size, 0, none⟩ = some (.int .i64 r) ∧ w'.cell? ⟨wr.heap.size, 1, none⟩ = some (.int .i64 at') ∧ w'.cell? ⟨wr.heap.size, 2, none⟩ = some (.int .u64 nn)) (first | assumption | (exact Rd.none (x := (r, at', nn, false)) (by assumption) (Only.refl _ _).drew) | (exact Rd.none (x := (r, at', nn, false)) (by assumption) (((Only.refl _ _).alloc _).alloc _))) (first | (go_at_call 14; refine (mix_read _ p q M M _ r at' (HD3.out.none (by first | exact (Only.refl _ _).drew)) (by omega)).mono ?_; rintro e w4 ⟨rfl, hD, hk4⟩; have HD4 := Lib.hid hD; have hR4 : Rd W wr.heap.size (r, at', nn, false) w4 := Rd.kept (by assumption) hk4 (.inr rfl) (fun i h => .inl h); clear hD hk4) | (go_at_call 15; refine (mix_rread _ p q (M.read r at') M _ r at' HD4.out (by omega)).mono ?_; rintro e w5 ⟨rfl, hD, hk5⟩; have HD5 := Lib.hid hD; have hR5 : Rd W wr.heap.size (r, at', nn, false) w5 := Rd.kept (by assumption) hk5 (.inr rfl) (fun i h => .inl h); clear hD hk5))
        have HR5 := Lib.hid hR5
        obtain ⟨M', hM'⟩ : ∃ M', M.read r at' = M' := ⟨_, rfl⟩
        have hl' : M'.es.length ≤ k + 1 := by rw [← hM']; exact Nat.le_trans (len_read M r at') (by omega)
        rw [hM'] at HD5
        clear hM' hR5 hR4 hR3 HD4 HD3 HR3 hq
        go_wp2_with fail
        obtain ⟨q2, A5, c5, q1, _, _⟩ := mix_cells HD5.out
        have y0 := HR5.out.2.1
        dsimp only at y0
        obtain ⟨bf, hbf⟩ : ∃ bf, M'.ft = bf := ⟨_, rfl⟩
        have HBF := Lib.hid hbf
        rw [hbf] at q2
        clear hbf
        have hFA : ∀ m, Calls Try.prog 16 #[.pointer (some ⟨p, 0, none⟩)] (w5.drewN m) fun e w' => e = .returned (.bool bf) ∧ w5.drewN m = w' := fun m => by
          have := own_fault _ p M' _ (HD5.out.left.drewN m)
          rw [HBF.out] at this
          exact this
        have HFA := Lib.hid hFA
        clear hFA
        cases bf
        all_goals
          go_quiet (first | (go_at_call 16; exact quiet_eq (HFA.out _)) | (go_at_call 17; exact quiet_eq (own_many _ p M' _ (HD5.out.left.drewN _))) | (go_at_call 18; exact quiet_eq (own_size _ p M' _ r (HD5.out.left.drewN _))) | (go_at_call 19; exact quiet_eq (mix_rsize _ p q M' M' _ r (HD5.out.drewN _))))
          go_wp2
          go_roundw
          case rel => exact ⟨k + 1, by go_num, by omega, M', (HD5.out.weak (fun i h => .inl h)).drewN _, HR5.out.1.drewN _, hl'⟩
          case measure => simp [intOf]; omega
      · go_wp2_with fail
        have hR3 := HR3.out
        go_region_held3 (fun w' => Kept (old W) W w' ∧ w'.cell? ⟨wr.heap.size, 0, none⟩ = some (.int .i64 r) ∧ w'.cell? ⟨wr.heap.size, 1, none⟩ = some (.int .i64 at') ∧ w'.cell? ⟨wr.heap.size, 2, none⟩ = some (.int .u64 nn)) (first | assumption | (exact Rd.none (x := (r, at', nn, true)) (by assumption) (Only.refl _ _).drew) | (exact Rd.none (x := (r, at', nn, true)) (by assumption) (((Only.refl _ _).alloc _).alloc _))) (first | (go_at_call 12; refine (cell_any _ _).mono ?_; rintro e w' ⟨rfl, rfl⟩) | (go_at_call 11; refine (mix_write _ p q M M _ r at' _ (HD3.out.none (by first | exact (((Only.refl _ _).alloc _).alloc _).drew | exact ((Only.refl _ _).drew.alloc _).alloc _)) (by omega)).mono ?_; rintro e w4 ⟨rfl, hD, hkw4⟩; have HD4 := Lib.hid hD; have hR4 : Rd W wr.heap.size (r, at', nn, true) w4 := Rd.kept (by assumption) hkw4 (.inr rfl) (fun i h => .inl h); clear hD hkw4))
        have HR4 := Lib.hid hR4
        clear hR4 hR3
        go_wp2_with fail
        have hR4 := HR4.out
        go_region_held3 (fun w' => Kept (old W) W w' ∧ w'.cell? ⟨wr.heap.size, 0, none⟩ = some (.int .i64 r) ∧ w'.cell? ⟨wr.heap.size, 1, none⟩ = some (.int .i64 at') ∧ w'.cell? ⟨wr.heap.size, 2, none⟩ = some (.int .u64 nn)) (first | assumption | (exact Rd.none (x := (r, at', nn, true)) (by assumption) (Only.refl _ _).drew) | (exact Rd.none (x := (r, at', nn, true)) (by assumption) (((Only.refl _ _).alloc _).alloc _))) (first | (go_at_call 12; refine (cell_any _ _).mono ?_; rintro e w' ⟨rfl, rfl⟩) | (go_at_call 13; refine (mix_rwrite _ p q (M.write r at' (cw nn)) M _ r at' _ (HD4.out.none (by first | exact (((Only.refl _ _).alloc _).alloc _).drew | exact ((Only.refl _ _).drew.alloc _).alloc _)) (by omega)).mono ?_; rintro e w5 ⟨rfl, hD, hkw5⟩; have HD5 := Lib.hid hD; have hR5 : Rd W wr.heap.size (r, at', nn, true) w5 := Rd.kept (by assumption) hkw5 (.inr rfl) (fun i h => .inl h); clear hD hkw5))
        have HR5 := Lib.hid hR5
        obtain ⟨M', hM'⟩ : ∃ M', M.write r at' (cw nn) = M' := ⟨_, rfl⟩
        have hl' : M'.es.length ≤ k + 1 := by rw [← hM']; exact Nat.le_trans (len_write M r at' _) (by omega)
        rw [hM'] at HD5
        clear hM' hR5 hR4 HR4 HD4 HD3 HR3
        go_wp2_with fail
        obtain ⟨q2, A5, c5, q1, _, _⟩ := mix_cells HD5.out
        have y0 := HR5.out.2.1
        dsimp only at y0
        obtain ⟨bf, hbf⟩ : ∃ bf, M'.ft = bf := ⟨_, rfl⟩
        have HBF := Lib.hid hbf
        rw [hbf] at q2
        clear hbf
        have hFA : ∀ m, Calls Try.prog 16 #[.pointer (some ⟨p, 0, none⟩)] (w5.drewN m) fun e w' => e = .returned (.bool bf) ∧ w5.drewN m = w' := fun m => by
          have := own_fault _ p M' _ (HD5.out.left.drewN m)
          rw [HBF.out] at this
          exact this
        have HFA := Lib.hid hFA
        clear hFA
        cases bf
        all_goals
          go_quiet (first | (go_at_call 16; exact quiet_eq (HFA.out _)) | (go_at_call 17; exact quiet_eq (own_many _ p M' _ (HD5.out.left.drewN _))) | (go_at_call 18; exact quiet_eq (own_size _ p M' _ r (HD5.out.left.drewN _))) | (go_at_call 19; exact quiet_eq (mix_rsize _ p q M' M' _ r (HD5.out.drewN _))))
          go_wp2
          go_roundw
          case rel => exact ⟨k + 1, by go_num, by omega, M', (HD5.out.weak (fun i h => .inl h)).drewN _, HR5.out.1.drewN _, hl'⟩
          case measure => simp [intOf]; omega
    · obtain ⟨q2, A2, c2, q1, hV2, hSh⟩ := mix_cells HD.out
      obtain ⟨n2, hn2⟩ : ∃ n2, M.es.length = n2 := ⟨_, rfl⟩
      rw [hn2] at q1 hSh hl
      obtain ⟨t, hmin⟩ : ∃ t, (if (n2 : Int) < fr then (n2 : Int) else fr) = t := ⟨_, rfl⟩
      obtain ⟨kk, hkk⟩ : ∃ kk, cut n2 fr = kk := ⟨_, rfl⟩
      have hmax : (if 0 < t then t else 0) = (kk : Int) := by
        rw [← hkk]; unfold cut; split at hmin <;> split <;> (try split) <;> (try split) <;> omega
      have hkn : kk ≤ n2 := by rw [← hkk]; exact cut_le n2 fr
      have HN := Lib.hid hn2
      have HKK := Lib.hid hkk
      have HV2 := Lib.hid hV2
      clear hn2 hkk hV2 q2
      go_wp2_with fail
      have HLEN : Hid ((M.es.drop kk).length = n2 - kk) := by show (M.es.drop kk).length = n2 - kk; rw [List.length_drop, HN.out]
      have hE : En wr q A2 n2 c2 wr := ⟨Only.refl _ _, q1⟩
      have HSI : Hid (∀ w', Only nobody wr w' → Calls Try.prog 22 #[.pointer (some ⟨p, 0, none⟩), .int .i64 fr] w' (SincePost w' (M.es.drop kk))) := fun w' ho => by
        have := own_since _ p M w' fr (HD.out.left.none ho) (by rw [HN.out]; omega)
        rw [HN.out, HKK.out] at this
        exact this
      rcases (show (A2 = none ∧ n2 = 0 ∧ c2 = 0) ∨ (∃ b2 o2, A2 = some ⟨b2, o2, none⟩ ∧ n2 ≤ c2 ∧ c2 = kk) ∨ (∃ b2 o2, A2 = some ⟨b2, o2, none⟩ ∧ n2 ≤ c2 ∧ ¬ c2 = kk) from by
        rcases hSh with h | ⟨b2, o2, e2, h2⟩
        · exact .inl h
        · by_cases hc : c2 = kk
          · exact .inr (.inl ⟨b2, o2, e2, h2, hc⟩)
          · exact .inr (.inr ⟨b2, o2, e2, h2, hc⟩)) with ⟨rfl, rfl, rfl⟩ | ⟨b2, o2, rfl, h2, rfl⟩ | ⟨b2, o2, rfl, h2, hc⟩
      · obtain rfl : kk = 0 := by omega
        have HV3 : Hid (View wr none (M.es.drop 0)) := fun hl => absurd (List.eq_nil_of_length_eq_zero (by rw [HLEN.out])) hl
        clear hSh
        go_region_held3 (fun w' => Only nobody wr w' ∧ w'.cell? ⟨q, 1, none⟩ = some (.slice none 0 0)) (first | assumption | (exact En.none (by assumption) (Only.refl _ _).drew) | (exact En.none (by assumption) ((Only.refl _ _).drewN _))) (first | (go_at_call 21; refine (own_trace _ p M _ (HD.out.left.none (And.left (by assumption))) (by rw [HN.out]; omega)).mono ?_; rintro e w6 ⟨A6, c6, rfl, ht, ho, _⟩; rw [HN.out]; have HT6 := Lib.hid ht.view; have h6 := En.none (by assumption) ho; clear ht ho) | (go_at_call 22; refine (HSI.out _ (And.left (by assumption))).mono ?_; rintro e w8 ⟨A8, c8, rfl, ht, ho, _⟩; rw [HLEN.out]; have HT8 := Lib.hid ht.view; have h8 := En.none (by assumption) ho; clear ht ho) | (go_at_call 20; refine (same_len A8 none _ _ c8 _ (M.es.drop 0) (M.es.drop 0) _ (by have := HLEN.out; omega) (by have := HLEN.out; omega) HT8.out (HV3.out.only (And.left (by assumption))) (by omega)).mono ?_; rw [decide_eq_true rfl]; rintro e w9 ⟨rfl, n9, rfl⟩) | (go_at_call 20; refine (same_len A6 _ _ _ c6 _ M.es M.es _ HN.out HN.out HT6.out (HV2.out.only (And.left (by assumption))) (by omega)).mono ?_; rw [decide_eq_true rfl]; rintro e w7 ⟨rfl, n7, rfl⟩))
        go_wp2
        go_ret
        exact ⟨rfl, HK.out.below (Nat.le_refl _) (fun i hi => hi) |>.trans ((Only.none (And.left (by assumption))).mono HK.out.size)⟩
      · obtain rfl : n2 = c2 := by omega
        have HV3 : Hid (View wr (some ⟨b2, o2, none⟩) (M.es.drop n2)) := fun hl => absurd (List.eq_nil_of_length_eq_zero (by rw [HLEN.out]; omega)) hl
        clear hSh
        go_region_held3 (fun w' => Only nobody wr w' ∧ w'.cell? ⟨q, 1, none⟩ = some (.slice (some ⟨b2, o2, none⟩) n2 n2)) (first | assumption | (exact En.none (by assumption) (Only.refl _ _).drew) | (exact En.none (by assumption) ((Only.refl _ _).drewN _))) (first | (go_at_call 21; refine (own_trace _ p M _ (HD.out.left.none (And.left (by assumption))) (by rw [HN.out]; omega)).mono ?_; rintro e w6 ⟨A6, c6, rfl, ht, ho, _⟩; rw [HN.out]; have HT6 := Lib.hid ht.view; have h6 := En.none (by assumption) ho; clear ht ho) | (go_at_call 22; refine (HSI.out _ (And.left (by assumption))).mono ?_; rintro e w8 ⟨A8, c8, rfl, ht, ho, _⟩; rw [HLEN.out]; have HT8 := Lib.hid ht.view; have h8 := En.none (by assumption) ho; clear ht ho) | (go_at_call 20; refine (same_len A8 (some ⟨b2, o2, none⟩) _ _ c8 _ (M.es.drop n2) (M.es.drop n2) _ (by have := HLEN.out; omega) (by have := HLEN.out; omega) HT8.out (HV3.out.only (And.left (by assumption))) (by omega)).mono ?_; rw [decide_eq_true rfl]; rintro e w9 ⟨rfl, n9, rfl⟩) | (go_at_call 20; refine (same_len A6 _ _ _ c6 _ M.es M.es _ HN.out HN.out HT6.out (HV2.out.only (And.left (by assumption))) (by omega)).mono ?_; rw [decide_eq_true rfl]; rintro e w7 ⟨rfl, n7, rfl⟩))
        go_wp2
        go_ret
        exact ⟨rfl, HK.out.below (Nat.le_refl _) (fun i hi => hi) |>.trans ((Only.none (And.left (by assumption))).mono HK.out.size)⟩
      · have HV3 : Hid (View wr (some ⟨b2, o2 + kk * 3, none⟩) (M.es.drop kk)) := view_from HV2.out HN.out h2 (by rw [if_neg hc, Option.map_some, add_plain])
        clear hSh
        go_region_held3 (fun w' => Only nobody wr w' ∧ w'.cell? ⟨q, 1, none⟩ = some (.slice (some ⟨b2, o2, none⟩) n2 c2)) (first | assumption | (exact En.none (by assumption) (Only.refl _ _).drew) | (exact En.none (by assumption) ((Only.refl _ _).drewN _))) (first | (go_at_call 21; refine (own_trace _ p M _ (HD.out.left.none (And.left (by assumption))) (by rw [HN.out]; omega)).mono ?_; rintro e w6 ⟨A6, c6, rfl, ht, ho, _⟩; rw [HN.out]; have HT6 := Lib.hid ht.view; have h6 := En.none (by assumption) ho; clear ht ho) | (go_at_call 22; refine (HSI.out _ (And.left (by assumption))).mono ?_; rintro e w8 ⟨A8, c8, rfl, ht, ho, _⟩; rw [HLEN.out]; have HT8 := Lib.hid ht.view; have h8 := En.none (by assumption) ho; clear ht ho) | (go_at_call 20; refine (same_len A8 (some ⟨b2, o2 + kk * 3, none⟩) _ _ c8 _ (M.es.drop kk) (M.es.drop kk) _ (by have := HLEN.out; omega) (by have := HLEN.out; omega) HT8.out (HV3.out.only (And.left (by assumption))) (by omega)).mono ?_; rw [decide_eq_true rfl]; rintro e w9 ⟨rfl, n9, rfl⟩) | (go_at_call 20; refine (same_len A6 _ _ _ c6 _ M.es M.es _ HN.out HN.out HT6.out (HV2.out.only (And.left (by assumption))) (by omega)).mono ?_; rw [decide_eq_true rfl]; rintro e w7 ⟨rfl, n7, rfl⟩))
        go_wp2
        go_ret
        exact ⟨rfl, HK.out.below (Nat.le_refl _) (fun i hi => hi) |>.trans ((Only.none (And.left (by assumption))).mono HK.out.size)⟩

theorem plays_any (a : Option Addr) (n cap : Nat) (z : Nat → Int) (a2 : Option Addr) (T cap2 : Nat) (x : Nat → Lk) (fr : Int) (W : World)
    (hn : n ≤ 9223372036854775807) (hz : Nums .i64 W W.heap.size a n z) (hT : T ≤ 9223372036854775807) (hx : Looks W W.heap.size a2 T x) :
    Calls Try.prog 3 #[.slice a n cap, .slice a2 T cap2, .int .i64 fr] W (Yes W) := by
  by_cases h : 80 < T ∨ 40 < n
  · exact plays_many a n cap a2 T cap2 fr W hn hT h
  · by_cases hf : Fits n z
    · exact plays_loop a n cap z a2 T cap2 x fr W hz hx (by omega) hf
    · exact plays_none a n cap z a2 T cap2 fr W (by omega) hz (by omega) hf
end Go.Proofs.Ytmkikelbllejjaa
