/- HashSpread: for every input the law returns true, and of what was in memory nothing changes. Conditions: the slice's cells hold words; it is no longer than an int can tell. -/
import Derived.Test.YtdfnnljfihlniaaHashFew
namespace Go.Proofs.Ytdfnnljfihlniaa
open Go.RowKit Go.Shelf Go.ChangeShapes Go.WideShapes Go.ChangeAt

set_option maxHeartbeats 1000000 in
theorem spread_out (A : Option Addr) (n cap : Nat) (k L : Int) (w : World) (h : L < 0 ∨ 9 < L) :
    Calls Try.prog 4 #[.slice A n cap, .int .u64 k, .int .i64 L] w fun e w' => e = .returned (.bool true) ∧ Below w.heap.size w w' := by
  go_enter Try.func4, Try.ntmps4
  go_wp2_with fail
  refine (shown_any _).mono ?_
  rintro e w1 ⟨rfl, hb1⟩
  have HB := Lib.hid hb1
  clear hb1
  have hor : (decide (L < 0) || decide (9 < L)) = true := by simp; exact h
  go_wp2_with fail
  all_goals (go_ret; exact ⟨rfl, HB.out⟩)
theorem atI_rng (f : Nat → Int) (t k s : Int) (h : 1 ≤ s) : 0 ≤ atI f t k s ∧ atI f t k s < s := by
  have a := plc_rng (f 0) (f 1) k s h
  have b := plc_rng (f 2) (f 3) k s h
  unfold atI
  split
  · split
    · exact a
    · split
      · exact b
      · omega
  · omega
theorem atI_two (f : Nat → Int) (t k s : Int) (h : 1 ≤ s) (h1 : isTree s = true) (h2 : isTree (2 * s) = true) : atI f t k (2 * s) = atI f t k s ∨ atI f t k (2 * s) = atI f t k s + s := by
  have a := plc_two (f 0) (f 1) k s h
  have b := plc_two (f 2) (f 3) k s h
  unfold atI
  rw [if_pos h1, if_pos h2]
  split
  · exact a
  · split
    · exact b
    · left; rfl
theorem hW_long (n m : Nat) (z : Nat → Int) (hm : 4 ≤ m) (hn : 4 ≤ n) : H4 (hW m z) = H4 (hW n z) := by
  apply H4_ext
  intro k hk
  unfold hW
  rw [if_pos (by omega), if_pos (by omega)]
set_option maxRecDepth 100000 in
set_option maxHeartbeats 2000000 in
theorem spread_in (A : Option Addr) (n cap : Nat) (z : Nat → Int) (k : Int) (L N : Nat) (hL : L ≤ 9) (hN : 2 ^ L = N) (hn : n ≤ 9223372036854775807) (hl : n ≤ cap) (w : World)
    (hz : Nums .u64 w w.heap.size A n z) :
    Calls Try.prog 4 #[.slice A n cap, .int .u64 k, .int .i64 (L : Int)] w fun e w' => e = .returned (.bool true) ∧ Below w.heap.size w w' := by
  have g0 : decide ((L : Int) < 0) = false := by simp
  have g1 : decide (9 < (L : Int)) = false := by simp; omega
  have hn1 : N ≤ 512 := by rw [← hN]; exact Nat.pow_le_pow_right (by decide) hL
  have hn0 : 0 < N := by rw [← hN]; exact two_pow_pos L
  have hsh := shl_tree L N hN (by omega)
  have ht := isTree_two (by omega) hN
  have hN2 : 2 ^ (L + 1) = 2 * N := by rw [Nat.pow_succ, hN, Nat.mul_comm]
  have ht2 := isTree_two (by omega) hN2
  have e2 : ((2 * N : Nat) : Int) = 2 * (N : Int) := by omega
  rw [e2] at ht2
  have HR := Lib.hid (fun f t => atI_rng f t k (N : Int) (by omega))
  have HT := Lib.hid (fun f t => atI_two f t k (N : Int) (by omega) ht ht2)
  have HZ := Lib.hid hz
  have A1 := Lib.hid (fun f t W => at_lit f t k (N : Int) W (by omega) (by omega))
  have A2 := Lib.hid (fun f t W => at_lit f t k (2 * (N : Int)) W (by omega) (by omega))
  clear hz ht ht2 e2 hN hN2
  go_enter Try.func4, Try.ntmps4
  go_wp2_with fail
  refine (shown_any _).mono ?_
  rintro e w1 ⟨rfl, hb1⟩
  have HB := Lib.hid hb1
  clear hb1
  go_wp2_with fail
  refine (of_any A n cap z _ hn ((HZ.out.below HB.out).more HB.out.size)).mono ?_
  rintro e w2 ⟨rfl, hb2⟩
  have HB2 := Lib.hid (HB.out.trans (hb2.mono HB.out.size))
  obtain ⟨f, hf⟩ : ∃ f, hW n z = f := ⟨_, rfl⟩
  rw [hf]
  clear hb2 HB
  unfold H4
  go_upto_region 6 with fail
  generalize hw3 : World.alloc w2 _ = w3
  obtain ⟨p, hp⟩ : ∃ p, w2.heap.size = p := ⟨_, rfl⟩
  have C3 : Hid (Box w3 p 26 (H4 f)) := Lib.hid (by rw [← hw3, ← hp]; exact Box.new _ _ _)
  have HB3 := Lib.hid (show Below w.heap.size w w3 by rw [← hw3]; exact HB2.out.alloc HB2.out.size _)
  rw [hp]
  clear HB2 hw3 hp
  go_wp2_with fail
  try simp only [hsh]
  go_loopw [10] (fun v wr => ∃ t : Nat, v = .int .i64 t ∧ t ≤ 2 ∧ Box wr p 26 (H4 f) ∧ Below w.heap.size w wr) (fun v _ => 2 - (intOf v).toNat)
  case atStart => exact ⟨0, rfl, by omega, C3.out, HB3.out⟩
  case round =>
    obtain ⟨t, rfl, ht, hC, hB⟩ := hrel
    have HC := Lib.hid hC
    have HB := Lib.hid hB
    have c0 : wr.cell? ⟨p, 0, none⟩ = some (.int .u64 (f 0)) := hC.cell 0
    have c1 : wr.cell? ⟨p, 1, none⟩ = some (.int .u64 (f 1)) := hC.cell 1
    have c2 : wr.cell? ⟨p, 2, none⟩ = some (.int .u64 (f 2)) := hC.cell 2
    have c3 : wr.cell? ⟨p, 3, none⟩ = some (.int .u64 (f 3)) := hC.cell 3
    clear hC hB C3 HB3
    by_cases h2 : t < 2
    · go_wp2_with fail
      refine (A1.out f (t : Int) _).mono ?_
      rintro e w4 ⟨rfl, hb4⟩
      have HB4 := Lib.hid (HB.out.trans (hb4.mono HB.out.size))
      have HC4 := Lib.hid (HC.out.of (hb4.block _ HC.out.lt))
      have hr := HR.out f t
      have hT := HT.out f t
      obtain ⟨x, hx⟩ : ∃ x, atI f (t : Int) k (N : Int) = x := ⟨_, rfl⟩
      rw [hx] at hr hT ⊢
      clear hb4 hx HC HB c0 c1 c2 c3
      have c0 : w4.cell? ⟨p, 0, none⟩ = some (.int .u64 (f 0)) := HC4.out.cell 0
      have c1 : w4.cell? ⟨p, 1, none⟩ = some (.int .u64 (f 1)) := HC4.out.cell 1
      have c2 : w4.cell? ⟨p, 2, none⟩ = some (.int .u64 (f 2)) := HC4.out.cell 2
      have c3 : w4.cell? ⟨p, 3, none⟩ = some (.int .u64 (f 3)) := HC4.out.cell 3
      have HT2 := Lib.hid hT
      clear hT
      go_wp2_with fail
      refine (A2.out f (t : Int) _).mono ?_
      rintro e w5 ⟨rfl, hb5⟩
      have HB5 := Lib.hid (HB4.out.trans (hb5.mono HB4.out.size))
      have HC5 := Lib.hid (HC4.out.of (hb5.block _ HC4.out.lt))
      have hT := HT2.out
      obtain ⟨y, hy⟩ : ∃ y, atI f (t : Int) k (2 * (N : Int)) = y := ⟨_, rfl⟩
      rw [hy] at hT ⊢
      clear hb5 hy HC4 HB4 c0 c1 c2 c3 HT2
      rcases hT with rfl | rfl
      · go_wp2_with fail
        go_roundw
        case rel => exact ⟨t + 1, by go_num, by omega, HC5.out, HB5.out⟩
        case measure => simp [intOf]; omega
      · have hne : ¬ x + (N : Int) = x := by omega
        go_wp2_with fail
        go_roundw
        case rel => exact ⟨t + 1, by go_num, by omega, HC5.out, HB5.out⟩
        case measure => simp [intOf]; omega
    · obtain rfl : t = 2 := by omega
      have B1 := Lib.hid (fun W => at_2 f k (N : Int) W (by omega) (by omega))
      have B2 := Lib.hid (fun W => at_z f k W)
      have hE := fun W => eql_hash f W
      have d0 := fun g : Gr wr => Gr.cell c0 g
      have d1 := fun g : Gr wr => Gr.cell c1 g
      have d2 := fun g : Gr wr => Gr.cell c2 g
      have d3 := fun g : Gr wr => Gr.cell c3 g
      clear c0 c1 c2 c3 A1 A2 HR HT HC
      go_upto_region 13 with fail
      by_cases h4 : n < 4
      · have hyl : decide ((n : Int) < 4) = true := by simp; omega
        have hym : decide (n < 4) = true := by simp; omega
        refine wp_region_grow (by kernel_rfl) (by kernel_rfl) ?_
        repeat (go_big_quiet_step (first | (go_at_call 14; first | with_reducible exact Gr.hblw (B1.out _) | with_reducible exact Gr.hblw (B2.out _))))
        refine wpQuiet_nil ?_
        intro w12 hw12
        obtain ⟨G, hG⟩ := hw12
        subst hG
        go_wp2_with fail
        go_ret
        exact ⟨rfl, HB.out.trans (G.ok.none.mono HB.out.size)⟩
      · have OF := Lib.hid (fun g : Gr wr => of_lit A 4 cap z f g.w' (by decide) (by rw [hW_long n 4 z (by decide) (by omega), hf]) (few_nums (Gr.nums ((HZ.out.below HB.out).more HB.out.size) g) (by omega)))
        have hnl : decide ((n : Int) < 4) = false := by simp; omega
        have hnm : decide (n < 4) = false := by simp; omega
        refine wp_region_grow (by kernel_rfl) (by kernel_rfl) ?_
        repeat (go_big_quiet_step (first | (go_at_call 14; first | with_reducible exact Gr.hblw (B1.out _) | with_reducible exact Gr.hblw (B2.out _)) | (go_at_call 9; exact Gr.hblw (OF.out _))))
        refine wpQuiet_nil ?_
        intro w12 hw12
        obtain ⟨G, hG⟩ := hw12
        subst hG
        go_wp2_with fail
        go_ret
        exact ⟨rfl, HB.out.trans (G.ok.none.mono HB.out.size)⟩
theorem spread_law (A : Option Addr) (n cap : Nat) (z : Nat → Int) (k L : Int) (w : World) (hl : n ≤ cap) (hn : n ≤ 9223372036854775807)
    (hz : Nums .u64 w w.heap.size A n z) :
    Calls Try.prog 4 #[.slice A n cap, .int .u64 k, .int .i64 L] w fun e w' => e = .returned (.bool true) ∧ Below w.heap.size w w' := by
  by_cases h : L < 0 ∨ 9 < L
  · exact spread_out A n cap k L w h
  · obtain ⟨m, rfl⟩ := Int.eq_ofNat_of_zero_le (show 0 ≤ L by omega)
    exact spread_in A n cap z k m _ (by omega) rfl hn hl w hz
end Go.Proofs.Ytdfnnljfihlniaa
