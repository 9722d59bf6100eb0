/- HashFew: for every input the law returns true, and of what was in memory nothing changes. Conditions: the slice's cells hold words; it is no longer than memory can hold. -/
import Derived.Test.YtdfnnljfihlniaaHashShown
import Derived.Test.YtdfnnljfihlniaaWordRow
import Derived.Deep.Cut
namespace Go.Proofs.Ytdfnnljfihlniaa
open Go.RowKit Go.Shelf Go.ChangeShapes Go.WideShapes Go.ChangeAt

theorem hW_four (n : Nat) (z : Nat → Int) : H4 (hW (n + 4) (hW n z)) = H4 (hW n z) := by
  apply H4_ext
  intro k hk
  unfold hW
  by_cases h : k < n
  · rw [if_pos (by omega), if_pos h]
  · rw [if_neg h]; simp
theorem words_four (n : Nat) (z : Nat → Int) : wordsOf n z ++ wordsOf 4 (fun _ => 0) = wordsOf (n + 4) (hW n z) := by
  rw [← wordsOf_add]
  congr 1
  · exact wordsOf_ext _ _ _ (fun i hi => by unfold hW; rw [if_pos hi])
  · exact wordsOf_ext _ _ _ (fun i hi => by unfold hW; rw [if_neg (by omega)])
theorem box_nums {w : World} {g n : Nat} {t : TypeId} {cur : Array Value} {z : Nat → Int} (h : Box w g t cur) (hc : ∀ i, i < n → cur[i]? = some (.int .u64 (z i))) : Nums .u64 w w.heap.size (some ⟨g, 0, none⟩) n z :=
  fun _ => ⟨g, 0, rfl, h.lt, fun j hj => by rw [Nat.zero_add, h.cell]; exact hc j hj⟩
theorem few_nums {w : World} {B n m : Nat} {A : Option Addr} {z : Nat → Int} (h : Nums .u64 w B A n z) (hm : m ≤ n) : Nums .u64 w B A m z := fun h0 => by
  obtain ⟨b, off, e, hb, hc⟩ := h (by omega)
  exact ⟨b, off, e, hb, fun j hj => hc j (by omega)⟩
theorem lin_none (k : Int) (k0 : 0 ≤ k) (k1 : k ≤ 18446744073709551615) : lin 0 0 k = k := by
  rw [lin_eq, IntKind.wrap_u64]; omega
/-- The first two words alone. -/
theorem hW_two (n : Nat) (z : Nat → Int) (m : Nat) (hm : m = min n 2) : H4 (hW m z) = #[.int .u64 (hW n z 0), .int .u64 (hW n z 1), .int .u64 0, .int .u64 0] := by
  subst hm
  unfold H4 hW
  have e : ∀ j, (j < min n 2) = (j < n ∧ j < 2) := fun j => by simp; omega
  simp only [e]
  simp
set_option maxHeartbeats 1000000 in
theorem few_out (A : Option Addr) (n cap : Nat) (k L : Int) (w : World) (h : L < 0 ∨ 10 < L ∨ 20 < n) :
    Calls Try.prog 7 #[.slice A n cap, .int .u64 k, .int .i64 L] w fun e w' => e = .returned (.bool true) ∧ Below w.heap.size w w' := by
  go_enter Try.func7, Try.ntmps7
  go_wp2_with fail
  refine (shown_any _).mono ?_
  rintro e w1 ⟨rfl, hb1⟩
  have HB := Lib.hid hb1
  clear hb1
  have hor : ((decide (L < 0) || decide (10 < L)) || decide (20 < n)) = true := by simp; omega
  by_cases h1 : L < 0
  · go_wp2_with fail
    go_ret; exact ⟨rfl, HB.out⟩
  · by_cases h2 : 10 < L
    · go_wp2_with fail
      go_ret; exact ⟨rfl, HB.out⟩
    · have h3 : 20 < n := by omega
      go_wp2_with fail
      go_ret; exact ⟨rfl, HB.out⟩
set_option maxRecDepth 100000 in
set_option maxHeartbeats 2000000 in
theorem few_in (A : Option Addr) (n cap : Nat) (z : Nat → Int) (k : Int) (L N : Nat) (hL : L ≤ 10) (hN : 2 ^ L = N) (hn : n ≤ 20) (hl : n ≤ cap) (w : World)
    (hz : Nums .u64 w w.heap.size A n z) (hq : A = none → n = 0 ∧ cap = 0) (k0 : 0 ≤ k) (k1 : k ≤ 18446744073709551615) :
    Calls Try.prog 7 #[.slice A n cap, .int .u64 k, .int .i64 (L : Int)] w fun e w' => e = .returned (.bool true) ∧ Below w.heap.size w w' := by
  have g0 : decide ((L : Int) < 0) = false := by simp
  have g1 : decide (10 < (L : Int)) = false := by simp; omega
  have g2 : decide (20 < n) = false := by simp; omega
  have hn1 : N ≤ 1024 := by rw [← hN]; exact Nat.pow_le_pow_right (by decide) hL
  have hn0 : 0 < N := by rw [← hN]; exact two_pow_pos L
  have hsh := shl_tree L N hN hn1
  have ht := isTree_two hL hN
  have HT := Lib.hid ht
  have HZ := Lib.hid hz
  have HQ := Lib.hid hq
  obtain ⟨i0, hi, hz0, hz1, hz2⟩ := info_parts infoWord
  have HI := Lib.hid hi
  clear hz hq hi ht hN
  go_enter Try.func7, Try.ntmps7
  go_wp2_with fail
  refine (shown_any _).mono ?_
  rintro e w1 ⟨rfl, hb1⟩
  have HB := Lib.hid hb1
  clear hb1
  go_wp2_with fail
  refine (of_any A n cap z _ (by omega) ((HZ.out.below HB.out).more HB.out.size)).mono ?_
  rintro e w2 ⟨rfl, hb2⟩
  have HB2 := Lib.hid (HB.out.trans (hb2.mono HB.out.size))
  obtain ⟨f, hf⟩ : ∃ f, hW n z = f := ⟨_, rfl⟩
  rw [hf]
  clear hb2 HB
  unfold H4
  go_upto_region 6 with fail
  generalize hw3 : World.alloc w2 _ = w3
  have c3 : Box w3 w2.heap.size 26 (H4 f) := by rw [← hw3]; exact Box.new _ _ _
  have HB3 := Lib.hid (show Below w.heap.size w w3 by rw [← hw3]; exact HB2.out.alloc HB2.out.size _)
  obtain ⟨p, hp⟩ : ∃ p, w2.heap.size = p := ⟨_, rfl⟩
  rw [hp] at c3 ⊢
  have C3 := Lib.hid c3
  clear c3 HB2 hw3 hp
  have own0 : (w3.alloc (.cells #[] 23)).ownsRow w3.heap.size 23 1 (.slice (some ⟨w3.heap.size, 0, none⟩) 0 0) 0 [] :=
    ⟨rfl, .inr ⟨w3.heap.size, 0, #[], rfl, Nat.le_refl _, Go.Deep.blk_alloc_new _ _, Nat.le_refl _, by unfold maxLen; omega, rfl, rfl⟩⟩
  have BA := Lib.hid ((Below.refl w3.heap.size w3).alloc (Nat.le_refl _) (.cells #[] 23))
  go_wp2_with (at_builtin; refine wpList_append_nums rfl (.tmp 33) (.tmp 34) 22 rfl w3.heap.size 23 i0 (.int .u64 0) 8 Try.underlying22 HI.out hz0 hz1 hz2 rfl _ 0 [] rfl own0 A n cap w.heap.size z rfl (HZ.out.below (HB3.out.trans (BA.out.mono HB3.out.size))) HQ.out (by unfold maxLen; omega) (by omega) (by simp) ?_)
  intro v5 w5 hown5 hgrow5 hnn5
  obtain ⟨gw, cw, cur, rfl, hgw, hcw, hbox, hcur⟩ := own_at hown5 (fun e => by cases hnn5 e)
  have O5 := Lib.hid hown5
  have B5 := Lib.hid (BA.out.grown hgrow5 BA.out.size (fun k hk => by injection hk with hk; subst hk; exact Nat.le_refl _))
  clear hown5 hgrow5 hnn5 own0 hbox hcur BA
  have hown6 := O5.out.alloc (.cells #[.int .u64 0, .int .u64 0, .int .u64 0, .int .u64 0] 23)
  have B6 := Lib.hid (B5.out.alloc B5.out.size (.cells #[.int .u64 0, .int .u64 0, .int .u64 0, .int .u64 0] 23))
  have hz6 : Nums .u64 (w5.alloc (.cells #[.int .u64 0, .int .u64 0, .int .u64 0, .int .u64 0] 23)) (w5.heap.size + 1) (some ⟨w5.heap.size, 0, none⟩) 4 (fun _ => 0) := fun _ =>
    ⟨_, 0, rfl, by omega, fun j hj => by rw [Nat.zero_add, (Box.new w5 23 _).cell]; revert hj; revert j; apply lt4 <;> rfl⟩
  go_wp2_with (at_builtin; refine wpList_append_nums rfl (.tmp 35) (.tmp 36) 22 rfl w3.heap.size 23 i0 (.int .u64 0) 8 Try.underlying22 HI.out hz0 hz1 hz2 rfl _ n (wordsOf n z) rfl hown6 (some ⟨w5.heap.size, 0, none⟩) 4 4 (w5.heap.size + 1) (fun _ => 0) rfl hz6 (fun h => by cases h) (by unfold maxLen; omega) (by omega) B6.out.size ?_)
  intro v7 w7 hown7 hgrow7 hnn7
  rw [words_four] at hown7
  obtain ⟨gv, cv, cur, rfl, hgv, hcv, hbox, hcur⟩ := own_at hown7 (fun e => by cases hnn7 e)
  have B7 := Lib.hid (HB3.out.trans ((B6.out.grown hgrow7 B6.out.size (fun k hk => by injection hk with hk; subst hk; exact hgw)).mono HB3.out.size))
  have C7 := Lib.hid (C3.out.of (((B6.out.grown hgrow7 B6.out.size (fun k hk => by injection hk with hk; subst hk; exact hgw)).block _ C3.out.lt)))
  have Z7 := Lib.hid (box_nums hbox hcur)
  clear hown7 hgrow7 hnn7 hbox hcur hown6 hz6 B6 B5 C3 HB3 hgw hcw hgv
  go_wp2_with fail
  refine (of_any (some ⟨gv, 0, none⟩) (n + 4) cv (hW n z) _ (by omega) Z7.out).mono ?_
  rintro e w8 ⟨rfl, hb8⟩
  rw [hW_four, hf]
  have HB8 := Lib.hid (B7.out.trans (hb8.mono B7.out.size))
  have C8 := Lib.hid (C7.out.of (hb8.block _ C7.out.lt))
  clear hb8 B7 C7 Z7
  unfold H4
  go_upto_region 7 with fail
  generalize hw9 : World.alloc w8 _ = w9
  obtain ⟨q, hq⟩ : ∃ q, w8.heap.size = q := ⟨_, rfl⟩
  have D9 : Hid (Box w9 q 26 (H4 f)) := Lib.hid (by rw [← hw9, ← hq]; exact Box.new _ _ _)
  have C9 : Hid (Box w9 p 26 (H4 f)) := Lib.hid (by rw [← hw9]; exact C8.out.alloc _)
  have HB9 := Lib.hid (show Below w.heap.size w w9 by rw [← hw9]; exact HB8.out.alloc HB8.out.size _)
  rw [hq]
  clear C8 HB8 hw9 hq
  go_wp2_with fail
  refine (of_any A (min (n : Int) 2).toNat cap z _ (by omega) (few_nums ((HZ.out.below HB9.out).more HB9.out.size) (by omega))).mono ?_
  rintro e w10 ⟨rfl, hb10⟩
  rw [hW_two n z _ (by omega), hf]
  have HB10 := Lib.hid (HB9.out.trans (hb10.mono HB9.out.size))
  have C10 := Lib.hid (C9.out.of (hb10.block _ C9.out.lt))
  have D10 := Lib.hid (D9.out.of (hb10.block _ D9.out.lt))
  clear hb10 HB9 C9 D9
  go_upto_region 8 with fail
  generalize hw11 : World.alloc w10 _ = w11
  obtain ⟨r, hr⟩ : ∃ r, w10.heap.size = r := ⟨_, rfl⟩
  have E11 : Hid (Box w11 r 26 #[.int .u64 (f 0), .int .u64 (f 1), .int .u64 0, .int .u64 0]) := Lib.hid (by rw [← hw11, ← hr]; exact Box.new _ _ _)
  have C11 : Hid (Box w11 p 26 (H4 f)) := Lib.hid (by rw [← hw11]; exact C10.out.alloc _)
  have D11 : Hid (Box w11 q 26 (H4 f)) := Lib.hid (by rw [← hw11]; exact D10.out.alloc _)
  have HB11 := Lib.hid (show Below w.heap.size w w11 by rw [← hw11]; exact HB10.out.alloc HB10.out.size _)
  rw [hr]
  clear C10 D10 HB10 hw11 hr hf HZ HQ HI hz0 hz1 hz2
  have cp0 := fun g : Gr w11 => Gr.cell (show w11.cell? ⟨p, 0, none⟩ = some (.int .u64 (f 0)) from C11.out.cell 0) g
  have cp1 := fun g : Gr w11 => Gr.cell (show w11.cell? ⟨p, 1, none⟩ = some (.int .u64 (f 1)) from C11.out.cell 1) g
  have cp2 := fun g : Gr w11 => Gr.cell (show w11.cell? ⟨p, 2, none⟩ = some (.int .u64 (f 2)) from C11.out.cell 2) g
  have cp3 := fun g : Gr w11 => Gr.cell (show w11.cell? ⟨p, 3, none⟩ = some (.int .u64 (f 3)) from C11.out.cell 3) g
  have cq0 := fun g : Gr w11 => Gr.cell (show w11.cell? ⟨q, 0, none⟩ = some (.int .u64 (f 0)) from D11.out.cell 0) g
  have cq1 := fun g : Gr w11 => Gr.cell (show w11.cell? ⟨q, 1, none⟩ = some (.int .u64 (f 1)) from D11.out.cell 1) g
  have cq2 := fun g : Gr w11 => Gr.cell (show w11.cell? ⟨q, 2, none⟩ = some (.int .u64 (f 2)) from D11.out.cell 2) g
  have cq3 := fun g : Gr w11 => Gr.cell (show w11.cell? ⟨q, 3, none⟩ = some (.int .u64 (f 3)) from D11.out.cell 3) g
  have cr0 := fun g : Gr w11 => Gr.cell (show w11.cell? ⟨r, 0, none⟩ = some (.int .u64 (f 0)) from E11.out.cell 0) g
  have cr1 := fun g : Gr w11 => Gr.cell (show w11.cell? ⟨r, 1, none⟩ = some (.int .u64 (f 1)) from E11.out.cell 1) g
  have cr2 := fun g : Gr w11 => Gr.cell (show w11.cell? ⟨r, 2, none⟩ = some (.int .u64 0) from E11.out.cell 2) g
  have cr3 := fun g : Gr w11 => Gr.cell (show w11.cell? ⟨r, 3, none⟩ = some (.int .u64 0) from E11.out.cell 3) g
  have hE := fun W => eql_hash f W
  have HL := Lib.hid (lin_none k k0 k1)
  have hm := mx_rng k
  have hwN : IntKind.u64.wrap (N : Int) = (N : Int) := by rw [IntKind.wrap_u64]; omega
  have A1 := Lib.hid (fun W => at_1 (f 0) (f 1) 0 0 k N W hn1 HT.out)
  have A0 := Lib.hid (fun x y W => at_0 (f 0) (f 1) x y k N W hn1 HT.out)
  have hpl : plc 0 0 k N = mx k % (N : Int) := by unfold plc; rw [HL.out]
  rw [hpl] at A1
  have hM := Lib.hid (fun W => mix_any k W)
  clear hpl HL
  generalize mx k = m at *
  have hw64 : wrap64 (m % (N : Int)) = m % (N : Int) := by
    have a := Int.emod_nonneg m (show (N : Int) ≠ 0 by omega)
    have b := Int.emod_lt_of_pos m (show 0 < (N : Int) by omega)
    exact w64 _ (by omega) (by omega)
  generalize hv : m % (N : Int) = v at *
  generalize hpl : plc (f 0) (f 1) k N = pl at *
  clear hpl
  refine wp_region_grow (by kernel_rfl) (by kernel_rfl) ?_
  repeat (go_big_quiet_step (first | (go_at_call 12; exact Gr.hsame (hM.out _)) | (go_at_call 14; first | with_reducible exact Gr.hblw (A1.out _) | with_reducible exact Gr.hblw (A0.out _ _ _))))
  refine wpQuiet_nil ?_
  intro w12 hw12
  obtain ⟨G, hG⟩ := hw12
  subst hG
  go_wp2_with fail
  go_ret
  exact ⟨rfl, HB11.out.trans (G.ok.none.mono HB11.out.size)⟩
theorem few_law (A : Option Addr) (n cap : Nat) (z : Nat → Int) (k L : Int) (w : World) (hl : n ≤ cap)
    (hz : Nums .u64 w w.heap.size A n z) (hk : (Lit.int .u64 k).wf = true) (hq : A = none → n = 0 ∧ cap = 0) :
    Calls Try.prog 7 #[.slice A n cap, .int .u64 k, .int .i64 L] w fun e w' => e = .returned (.bool true) ∧ Below w.heap.size w w' := by
  obtain ⟨k0, k1⟩ := u64_rng hk
  by_cases h : L < 0 ∨ 10 < L ∨ 20 < n
  · exact few_out A n cap k L w h
  · obtain ⟨m, rfl⟩ := Int.eq_ofNat_of_zero_le (show 0 ≤ L by omega)
    exact few_in A n cap z k m _ (by omega) rfl (by omega) hl w hz hq k0 k1
end Go.Proofs.Ytdfnnljfihlniaa
