/- The walk of the law on kinds: the first byte alone tells the kind. Conditions: the text's length is an int. -/
import Derived.Test.YtpnjeoilkaimmaaOpPuts
import Derived.Test.YtpnjeoilkaimmaaOpLong
import Derived.Laws.IdiomStrings
namespace Go.Proofs.Ytpnjeoilkaimmaa
open Go.RowKit Go.ChangeShapes Go.WideShapes Go.ChangeAt

/-- Bytes that lie in a block, none of them frozen. -/
structure ByIn (w : World) (g : Nat) (l : List UInt8) : Prop where
  cell : ∀ j (hj : j < l.length), w.cell? ⟨g, j, none⟩ = some (.int .u8 (l[j].toNat : Int))
  frz : ∀ j, j < l.length → w.frozen? ⟨g, j, none⟩ = false
theorem conv_bytes (l : List UInt8) (w : World) : ∃ cap w', (convert 9 38 (.string (BA l))).run Try.prog w = .ok (.slice (some ⟨w.heap.size, 0, none⟩) l.length cap) w' ∧ Below w.heap.size w w' ∧ ByIn w' w.heap.size l := by
  refine ⟨_, _, run_bytes_of_string (P := Try.prog) w 9 38 5 (BA l) Try.underlying9 Try.underlying38 Try.underlying5, ?_, ?_, ?_⟩
  · exact (below_drewN (Below.refl w.heap.size w) 1).alloc (Nat.le_refl _) _
  · intro j hj
    have hh := heap_alloc_new w.drew (.cells (bytesRow (BA l) (grownCap w (BA l).size 0 5)) 5 ((bytesRow (BA l) (grownCap w (BA l).size 0 5)).size, (bytesRow (BA l) (grownCap w (BA l).size 0 5)).size + 1))
    have h1 : j < (((BA l).data.map fun b => Value.int .u8 (b.toNat : Int))).size := by simp [BA]; exact hj
    have h2 : (bytesRow (BA l) (grownCap w (BA l).size 0 5))[j]? = some (.int .u8 (l[j].toNat : Int)) := by
      unfold bytesRow
      rw [Array.getElem?_append_left h1, Array.getElem?_eq_getElem h1]
      simp [BA]
    have e : w.heap.size = w.drew.heap.size := rfl
    rw [← h2]
    unfold World.cell?
    simp only [e, hh]
    rfl
  · intro j hj
    have h1 : j < (bytesRow (BA l) (grownCap w (BA l).size 0 5)).size := by unfold bytesRow; simp [BA]; omega
    have hh := heap_alloc_new w.drew (.cells (bytesRow (BA l) (grownCap w (BA l).size 0 5)) 5 ((bytesRow (BA l) (grownCap w (BA l).size 0 5)).size, (bytesRow (BA l) (grownCap w (BA l).size 0 5)).size + 1))
    have e : w.heap.size = w.drew.heap.size := rfl
    unfold World.frozen?
    simp only [e, hh]
    simp; omega
theorem ByIn.text {w : World} {g cap : Nat} {l : List UInt8} (h : ByIn w g l) : (convert 38 9 (.slice (some ⟨g, 0, none⟩) l.length cap)).run Try.prog w = .ok (.string (BA l)) w := by
  have := run_convert_bytes_arg (P := Try.prog) w 38 5 Try.underlying38 Try.underlying5 g 0 l.length cap (l.map fun b => (b.toNat : Int)) (by simp)
    (fun i hi => ?_) 9 Try.underlying9
  · rwa [brow_nums] at this
  · rw [Nat.zero_add, h.cell i hi]
    simp [List.getD_eq_getElem?_getD, hi]
theorem ByIn.put {w : World} {g : Nat} {b : UInt8} {l : List UInt8} (h : ByIn w g (b :: l)) (c : UInt8) : ByIn (w.setCell ⟨g, 0, none⟩ (.int .u8 (c.toNat : Int))) g (c :: l) := by
  have h0 := h.cell 0 (by simp)
  refine ⟨fun j hj => ?_, fun j hj => ?_⟩
  · cases j with
    | zero => simp [go_sem, h0]
    | succ j =>
      have := h.cell (j + 1) (by simpa using hj)
      simp [go_sem, this]
  · have := h.frz j (by simpa using hj)
    simp [go_sem, this]
theorem prs_other (c d : UInt8) (key : List UInt8) (h1 : c ≠ 71) (h2 : c ≠ 75) (h3 : c ≠ 80) (h4 : c ≠ 68) : prs (c :: d :: key) = (.z, 3) := by
  rcases knd_cases c with ⟨h, _⟩ | ⟨_, h⟩ | ⟨_, h⟩ | ⟨_, h⟩ | ⟨_, h⟩ | ⟨h, _⟩
  · unfold prs; simp only; rw [if_pos h]
  · exact absurd h h1
  · exact absurd h h2
  · exact absurd h h3
  · exact absurd h h4
  · refine prs_form ?_
    rw [h]; unfold bdy; rw [if_neg (by decide), if_pos rfl, if_neg (by simp)]
theorem klet_1 : ((⟨#[63, 71, 75, 80, 68]⟩ : ByteArray)[1]'(by decide)).toNat = 71 := rfl
theorem klet_2 : ((⟨#[63, 71, 75, 80, 68]⟩ : ByteArray)[2]'(by decide)).toNat = 75 := rfl
theorem klet_4 : ((⟨#[63, 71, 75, 80, 68]⟩ : ByteArray)[4]'(by decide)).toNat = 68 := rfl
attribute [local go_sem] klet_1 klet_2 klet_4
set_option maxHeartbeats 2000000 in
theorem kinds_far (key : List UInt8) (c : Int) (w : World) (hk : 7 < key.length) :
    Calls Try.prog 6 #[.string (BA key), .int .u8 c] w fun e w' => e = .returned (.bool true) ∧ Below w.heap.size w w' := by
  have z1 : (BA key).size = key.length := rfl
  have d1 : decide ((7 : Int) < (key.length : Int)) = true := by simp; omega
  have d2 : decide (7 < key.length) = true := by simp; omega
  clear hk
  go_enter Try.func6, Try.ntmps6
  go_wp2_with fail
  refine (opshown_any _).mono ?_
  rintro e w1 ⟨rfl, hb⟩
  have HB1 := Lib.hid hb
  clear hb
  go_wp2
  go_ret
  exact ⟨rfl, HB1.out⟩
set_option maxHeartbeats 8000000 in
set_option maxRecDepth 100000 in
theorem kinds_g (key : List UInt8) (w : World) (hk : key.length ≤ 7)  :
    Calls Try.prog 6 #[.string (BA key), .int .u8 (71 : Int)] w fun e w' => e = .returned (.bool true) ∧ Below w.heap.size w w' := by
  have z1 : (BA key).size = key.length := rfl
  have d1 : decide ((7 : Int) < (key.length : Int)) = false := by simp; omega
  have d2 : decide (7 < key.length) = false := by simp; omega
  have q0 : ∀ w, (binOp .neq 24 (.agg #[.int .i64 1, .int .u64 (wd (BA key) : Nat), .int .u64 0, .int .i64 0]) (.agg #[.int .i64 1, .int .u64 (wd (BA key) : Nat), .int .u64 0, .int .i64 0])).run Try.prog w = .ok (.bool false) w := fun w => by
    have h := neq_op ⟨1, wd (BA key), 0, 0⟩ ⟨1, wd (BA key), 0, 0⟩ w
    rw [Ov.q_self] at h
    exact h
  have hp : prs (71 :: UInt8.ofNat key.length :: key) = (⟨1, wd (BA key), 0, 0⟩, 0) := by
    have h := prs_key 1 key (by decide) (by omega)
    rw [if_pos hk] at h
    exact h
  have hw := wv'_few hk
  have HK := Lib.hid (fun w => lword_any key w (by omega))
  rw [hw] at HK
  have HY1 := Lib.hid (fun w => bytes_any ⟨1, wd (BA key), 0, 0⟩ w (wd_small key hk) (show 0 < 18446744073709551616 by decide))
  have HY2 := Lib.hid (fun w => bytes_any ⟨2, wd (BA key), 0, 0⟩ w (wd_small key hk) (show 0 < 18446744073709551616 by decide))
  have HY4 := Lib.hid (fun w => bytes_any ⟨4, wd (BA key), 0, 0⟩ w (wd_small key hk) (show 0 < 18446744073709551616 by decide))
  have HY5 := Lib.hid (fun w => bytes_any ⟨5, 0, 0, 0⟩ w (show 0 < 18446744073709551616 by decide) (show 0 < 18446744073709551616 by decide))
  have HY0 := Lib.hid (fun w => bytes_any ⟨0, 0, 0, 0⟩ w (show 0 < 18446744073709551616 by decide) (show 0 < 18446744073709551616 by decide))
  unfold SPost at HY1 HY2 HY4 HY5 HY0
  rw [bts_key 1 key hk (by decide)] at HY1
  rw [bts_key 2 key hk (by decide)] at HY2
  rw [bts_key 4 key hk (by decide)] at HY4
  rw [show bts ⟨5, 0, 0, 0⟩ = [76] from by decide] at HY5
  rw [show bts ⟨0, 0, 0, 0⟩ = [] from by decide] at HY0
  simp only [Ov.a] at HY1 HY2 HY4 HY5 HY0
  obtain ⟨d, hd⟩ : ∃ d, UInt8.ofNat key.length = d := ⟨_, rfl⟩
  have nd : (d.toNat : Int) = (key.length : Int) := by rw [← hd, u8_back _ (by omega)]
  rw [hd] at HY1 HY2 HY4 hp
  have HP := Lib.hid (fun w => parse_any (71 :: d :: key) w (by simp; omega))
  unfold PsPost at HP
  rw [hp] at HP
  simp only [Ov.a] at HP
  have e5 : ((BA [76]).toList == [76]) = true := by rw [BA_toList]; rfl
  have e0 := BA_none
  have q1 : ((BA key).toList == (BA key).toList) = true := by simp
  obtain ⟨K, hK⟩ : ∃ K, key.length = K := ⟨_, rfl⟩
  obtain ⟨N, hN⟩ : ∃ N, N = K + 2 := ⟨_, rfl⟩
  have c1 : IntKind.i64.wrap (d.toNat : Int) = (K : Int) := by rw [nd, hK]; exact w64_in _ (by omega) (by omega)
  have c2 : IntKind.i64.wrap ((K : Int) + 2) = (N : Int) := by rw [w64_in _ (by omega) (by omega)]; omega
  have hN0 : 0 < N := by omega
  rw [hK] at z1 d1 d2
  have zs1 : (BA (ltr 1 :: d :: key)).size = N := by rw [BA_size, hN, ← hK]; rfl
  have i10 : ∀ W, (Instr.index 9 (.string (BA (ltr 1 :: d :: key))) (.int .i64 0)).run Try.prog W = .ok (.int .u8 71) W := index_at (ltr 1 :: d :: key) 0 71 rfl
  have i11 : ∀ W, (Instr.index 9 (.string (BA (ltr 1 :: d :: key))) (.int .i64 1)).run Try.prog W = .ok (.int .u8 (d.toNat : Int)) W := index_at (ltr 1 :: d :: key) 1 d rfl
  have s1 : ∀ W, (Instr.slice 9 (.string (BA (ltr 1 :: d :: key))) (some (.int .i64 2)) none none).run Try.prog W = .ok (.string (BA key)) W := slice_from (ltr 1 :: d :: key) key 2 (by simp) rfl
  have zs2 : (BA (ltr 2 :: d :: key)).size = N := by rw [BA_size, hN, ← hK]; rfl
  have i20 : ∀ W, (Instr.index 9 (.string (BA (ltr 2 :: d :: key))) (.int .i64 0)).run Try.prog W = .ok (.int .u8 75) W := index_at (ltr 2 :: d :: key) 0 75 rfl
  have i21 : ∀ W, (Instr.index 9 (.string (BA (ltr 2 :: d :: key))) (.int .i64 1)).run Try.prog W = .ok (.int .u8 (d.toNat : Int)) W := index_at (ltr 2 :: d :: key) 1 d rfl
  have s2 : ∀ W, (Instr.slice 9 (.string (BA (ltr 2 :: d :: key))) (some (.int .i64 2)) none none).run Try.prog W = .ok (.string (BA key)) W := slice_from (ltr 2 :: d :: key) key 2 (by simp) rfl
  have zs4 : (BA (ltr 4 :: d :: key)).size = N := by rw [BA_size, hN, ← hK]; rfl
  have i40 : ∀ W, (Instr.index 9 (.string (BA (ltr 4 :: d :: key))) (.int .i64 0)).run Try.prog W = .ok (.int .u8 68) W := index_at (ltr 4 :: d :: key) 0 68 rfl
  have i41 : ∀ W, (Instr.index 9 (.string (BA (ltr 4 :: d :: key))) (.int .i64 1)).run Try.prog W = .ok (.int .u8 (d.toNat : Int)) W := index_at (ltr 4 :: d :: key) 1 d rfl
  have s4 : ∀ W, (Instr.slice 9 (.string (BA (ltr 4 :: d :: key))) (some (.int .i64 2)) none none).run Try.prog W = .ok (.string (BA key)) W := slice_from (ltr 4 :: d :: key) key 2 (by simp) rfl
  have HL : ∀ a : UInt8, Hid ((a :: d :: key).length = N) := fun a => Lib.hid (by rw [hN, ← hK]; rfl)
  clear hk hw hd nd hK hN hp
  generalize wd (BA key) = X at *
  go_enter Try.func6, Try.ntmps6
  go_wp2_with fail
  refine (opshown_any _).mono ?_
  rintro e w1 ⟨rfl, hb⟩
  have HB1 := Lib.hid hb
  clear hb
  go_wp2_with fail
  refine (HK.out _).mono ?_
  rintro e w2 ⟨rfl, hb⟩
  have HB2 := Lib.hid (below3 HB1.out hb)
  clear hb HB1 HK
  go_wp2_with fail
  go_loopw [7] (fun i wr => ∃ j : Int, i = .int .i64 j ∧ 1 ≤ j ∧ j ≤ 5 ∧ Below w.heap.size w wr) (fun i _ => (5 - intOf i).toNat)
  case atStart => exact ⟨1, rfl, by decide, by decide, HB2.out⟩
  case round =>
    obtain ⟨j, rfl, hj1, hj5, hB⟩ := hrel
    have HB := Lib.hid hB
    clear hB
    rcases (by omega : j = 1 ∨ j = 2 ∨ j = 3 ∨ j = 4 ∨ j = 5) with h | h | h | h | h <;> subst h <;> clear hj1 hj5
    · as_aux_lemma =>
        go_wp2_with fail
        refine (HY1.out _).mono ?_
        rintro e w3 ⟨rfl, hb⟩
        have HB3 := Lib.hid (below3 HB.out hb)
        clear hb HB
        go_wp2_with fail
        go_quiet (fail)
        obtain ⟨wq, hwq⟩ : ∃ wy, w3.drewN nq = wy := ⟨_, rfl⟩
        simp only [hwq]
        have HBq := Lib.hid (show Below w.heap.size w wq by rw [← hwq]; exact below_drewN HB3.out _)
        clear hwq HB3
        obtain ⟨cap, w4, hcv, hb4, hi4⟩ := conv_bytes (ltr 1 :: d :: key) wq
        rw [(HL (ltr 1)).out] at hcv
        have HB4 := Lib.hid (HBq.out.trans (hb4.mono HBq.out.size))
        have HI4 := Lib.hid hi4
        clear hb4 hi4
        obtain ⟨g, hg⟩ : ∃ g, wq.heap.size = g := ⟨_, rfl⟩
        rw [hg] at hcv HI4
        have HG := Lib.hid (show w.heap.size ≤ g by rw [← hg]; exact HBq.out.size)
        clear hg
        go_upto_region 13 with fail
        clear hcv HBq
        have k0 : w4.cell? ⟨g, 0, none⟩ = some (.int .u8 ((ltr 1).toNat : Int)) := HI4.out.cell 0 (by simp)
        have k1 := HI4.out.frz 0 (by simp)
        go_upto_region 14 with fail
        obtain ⟨w5, hw9⟩ : ∃ wy, w4.setCell ⟨g, 0, none⟩ (.int .u8 (71 : Int)) = wy := ⟨_, rfl⟩
        try simp only [hw9]
        have HI5 := Lib.hid (show ByIn w5 g (71 :: d :: key) by rw [← hw9]; exact HI4.out.put 71)
        have HB5 := Lib.hid (show Below w.heap.size w w5 by rw [← hw9]; exact HB4.out.setCell (p := ⟨g, 0, none⟩) (by show w.heap.size ≤ g; exact HG.out) _)
        clear hw9 HI4 HB4 k0 k1
        have hcv := HI5.out.text (cap := cap)
        rw [(HL 71).out] at hcv
        go_wp2_with fail
        refine (HP.out _).mono ?_
        rintro e w6 ⟨rfl, hb⟩
        have HB6 := Lib.hid (HB5.out.trans (hb.mono HB5.out.size))
        clear hb HB5 hcv HI5
        go_upto_region 15 with fail
        obtain ⟨q, hq⟩ : ∃ q, w6.heap.size = q := ⟨_, rfl⟩
        obtain ⟨w7, hw9⟩ : ∃ wy, w6.alloc (.cells #[.int .i64 1, .int .u64 (X : Nat), .int .u64 0, .int .i64 0] 24) = wy := ⟨_, rfl⟩
        try simp only [hw9]
        try simp only [hq]
        have HX7 := Lib.hid (show Box w7 q 24 #[.int .i64 1, .int .u64 (X : Nat), .int .u64 0, .int .i64 0] by rw [← hw9, ← hq]; exact Box.new _ _ _)
        have HB7 := Lib.hid (show Below w.heap.size w w7 by rw [← hw9]; exact HB6.out.alloc HB6.out.size _)
        clear hw9 hq HB6
        have o0 : w7.cell? ⟨q, 0, none⟩ = some (.int .i64 1) := HX7.out.cell 0
        have o1 : w7.cell? ⟨q, 1, none⟩ = some (.int .u64 (X : Nat)) := HX7.out.cell 1
        have o2 : w7.cell? ⟨q, 2, none⟩ = some (.int .u64 0) := HX7.out.cell 2
        have o3 : w7.cell? ⟨q, 3, none⟩ = some (.int .i64 0) := HX7.out.cell 3
        go_wp2
        go_roundw
        case rel => exact ⟨2, by go_num, by decide, by decide, HB7.out⟩
        case measure => simp [intOf]
    · as_aux_lemma =>
        go_wp2_with fail
        refine (HY2.out _).mono ?_
        rintro e w3 ⟨rfl, hb⟩
        have HB3 := Lib.hid (below3 HB.out hb)
        clear hb HB
        go_wp2_with fail
        go_quiet (fail)
        obtain ⟨wq, hwq⟩ : ∃ wy, w3.drewN nq = wy := ⟨_, rfl⟩
        simp only [hwq]
        have HBq := Lib.hid (show Below w.heap.size w wq by rw [← hwq]; exact below_drewN HB3.out _)
        clear hwq HB3
        obtain ⟨cap, w4, hcv, hb4, hi4⟩ := conv_bytes (ltr 2 :: d :: key) wq
        rw [(HL (ltr 2)).out] at hcv
        have HB4 := Lib.hid (HBq.out.trans (hb4.mono HBq.out.size))
        have HI4 := Lib.hid hi4
        clear hb4 hi4
        obtain ⟨g, hg⟩ : ∃ g, wq.heap.size = g := ⟨_, rfl⟩
        rw [hg] at hcv HI4
        have HG := Lib.hid (show w.heap.size ≤ g by rw [← hg]; exact HBq.out.size)
        clear hg
        go_upto_region 13 with fail
        clear hcv HBq
        have k0 : w4.cell? ⟨g, 0, none⟩ = some (.int .u8 ((ltr 2).toNat : Int)) := HI4.out.cell 0 (by simp)
        have k1 := HI4.out.frz 0 (by simp)
        go_upto_region 14 with fail
        obtain ⟨w5, hw9⟩ : ∃ wy, w4.setCell ⟨g, 0, none⟩ (.int .u8 (71 : Int)) = wy := ⟨_, rfl⟩
        try simp only [hw9]
        have HI5 := Lib.hid (show ByIn w5 g (71 :: d :: key) by rw [← hw9]; exact HI4.out.put 71)
        have HB5 := Lib.hid (show Below w.heap.size w w5 by rw [← hw9]; exact HB4.out.setCell (p := ⟨g, 0, none⟩) (by show w.heap.size ≤ g; exact HG.out) _)
        clear hw9 HI4 HB4 k0 k1
        have hcv := HI5.out.text (cap := cap)
        rw [(HL 71).out] at hcv
        go_wp2_with fail
        refine (HP.out _).mono ?_
        rintro e w6 ⟨rfl, hb⟩
        have HB6 := Lib.hid (HB5.out.trans (hb.mono HB5.out.size))
        clear hb HB5 hcv HI5
        go_upto_region 15 with fail
        obtain ⟨q, hq⟩ : ∃ q, w6.heap.size = q := ⟨_, rfl⟩
        obtain ⟨w7, hw9⟩ : ∃ wy, w6.alloc (.cells #[.int .i64 1, .int .u64 (X : Nat), .int .u64 0, .int .i64 0] 24) = wy := ⟨_, rfl⟩
        try simp only [hw9]
        try simp only [hq]
        have HX7 := Lib.hid (show Box w7 q 24 #[.int .i64 1, .int .u64 (X : Nat), .int .u64 0, .int .i64 0] by rw [← hw9, ← hq]; exact Box.new _ _ _)
        have HB7 := Lib.hid (show Below w.heap.size w w7 by rw [← hw9]; exact HB6.out.alloc HB6.out.size _)
        clear hw9 hq HB6
        have o0 : w7.cell? ⟨q, 0, none⟩ = some (.int .i64 1) := HX7.out.cell 0
        have o1 : w7.cell? ⟨q, 1, none⟩ = some (.int .u64 (X : Nat)) := HX7.out.cell 1
        have o2 : w7.cell? ⟨q, 2, none⟩ = some (.int .u64 0) := HX7.out.cell 2
        have o3 : w7.cell? ⟨q, 3, none⟩ = some (.int .i64 0) := HX7.out.cell 3
        go_wp2
        go_roundw
        case rel => exact ⟨3, by go_num, by decide, by decide, HB7.out⟩
        case measure => simp [intOf]
    · as_aux_lemma =>
        go_wp2
        go_roundw
        case rel => exact ⟨4, by go_num, by decide, by decide, HB.out⟩
        case measure => simp [intOf]
    · as_aux_lemma =>
        go_wp2_with fail
        refine (HY4.out _).mono ?_
        rintro e w3 ⟨rfl, hb⟩
        have HB3 := Lib.hid (below3 HB.out hb)
        clear hb HB
        go_wp2_with fail
        go_quiet (fail)
        obtain ⟨wq, hwq⟩ : ∃ wy, w3.drewN nq = wy := ⟨_, rfl⟩
        simp only [hwq]
        have HBq := Lib.hid (show Below w.heap.size w wq by rw [← hwq]; exact below_drewN HB3.out _)
        clear hwq HB3
        obtain ⟨cap, w4, hcv, hb4, hi4⟩ := conv_bytes (ltr 4 :: d :: key) wq
        rw [(HL (ltr 4)).out] at hcv
        have HB4 := Lib.hid (HBq.out.trans (hb4.mono HBq.out.size))
        have HI4 := Lib.hid hi4
        clear hb4 hi4
        obtain ⟨g, hg⟩ : ∃ g, wq.heap.size = g := ⟨_, rfl⟩
        rw [hg] at hcv HI4
        have HG := Lib.hid (show w.heap.size ≤ g by rw [← hg]; exact HBq.out.size)
        clear hg
        go_upto_region 13 with fail
        clear hcv HBq
        have k0 : w4.cell? ⟨g, 0, none⟩ = some (.int .u8 ((ltr 4).toNat : Int)) := HI4.out.cell 0 (by simp)
        have k1 := HI4.out.frz 0 (by simp)
        go_upto_region 14 with fail
        obtain ⟨w5, hw9⟩ : ∃ wy, w4.setCell ⟨g, 0, none⟩ (.int .u8 (71 : Int)) = wy := ⟨_, rfl⟩
        try simp only [hw9]
        have HI5 := Lib.hid (show ByIn w5 g (71 :: d :: key) by rw [← hw9]; exact HI4.out.put 71)
        have HB5 := Lib.hid (show Below w.heap.size w w5 by rw [← hw9]; exact HB4.out.setCell (p := ⟨g, 0, none⟩) (by show w.heap.size ≤ g; exact HG.out) _)
        clear hw9 HI4 HB4 k0 k1
        have hcv := HI5.out.text (cap := cap)
        rw [(HL 71).out] at hcv
        go_wp2_with fail
        refine (HP.out _).mono ?_
        rintro e w6 ⟨rfl, hb⟩
        have HB6 := Lib.hid (HB5.out.trans (hb.mono HB5.out.size))
        clear hb HB5 hcv HI5
        go_upto_region 15 with fail
        obtain ⟨q, hq⟩ : ∃ q, w6.heap.size = q := ⟨_, rfl⟩
        obtain ⟨w7, hw9⟩ : ∃ wy, w6.alloc (.cells #[.int .i64 1, .int .u64 (X : Nat), .int .u64 0, .int .i64 0] 24) = wy := ⟨_, rfl⟩
        try simp only [hw9]
        try simp only [hq]
        have HX7 := Lib.hid (show Box w7 q 24 #[.int .i64 1, .int .u64 (X : Nat), .int .u64 0, .int .i64 0] by rw [← hw9, ← hq]; exact Box.new _ _ _)
        have HB7 := Lib.hid (show Below w.heap.size w w7 by rw [← hw9]; exact HB6.out.alloc HB6.out.size _)
        clear hw9 hq HB6
        have o0 : w7.cell? ⟨q, 0, none⟩ = some (.int .i64 1) := HX7.out.cell 0
        have o1 : w7.cell? ⟨q, 1, none⟩ = some (.int .u64 (X : Nat)) := HX7.out.cell 1
        have o2 : w7.cell? ⟨q, 2, none⟩ = some (.int .u64 0) := HX7.out.cell 2
        have o3 : w7.cell? ⟨q, 3, none⟩ = some (.int .i64 0) := HX7.out.cell 3
        go_wp2
        go_roundw
        case rel => exact ⟨5, by go_num, by decide, by decide, HB7.out⟩
        case measure => simp [intOf]
    · as_aux_lemma =>
        go_wp2_with fail
        refine (HY5.out _).mono ?_
        rintro e w3 ⟨rfl, hb⟩
        have HB3 := Lib.hid (below3 HB.out hb)
        clear hb
        go_wp2_with fail
        refine (HY0.out _).mono ?_
        rintro e w4 ⟨rfl, hb⟩
        have HB4 := Lib.hid (below3 HB3.out hb)
        clear hb HB3
        go_wp2
        go_ret
        exact ⟨rfl, HB4.out⟩
set_option maxHeartbeats 8000000 in
set_option maxRecDepth 100000 in
theorem kinds_k (key : List UInt8) (w : World) (hk : key.length ≤ 7)  :
    Calls Try.prog 6 #[.string (BA key), .int .u8 (75 : Int)] w fun e w' => e = .returned (.bool true) ∧ Below w.heap.size w w' := by
  have z1 : (BA key).size = key.length := rfl
  have d1 : decide ((7 : Int) < (key.length : Int)) = false := by simp; omega
  have d2 : decide (7 < key.length) = false := by simp; omega
  have q0 : ∀ w, (binOp .neq 24 (.agg #[.int .i64 2, .int .u64 (wd (BA key) : Nat), .int .u64 0, .int .i64 0]) (.agg #[.int .i64 2, .int .u64 (wd (BA key) : Nat), .int .u64 0, .int .i64 0])).run Try.prog w = .ok (.bool false) w := fun w => by
    have h := neq_op ⟨2, wd (BA key), 0, 0⟩ ⟨2, wd (BA key), 0, 0⟩ w
    rw [Ov.q_self] at h
    exact h
  have hp : prs (75 :: UInt8.ofNat key.length :: key) = (⟨2, wd (BA key), 0, 0⟩, 0) := by
    have h := prs_key 2 key (by decide) (by omega)
    rw [if_pos hk] at h
    exact h
  have hw := wv'_few hk
  have HK := Lib.hid (fun w => lword_any key w (by omega))
  rw [hw] at HK
  have HY1 := Lib.hid (fun w => bytes_any ⟨1, wd (BA key), 0, 0⟩ w (wd_small key hk) (show 0 < 18446744073709551616 by decide))
  have HY2 := Lib.hid (fun w => bytes_any ⟨2, wd (BA key), 0, 0⟩ w (wd_small key hk) (show 0 < 18446744073709551616 by decide))
  have HY4 := Lib.hid (fun w => bytes_any ⟨4, wd (BA key), 0, 0⟩ w (wd_small key hk) (show 0 < 18446744073709551616 by decide))
  have HY5 := Lib.hid (fun w => bytes_any ⟨5, 0, 0, 0⟩ w (show 0 < 18446744073709551616 by decide) (show 0 < 18446744073709551616 by decide))
  have HY0 := Lib.hid (fun w => bytes_any ⟨0, 0, 0, 0⟩ w (show 0 < 18446744073709551616 by decide) (show 0 < 18446744073709551616 by decide))
  unfold SPost at HY1 HY2 HY4 HY5 HY0
  rw [bts_key 1 key hk (by decide)] at HY1
  rw [bts_key 2 key hk (by decide)] at HY2
  rw [bts_key 4 key hk (by decide)] at HY4
  rw [show bts ⟨5, 0, 0, 0⟩ = [76] from by decide] at HY5
  rw [show bts ⟨0, 0, 0, 0⟩ = [] from by decide] at HY0
  simp only [Ov.a] at HY1 HY2 HY4 HY5 HY0
  obtain ⟨d, hd⟩ : ∃ d, UInt8.ofNat key.length = d := ⟨_, rfl⟩
  have nd : (d.toNat : Int) = (key.length : Int) := by rw [← hd, u8_back _ (by omega)]
  rw [hd] at HY1 HY2 HY4 hp
  have HP := Lib.hid (fun w => parse_any (75 :: d :: key) w (by simp; omega))
  unfold PsPost at HP
  rw [hp] at HP
  simp only [Ov.a] at HP
  have e5 : ((BA [76]).toList == [76]) = true := by rw [BA_toList]; rfl
  have e0 := BA_none
  have q1 : ((BA key).toList == (BA key).toList) = true := by simp
  obtain ⟨K, hK⟩ : ∃ K, key.length = K := ⟨_, rfl⟩
  obtain ⟨N, hN⟩ : ∃ N, N = K + 2 := ⟨_, rfl⟩
  have c1 : IntKind.i64.wrap (d.toNat : Int) = (K : Int) := by rw [nd, hK]; exact w64_in _ (by omega) (by omega)
  have c2 : IntKind.i64.wrap ((K : Int) + 2) = (N : Int) := by rw [w64_in _ (by omega) (by omega)]; omega
  have hN0 : 0 < N := by omega
  rw [hK] at z1 d1 d2
  have zs1 : (BA (ltr 1 :: d :: key)).size = N := by rw [BA_size, hN, ← hK]; rfl
  have i10 : ∀ W, (Instr.index 9 (.string (BA (ltr 1 :: d :: key))) (.int .i64 0)).run Try.prog W = .ok (.int .u8 71) W := index_at (ltr 1 :: d :: key) 0 71 rfl
  have i11 : ∀ W, (Instr.index 9 (.string (BA (ltr 1 :: d :: key))) (.int .i64 1)).run Try.prog W = .ok (.int .u8 (d.toNat : Int)) W := index_at (ltr 1 :: d :: key) 1 d rfl
  have s1 : ∀ W, (Instr.slice 9 (.string (BA (ltr 1 :: d :: key))) (some (.int .i64 2)) none none).run Try.prog W = .ok (.string (BA key)) W := slice_from (ltr 1 :: d :: key) key 2 (by simp) rfl
  have zs2 : (BA (ltr 2 :: d :: key)).size = N := by rw [BA_size, hN, ← hK]; rfl
  have i20 : ∀ W, (Instr.index 9 (.string (BA (ltr 2 :: d :: key))) (.int .i64 0)).run Try.prog W = .ok (.int .u8 75) W := index_at (ltr 2 :: d :: key) 0 75 rfl
  have i21 : ∀ W, (Instr.index 9 (.string (BA (ltr 2 :: d :: key))) (.int .i64 1)).run Try.prog W = .ok (.int .u8 (d.toNat : Int)) W := index_at (ltr 2 :: d :: key) 1 d rfl
  have s2 : ∀ W, (Instr.slice 9 (.string (BA (ltr 2 :: d :: key))) (some (.int .i64 2)) none none).run Try.prog W = .ok (.string (BA key)) W := slice_from (ltr 2 :: d :: key) key 2 (by simp) rfl
  have zs4 : (BA (ltr 4 :: d :: key)).size = N := by rw [BA_size, hN, ← hK]; rfl
  have i40 : ∀ W, (Instr.index 9 (.string (BA (ltr 4 :: d :: key))) (.int .i64 0)).run Try.prog W = .ok (.int .u8 68) W := index_at (ltr 4 :: d :: key) 0 68 rfl
  have i41 : ∀ W, (Instr.index 9 (.string (BA (ltr 4 :: d :: key))) (.int .i64 1)).run Try.prog W = .ok (.int .u8 (d.toNat : Int)) W := index_at (ltr 4 :: d :: key) 1 d rfl
  have s4 : ∀ W, (Instr.slice 9 (.string (BA (ltr 4 :: d :: key))) (some (.int .i64 2)) none none).run Try.prog W = .ok (.string (BA key)) W := slice_from (ltr 4 :: d :: key) key 2 (by simp) rfl
  have HL : ∀ a : UInt8, Hid ((a :: d :: key).length = N) := fun a => Lib.hid (by rw [hN, ← hK]; rfl)
  clear hk hw hd nd hK hN hp
  generalize wd (BA key) = X at *
  go_enter Try.func6, Try.ntmps6
  go_wp2_with fail
  refine (opshown_any _).mono ?_
  rintro e w1 ⟨rfl, hb⟩
  have HB1 := Lib.hid hb
  clear hb
  go_wp2_with fail
  refine (HK.out _).mono ?_
  rintro e w2 ⟨rfl, hb⟩
  have HB2 := Lib.hid (below3 HB1.out hb)
  clear hb HB1 HK
  go_wp2_with fail
  go_loopw [7] (fun i wr => ∃ j : Int, i = .int .i64 j ∧ 1 ≤ j ∧ j ≤ 5 ∧ Below w.heap.size w wr) (fun i _ => (5 - intOf i).toNat)
  case atStart => exact ⟨1, rfl, by decide, by decide, HB2.out⟩
  case round =>
    obtain ⟨j, rfl, hj1, hj5, hB⟩ := hrel
    have HB := Lib.hid hB
    clear hB
    rcases (by omega : j = 1 ∨ j = 2 ∨ j = 3 ∨ j = 4 ∨ j = 5) with h | h | h | h | h <;> subst h <;> clear hj1 hj5
    · as_aux_lemma =>
        go_wp2_with fail
        refine (HY1.out _).mono ?_
        rintro e w3 ⟨rfl, hb⟩
        have HB3 := Lib.hid (below3 HB.out hb)
        clear hb HB
        go_wp2_with fail
        go_quiet (fail)
        obtain ⟨wq, hwq⟩ : ∃ wy, w3.drewN nq = wy := ⟨_, rfl⟩
        simp only [hwq]
        have HBq := Lib.hid (show Below w.heap.size w wq by rw [← hwq]; exact below_drewN HB3.out _)
        clear hwq HB3
        obtain ⟨cap, w4, hcv, hb4, hi4⟩ := conv_bytes (ltr 1 :: d :: key) wq
        rw [(HL (ltr 1)).out] at hcv
        have HB4 := Lib.hid (HBq.out.trans (hb4.mono HBq.out.size))
        have HI4 := Lib.hid hi4
        clear hb4 hi4
        obtain ⟨g, hg⟩ : ∃ g, wq.heap.size = g := ⟨_, rfl⟩
        rw [hg] at hcv HI4
        have HG := Lib.hid (show w.heap.size ≤ g by rw [← hg]; exact HBq.out.size)
        clear hg
        go_upto_region 13 with fail
        clear hcv HBq
        have k0 : w4.cell? ⟨g, 0, none⟩ = some (.int .u8 ((ltr 1).toNat : Int)) := HI4.out.cell 0 (by simp)
        have k1 := HI4.out.frz 0 (by simp)
        go_upto_region 14 with fail
        obtain ⟨w5, hw9⟩ : ∃ wy, w4.setCell ⟨g, 0, none⟩ (.int .u8 (75 : Int)) = wy := ⟨_, rfl⟩
        try simp only [hw9]
        have HI5 := Lib.hid (show ByIn w5 g (75 :: d :: key) by rw [← hw9]; exact HI4.out.put 75)
        have HB5 := Lib.hid (show Below w.heap.size w w5 by rw [← hw9]; exact HB4.out.setCell (p := ⟨g, 0, none⟩) (by show w.heap.size ≤ g; exact HG.out) _)
        clear hw9 HI4 HB4 k0 k1
        have hcv := HI5.out.text (cap := cap)
        rw [(HL 75).out] at hcv
        go_wp2_with fail
        refine (HP.out _).mono ?_
        rintro e w6 ⟨rfl, hb⟩
        have HB6 := Lib.hid (HB5.out.trans (hb.mono HB5.out.size))
        clear hb HB5 hcv HI5
        go_upto_region 15 with fail
        obtain ⟨q, hq⟩ : ∃ q, w6.heap.size = q := ⟨_, rfl⟩
        obtain ⟨w7, hw9⟩ : ∃ wy, w6.alloc (.cells #[.int .i64 2, .int .u64 (X : Nat), .int .u64 0, .int .i64 0] 24) = wy := ⟨_, rfl⟩
        try simp only [hw9]
        try simp only [hq]
        have HX7 := Lib.hid (show Box w7 q 24 #[.int .i64 2, .int .u64 (X : Nat), .int .u64 0, .int .i64 0] by rw [← hw9, ← hq]; exact Box.new _ _ _)
        have HB7 := Lib.hid (show Below w.heap.size w w7 by rw [← hw9]; exact HB6.out.alloc HB6.out.size _)
        clear hw9 hq HB6
        have o0 : w7.cell? ⟨q, 0, none⟩ = some (.int .i64 2) := HX7.out.cell 0
        have o1 : w7.cell? ⟨q, 1, none⟩ = some (.int .u64 (X : Nat)) := HX7.out.cell 1
        have o2 : w7.cell? ⟨q, 2, none⟩ = some (.int .u64 0) := HX7.out.cell 2
        have o3 : w7.cell? ⟨q, 3, none⟩ = some (.int .i64 0) := HX7.out.cell 3
        go_wp2
        go_roundw
        case rel => exact ⟨2, by go_num, by decide, by decide, HB7.out⟩
        case measure => simp [intOf]
    · as_aux_lemma =>
        go_wp2_with fail
        refine (HY2.out _).mono ?_
        rintro e w3 ⟨rfl, hb⟩
        have HB3 := Lib.hid (below3 HB.out hb)
        clear hb HB
        go_wp2_with fail
        go_quiet (fail)
        obtain ⟨wq, hwq⟩ : ∃ wy, w3.drewN nq = wy := ⟨_, rfl⟩
        simp only [hwq]
        have HBq := Lib.hid (show Below w.heap.size w wq by rw [← hwq]; exact below_drewN HB3.out _)
        clear hwq HB3
        obtain ⟨cap, w4, hcv, hb4, hi4⟩ := conv_bytes (ltr 2 :: d :: key) wq
        rw [(HL (ltr 2)).out] at hcv
        have HB4 := Lib.hid (HBq.out.trans (hb4.mono HBq.out.size))
        have HI4 := Lib.hid hi4
        clear hb4 hi4
        obtain ⟨g, hg⟩ : ∃ g, wq.heap.size = g := ⟨_, rfl⟩
        rw [hg] at hcv HI4
        have HG := Lib.hid (show w.heap.size ≤ g by rw [← hg]; exact HBq.out.size)
        clear hg
        go_upto_region 13 with fail
        clear hcv HBq
        have k0 : w4.cell? ⟨g, 0, none⟩ = some (.int .u8 ((ltr 2).toNat : Int)) := HI4.out.cell 0 (by simp)
        have k1 := HI4.out.frz 0 (by simp)
        go_upto_region 14 with fail
        obtain ⟨w5, hw9⟩ : ∃ wy, w4.setCell ⟨g, 0, none⟩ (.int .u8 (75 : Int)) = wy := ⟨_, rfl⟩
        try simp only [hw9]
        have HI5 := Lib.hid (show ByIn w5 g (75 :: d :: key) by rw [← hw9]; exact HI4.out.put 75)
        have HB5 := Lib.hid (show Below w.heap.size w w5 by rw [← hw9]; exact HB4.out.setCell (p := ⟨g, 0, none⟩) (by show w.heap.size ≤ g; exact HG.out) _)
        clear hw9 HI4 HB4 k0 k1
        have hcv := HI5.out.text (cap := cap)
        rw [(HL 75).out] at hcv
        go_wp2_with fail
        refine (HP.out _).mono ?_
        rintro e w6 ⟨rfl, hb⟩
        have HB6 := Lib.hid (HB5.out.trans (hb.mono HB5.out.size))
        clear hb HB5 hcv HI5
        go_upto_region 15 with fail
        obtain ⟨q, hq⟩ : ∃ q, w6.heap.size = q := ⟨_, rfl⟩
        obtain ⟨w7, hw9⟩ : ∃ wy, w6.alloc (.cells #[.int .i64 2, .int .u64 (X : Nat), .int .u64 0, .int .i64 0] 24) = wy := ⟨_, rfl⟩
        try simp only [hw9]
        try simp only [hq]
        have HX7 := Lib.hid (show Box w7 q 24 #[.int .i64 2, .int .u64 (X : Nat), .int .u64 0, .int .i64 0] by rw [← hw9, ← hq]; exact Box.new _ _ _)
        have HB7 := Lib.hid (show Below w.heap.size w w7 by rw [← hw9]; exact HB6.out.alloc HB6.out.size _)
        clear hw9 hq HB6
        have o0 : w7.cell? ⟨q, 0, none⟩ = some (.int .i64 2) := HX7.out.cell 0
        have o1 : w7.cell? ⟨q, 1, none⟩ = some (.int .u64 (X : Nat)) := HX7.out.cell 1
        have o2 : w7.cell? ⟨q, 2, none⟩ = some (.int .u64 0) := HX7.out.cell 2
        have o3 : w7.cell? ⟨q, 3, none⟩ = some (.int .i64 0) := HX7.out.cell 3
        go_wp2
        go_roundw
        case rel => exact ⟨3, by go_num, by decide, by decide, HB7.out⟩
        case measure => simp [intOf]
    · as_aux_lemma =>
        go_wp2
        go_roundw
        case rel => exact ⟨4, by go_num, by decide, by decide, HB.out⟩
        case measure => simp [intOf]
    · as_aux_lemma =>
        go_wp2_with fail
        refine (HY4.out _).mono ?_
        rintro e w3 ⟨rfl, hb⟩
        have HB3 := Lib.hid (below3 HB.out hb)
        clear hb HB
        go_wp2_with fail
        go_quiet (fail)
        obtain ⟨wq, hwq⟩ : ∃ wy, w3.drewN nq = wy := ⟨_, rfl⟩
        simp only [hwq]
        have HBq := Lib.hid (show Below w.heap.size w wq by rw [← hwq]; exact below_drewN HB3.out _)
        clear hwq HB3
        obtain ⟨cap, w4, hcv, hb4, hi4⟩ := conv_bytes (ltr 4 :: d :: key) wq
        rw [(HL (ltr 4)).out] at hcv
        have HB4 := Lib.hid (HBq.out.trans (hb4.mono HBq.out.size))
        have HI4 := Lib.hid hi4
        clear hb4 hi4
        obtain ⟨g, hg⟩ : ∃ g, wq.heap.size = g := ⟨_, rfl⟩
        rw [hg] at hcv HI4
        have HG := Lib.hid (show w.heap.size ≤ g by rw [← hg]; exact HBq.out.size)
        clear hg
        go_upto_region 13 with fail
        clear hcv HBq
        have k0 : w4.cell? ⟨g, 0, none⟩ = some (.int .u8 ((ltr 4).toNat : Int)) := HI4.out.cell 0 (by simp)
        have k1 := HI4.out.frz 0 (by simp)
        go_upto_region 14 with fail
        obtain ⟨w5, hw9⟩ : ∃ wy, w4.setCell ⟨g, 0, none⟩ (.int .u8 (75 : Int)) = wy := ⟨_, rfl⟩
        try simp only [hw9]
        have HI5 := Lib.hid (show ByIn w5 g (75 :: d :: key) by rw [← hw9]; exact HI4.out.put 75)
        have HB5 := Lib.hid (show Below w.heap.size w w5 by rw [← hw9]; exact HB4.out.setCell (p := ⟨g, 0, none⟩) (by show w.heap.size ≤ g; exact HG.out) _)
        clear hw9 HI4 HB4 k0 k1
        have hcv := HI5.out.text (cap := cap)
        rw [(HL 75).out] at hcv
        go_wp2_with fail
        refine (HP.out _).mono ?_
        rintro e w6 ⟨rfl, hb⟩
        have HB6 := Lib.hid (HB5.out.trans (hb.mono HB5.out.size))
        clear hb HB5 hcv HI5
        go_upto_region 15 with fail
        obtain ⟨q, hq⟩ : ∃ q, w6.heap.size = q := ⟨_, rfl⟩
        obtain ⟨w7, hw9⟩ : ∃ wy, w6.alloc (.cells #[.int .i64 2, .int .u64 (X : Nat), .int .u64 0, .int .i64 0] 24) = wy := ⟨_, rfl⟩
        try simp only [hw9]
        try simp only [hq]
        have HX7 := Lib.hid (show Box w7 q 24 #[.int .i64 2, .int .u64 (X : Nat), .int .u64 0, .int .i64 0] by rw [← hw9, ← hq]; exact Box.new _ _ _)
        have HB7 := Lib.hid (show Below w.heap.size w w7 by rw [← hw9]; exact HB6.out.alloc HB6.out.size _)
        clear hw9 hq HB6
        have o0 : w7.cell? ⟨q, 0, none⟩ = some (.int .i64 2) := HX7.out.cell 0
        have o1 : w7.cell? ⟨q, 1, none⟩ = some (.int .u64 (X : Nat)) := HX7.out.cell 1
        have o2 : w7.cell? ⟨q, 2, none⟩ = some (.int .u64 0) := HX7.out.cell 2
        have o3 : w7.cell? ⟨q, 3, none⟩ = some (.int .i64 0) := HX7.out.cell 3
        go_wp2
        go_roundw
        case rel => exact ⟨5, by go_num, by decide, by decide, HB7.out⟩
        case measure => simp [intOf]
    · as_aux_lemma =>
        go_wp2_with fail
        refine (HY5.out _).mono ?_
        rintro e w3 ⟨rfl, hb⟩
        have HB3 := Lib.hid (below3 HB.out hb)
        clear hb
        go_wp2_with fail
        refine (HY0.out _).mono ?_
        rintro e w4 ⟨rfl, hb⟩
        have HB4 := Lib.hid (below3 HB3.out hb)
        clear hb HB3
        go_wp2
        go_ret
        exact ⟨rfl, HB4.out⟩
set_option maxHeartbeats 8000000 in
set_option maxRecDepth 100000 in
theorem kinds_d (key : List UInt8) (w : World) (hk : key.length ≤ 7)  :
    Calls Try.prog 6 #[.string (BA key), .int .u8 (68 : Int)] w fun e w' => e = .returned (.bool true) ∧ Below w.heap.size w w' := by
  have z1 : (BA key).size = key.length := rfl
  have d1 : decide ((7 : Int) < (key.length : Int)) = false := by simp; omega
  have d2 : decide (7 < key.length) = false := by simp; omega
  have q0 : ∀ w, (binOp .neq 24 (.agg #[.int .i64 4, .int .u64 (wd (BA key) : Nat), .int .u64 0, .int .i64 0]) (.agg #[.int .i64 4, .int .u64 (wd (BA key) : Nat), .int .u64 0, .int .i64 0])).run Try.prog w = .ok (.bool false) w := fun w => by
    have h := neq_op ⟨4, wd (BA key), 0, 0⟩ ⟨4, wd (BA key), 0, 0⟩ w
    rw [Ov.q_self] at h
    exact h
  have hp : prs (68 :: UInt8.ofNat key.length :: key) = (⟨4, wd (BA key), 0, 0⟩, 0) := by
    have h := prs_key 4 key (by decide) (by omega)
    rw [if_pos hk] at h
    exact h
  have hw := wv'_few hk
  have HK := Lib.hid (fun w => lword_any key w (by omega))
  rw [hw] at HK
  have HY1 := Lib.hid (fun w => bytes_any ⟨1, wd (BA key), 0, 0⟩ w (wd_small key hk) (show 0 < 18446744073709551616 by decide))
  have HY2 := Lib.hid (fun w => bytes_any ⟨2, wd (BA key), 0, 0⟩ w (wd_small key hk) (show 0 < 18446744073709551616 by decide))
  have HY4 := Lib.hid (fun w => bytes_any ⟨4, wd (BA key), 0, 0⟩ w (wd_small key hk) (show 0 < 18446744073709551616 by decide))
  have HY5 := Lib.hid (fun w => bytes_any ⟨5, 0, 0, 0⟩ w (show 0 < 18446744073709551616 by decide) (show 0 < 18446744073709551616 by decide))
  have HY0 := Lib.hid (fun w => bytes_any ⟨0, 0, 0, 0⟩ w (show 0 < 18446744073709551616 by decide) (show 0 < 18446744073709551616 by decide))
  unfold SPost at HY1 HY2 HY4 HY5 HY0
  rw [bts_key 1 key hk (by decide)] at HY1
  rw [bts_key 2 key hk (by decide)] at HY2
  rw [bts_key 4 key hk (by decide)] at HY4
  rw [show bts ⟨5, 0, 0, 0⟩ = [76] from by decide] at HY5
  rw [show bts ⟨0, 0, 0, 0⟩ = [] from by decide] at HY0
  simp only [Ov.a] at HY1 HY2 HY4 HY5 HY0
  obtain ⟨d, hd⟩ : ∃ d, UInt8.ofNat key.length = d := ⟨_, rfl⟩
  have nd : (d.toNat : Int) = (key.length : Int) := by rw [← hd, u8_back _ (by omega)]
  rw [hd] at HY1 HY2 HY4 hp
  have HP := Lib.hid (fun w => parse_any (68 :: d :: key) w (by simp; omega))
  unfold PsPost at HP
  rw [hp] at HP
  simp only [Ov.a] at HP
  have e5 : ((BA [76]).toList == [76]) = true := by rw [BA_toList]; rfl
  have e0 := BA_none
  have q1 : ((BA key).toList == (BA key).toList) = true := by simp
  obtain ⟨K, hK⟩ : ∃ K, key.length = K := ⟨_, rfl⟩
  obtain ⟨N, hN⟩ : ∃ N, N = K + 2 := ⟨_, rfl⟩
  have c1 : IntKind.i64.wrap (d.toNat : Int) = (K : Int) := by rw [nd, hK]; exact w64_in _ (by omega) (by omega)
  have c2 : IntKind.i64.wrap ((K : Int) + 2) = (N : Int) := by rw [w64_in _ (by omega) (by omega)]; omega
  have hN0 : 0 < N := by omega
  rw [hK] at z1 d1 d2
  have zs1 : (BA (ltr 1 :: d :: key)).size = N := by rw [BA_size, hN, ← hK]; rfl
  have i10 : ∀ W, (Instr.index 9 (.string (BA (ltr 1 :: d :: key))) (.int .i64 0)).run Try.prog W = .ok (.int .u8 71) W := index_at (ltr 1 :: d :: key) 0 71 rfl
  have i11 : ∀ W, (Instr.index 9 (.string (BA (ltr 1 :: d :: key))) (.int .i64 1)).run Try.prog W = .ok (.int .u8 (d.toNat : Int)) W := index_at (ltr 1 :: d :: key) 1 d rfl
  have s1 : ∀ W, (Instr.slice 9 (.string (BA (ltr 1 :: d :: key))) (some (.int .i64 2)) none none).run Try.prog W = .ok (.string (BA key)) W := slice_from (ltr 1 :: d :: key) key 2 (by simp) rfl
  have zs2 : (BA (ltr 2 :: d :: key)).size = N := by rw [BA_size, hN, ← hK]; rfl
  have i20 : ∀ W, (Instr.index 9 (.string (BA (ltr 2 :: d :: key))) (.int .i64 0)).run Try.prog W = .ok (.int .u8 75) W := index_at (ltr 2 :: d :: key) 0 75 rfl
  have i21 : ∀ W, (Instr.index 9 (.string (BA (ltr 2 :: d :: key))) (.int .i64 1)).run Try.prog W = .ok (.int .u8 (d.toNat : Int)) W := index_at (ltr 2 :: d :: key) 1 d rfl
  have s2 : ∀ W, (Instr.slice 9 (.string (BA (ltr 2 :: d :: key))) (some (.int .i64 2)) none none).run Try.prog W = .ok (.string (BA key)) W := slice_from (ltr 2 :: d :: key) key 2 (by simp) rfl
  have zs4 : (BA (ltr 4 :: d :: key)).size = N := by rw [BA_size, hN, ← hK]; rfl
  have i40 : ∀ W, (Instr.index 9 (.string (BA (ltr 4 :: d :: key))) (.int .i64 0)).run Try.prog W = .ok (.int .u8 68) W := index_at (ltr 4 :: d :: key) 0 68 rfl
  have i41 : ∀ W, (Instr.index 9 (.string (BA (ltr 4 :: d :: key))) (.int .i64 1)).run Try.prog W = .ok (.int .u8 (d.toNat : Int)) W := index_at (ltr 4 :: d :: key) 1 d rfl
  have s4 : ∀ W, (Instr.slice 9 (.string (BA (ltr 4 :: d :: key))) (some (.int .i64 2)) none none).run Try.prog W = .ok (.string (BA key)) W := slice_from (ltr 4 :: d :: key) key 2 (by simp) rfl
  have HL : ∀ a : UInt8, Hid ((a :: d :: key).length = N) := fun a => Lib.hid (by rw [hN, ← hK]; rfl)
  clear hk hw hd nd hK hN hp
  generalize wd (BA key) = X at *
  go_enter Try.func6, Try.ntmps6
  go_wp2_with fail
  refine (opshown_any _).mono ?_
  rintro e w1 ⟨rfl, hb⟩
  have HB1 := Lib.hid hb
  clear hb
  go_wp2_with fail
  refine (HK.out _).mono ?_
  rintro e w2 ⟨rfl, hb⟩
  have HB2 := Lib.hid (below3 HB1.out hb)
  clear hb HB1 HK
  go_wp2_with fail
  go_loopw [7] (fun i wr => ∃ j : Int, i = .int .i64 j ∧ 1 ≤ j ∧ j ≤ 5 ∧ Below w.heap.size w wr) (fun i _ => (5 - intOf i).toNat)
  case atStart => exact ⟨1, rfl, by decide, by decide, HB2.out⟩
  case round =>
    obtain ⟨j, rfl, hj1, hj5, hB⟩ := hrel
    have HB := Lib.hid hB
    clear hB
    rcases (by omega : j = 1 ∨ j = 2 ∨ j = 3 ∨ j = 4 ∨ j = 5) with h | h | h | h | h <;> subst h <;> clear hj1 hj5
    · as_aux_lemma =>
        go_wp2_with fail
        refine (HY1.out _).mono ?_
        rintro e w3 ⟨rfl, hb⟩
        have HB3 := Lib.hid (below3 HB.out hb)
        clear hb HB
        go_wp2_with fail
        go_quiet (fail)
        obtain ⟨wq, hwq⟩ : ∃ wy, w3.drewN nq = wy := ⟨_, rfl⟩
        simp only [hwq]
        have HBq := Lib.hid (show Below w.heap.size w wq by rw [← hwq]; exact below_drewN HB3.out _)
        clear hwq HB3
        obtain ⟨cap, w4, hcv, hb4, hi4⟩ := conv_bytes (ltr 1 :: d :: key) wq
        rw [(HL (ltr 1)).out] at hcv
        have HB4 := Lib.hid (HBq.out.trans (hb4.mono HBq.out.size))
        have HI4 := Lib.hid hi4
        clear hb4 hi4
        obtain ⟨g, hg⟩ : ∃ g, wq.heap.size = g := ⟨_, rfl⟩
        rw [hg] at hcv HI4
        have HG := Lib.hid (show w.heap.size ≤ g by rw [← hg]; exact HBq.out.size)
        clear hg
        go_upto_region 13 with fail
        clear hcv HBq
        have k0 : w4.cell? ⟨g, 0, none⟩ = some (.int .u8 ((ltr 1).toNat : Int)) := HI4.out.cell 0 (by simp)
        have k1 := HI4.out.frz 0 (by simp)
        go_upto_region 14 with fail
        obtain ⟨w5, hw9⟩ : ∃ wy, w4.setCell ⟨g, 0, none⟩ (.int .u8 (68 : Int)) = wy := ⟨_, rfl⟩
        try simp only [hw9]
        have HI5 := Lib.hid (show ByIn w5 g (68 :: d :: key) by rw [← hw9]; exact HI4.out.put 68)
        have HB5 := Lib.hid (show Below w.heap.size w w5 by rw [← hw9]; exact HB4.out.setCell (p := ⟨g, 0, none⟩) (by show w.heap.size ≤ g; exact HG.out) _)
        clear hw9 HI4 HB4 k0 k1
        have hcv := HI5.out.text (cap := cap)
        rw [(HL 68).out] at hcv
        go_wp2_with fail
        refine (HP.out _).mono ?_
        rintro e w6 ⟨rfl, hb⟩
        have HB6 := Lib.hid (HB5.out.trans (hb.mono HB5.out.size))
        clear hb HB5 hcv HI5
        go_upto_region 15 with fail
        obtain ⟨q, hq⟩ : ∃ q, w6.heap.size = q := ⟨_, rfl⟩
        obtain ⟨w7, hw9⟩ : ∃ wy, w6.alloc (.cells #[.int .i64 4, .int .u64 (X : Nat), .int .u64 0, .int .i64 0] 24) = wy := ⟨_, rfl⟩
        try simp only [hw9]
        try simp only [hq]
        have HX7 := Lib.hid (show Box w7 q 24 #[.int .i64 4, .int .u64 (X : Nat), .int .u64 0, .int .i64 0] by rw [← hw9, ← hq]; exact Box.new _ _ _)
        have HB7 := Lib.hid (show Below w.heap.size w w7 by rw [← hw9]; exact HB6.out.alloc HB6.out.size _)
        clear hw9 hq HB6
        have o0 : w7.cell? ⟨q, 0, none⟩ = some (.int .i64 4) := HX7.out.cell 0
        have o1 : w7.cell? ⟨q, 1, none⟩ = some (.int .u64 (X : Nat)) := HX7.out.cell 1
        have o2 : w7.cell? ⟨q, 2, none⟩ = some (.int .u64 0) := HX7.out.cell 2
        have o3 : w7.cell? ⟨q, 3, none⟩ = some (.int .i64 0) := HX7.out.cell 3
        go_wp2
        go_roundw
        case rel => exact ⟨2, by go_num, by decide, by decide, HB7.out⟩
        case measure => simp [intOf]
    · as_aux_lemma =>
        go_wp2_with fail
        refine (HY2.out _).mono ?_
        rintro e w3 ⟨rfl, hb⟩
        have HB3 := Lib.hid (below3 HB.out hb)
        clear hb HB
        go_wp2_with fail
        go_quiet (fail)
        obtain ⟨wq, hwq⟩ : ∃ wy, w3.drewN nq = wy := ⟨_, rfl⟩
        simp only [hwq]
        have HBq := Lib.hid (show Below w.heap.size w wq by rw [← hwq]; exact below_drewN HB3.out _)
        clear hwq HB3
        obtain ⟨cap, w4, hcv, hb4, hi4⟩ := conv_bytes (ltr 2 :: d :: key) wq
        rw [(HL (ltr 2)).out] at hcv
        have HB4 := Lib.hid (HBq.out.trans (hb4.mono HBq.out.size))
        have HI4 := Lib.hid hi4
        clear hb4 hi4
        obtain ⟨g, hg⟩ : ∃ g, wq.heap.size = g := ⟨_, rfl⟩
        rw [hg] at hcv HI4
        have HG := Lib.hid (show w.heap.size ≤ g by rw [← hg]; exact HBq.out.size)
        clear hg
        go_upto_region 13 with fail
        clear hcv HBq
        have k0 : w4.cell? ⟨g, 0, none⟩ = some (.int .u8 ((ltr 2).toNat : Int)) := HI4.out.cell 0 (by simp)
        have k1 := HI4.out.frz 0 (by simp)
        go_upto_region 14 with fail
        obtain ⟨w5, hw9⟩ : ∃ wy, w4.setCell ⟨g, 0, none⟩ (.int .u8 (68 : Int)) = wy := ⟨_, rfl⟩
        try simp only [hw9]
        have HI5 := Lib.hid (show ByIn w5 g (68 :: d :: key) by rw [← hw9]; exact HI4.out.put 68)
        have HB5 := Lib.hid (show Below w.heap.size w w5 by rw [← hw9]; exact HB4.out.setCell (p := ⟨g, 0, none⟩) (by show w.heap.size ≤ g; exact HG.out) _)
        clear hw9 HI4 HB4 k0 k1
        have hcv := HI5.out.text (cap := cap)
        rw [(HL 68).out] at hcv
        go_wp2_with fail
        refine (HP.out _).mono ?_
        rintro e w6 ⟨rfl, hb⟩
        have HB6 := Lib.hid (HB5.out.trans (hb.mono HB5.out.size))
        clear hb HB5 hcv HI5
        go_upto_region 15 with fail
        obtain ⟨q, hq⟩ : ∃ q, w6.heap.size = q := ⟨_, rfl⟩
        obtain ⟨w7, hw9⟩ : ∃ wy, w6.alloc (.cells #[.int .i64 4, .int .u64 (X : Nat), .int .u64 0, .int .i64 0] 24) = wy := ⟨_, rfl⟩
        try simp only [hw9]
        try simp only [hq]
        have HX7 := Lib.hid (show Box w7 q 24 #[.int .i64 4, .int .u64 (X : Nat), .int .u64 0, .int .i64 0] by rw [← hw9, ← hq]; exact Box.new _ _ _)
        have HB7 := Lib.hid (show Below w.heap.size w w7 by rw [← hw9]; exact HB6.out.alloc HB6.out.size _)
        clear hw9 hq HB6
        have o0 : w7.cell? ⟨q, 0, none⟩ = some (.int .i64 4) := HX7.out.cell 0
        have o1 : w7.cell? ⟨q, 1, none⟩ = some (.int .u64 (X : Nat)) := HX7.out.cell 1
        have o2 : w7.cell? ⟨q, 2, none⟩ = some (.int .u64 0) := HX7.out.cell 2
        have o3 : w7.cell? ⟨q, 3, none⟩ = some (.int .i64 0) := HX7.out.cell 3
        go_wp2
        go_roundw
        case rel => exact ⟨3, by go_num, by decide, by decide, HB7.out⟩
        case measure => simp [intOf]
    · as_aux_lemma =>
        go_wp2
        go_roundw
        case rel => exact ⟨4, by go_num, by decide, by decide, HB.out⟩
        case measure => simp [intOf]
    · as_aux_lemma =>
        go_wp2_with fail
        refine (HY4.out _).mono ?_
        rintro e w3 ⟨rfl, hb⟩
        have HB3 := Lib.hid (below3 HB.out hb)
        clear hb HB
        go_wp2_with fail
        go_quiet (fail)
        obtain ⟨wq, hwq⟩ : ∃ wy, w3.drewN nq = wy := ⟨_, rfl⟩
        simp only [hwq]
        have HBq := Lib.hid (show Below w.heap.size w wq by rw [← hwq]; exact below_drewN HB3.out _)
        clear hwq HB3
        obtain ⟨cap, w4, hcv, hb4, hi4⟩ := conv_bytes (ltr 4 :: d :: key) wq
        rw [(HL (ltr 4)).out] at hcv
        have HB4 := Lib.hid (HBq.out.trans (hb4.mono HBq.out.size))
        have HI4 := Lib.hid hi4
        clear hb4 hi4
        obtain ⟨g, hg⟩ : ∃ g, wq.heap.size = g := ⟨_, rfl⟩
        rw [hg] at hcv HI4
        have HG := Lib.hid (show w.heap.size ≤ g by rw [← hg]; exact HBq.out.size)
        clear hg
        go_upto_region 13 with fail
        clear hcv HBq
        have k0 : w4.cell? ⟨g, 0, none⟩ = some (.int .u8 ((ltr 4).toNat : Int)) := HI4.out.cell 0 (by simp)
        have k1 := HI4.out.frz 0 (by simp)
        go_upto_region 14 with fail
        obtain ⟨w5, hw9⟩ : ∃ wy, w4.setCell ⟨g, 0, none⟩ (.int .u8 (68 : Int)) = wy := ⟨_, rfl⟩
        try simp only [hw9]
        have HI5 := Lib.hid (show ByIn w5 g (68 :: d :: key) by rw [← hw9]; exact HI4.out.put 68)
        have HB5 := Lib.hid (show Below w.heap.size w w5 by rw [← hw9]; exact HB4.out.setCell (p := ⟨g, 0, none⟩) (by show w.heap.size ≤ g; exact HG.out) _)
        clear hw9 HI4 HB4 k0 k1
        have hcv := HI5.out.text (cap := cap)
        rw [(HL 68).out] at hcv
        go_wp2_with fail
        refine (HP.out _).mono ?_
        rintro e w6 ⟨rfl, hb⟩
        have HB6 := Lib.hid (HB5.out.trans (hb.mono HB5.out.size))
        clear hb HB5 hcv HI5
        go_upto_region 15 with fail
        obtain ⟨q, hq⟩ : ∃ q, w6.heap.size = q := ⟨_, rfl⟩
        obtain ⟨w7, hw9⟩ : ∃ wy, w6.alloc (.cells #[.int .i64 4, .int .u64 (X : Nat), .int .u64 0, .int .i64 0] 24) = wy := ⟨_, rfl⟩
        try simp only [hw9]
        try simp only [hq]
        have HX7 := Lib.hid (show Box w7 q 24 #[.int .i64 4, .int .u64 (X : Nat), .int .u64 0, .int .i64 0] by rw [← hw9, ← hq]; exact Box.new _ _ _)
        have HB7 := Lib.hid (show Below w.heap.size w w7 by rw [← hw9]; exact HB6.out.alloc HB6.out.size _)
        clear hw9 hq HB6
        have o0 : w7.cell? ⟨q, 0, none⟩ = some (.int .i64 4) := HX7.out.cell 0
        have o1 : w7.cell? ⟨q, 1, none⟩ = some (.int .u64 (X : Nat)) := HX7.out.cell 1
        have o2 : w7.cell? ⟨q, 2, none⟩ = some (.int .u64 0) := HX7.out.cell 2
        have o3 : w7.cell? ⟨q, 3, none⟩ = some (.int .i64 0) := HX7.out.cell 3
        go_wp2
        go_roundw
        case rel => exact ⟨5, by go_num, by decide, by decide, HB7.out⟩
        case measure => simp [intOf]
    · as_aux_lemma =>
        go_wp2_with fail
        refine (HY5.out _).mono ?_
        rintro e w3 ⟨rfl, hb⟩
        have HB3 := Lib.hid (below3 HB.out hb)
        clear hb
        go_wp2_with fail
        refine (HY0.out _).mono ?_
        rintro e w4 ⟨rfl, hb⟩
        have HB4 := Lib.hid (below3 HB3.out hb)
        clear hb HB3
        go_wp2
        go_ret
        exact ⟨rfl, HB4.out⟩
set_option maxHeartbeats 8000000 in
set_option maxRecDepth 100000 in
theorem kinds_p (key : List UInt8) (k2 : Int) (x2 v2 : Nat) (f2 e2 : Int) (w : World) (hk : key.length ≤ 7) (hp : prs (80 :: UInt8.ofNat key.length :: key) = (⟨k2, x2, v2, f2⟩, e2)) :
    Calls Try.prog 6 #[.string (BA key), .int .u8 (80 : Int)] w fun e w' => e = .returned (.bool true) ∧ Below w.heap.size w w' := by
  have z1 : (BA key).size = key.length := rfl
  have d1 : decide ((7 : Int) < (key.length : Int)) = false := by simp; omega
  have d2 : decide (7 < key.length) = false := by simp; omega
  have hw := wv'_few hk
  have HK := Lib.hid (fun w => lword_any key w (by omega))
  rw [hw] at HK
  have HY1 := Lib.hid (fun w => bytes_any ⟨1, wd (BA key), 0, 0⟩ w (wd_small key hk) (show 0 < 18446744073709551616 by decide))
  have HY2 := Lib.hid (fun w => bytes_any ⟨2, wd (BA key), 0, 0⟩ w (wd_small key hk) (show 0 < 18446744073709551616 by decide))
  have HY4 := Lib.hid (fun w => bytes_any ⟨4, wd (BA key), 0, 0⟩ w (wd_small key hk) (show 0 < 18446744073709551616 by decide))
  have HY5 := Lib.hid (fun w => bytes_any ⟨5, 0, 0, 0⟩ w (show 0 < 18446744073709551616 by decide) (show 0 < 18446744073709551616 by decide))
  have HY0 := Lib.hid (fun w => bytes_any ⟨0, 0, 0, 0⟩ w (show 0 < 18446744073709551616 by decide) (show 0 < 18446744073709551616 by decide))
  unfold SPost at HY1 HY2 HY4 HY5 HY0
  rw [bts_key 1 key hk (by decide)] at HY1
  rw [bts_key 2 key hk (by decide)] at HY2
  rw [bts_key 4 key hk (by decide)] at HY4
  rw [show bts ⟨5, 0, 0, 0⟩ = [76] from by decide] at HY5
  rw [show bts ⟨0, 0, 0, 0⟩ = [] from by decide] at HY0
  simp only [Ov.a] at HY1 HY2 HY4 HY5 HY0
  obtain ⟨d, hd⟩ : ∃ d, UInt8.ofNat key.length = d := ⟨_, rfl⟩
  have nd : (d.toNat : Int) = (key.length : Int) := by rw [← hd, u8_back _ (by omega)]
  rw [hd] at HY1 HY2 HY4 hp
  have HP := Lib.hid (fun w => parse_any (80 :: d :: key) w (by simp; omega))
  unfold PsPost at HP
  rw [hp] at HP
  simp only [Ov.a] at HP
  have e5 : ((BA [76]).toList == [76]) = true := by rw [BA_toList]; rfl
  have e0 := BA_none
  have q1 : ((BA key).toList == (BA key).toList) = true := by simp
  obtain ⟨K, hK⟩ : ∃ K, key.length = K := ⟨_, rfl⟩
  obtain ⟨N, hN⟩ : ∃ N, N = K + 2 := ⟨_, rfl⟩
  have c1 : IntKind.i64.wrap (d.toNat : Int) = (K : Int) := by rw [nd, hK]; exact w64_in _ (by omega) (by omega)
  have c2 : IntKind.i64.wrap ((K : Int) + 2) = (N : Int) := by rw [w64_in _ (by omega) (by omega)]; omega
  have hN0 : 0 < N := by omega
  rw [hK] at z1 d1 d2
  have zs1 : (BA (ltr 1 :: d :: key)).size = N := by rw [BA_size, hN, ← hK]; rfl
  have i10 : ∀ W, (Instr.index 9 (.string (BA (ltr 1 :: d :: key))) (.int .i64 0)).run Try.prog W = .ok (.int .u8 71) W := index_at (ltr 1 :: d :: key) 0 71 rfl
  have i11 : ∀ W, (Instr.index 9 (.string (BA (ltr 1 :: d :: key))) (.int .i64 1)).run Try.prog W = .ok (.int .u8 (d.toNat : Int)) W := index_at (ltr 1 :: d :: key) 1 d rfl
  have s1 : ∀ W, (Instr.slice 9 (.string (BA (ltr 1 :: d :: key))) (some (.int .i64 2)) none none).run Try.prog W = .ok (.string (BA key)) W := slice_from (ltr 1 :: d :: key) key 2 (by simp) rfl
  have zs2 : (BA (ltr 2 :: d :: key)).size = N := by rw [BA_size, hN, ← hK]; rfl
  have i20 : ∀ W, (Instr.index 9 (.string (BA (ltr 2 :: d :: key))) (.int .i64 0)).run Try.prog W = .ok (.int .u8 75) W := index_at (ltr 2 :: d :: key) 0 75 rfl
  have i21 : ∀ W, (Instr.index 9 (.string (BA (ltr 2 :: d :: key))) (.int .i64 1)).run Try.prog W = .ok (.int .u8 (d.toNat : Int)) W := index_at (ltr 2 :: d :: key) 1 d rfl
  have s2 : ∀ W, (Instr.slice 9 (.string (BA (ltr 2 :: d :: key))) (some (.int .i64 2)) none none).run Try.prog W = .ok (.string (BA key)) W := slice_from (ltr 2 :: d :: key) key 2 (by simp) rfl
  have zs4 : (BA (ltr 4 :: d :: key)).size = N := by rw [BA_size, hN, ← hK]; rfl
  have i40 : ∀ W, (Instr.index 9 (.string (BA (ltr 4 :: d :: key))) (.int .i64 0)).run Try.prog W = .ok (.int .u8 68) W := index_at (ltr 4 :: d :: key) 0 68 rfl
  have i41 : ∀ W, (Instr.index 9 (.string (BA (ltr 4 :: d :: key))) (.int .i64 1)).run Try.prog W = .ok (.int .u8 (d.toNat : Int)) W := index_at (ltr 4 :: d :: key) 1 d rfl
  have s4 : ∀ W, (Instr.slice 9 (.string (BA (ltr 4 :: d :: key))) (some (.int .i64 2)) none none).run Try.prog W = .ok (.string (BA key)) W := slice_from (ltr 4 :: d :: key) key 2 (by simp) rfl
  have HL : ∀ a : UInt8, Hid ((a :: d :: key).length = N) := fun a => Lib.hid (by rw [hN, ← hK]; rfl)
  clear hk hw hd nd hK hN hp
  generalize wd (BA key) = X at *
  go_enter Try.func6, Try.ntmps6
  go_wp2_with fail
  refine (opshown_any _).mono ?_
  rintro e w1 ⟨rfl, hb⟩
  have HB1 := Lib.hid hb
  clear hb
  go_wp2_with fail
  refine (HK.out _).mono ?_
  rintro e w2 ⟨rfl, hb⟩
  have HB2 := Lib.hid (below3 HB1.out hb)
  clear hb HB1 HK
  go_wp2_with fail
  go_loopw [7] (fun i wr => ∃ j : Int, i = .int .i64 j ∧ 1 ≤ j ∧ j ≤ 5 ∧ Below w.heap.size w wr) (fun i _ => (5 - intOf i).toNat)
  case atStart => exact ⟨1, rfl, by decide, by decide, HB2.out⟩
  case round =>
    obtain ⟨j, rfl, hj1, hj5, hB⟩ := hrel
    have HB := Lib.hid hB
    clear hB
    rcases (by omega : j = 1 ∨ j = 2 ∨ j = 3 ∨ j = 4 ∨ j = 5) with h | h | h | h | h <;> subst h <;> clear hj1 hj5
    · as_aux_lemma =>
        go_wp2_with fail
        refine (HY1.out _).mono ?_
        rintro e w3 ⟨rfl, hb⟩
        have HB3 := Lib.hid (below3 HB.out hb)
        clear hb HB
        go_wp2_with fail
        go_quiet (fail)
        obtain ⟨wq, hwq⟩ : ∃ wy, w3.drewN nq = wy := ⟨_, rfl⟩
        simp only [hwq]
        have HBq := Lib.hid (show Below w.heap.size w wq by rw [← hwq]; exact below_drewN HB3.out _)
        clear hwq HB3
        obtain ⟨cap, w4, hcv, hb4, hi4⟩ := conv_bytes (ltr 1 :: d :: key) wq
        rw [(HL (ltr 1)).out] at hcv
        have HB4 := Lib.hid (HBq.out.trans (hb4.mono HBq.out.size))
        have HI4 := Lib.hid hi4
        clear hb4 hi4
        obtain ⟨g, hg⟩ : ∃ g, wq.heap.size = g := ⟨_, rfl⟩
        rw [hg] at hcv HI4
        have HG := Lib.hid (show w.heap.size ≤ g by rw [← hg]; exact HBq.out.size)
        clear hg
        go_upto_region 13 with fail
        clear hcv HBq
        have k0 : w4.cell? ⟨g, 0, none⟩ = some (.int .u8 ((ltr 1).toNat : Int)) := HI4.out.cell 0 (by simp)
        have k1 := HI4.out.frz 0 (by simp)
        go_upto_region 14 with fail
        obtain ⟨w5, hw9⟩ : ∃ wy, w4.setCell ⟨g, 0, none⟩ (.int .u8 (80 : Int)) = wy := ⟨_, rfl⟩
        try simp only [hw9]
        have HI5 := Lib.hid (show ByIn w5 g (80 :: d :: key) by rw [← hw9]; exact HI4.out.put 80)
        have HB5 := Lib.hid (show Below w.heap.size w w5 by rw [← hw9]; exact HB4.out.setCell (p := ⟨g, 0, none⟩) (by show w.heap.size ≤ g; exact HG.out) _)
        clear hw9 HI4 HB4 k0 k1
        have hcv := HI5.out.text (cap := cap)
        rw [(HL 80).out] at hcv
        go_wp2_with fail
        refine (HP.out _).mono ?_
        rintro e w6 ⟨rfl, hb⟩
        have HB6 := Lib.hid (HB5.out.trans (hb.mono HB5.out.size))
        clear hb HB5 hcv HI5
        go_upto_region 15 with fail
        obtain ⟨q, hq⟩ : ∃ q, w6.heap.size = q := ⟨_, rfl⟩
        obtain ⟨w7, hw9⟩ : ∃ wy, w6.alloc (.cells #[.int .i64 k2, .int .u64 (x2 : Nat), .int .u64 (v2 : Nat), .int .i64 f2] 24) = wy := ⟨_, rfl⟩
        try simp only [hw9]
        try simp only [hq]
        have HX7 := Lib.hid (show Box w7 q 24 #[.int .i64 k2, .int .u64 (x2 : Nat), .int .u64 (v2 : Nat), .int .i64 f2] by rw [← hw9, ← hq]; exact Box.new _ _ _)
        have HB7 := Lib.hid (show Below w.heap.size w w7 by rw [← hw9]; exact HB6.out.alloc HB6.out.size _)
        clear hw9 hq HB6
        have o0 : w7.cell? ⟨q, 0, none⟩ = some (.int .i64 k2) := HX7.out.cell 0
        have o1 : w7.cell? ⟨q, 1, none⟩ = some (.int .u64 (x2 : Nat)) := HX7.out.cell 1
        have o2 : w7.cell? ⟨q, 2, none⟩ = some (.int .u64 (v2 : Nat)) := HX7.out.cell 2
        have o3 : w7.cell? ⟨q, 3, none⟩ = some (.int .i64 f2) := HX7.out.cell 3
        go_wp2
        go_roundw
        case rel => exact ⟨2, by go_num, by decide, by decide, HB7.out⟩
        case measure => simp [intOf]
    · as_aux_lemma =>
        go_wp2_with fail
        refine (HY2.out _).mono ?_
        rintro e w3 ⟨rfl, hb⟩
        have HB3 := Lib.hid (below3 HB.out hb)
        clear hb HB
        go_wp2_with fail
        go_quiet (fail)
        obtain ⟨wq, hwq⟩ : ∃ wy, w3.drewN nq = wy := ⟨_, rfl⟩
        simp only [hwq]
        have HBq := Lib.hid (show Below w.heap.size w wq by rw [← hwq]; exact below_drewN HB3.out _)
        clear hwq HB3
        obtain ⟨cap, w4, hcv, hb4, hi4⟩ := conv_bytes (ltr 2 :: d :: key) wq
        rw [(HL (ltr 2)).out] at hcv
        have HB4 := Lib.hid (HBq.out.trans (hb4.mono HBq.out.size))
        have HI4 := Lib.hid hi4
        clear hb4 hi4
        obtain ⟨g, hg⟩ : ∃ g, wq.heap.size = g := ⟨_, rfl⟩
        rw [hg] at hcv HI4
        have HG := Lib.hid (show w.heap.size ≤ g by rw [← hg]; exact HBq.out.size)
        clear hg
        go_upto_region 13 with fail
        clear hcv HBq
        have k0 : w4.cell? ⟨g, 0, none⟩ = some (.int .u8 ((ltr 2).toNat : Int)) := HI4.out.cell 0 (by simp)
        have k1 := HI4.out.frz 0 (by simp)
        go_upto_region 14 with fail
        obtain ⟨w5, hw9⟩ : ∃ wy, w4.setCell ⟨g, 0, none⟩ (.int .u8 (80 : Int)) = wy := ⟨_, rfl⟩
        try simp only [hw9]
        have HI5 := Lib.hid (show ByIn w5 g (80 :: d :: key) by rw [← hw9]; exact HI4.out.put 80)
        have HB5 := Lib.hid (show Below w.heap.size w w5 by rw [← hw9]; exact HB4.out.setCell (p := ⟨g, 0, none⟩) (by show w.heap.size ≤ g; exact HG.out) _)
        clear hw9 HI4 HB4 k0 k1
        have hcv := HI5.out.text (cap := cap)
        rw [(HL 80).out] at hcv
        go_wp2_with fail
        refine (HP.out _).mono ?_
        rintro e w6 ⟨rfl, hb⟩
        have HB6 := Lib.hid (HB5.out.trans (hb.mono HB5.out.size))
        clear hb HB5 hcv HI5
        go_upto_region 15 with fail
        obtain ⟨q, hq⟩ : ∃ q, w6.heap.size = q := ⟨_, rfl⟩
        obtain ⟨w7, hw9⟩ : ∃ wy, w6.alloc (.cells #[.int .i64 k2, .int .u64 (x2 : Nat), .int .u64 (v2 : Nat), .int .i64 f2] 24) = wy := ⟨_, rfl⟩
        try simp only [hw9]
        try simp only [hq]
        have HX7 := Lib.hid (show Box w7 q 24 #[.int .i64 k2, .int .u64 (x2 : Nat), .int .u64 (v2 : Nat), .int .i64 f2] by rw [← hw9, ← hq]; exact Box.new _ _ _)
        have HB7 := Lib.hid (show Below w.heap.size w w7 by rw [← hw9]; exact HB6.out.alloc HB6.out.size _)
        clear hw9 hq HB6
        have o0 : w7.cell? ⟨q, 0, none⟩ = some (.int .i64 k2) := HX7.out.cell 0
        have o1 : w7.cell? ⟨q, 1, none⟩ = some (.int .u64 (x2 : Nat)) := HX7.out.cell 1
        have o2 : w7.cell? ⟨q, 2, none⟩ = some (.int .u64 (v2 : Nat)) := HX7.out.cell 2
        have o3 : w7.cell? ⟨q, 3, none⟩ = some (.int .i64 f2) := HX7.out.cell 3
        go_wp2
        go_roundw
        case rel => exact ⟨3, by go_num, by decide, by decide, HB7.out⟩
        case measure => simp [intOf]
    · as_aux_lemma =>
        go_wp2
        go_roundw
        case rel => exact ⟨4, by go_num, by decide, by decide, HB.out⟩
        case measure => simp [intOf]
    · as_aux_lemma =>
        go_wp2_with fail
        refine (HY4.out _).mono ?_
        rintro e w3 ⟨rfl, hb⟩
        have HB3 := Lib.hid (below3 HB.out hb)
        clear hb HB
        go_wp2_with fail
        go_quiet (fail)
        obtain ⟨wq, hwq⟩ : ∃ wy, w3.drewN nq = wy := ⟨_, rfl⟩
        simp only [hwq]
        have HBq := Lib.hid (show Below w.heap.size w wq by rw [← hwq]; exact below_drewN HB3.out _)
        clear hwq HB3
        obtain ⟨cap, w4, hcv, hb4, hi4⟩ := conv_bytes (ltr 4 :: d :: key) wq
        rw [(HL (ltr 4)).out] at hcv
        have HB4 := Lib.hid (HBq.out.trans (hb4.mono HBq.out.size))
        have HI4 := Lib.hid hi4
        clear hb4 hi4
        obtain ⟨g, hg⟩ : ∃ g, wq.heap.size = g := ⟨_, rfl⟩
        rw [hg] at hcv HI4
        have HG := Lib.hid (show w.heap.size ≤ g by rw [← hg]; exact HBq.out.size)
        clear hg
        go_upto_region 13 with fail
        clear hcv HBq
        have k0 : w4.cell? ⟨g, 0, none⟩ = some (.int .u8 ((ltr 4).toNat : Int)) := HI4.out.cell 0 (by simp)
        have k1 := HI4.out.frz 0 (by simp)
        go_upto_region 14 with fail
        obtain ⟨w5, hw9⟩ : ∃ wy, w4.setCell ⟨g, 0, none⟩ (.int .u8 (80 : Int)) = wy := ⟨_, rfl⟩
        try simp only [hw9]
        have HI5 := Lib.hid (show ByIn w5 g (80 :: d :: key) by rw [← hw9]; exact HI4.out.put 80)
        have HB5 := Lib.hid (show Below w.heap.size w w5 by rw [← hw9]; exact HB4.out.setCell (p := ⟨g, 0, none⟩) (by show w.heap.size ≤ g; exact HG.out) _)
        clear hw9 HI4 HB4 k0 k1
        have hcv := HI5.out.text (cap := cap)
        rw [(HL 80).out] at hcv
        go_wp2_with fail
        refine (HP.out _).mono ?_
        rintro e w6 ⟨rfl, hb⟩
        have HB6 := Lib.hid (HB5.out.trans (hb.mono HB5.out.size))
        clear hb HB5 hcv HI5
        go_upto_region 15 with fail
        obtain ⟨q, hq⟩ : ∃ q, w6.heap.size = q := ⟨_, rfl⟩
        obtain ⟨w7, hw9⟩ : ∃ wy, w6.alloc (.cells #[.int .i64 k2, .int .u64 (x2 : Nat), .int .u64 (v2 : Nat), .int .i64 f2] 24) = wy := ⟨_, rfl⟩
        try simp only [hw9]
        try simp only [hq]
        have HX7 := Lib.hid (show Box w7 q 24 #[.int .i64 k2, .int .u64 (x2 : Nat), .int .u64 (v2 : Nat), .int .i64 f2] by rw [← hw9, ← hq]; exact Box.new _ _ _)
        have HB7 := Lib.hid (show Below w.heap.size w w7 by rw [← hw9]; exact HB6.out.alloc HB6.out.size _)
        clear hw9 hq HB6
        have o0 : w7.cell? ⟨q, 0, none⟩ = some (.int .i64 k2) := HX7.out.cell 0
        have o1 : w7.cell? ⟨q, 1, none⟩ = some (.int .u64 (x2 : Nat)) := HX7.out.cell 1
        have o2 : w7.cell? ⟨q, 2, none⟩ = some (.int .u64 (v2 : Nat)) := HX7.out.cell 2
        have o3 : w7.cell? ⟨q, 3, none⟩ = some (.int .i64 f2) := HX7.out.cell 3
        go_wp2
        go_roundw
        case rel => exact ⟨5, by go_num, by decide, by decide, HB7.out⟩
        case measure => simp [intOf]
    · as_aux_lemma =>
        go_wp2_with fail
        refine (HY5.out _).mono ?_
        rintro e w3 ⟨rfl, hb⟩
        have HB3 := Lib.hid (below3 HB.out hb)
        clear hb
        go_wp2_with fail
        refine (HY0.out _).mono ?_
        rintro e w4 ⟨rfl, hb⟩
        have HB4 := Lib.hid (below3 HB3.out hb)
        clear hb HB3
        go_wp2
        go_ret
        exact ⟨rfl, HB4.out⟩
set_option maxHeartbeats 8000000 in
set_option maxRecDepth 100000 in
theorem kinds_o (key : List UInt8) (c : UInt8) (w : World) (hk : key.length ≤ 7) (h1 : c ≠ 71) (h2 : c ≠ 75) (h3 : c ≠ 80) (h4 : c ≠ 68) :
    Calls Try.prog 6 #[.string (BA key), .int .u8 (c.toNat : Int)] w fun e w' => e = .returned (.bool true) ∧ Below w.heap.size w w' := by
  have z1 : (BA key).size = key.length := rfl
  have d1 : decide ((7 : Int) < (key.length : Int)) = false := by simp; omega
  have d2 : decide (7 < key.length) = false := by simp; omega
  have hp := prs_other c (UInt8.ofNat key.length) key h1 h2 h3 h4
  have b1 : ((c.toNat : Int) == 71) = false := (u8_is c 71 (by decide)).trans (decide_eq_false h1)
  have b2 : ((c.toNat : Int) == 75) = false := (u8_is c 75 (by decide)).trans (decide_eq_false h2)
  have b3 : ((c.toNat : Int) == 68) = false := (u8_is c 68 (by decide)).trans (decide_eq_false h4)
  have b4 : ((c.toNat : Int) == 80) = false := (u8_is c 80 (by decide)).trans (decide_eq_false h3)
  have b5 : ((c.toNat : Int) != 80) = true := by rw [bne, b4]; rfl
  clear h1 h2 h3 h4
  have hw := wv'_few hk
  have HK := Lib.hid (fun w => lword_any key w (by omega))
  rw [hw] at HK
  have HY1 := Lib.hid (fun w => bytes_any ⟨1, wd (BA key), 0, 0⟩ w (wd_small key hk) (show 0 < 18446744073709551616 by decide))
  have HY2 := Lib.hid (fun w => bytes_any ⟨2, wd (BA key), 0, 0⟩ w (wd_small key hk) (show 0 < 18446744073709551616 by decide))
  have HY4 := Lib.hid (fun w => bytes_any ⟨4, wd (BA key), 0, 0⟩ w (wd_small key hk) (show 0 < 18446744073709551616 by decide))
  have HY5 := Lib.hid (fun w => bytes_any ⟨5, 0, 0, 0⟩ w (show 0 < 18446744073709551616 by decide) (show 0 < 18446744073709551616 by decide))
  have HY0 := Lib.hid (fun w => bytes_any ⟨0, 0, 0, 0⟩ w (show 0 < 18446744073709551616 by decide) (show 0 < 18446744073709551616 by decide))
  unfold SPost at HY1 HY2 HY4 HY5 HY0
  rw [bts_key 1 key hk (by decide)] at HY1
  rw [bts_key 2 key hk (by decide)] at HY2
  rw [bts_key 4 key hk (by decide)] at HY4
  rw [show bts ⟨5, 0, 0, 0⟩ = [76] from by decide] at HY5
  rw [show bts ⟨0, 0, 0, 0⟩ = [] from by decide] at HY0
  simp only [Ov.a] at HY1 HY2 HY4 HY5 HY0
  obtain ⟨d, hd⟩ : ∃ d, UInt8.ofNat key.length = d := ⟨_, rfl⟩
  have nd : (d.toNat : Int) = (key.length : Int) := by rw [← hd, u8_back _ (by omega)]
  rw [hd] at HY1 HY2 HY4 hp
  have HP := Lib.hid (fun w => parse_any (c :: d :: key) w (by simp; omega))
  unfold PsPost at HP
  rw [hp] at HP
  simp only [Ov.a, Ov.z] at HP
  have e5 : ((BA [76]).toList == [76]) = true := by rw [BA_toList]; rfl
  have e0 := BA_none
  have q1 : ((BA key).toList == (BA key).toList) = true := by simp
  obtain ⟨K, hK⟩ : ∃ K, key.length = K := ⟨_, rfl⟩
  obtain ⟨N, hN⟩ : ∃ N, N = K + 2 := ⟨_, rfl⟩
  have c1 : IntKind.i64.wrap (d.toNat : Int) = (K : Int) := by rw [nd, hK]; exact w64_in _ (by omega) (by omega)
  have c2 : IntKind.i64.wrap ((K : Int) + 2) = (N : Int) := by rw [w64_in _ (by omega) (by omega)]; omega
  have hN0 : 0 < N := by omega
  rw [hK] at z1 d1 d2
  have zs1 : (BA (ltr 1 :: d :: key)).size = N := by rw [BA_size, hN, ← hK]; rfl
  have i10 : ∀ W, (Instr.index 9 (.string (BA (ltr 1 :: d :: key))) (.int .i64 0)).run Try.prog W = .ok (.int .u8 71) W := index_at (ltr 1 :: d :: key) 0 71 rfl
  have i11 : ∀ W, (Instr.index 9 (.string (BA (ltr 1 :: d :: key))) (.int .i64 1)).run Try.prog W = .ok (.int .u8 (d.toNat : Int)) W := index_at (ltr 1 :: d :: key) 1 d rfl
  have s1 : ∀ W, (Instr.slice 9 (.string (BA (ltr 1 :: d :: key))) (some (.int .i64 2)) none none).run Try.prog W = .ok (.string (BA key)) W := slice_from (ltr 1 :: d :: key) key 2 (by simp) rfl
  have zs2 : (BA (ltr 2 :: d :: key)).size = N := by rw [BA_size, hN, ← hK]; rfl
  have i20 : ∀ W, (Instr.index 9 (.string (BA (ltr 2 :: d :: key))) (.int .i64 0)).run Try.prog W = .ok (.int .u8 75) W := index_at (ltr 2 :: d :: key) 0 75 rfl
  have i21 : ∀ W, (Instr.index 9 (.string (BA (ltr 2 :: d :: key))) (.int .i64 1)).run Try.prog W = .ok (.int .u8 (d.toNat : Int)) W := index_at (ltr 2 :: d :: key) 1 d rfl
  have s2 : ∀ W, (Instr.slice 9 (.string (BA (ltr 2 :: d :: key))) (some (.int .i64 2)) none none).run Try.prog W = .ok (.string (BA key)) W := slice_from (ltr 2 :: d :: key) key 2 (by simp) rfl
  have zs4 : (BA (ltr 4 :: d :: key)).size = N := by rw [BA_size, hN, ← hK]; rfl
  have i40 : ∀ W, (Instr.index 9 (.string (BA (ltr 4 :: d :: key))) (.int .i64 0)).run Try.prog W = .ok (.int .u8 68) W := index_at (ltr 4 :: d :: key) 0 68 rfl
  have i41 : ∀ W, (Instr.index 9 (.string (BA (ltr 4 :: d :: key))) (.int .i64 1)).run Try.prog W = .ok (.int .u8 (d.toNat : Int)) W := index_at (ltr 4 :: d :: key) 1 d rfl
  have s4 : ∀ W, (Instr.slice 9 (.string (BA (ltr 4 :: d :: key))) (some (.int .i64 2)) none none).run Try.prog W = .ok (.string (BA key)) W := slice_from (ltr 4 :: d :: key) key 2 (by simp) rfl
  have HL : ∀ a : UInt8, Hid ((a :: d :: key).length = N) := fun a => Lib.hid (by rw [hN, ← hK]; rfl)
  clear hk hw hd nd hK hN hp
  generalize wd (BA key) = X at *
  go_enter Try.func6, Try.ntmps6
  go_wp2_with fail
  refine (opshown_any _).mono ?_
  rintro e w1 ⟨rfl, hb⟩
  have HB1 := Lib.hid hb
  clear hb
  go_wp2_with fail
  refine (HK.out _).mono ?_
  rintro e w2 ⟨rfl, hb⟩
  have HB2 := Lib.hid (below3 HB1.out hb)
  clear hb HB1 HK
  go_wp2_with fail
  go_loopw [7] (fun i wr => ∃ j : Int, i = .int .i64 j ∧ 1 ≤ j ∧ j ≤ 5 ∧ Below w.heap.size w wr) (fun i _ => (5 - intOf i).toNat)
  case atStart => exact ⟨1, rfl, by decide, by decide, HB2.out⟩
  case round =>
    obtain ⟨j, rfl, hj1, hj5, hB⟩ := hrel
    have HB := Lib.hid hB
    clear hB
    rcases (by omega : j = 1 ∨ j = 2 ∨ j = 3 ∨ j = 4 ∨ j = 5) with h | h | h | h | h <;> subst h <;> clear hj1 hj5
    · as_aux_lemma =>
        go_wp2_with fail
        refine (HY1.out _).mono ?_
        rintro e w3 ⟨rfl, hb⟩
        have HB3 := Lib.hid (below3 HB.out hb)
        clear hb HB
        go_wp2_with fail
        go_quiet (fail)
        obtain ⟨wq, hwq⟩ : ∃ wy, w3.drewN nq = wy := ⟨_, rfl⟩
        simp only [hwq]
        have HBq := Lib.hid (show Below w.heap.size w wq by rw [← hwq]; exact below_drewN HB3.out _)
        clear hwq HB3
        obtain ⟨cap, w4, hcv, hb4, hi4⟩ := conv_bytes (ltr 1 :: d :: key) wq
        rw [(HL (ltr 1)).out] at hcv
        have HB4 := Lib.hid (HBq.out.trans (hb4.mono HBq.out.size))
        have HI4 := Lib.hid hi4
        clear hb4 hi4
        obtain ⟨g, hg⟩ : ∃ g, wq.heap.size = g := ⟨_, rfl⟩
        rw [hg] at hcv HI4
        have HG := Lib.hid (show w.heap.size ≤ g by rw [← hg]; exact HBq.out.size)
        clear hg
        go_upto_region 13 with fail
        clear hcv HBq
        have k0 : w4.cell? ⟨g, 0, none⟩ = some (.int .u8 ((ltr 1).toNat : Int)) := HI4.out.cell 0 (by simp)
        have k1 := HI4.out.frz 0 (by simp)
        go_upto_region 14 with fail
        obtain ⟨w5, hw9⟩ : ∃ wy, w4.setCell ⟨g, 0, none⟩ (.int .u8 (c.toNat : Int)) = wy := ⟨_, rfl⟩
        try simp only [hw9]
        have HI5 := Lib.hid (show ByIn w5 g (c :: d :: key) by rw [← hw9]; exact HI4.out.put c)
        have HB5 := Lib.hid (show Below w.heap.size w w5 by rw [← hw9]; exact HB4.out.setCell (p := ⟨g, 0, none⟩) (by show w.heap.size ≤ g; exact HG.out) _)
        clear hw9 HI4 HB4 k0 k1
        have hcv := HI5.out.text (cap := cap)
        rw [(HL c).out] at hcv
        go_wp2_with fail
        refine (HP.out _).mono ?_
        rintro e w6 ⟨rfl, hb⟩
        have HB6 := Lib.hid (HB5.out.trans (hb.mono HB5.out.size))
        clear hb HB5 hcv HI5
        go_upto_region 15 with fail
        obtain ⟨q, hq⟩ : ∃ q, w6.heap.size = q := ⟨_, rfl⟩
        obtain ⟨w7, hw9⟩ : ∃ wy, w6.alloc (.cells #[.int .i64 0, .int .u64 0, .int .u64 0, .int .i64 0] 24) = wy := ⟨_, rfl⟩
        try simp only [hw9]
        try simp only [hq]
        have HX7 := Lib.hid (show Box w7 q 24 #[.int .i64 0, .int .u64 0, .int .u64 0, .int .i64 0] by rw [← hw9, ← hq]; exact Box.new _ _ _)
        have HB7 := Lib.hid (show Below w.heap.size w w7 by rw [← hw9]; exact HB6.out.alloc HB6.out.size _)
        clear hw9 hq HB6
        have o0 : w7.cell? ⟨q, 0, none⟩ = some (.int .i64 0) := HX7.out.cell 0
        have o1 : w7.cell? ⟨q, 1, none⟩ = some (.int .u64 0) := HX7.out.cell 1
        have o2 : w7.cell? ⟨q, 2, none⟩ = some (.int .u64 0) := HX7.out.cell 2
        have o3 : w7.cell? ⟨q, 3, none⟩ = some (.int .i64 0) := HX7.out.cell 3
        go_wp2
        go_roundw
        case rel => exact ⟨2, by go_num, by decide, by decide, HB7.out⟩
        case measure => simp [intOf]
    · as_aux_lemma =>
        go_wp2_with fail
        refine (HY2.out _).mono ?_
        rintro e w3 ⟨rfl, hb⟩
        have HB3 := Lib.hid (below3 HB.out hb)
        clear hb HB
        go_wp2_with fail
        go_quiet (fail)
        obtain ⟨wq, hwq⟩ : ∃ wy, w3.drewN nq = wy := ⟨_, rfl⟩
        simp only [hwq]
        have HBq := Lib.hid (show Below w.heap.size w wq by rw [← hwq]; exact below_drewN HB3.out _)
        clear hwq HB3
        obtain ⟨cap, w4, hcv, hb4, hi4⟩ := conv_bytes (ltr 2 :: d :: key) wq
        rw [(HL (ltr 2)).out] at hcv
        have HB4 := Lib.hid (HBq.out.trans (hb4.mono HBq.out.size))
        have HI4 := Lib.hid hi4
        clear hb4 hi4
        obtain ⟨g, hg⟩ : ∃ g, wq.heap.size = g := ⟨_, rfl⟩
        rw [hg] at hcv HI4
        have HG := Lib.hid (show w.heap.size ≤ g by rw [← hg]; exact HBq.out.size)
        clear hg
        go_upto_region 13 with fail
        clear hcv HBq
        have k0 : w4.cell? ⟨g, 0, none⟩ = some (.int .u8 ((ltr 2).toNat : Int)) := HI4.out.cell 0 (by simp)
        have k1 := HI4.out.frz 0 (by simp)
        go_upto_region 14 with fail
        obtain ⟨w5, hw9⟩ : ∃ wy, w4.setCell ⟨g, 0, none⟩ (.int .u8 (c.toNat : Int)) = wy := ⟨_, rfl⟩
        try simp only [hw9]
        have HI5 := Lib.hid (show ByIn w5 g (c :: d :: key) by rw [← hw9]; exact HI4.out.put c)
        have HB5 := Lib.hid (show Below w.heap.size w w5 by rw [← hw9]; exact HB4.out.setCell (p := ⟨g, 0, none⟩) (by show w.heap.size ≤ g; exact HG.out) _)
        clear hw9 HI4 HB4 k0 k1
        have hcv := HI5.out.text (cap := cap)
        rw [(HL c).out] at hcv
        go_wp2_with fail
        refine (HP.out _).mono ?_
        rintro e w6 ⟨rfl, hb⟩
        have HB6 := Lib.hid (HB5.out.trans (hb.mono HB5.out.size))
        clear hb HB5 hcv HI5
        go_upto_region 15 with fail
        obtain ⟨q, hq⟩ : ∃ q, w6.heap.size = q := ⟨_, rfl⟩
        obtain ⟨w7, hw9⟩ : ∃ wy, w6.alloc (.cells #[.int .i64 0, .int .u64 0, .int .u64 0, .int .i64 0] 24) = wy := ⟨_, rfl⟩
        try simp only [hw9]
        try simp only [hq]
        have HX7 := Lib.hid (show Box w7 q 24 #[.int .i64 0, .int .u64 0, .int .u64 0, .int .i64 0] by rw [← hw9, ← hq]; exact Box.new _ _ _)
        have HB7 := Lib.hid (show Below w.heap.size w w7 by rw [← hw9]; exact HB6.out.alloc HB6.out.size _)
        clear hw9 hq HB6
        have o0 : w7.cell? ⟨q, 0, none⟩ = some (.int .i64 0) := HX7.out.cell 0
        have o1 : w7.cell? ⟨q, 1, none⟩ = some (.int .u64 0) := HX7.out.cell 1
        have o2 : w7.cell? ⟨q, 2, none⟩ = some (.int .u64 0) := HX7.out.cell 2
        have o3 : w7.cell? ⟨q, 3, none⟩ = some (.int .i64 0) := HX7.out.cell 3
        go_wp2
        go_roundw
        case rel => exact ⟨3, by go_num, by decide, by decide, HB7.out⟩
        case measure => simp [intOf]
    · as_aux_lemma =>
        go_wp2
        go_roundw
        case rel => exact ⟨4, by go_num, by decide, by decide, HB.out⟩
        case measure => simp [intOf]
    · as_aux_lemma =>
        go_wp2_with fail
        refine (HY4.out _).mono ?_
        rintro e w3 ⟨rfl, hb⟩
        have HB3 := Lib.hid (below3 HB.out hb)
        clear hb HB
        go_wp2_with fail
        go_quiet (fail)
        obtain ⟨wq, hwq⟩ : ∃ wy, w3.drewN nq = wy := ⟨_, rfl⟩
        simp only [hwq]
        have HBq := Lib.hid (show Below w.heap.size w wq by rw [← hwq]; exact below_drewN HB3.out _)
        clear hwq HB3
        obtain ⟨cap, w4, hcv, hb4, hi4⟩ := conv_bytes (ltr 4 :: d :: key) wq
        rw [(HL (ltr 4)).out] at hcv
        have HB4 := Lib.hid (HBq.out.trans (hb4.mono HBq.out.size))
        have HI4 := Lib.hid hi4
        clear hb4 hi4
        obtain ⟨g, hg⟩ : ∃ g, wq.heap.size = g := ⟨_, rfl⟩
        rw [hg] at hcv HI4
        have HG := Lib.hid (show w.heap.size ≤ g by rw [← hg]; exact HBq.out.size)
        clear hg
        go_upto_region 13 with fail
        clear hcv HBq
        have k0 : w4.cell? ⟨g, 0, none⟩ = some (.int .u8 ((ltr 4).toNat : Int)) := HI4.out.cell 0 (by simp)
        have k1 := HI4.out.frz 0 (by simp)
        go_upto_region 14 with fail
        obtain ⟨w5, hw9⟩ : ∃ wy, w4.setCell ⟨g, 0, none⟩ (.int .u8 (c.toNat : Int)) = wy := ⟨_, rfl⟩
        try simp only [hw9]
        have HI5 := Lib.hid (show ByIn w5 g (c :: d :: key) by rw [← hw9]; exact HI4.out.put c)
        have HB5 := Lib.hid (show Below w.heap.size w w5 by rw [← hw9]; exact HB4.out.setCell (p := ⟨g, 0, none⟩) (by show w.heap.size ≤ g; exact HG.out) _)
        clear hw9 HI4 HB4 k0 k1
        have hcv := HI5.out.text (cap := cap)
        rw [(HL c).out] at hcv
        go_wp2_with fail
        refine (HP.out _).mono ?_
        rintro e w6 ⟨rfl, hb⟩
        have HB6 := Lib.hid (HB5.out.trans (hb.mono HB5.out.size))
        clear hb HB5 hcv HI5
        go_upto_region 15 with fail
        obtain ⟨q, hq⟩ : ∃ q, w6.heap.size = q := ⟨_, rfl⟩
        obtain ⟨w7, hw9⟩ : ∃ wy, w6.alloc (.cells #[.int .i64 0, .int .u64 0, .int .u64 0, .int .i64 0] 24) = wy := ⟨_, rfl⟩
        try simp only [hw9]
        try simp only [hq]
        have HX7 := Lib.hid (show Box w7 q 24 #[.int .i64 0, .int .u64 0, .int .u64 0, .int .i64 0] by rw [← hw9, ← hq]; exact Box.new _ _ _)
        have HB7 := Lib.hid (show Below w.heap.size w w7 by rw [← hw9]; exact HB6.out.alloc HB6.out.size _)
        clear hw9 hq HB6
        have o0 : w7.cell? ⟨q, 0, none⟩ = some (.int .i64 0) := HX7.out.cell 0
        have o1 : w7.cell? ⟨q, 1, none⟩ = some (.int .u64 0) := HX7.out.cell 1
        have o2 : w7.cell? ⟨q, 2, none⟩ = some (.int .u64 0) := HX7.out.cell 2
        have o3 : w7.cell? ⟨q, 3, none⟩ = some (.int .i64 0) := HX7.out.cell 3
        go_wp2
        go_roundw
        case rel => exact ⟨5, by go_num, by decide, by decide, HB7.out⟩
        case measure => simp [intOf]
    · as_aux_lemma =>
        go_wp2_with fail
        refine (HY5.out _).mono ?_
        rintro e w3 ⟨rfl, hb⟩
        have HB3 := Lib.hid (below3 HB.out hb)
        clear hb
        go_wp2_with fail
        refine (HY0.out _).mono ?_
        rintro e w4 ⟨rfl, hb⟩
        have HB4 := Lib.hid (below3 HB3.out hb)
        clear hb HB3
        go_wp2
        go_ret
        exact ⟨rfl, HB4.out⟩
theorem kinds_law (s0 : ByteArray) (c1 : Int) (w : World) (hc : (Lit.int .u8 c1).wf = true) :
    Calls Try.prog 6 #[.string s0, .int .u8 c1] w fun e w' => e = .returned (.bool true) ∧ Below w.heap.size w w' := by
  rw [← BA_Ls s0]
  generalize Ls s0 = key
  obtain ⟨c, rfl⟩ : ∃ c : UInt8, c1 = (c.toNat : Int) := by
    simp only [Lit.wf, IntKind.min, IntKind.max, IntKind.signed, IntKind.bits, Bool.and_eq_true] at hc
    simp at hc
    exact ⟨UInt8.ofNat c1.toNat, by rw [u8_back _ (by omega)]; omega⟩
  by_cases hk : key.length ≤ 7
  · by_cases h1 : c = 71
    · subst h1; exact kinds_g key w hk
    by_cases h2 : c = 75
    · subst h2; exact kinds_k key w hk
    by_cases h4 : c = 68
    · subst h4; exact kinds_d key w hk
    by_cases h3 : c = 80
    · subst h3
      rcases hp : prs (80 :: UInt8.ofNat key.length :: key) with ⟨⟨k2, x2, v2, f2⟩, e2⟩
      exact kinds_p key k2 x2 v2 f2 e2 w hk hp
    exact kinds_o key c w hk h1 h2 h3 h4
  · exact kinds_far key _ w (by omega)
end Go.Proofs.Ytpnjeoilkaimmaa
