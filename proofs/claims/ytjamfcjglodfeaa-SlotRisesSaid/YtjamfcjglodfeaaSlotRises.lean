/- The law SlotRises, walked: for all times and every end it returns true, and nothing that was in memory changes. Conditions: words are of 64 bits; the slice's length is an int. -/
import Derived.Below
import Derived.BigQuiet
import Derived.ChangeKeysEq
import Derived.ChangeSlices
import Derived.Deep.Cut
import Derived.Deep.Draws
import Derived.Deep.MidRow
import Derived.Deep.OwnRows
import Derived.Deep.QuietTactic
import Derived.Deep.WholeRow
import Derived.Laws.BitsAllLaws
import Derived.Laws.BytesArg
import Derived.Laws.NewBlocks
import Derived.Laws.StructEq
import Derived.Lib.Hide
import Derived.Lib.LazyBuf
import Derived.OpenShut
import Derived.OwnWalk
import Derived.ProofKit
import Derived.RowKit3
import Derived.SizedLaws
import Derived.WalkKit
import Derived.Test.YtjamfcjglodfeaaProg
import Derived.Test.YtjamfcjglodfeaaHeap
import Derived.Test.YtjamfcjglodfeaaRng
import Derived.Test.YtjamfcjglodfeaaSlot
import Derived.Test.YtjamfcjglodfeaaSlotLaw
import Derived.Test.YtjamfcjglodfeaaSlotMath
namespace Go.Proofs.Ytjamfcjglodfeaa
open Go.RowKit Go.ChangeShapes Go.WideShapes Go.ChangeAt

/-- The rank and the uses behind i uses, the last one at nw. -/
def Rk0 (i nw : Nat) (rk c : Int) : Prop := c = (i : Int) + 1 ∧ rk = (nw : Int)
set_option linter.unusedVariables false in
theorem Rk0.next {i nw m : Nat} {rk c : Int} (h : Rk0 i nw rk c) (hi : i < 100) (hm : m = nw + 1 ∨ nw + 1 < m) (hb : m ≤ 200000000) : ∃ rk', Rk0 (i + 1) m rk' ((i : Int) + 2) ∧ IntKind.u64.wrap (c + 1) = (i : Int) + 2 ∧ usR 0 rk c (m : Int) = rk' ∧ usU 0 c = (i : Int) + 2 ∧ decide (rk' ≤ rk) = false := by
  obtain ⟨rfl, rfl⟩ := h
  have hc : IntKind.u64.wrap ((i : Int) + 1 + 1) = (i : Int) + 2 := by rw [IntKind.wrap_u64]; omega
  refine ⟨_, ⟨by simp; omega, rfl⟩, hc, ?_, ?_, ?_⟩
  · unfold usR
    rw [if_neg (by decide), if_pos (by decide)]
  · unfold usU
    rw [if_pos (by decide), hc]
  · simp; omega
/-- The rank and the uses behind i uses, the last one at nw. -/
def Rk1 (i _nw : Nat) (rk c : Int) : Prop := c = (i : Int) + 1 ∧ rk = 0
set_option linter.unusedVariables false in
theorem Rk1.next {i nw m : Nat} {rk c : Int} (h : Rk1 i nw rk c) (hi : i < 100) (hm : m = nw + 1 ∨ nw + 1 < m) (hb : m ≤ 200000000) : ∃ rk', Rk1 (i + 1) m rk' ((i : Int) + 2) ∧ IntKind.u64.wrap (c + 1) = (i : Int) + 2 ∧ usR 1 rk c (m : Int) = rk' ∧ usU 1 c = (i : Int) + 2 ∧ (rk' != rk) = false := by
  obtain ⟨rfl, rfl⟩ := h
  have hc : IntKind.u64.wrap ((i : Int) + 1 + 1) = (i : Int) + 2 := by rw [IntKind.wrap_u64]; omega
  refine ⟨_, ⟨by simp; omega, rfl⟩, hc, ?_, ?_, ?_⟩
  · unfold usR
    rw [if_neg (by decide), if_neg (by decide)]
  · unfold usU
    rw [if_pos (by decide), hc]
  · simp
/-- The rank and the uses behind i uses, the last one at nw. -/
def Rk2 (i nw : Nat) (rk c : Int) : Prop := c = (i : Int) + 1 ∧ rk = (4294967296 * ((i : Int) + 1) + (nw : Int))
set_option linter.unusedVariables false in
theorem Rk2.next {i nw m : Nat} {rk c : Int} (h : Rk2 i nw rk c) (hi : i < 100) (hm : m = nw + 1 ∨ nw + 1 < m) (hb : m ≤ 200000000) : ∃ rk', Rk2 (i + 1) m rk' ((i : Int) + 2) ∧ IntKind.u64.wrap (c + 1) = (i : Int) + 2 ∧ usR 2 rk c (m : Int) = rk' ∧ usU 2 c = (i : Int) + 2 ∧ decide (rk' ≤ rk) = false := by
  obtain ⟨rfl, rfl⟩ := h
  have hc : IntKind.u64.wrap ((i : Int) + 1 + 1) = (i : Int) + 2 := by rw [IntKind.wrap_u64]; omega
  refine ⟨_, ⟨by simp; omega, rfl⟩, hc, ?_, ?_, ?_⟩
  · unfold usR
    rw [if_pos rfl, hc, IntKind.wrap_u64, IntKind.wrap_u64]; push_cast; omega
  · unfold usU
    rw [if_pos (by decide), hc]
  · simp; omega
theorem rises_long (a : Option Addr) (n cap : Nat) (u : Int) (w : World) (hl : 100 < n) :
    Calls Try.prog 5 #[.slice a n cap, .int .u64 u] w fun e w' => e = .returned (.bool true) ∧ Below w.heap.size w w' := by
  have d1 : decide (100 < (n : Int)) = true := by simp; omega
  have d2 : decide (100 < n) = true := decide_eq_true hl
  clear hl
  go_enter Try.func5, Try.ntmps5
  go_wp2_with fail
  refine (slshown_any _).mono ?_
  rintro e w1 ⟨rfl, hb⟩
  have HB := Lib.hid hb
  clear hb
  go_wp2_with fail
  go_ret
  exact ⟨rfl, HB.out⟩
theorem okr (u rk c : Int) (hu : U64 u) (h : U64 rk ∧ U64 c) : Sl.Ok ⟨true, 0, 0, u, rk, c, 0⟩ := ⟨by show U64 0; unfold U64; omega, by show U64 0; unfold U64; omega, hu, h.1, h.2, by show I64 0; unfold I64; omega⟩
set_option linter.unusedVariables false in
theorem Rk0.rng {i nw n : Nat} {rk c : Int} (h : Rk0 i nw rk c) (hn : n ≤ 100) (hb : nw ≤ 200000000) (hi : i ≤ n) : U64 rk ∧ U64 c := by
  obtain ⟨rfl, rfl⟩ := h
  unfold U64
  omega
set_option linter.unusedVariables false in
theorem Rk1.rng {i nw n : Nat} {rk c : Int} (h : Rk1 i nw rk c) (hn : n ≤ 100) (hb : nw ≤ 200000000) (hi : i ≤ n) : U64 rk ∧ U64 c := by
  obtain ⟨rfl, rfl⟩ := h
  unfold U64
  omega
set_option linter.unusedVariables false in
theorem Rk2.rng {i nw n : Nat} {rk c : Int} (h : Rk2 i nw rk c) (hn : n ≤ 100) (hb : nw ≤ 200000000) (hi : i ≤ n) : U64 rk ∧ U64 c := by
  obtain ⟨rfl, rfl⟩ := h
  unfold U64
  omega
theorem late_of {u : Int} {o : Bool} {nw nx : Nat} (hu : U64 u) (ho : o = exS true u (nw : Int)) (hge : nw ≤ nx) : (u = 0 ∧ o = false ∧ exS true u nx = false) ∨ (decide (0 < u) = true ∧ (o = false ∨ o = true ∧ exS true u nx = true) ∧ exS true u nx = decide (u ≤ (nx : Int))) := by
  unfold U64 at hu
  unfold exS at *
  by_cases hz : u = 0
  · subst hz; exact .inl ⟨by simp, by simpa using ho, by simp⟩
  · have h1 : (u != 0) = true := by simpa using hz
    rw [h1] at ho ⊢
    simp only [Bool.true_and] at ho ⊢
    refine .inr ⟨by simp; omega, ?_, trivial⟩
    by_cases h : u ≤ (nw : Int)
    · right; exact ⟨by rw [ho]; simpa using h, by simp; omega⟩
    · left; rw [ho]; simpa using h
theorem en0 (W : World) : Calls Try.prog 11 #[.int .i64 0, .int .u64 0] W fun e w' => e = .returned (.tuple #[.int .u64 0, .int .u64 1]) ∧ Below W.heap.size W w' := (slenter_any 0 0 W (by unfold I64; omega) (by unfold U64; omega)).mono fun e w' h => ⟨h.1, by rw [h.2]; exact Below.refl _ _⟩
theorem en1 (W : World) : Calls Try.prog 11 #[.int .i64 1, .int .u64 0] W fun e w' => e = .returned (.tuple #[.int .u64 0, .int .u64 1]) ∧ Below W.heap.size W w' := (slenter_any 1 0 W (by unfold I64; omega) (by unfold U64; omega)).mono fun e w' h => ⟨h.1, by rw [h.2]; exact Below.refl _ _⟩
theorem en2 (W : World) : Calls Try.prog 11 #[.int .i64 2, .int .u64 0] W fun e w' => e = .returned (.tuple #[.int .u64 4294967296, .int .u64 1]) ∧ Below W.heap.size W w' := (slenter_any 2 0 W (by unfold I64; omega) (by unfold U64; omega)).mono fun e w' h => ⟨h.1, by rw [h.2]; exact Below.refl _ _⟩
set_option maxRecDepth 100000 in
set_option maxHeartbeats 8000000 in
theorem rises_short (a : Option Addr) (n cap : Nat) (z : Nat → Int) (u : Int) (w : World) (hi100 : n ≤ 100) (hz : Nums .u64 w w.heap.size a n z) (hu : ∀ j, j < n → U64 (z j)) (huu : U64 u) :
    Calls Try.prog 5 #[.slice a n cap, .int .u64 u] w fun e w' => e = .returned (.bool true) ∧ Below w.heap.size w w' := by
  have d1 : decide (100 < (n : Int)) = false := by simp; omega
  have d2 : decide (100 < n) = false := by simp; omega
  have HZ := Lib.hid hz
  have HU := Lib.hid hu
  have HUU := Lib.hid huu
  clear hz hu huu
  go_enter Try.func5, Try.ntmps5
  go_wp2_with fail
  refine (slshown_any _).mono ?_
  rintro e w1 ⟨rfl, hb⟩
  have HB := Lib.hid hb
  clear hb
  go_wp2_with fail
  go_loopw [6] (fun v wr => ∃ k : Int, v = .int .i64 k ∧ 0 ≤ k ∧ k ≤ 3 ∧ Below w.heap.size w wr) (fun v _ => (3 - intOf v).toNat)
  case atStart => exact ⟨0, rfl, by omega, by omega, HB.out⟩
  case round =>
    obtain ⟨k, rfl, h0, h3, hB⟩ := hrel
    obtain ⟨w5, h9⟩ : ∃ x, x = wr := ⟨_, rfl⟩
    subst h9
    have HB5 := Lib.hid hB
    clear hB HB
    obtain rfl | rfl | rfl | rfl : k = 0 ∨ k = 1 ∨ k = 2 ∨ k = 3 := by omega
    · have x0 := (fun W => slexpired_any ⟨true, 0, 0, u, 0, 1, 0⟩ 0 W (okr u _ _ HUU.out ⟨by unfold U64; omega, by unfold U64; omega⟩))
      rw [show Sl.ex ⟨true, 0, 0, u, 0, 1, 0⟩ 0 = exS true u ((0 : Nat) : Int) from rfl] at x0
      have X0 : Hid (∀ W, Calls Try.prog 20 #[.agg #[.bool true, .int .u64 0, .int .u64 0, .int .u64 u, .int .u64 0, .int .u64 1, .int .i64 0], .int .u64 0] W fun e w' => e = .returned (.bool (exS true u ((0 : Nat) : Int))) ∧ Below W.heap.size W w') := Lib.hid x0
      clear x0
      go_upto_region 9 with (fail)
      obtain ⟨q, hq⟩ : ∃ q9, w5.heap.size = q9 := ⟨_, rfl⟩
      obtain ⟨w6, hw9⟩ : ∃ w9, w5.alloc (.cells #[.bool true, .int .u64 0, .int .u64 0, .int .u64 u, .int .u64 0, .int .u64 0, .int .i64 0] 24) = w9 := ⟨_, rfl⟩
      have HX_s6 := Lib.hid (show Box w6 q 24 #[.bool true, .int .u64 0, .int .u64 0, .int .u64 u, .int .u64 0, .int .u64 0, .int .i64 0] by rw [← hw9, ← hq]; exact Box.new w5 _ _)
      have HB6 := Lib.hid (show Below w.heap.size w w6 by rw [← hw9]; exact HB5.out.alloc HB5.out.size _)
      have HS_s := Lib.hid (show w.heap.size ≤ q by rw [← hq]; exact HB5.out.size)
      simp only [hw9, hq]
      clear hq hw9 HB5 
      go_wp2_with fail
      refine (en0 _).mono ?_
      rintro e w7 ⟨rfl, hb⟩
      have HX_s7 := Lib.hid (show Box w7 q 24 #[.bool true, .int .u64 0, .int .u64 0, .int .u64 u, .int .u64 0, .int .u64 0, .int .i64 0] from HX_s6.out.of (hb.block _ HX_s6.out.lt))
      clear HX_s6
      have HB7 := Lib.hid (HB6.out.trans (hb.mono HB6.out.size))
      clear hb HB6
      have c9 : w7.cell? ⟨q, 4, none⟩ = some (.int .u64 0) := HX_s7.out.cell 4
      have f9 := HX_s7.out.frozen 4
      go_upto_region 11 with (fail)
      obtain ⟨w8, hw9⟩ : ∃ w9, w7.setCell ⟨q, 4, none⟩ (.int .u64 0) = w9 := ⟨_, rfl⟩
      have HX_s8 := Lib.hid (show Box w8 q 24 #[.bool true, .int .u64 0, .int .u64 0, .int .u64 u, .int .u64 0, .int .u64 0, .int .i64 0] by rw [← hw9]; exact HX_s7.out.put 4 _)
      have HB8 := Lib.hid (show Below w.heap.size w w8 by rw [← hw9]; exact HB7.out.setCell (p := ⟨q, 4, none⟩) (by show w.heap.size ≤ q; exact HS_s.out) _)
      simp only [hw9]
      clear c9 f9 hw9 HB7 HX_s7
      have c9 : w8.cell? ⟨q, 5, none⟩ = some (.int .u64 0) := HX_s8.out.cell 5
      have f9 := HX_s8.out.frozen 5
      go_upto_region 12 with (fail)
      obtain ⟨w9, hw9⟩ : ∃ w9, w8.setCell ⟨q, 5, none⟩ (.int .u64 1) = w9 := ⟨_, rfl⟩
      have HX_s9 := Lib.hid (show Box w9 q 24 #[.bool true, .int .u64 0, .int .u64 0, .int .u64 u, .int .u64 0, .int .u64 1, .int .i64 0] by rw [← hw9]; exact HX_s8.out.put 5 _)
      have HB9 := Lib.hid (show Below w.heap.size w w9 by rw [← hw9]; exact HB8.out.setCell (p := ⟨q, 5, none⟩) (by show w.heap.size ≤ q; exact HS_s.out) _)
      simp only [hw9]
      clear c9 f9 hw9 HB8 HX_s8
      have c_s0 : w9.cell? ⟨q, 0, none⟩ = some (.bool true) := HX_s9.out.cell 0
      have c_s1 : w9.cell? ⟨q, 1, none⟩ = some (.int .u64 0) := HX_s9.out.cell 1
      have c_s2 : w9.cell? ⟨q, 2, none⟩ = some (.int .u64 0) := HX_s9.out.cell 2
      have c_s3 : w9.cell? ⟨q, 3, none⟩ = some (.int .u64 u) := HX_s9.out.cell 3
      have c_s4 : w9.cell? ⟨q, 4, none⟩ = some (.int .u64 0) := HX_s9.out.cell 4
      have c_s5 : w9.cell? ⟨q, 5, none⟩ = some (.int .u64 1) := HX_s9.out.cell 5
      have c_s6 : w9.cell? ⟨q, 6, none⟩ = some (.int .i64 0) := HX_s9.out.cell 6
      go_wp2_with fail
      refine (X0.out _).mono ?_
      rintro e w10 ⟨rfl, hb⟩
      have HX_s10 := Lib.hid (show Box w10 q 24 #[.bool true, .int .u64 0, .int .u64 0, .int .u64 u, .int .u64 0, .int .u64 1, .int .i64 0] from HX_s9.out.of (hb.block _ HX_s9.out.lt))
      clear HX_s9
      have HB10 := Lib.hid (HB9.out.trans (hb.mono HB9.out.size))
      clear hb HB9
      clear c_s0 c_s1 c_s2 c_s3 c_s4 c_s5 c_s6
      go_wp2_with fail
      go_loopw [7, 11, 12] (fun v7 v11 v12 wr => ∃ (i nw : Nat) (o : Bool) (rk c : Int), v7 = .int .u64 (nw : Int) ∧ v12 = .int .i64 (i : Int) ∧ v11 = .bool o ∧ i ≤ n ∧ nw ≤ 1000000 * i ∧ o = exS true u (nw : Int) ∧ Rk0 i nw rk c ∧ Box wr q 24 #[.bool true, .int .u64 0, .int .u64 0, .int .u64 u, .int .u64 rk, .int .u64 c, .int .i64 0] ∧ Below w.heap.size w wr) (fun _ _ v _ => n - (intOf v).toNat)
      case atStart => exact ⟨0, 0, _, 0, 1, rfl, rfl, rfl, by omega, by omega, rfl, ⟨rfl, rfl⟩, HX_s10.out, HB10.out⟩
      case round =>
        obtain ⟨i, nw, o, rk, c, rfl, rfl, rfl, hi, hnw, ho, hrk, hX, hB⟩ := hrel
        obtain ⟨w20, h9⟩ : ∃ x, x = wr := ⟨_, rfl⟩
        subst h9
        have HX_s20 := Lib.hid hX
        have HB20 := Lib.hid hB
        have HO := Lib.hid ho
        have HR := Lib.hid hrk
        clear hX hB ho hrk HX_s10 HB10
        by_cases hin : i < n
        · obtain ⟨b, off, rfl, hb, hc⟩ := (HZ.out.below HB20.out).at hin
          obtain ⟨m, hm⟩ : ∃ m : Nat, z i = (m : Int) := ⟨(z i).toNat, by have := (HU.out i hin).1; omega⟩
          rw [hm] at hc
          clear hm hb
          obtain ⟨md, hmd⟩ : ∃ md, m % 1000000 = md := ⟨_, rfl⟩
          have hml : md < 1000000 := by omega
          have e1 : (m : Int) % 1000000 = (md : Int) := by omega
          have e2 : Int.tmod (m : Int) 1000000 = (md : Int) := by rw [Int.tmod_eq_emod_of_nonneg (by omega)]; exact e1
          obtain ⟨nx, hnx⟩ : ∃ nx, nw + 1 + md = nx := ⟨_, rfl⟩
          have e3 : IntKind.u64.wrap ((nw : Int) + 1) = (nw : Int) + 1 := by rw [IntKind.wrap_u64]; omega
          have e4 : IntKind.u64.wrap ((nw : Int) + 1 + (md : Int)) = (nx : Int) := by rw [IntKind.wrap_u64]; omega
          have hnl : nx ≤ 1000000 * (i + 1) := by omega
          have hnl2 : nx ≤ 200000000 := by omega
          have hge : nw ≤ nx := by omega
          obtain ⟨rk', hn1, hn2, hn3, hn4, hn5⟩ := HR.out.next (m := nx) (by omega) (by omega) hnl2
          have HU2 := Lib.hid (fun W => sluse_any 0 ⟨true, 0, 0, u, rk, c, 0⟩ (nx : Int) W (by unfold I64; omega) (by unfold U64; omega))
          rw [show Sl.r ⟨true, 0, 0, u, rk, c, 0⟩ = rk from rfl, show Sl.n ⟨true, 0, 0, u, rk, c, 0⟩ = c from rfl, hn3, hn4] at HU2
          have HX9 := Lib.hid (fun W => slexpired_any ⟨true, 0, 0, u, rk, c, 0⟩ (nx : Int) W (okr u rk c HUU.out (HR.out.rng hi100 (by omega) hi) ))
          rw [show Sl.ex ⟨true, 0, 0, u, rk, c, 0⟩ (nx : Int) = exS true u nx from rfl] at HX9
          have HN1 := Lib.hid hn1
          have HNL := Lib.hid hnl
          have HIN := Lib.hid hin
          have ec : IntKind.u64.wrap (c + 1) = (i : Int) + 2 := hn2
          clear hmd hnx hn1 hn2 hn3 hn4 hnl hnl2 hml HR
          have hlt : decide ((i : Int) < (n : Int)) = true := by simp; exact hin
          have hlt2 : decide (i < n) = true := decide_eq_true hin
          clear hin
          obtain ⟨i2, hi2⟩ : ∃ i2, (i : Int) + 2 = i2 := ⟨_, rfl⟩
          rw [hi2] at ec HU2
          have hlate : (u = 0 ∧ o = false ∧ exS true u nx = false) ∨ (decide (0 < u) = true ∧ (o = false ∨ o = true ∧ exS true u nx = true) ∧ exS true u nx = decide (u ≤ (nx : Int))) := late_of HUU.out HO.out (by omega)
          have HU2 : Hid (∀ W, Calls Try.prog 13 #[.int .i64 0, .agg #[.bool true, .int .u64 0, .int .u64 0, .int .u64 u, .int .u64 rk, .int .u64 c, .int .i64 0], .int .u64 (nx : Int)] W fun e w' => e = .returned (.tuple #[.int .u64 rk', .int .u64 i2]) ∧ Below W.heap.size W w') := HU2
          have HX9 : Hid (∀ W, Calls Try.prog 20 #[.agg #[.bool true, .int .u64 0, .int .u64 0, .int .u64 u, .int .u64 rk, .int .u64 c, .int .i64 0], .int .u64 (nx : Int)] W fun e w' => e = .returned (.bool (exS true u (nx : Int))) ∧ Below W.heap.size W w') := HX9
          have HCI := Lib.hid hi2
          clear hi2 hge HO
          rcases hlate with ⟨hu, rfl, hx⟩ | ⟨hu, ⟨rfl⟩ | ⟨rfl, hy⟩, hx⟩
          · have hu0 : decide (0 < u) = false := by rw [hu]; rfl
            have HE := Lib.hid hx.symm
            clear hu
            rw [hx] at HX9
            clear hx
            have c_s0 : w20.cell? ⟨q, 0, none⟩ = some (.bool true) := HX_s20.out.cell 0
            have c_s1 : w20.cell? ⟨q, 1, none⟩ = some (.int .u64 0) := HX_s20.out.cell 1
            have c_s2 : w20.cell? ⟨q, 2, none⟩ = some (.int .u64 0) := HX_s20.out.cell 2
            have c_s3 : w20.cell? ⟨q, 3, none⟩ = some (.int .u64 u) := HX_s20.out.cell 3
            have c_s4 : w20.cell? ⟨q, 4, none⟩ = some (.int .u64 rk) := HX_s20.out.cell 4
            have c_s5 : w20.cell? ⟨q, 5, none⟩ = some (.int .u64 c) := HX_s20.out.cell 5
            have c_s6 : w20.cell? ⟨q, 6, none⟩ = some (.int .i64 0) := HX_s20.out.cell 6
            go_wp2_with fail
            refine (HU2.out _).mono ?_
            rintro e w21 ⟨rfl, hb⟩
            have HX_s21 := Lib.hid (show Box w21 q 24 #[.bool true, .int .u64 0, .int .u64 0, .int .u64 u, .int .u64 rk, .int .u64 c, .int .i64 0] from HX_s20.out.of (hb.block _ HX_s20.out.lt))
            clear HX_s20
            have HB21 := Lib.hid (HB20.out.trans (hb.mono HB20.out.size))
            clear hb HB20
            clear c_s0 c_s1 c_s2 c_s3 c_s4 c_s5 c_s6
            have c_s0 : w21.cell? ⟨q, 0, none⟩ = some (.bool true) := HX_s21.out.cell 0
            have c_s1 : w21.cell? ⟨q, 1, none⟩ = some (.int .u64 0) := HX_s21.out.cell 1
            have c_s2 : w21.cell? ⟨q, 2, none⟩ = some (.int .u64 0) := HX_s21.out.cell 2
            have c_s3 : w21.cell? ⟨q, 3, none⟩ = some (.int .u64 u) := HX_s21.out.cell 3
            have c_s4 : w21.cell? ⟨q, 4, none⟩ = some (.int .u64 rk) := HX_s21.out.cell 4
            have c_s5 : w21.cell? ⟨q, 5, none⟩ = some (.int .u64 c) := HX_s21.out.cell 5
            have c_s6 : w21.cell? ⟨q, 6, none⟩ = some (.int .i64 0) := HX_s21.out.cell 6
            go_wp2_with fail
            refine (HX9.out _).mono ?_
            rintro e w22 ⟨rfl, hb⟩
            have HX_s22 := Lib.hid (show Box w22 q 24 #[.bool true, .int .u64 0, .int .u64 0, .int .u64 u, .int .u64 rk, .int .u64 c, .int .i64 0] from HX_s21.out.of (hb.block _ HX_s21.out.lt))
            clear HX_s21
            have HB22 := Lib.hid (HB21.out.trans (hb.mono HB21.out.size))
            clear hb HB21
            clear c_s0 c_s1 c_s2 c_s3 c_s4 c_s5 c_s6
            have c_s0 : w22.cell? ⟨q, 0, none⟩ = some (.bool true) := HX_s22.out.cell 0
            have c_s1 : w22.cell? ⟨q, 1, none⟩ = some (.int .u64 0) := HX_s22.out.cell 1
            have c_s2 : w22.cell? ⟨q, 2, none⟩ = some (.int .u64 0) := HX_s22.out.cell 2
            have c_s3 : w22.cell? ⟨q, 3, none⟩ = some (.int .u64 u) := HX_s22.out.cell 3
            have c_s4 : w22.cell? ⟨q, 4, none⟩ = some (.int .u64 rk) := HX_s22.out.cell 4
            have c_s5 : w22.cell? ⟨q, 5, none⟩ = some (.int .u64 c) := HX_s22.out.cell 5
            have c_s6 : w22.cell? ⟨q, 6, none⟩ = some (.int .i64 0) := HX_s22.out.cell 6
            go_upto_region 21 with fail
            clear c_s0 c_s1 c_s2 c_s3 c_s4 c_s5 c_s6
            have c9 : w22.cell? ⟨q, 4, none⟩ = some (.int .u64 rk) := HX_s22.out.cell 4
            have f9 := HX_s22.out.frozen 4
            go_upto_region 22 with (fail)
            obtain ⟨w23, hw9⟩ : ∃ w9, w22.setCell ⟨q, 4, none⟩ (.int .u64 rk') = w9 := ⟨_, rfl⟩
            have HX_s23 := Lib.hid (show Box w23 q 24 #[.bool true, .int .u64 0, .int .u64 0, .int .u64 u, .int .u64 rk', .int .u64 c, .int .i64 0] by rw [← hw9]; exact HX_s22.out.put 4 _)
            have HB23 := Lib.hid (show Below w.heap.size w w23 by rw [← hw9]; exact HB22.out.setCell (p := ⟨q, 4, none⟩) (by show w.heap.size ≤ q; exact HS_s.out) _)
            simp only [hw9]
            clear c9 f9 hw9 HB22 HX_s22
            have c9 : w23.cell? ⟨q, 5, none⟩ = some (.int .u64 c) := HX_s23.out.cell 5
            have f9 := HX_s23.out.frozen 5
            go_upto_region 23 with (fail)
            obtain ⟨w24, hw9⟩ : ∃ w9, w23.setCell ⟨q, 5, none⟩ (.int .u64 i2) = w9 := ⟨_, rfl⟩
            have HX_s24 := Lib.hid (show Box w24 q 24 #[.bool true, .int .u64 0, .int .u64 0, .int .u64 u, .int .u64 rk', .int .u64 i2, .int .i64 0] by rw [← hw9]; exact HX_s23.out.put 5 _)
            have HB24 := Lib.hid (show Below w.heap.size w w24 by rw [← hw9]; exact HB23.out.setCell (p := ⟨q, 5, none⟩) (by show w.heap.size ≤ q; exact HS_s.out) _)
            simp only [hw9]
            clear c9 f9 hw9 HB23 HX_s23
            go_wp2_with fail
            go_roundw
            case rel => exact ⟨i + 1, nx, _, rk', i2, rfl, by go_num, rfl, by have := HIN.out; omega, HNL.out, HE.out, by rw [← HCI.out]; exact HN1.out, HX_s24.out, HB24.out⟩
            case measure => have := HIN.out; simp [intOf]; omega
          · have HE := Lib.hid hx.symm
            rw [hx] at HX9
            clear hx
            have c_s0 : w20.cell? ⟨q, 0, none⟩ = some (.bool true) := HX_s20.out.cell 0
            have c_s1 : w20.cell? ⟨q, 1, none⟩ = some (.int .u64 0) := HX_s20.out.cell 1
            have c_s2 : w20.cell? ⟨q, 2, none⟩ = some (.int .u64 0) := HX_s20.out.cell 2
            have c_s3 : w20.cell? ⟨q, 3, none⟩ = some (.int .u64 u) := HX_s20.out.cell 3
            have c_s4 : w20.cell? ⟨q, 4, none⟩ = some (.int .u64 rk) := HX_s20.out.cell 4
            have c_s5 : w20.cell? ⟨q, 5, none⟩ = some (.int .u64 c) := HX_s20.out.cell 5
            have c_s6 : w20.cell? ⟨q, 6, none⟩ = some (.int .i64 0) := HX_s20.out.cell 6
            go_wp2_with fail
            refine (HU2.out _).mono ?_
            rintro e w21 ⟨rfl, hb⟩
            have HX_s21 := Lib.hid (show Box w21 q 24 #[.bool true, .int .u64 0, .int .u64 0, .int .u64 u, .int .u64 rk, .int .u64 c, .int .i64 0] from HX_s20.out.of (hb.block _ HX_s20.out.lt))
            clear HX_s20
            have HB21 := Lib.hid (HB20.out.trans (hb.mono HB20.out.size))
            clear hb HB20
            clear c_s0 c_s1 c_s2 c_s3 c_s4 c_s5 c_s6
            have c_s0 : w21.cell? ⟨q, 0, none⟩ = some (.bool true) := HX_s21.out.cell 0
            have c_s1 : w21.cell? ⟨q, 1, none⟩ = some (.int .u64 0) := HX_s21.out.cell 1
            have c_s2 : w21.cell? ⟨q, 2, none⟩ = some (.int .u64 0) := HX_s21.out.cell 2
            have c_s3 : w21.cell? ⟨q, 3, none⟩ = some (.int .u64 u) := HX_s21.out.cell 3
            have c_s4 : w21.cell? ⟨q, 4, none⟩ = some (.int .u64 rk) := HX_s21.out.cell 4
            have c_s5 : w21.cell? ⟨q, 5, none⟩ = some (.int .u64 c) := HX_s21.out.cell 5
            have c_s6 : w21.cell? ⟨q, 6, none⟩ = some (.int .i64 0) := HX_s21.out.cell 6
            go_wp2_with fail
            refine (HX9.out _).mono ?_
            rintro e w22 ⟨rfl, hb⟩
            have HX_s22 := Lib.hid (show Box w22 q 24 #[.bool true, .int .u64 0, .int .u64 0, .int .u64 u, .int .u64 rk, .int .u64 c, .int .i64 0] from HX_s21.out.of (hb.block _ HX_s21.out.lt))
            clear HX_s21
            have HB22 := Lib.hid (HB21.out.trans (hb.mono HB21.out.size))
            clear hb HB21
            clear c_s0 c_s1 c_s2 c_s3 c_s4 c_s5 c_s6
            have c_s0 : w22.cell? ⟨q, 0, none⟩ = some (.bool true) := HX_s22.out.cell 0
            have c_s1 : w22.cell? ⟨q, 1, none⟩ = some (.int .u64 0) := HX_s22.out.cell 1
            have c_s2 : w22.cell? ⟨q, 2, none⟩ = some (.int .u64 0) := HX_s22.out.cell 2
            have c_s3 : w22.cell? ⟨q, 3, none⟩ = some (.int .u64 u) := HX_s22.out.cell 3
            have c_s4 : w22.cell? ⟨q, 4, none⟩ = some (.int .u64 rk) := HX_s22.out.cell 4
            have c_s5 : w22.cell? ⟨q, 5, none⟩ = some (.int .u64 c) := HX_s22.out.cell 5
            have c_s6 : w22.cell? ⟨q, 6, none⟩ = some (.int .i64 0) := HX_s22.out.cell 6
            go_upto_region 21 with fail
            clear c_s0 c_s1 c_s2 c_s3 c_s4 c_s5 c_s6
            have c9 : w22.cell? ⟨q, 4, none⟩ = some (.int .u64 rk) := HX_s22.out.cell 4
            have f9 := HX_s22.out.frozen 4
            go_upto_region 22 with (fail)
            obtain ⟨w23, hw9⟩ : ∃ w9, w22.setCell ⟨q, 4, none⟩ (.int .u64 rk') = w9 := ⟨_, rfl⟩
            have HX_s23 := Lib.hid (show Box w23 q 24 #[.bool true, .int .u64 0, .int .u64 0, .int .u64 u, .int .u64 rk', .int .u64 c, .int .i64 0] by rw [← hw9]; exact HX_s22.out.put 4 _)
            have HB23 := Lib.hid (show Below w.heap.size w w23 by rw [← hw9]; exact HB22.out.setCell (p := ⟨q, 4, none⟩) (by show w.heap.size ≤ q; exact HS_s.out) _)
            simp only [hw9]
            clear c9 f9 hw9 HB22 HX_s22
            have c9 : w23.cell? ⟨q, 5, none⟩ = some (.int .u64 c) := HX_s23.out.cell 5
            have f9 := HX_s23.out.frozen 5
            go_upto_region 23 with (fail)
            obtain ⟨w24, hw9⟩ : ∃ w9, w23.setCell ⟨q, 5, none⟩ (.int .u64 i2) = w9 := ⟨_, rfl⟩
            have HX_s24 := Lib.hid (show Box w24 q 24 #[.bool true, .int .u64 0, .int .u64 0, .int .u64 u, .int .u64 rk', .int .u64 i2, .int .i64 0] by rw [← hw9]; exact HX_s23.out.put 5 _)
            have HB24 := Lib.hid (show Below w.heap.size w w24 by rw [← hw9]; exact HB23.out.setCell (p := ⟨q, 5, none⟩) (by show w.heap.size ≤ q; exact HS_s.out) _)
            simp only [hw9]
            clear c9 f9 hw9 HB23 HX_s23
            go_wp2_with fail
            go_roundw
            case rel => exact ⟨i + 1, nx, _, rk', i2, rfl, by go_num, rfl, by have := HIN.out; omega, HNL.out, HE.out, by rw [← HCI.out]; exact HN1.out, HX_s24.out, HB24.out⟩
            case measure => have := HIN.out; simp [intOf]; omega
          · rw [hy] at hx
            have hd : decide (u ≤ (nx : Int)) = true := hx.symm
            have HE := Lib.hid hy.symm
            rw [hy] at HX9
            clear hx hy
            have c_s0 : w20.cell? ⟨q, 0, none⟩ = some (.bool true) := HX_s20.out.cell 0
            have c_s1 : w20.cell? ⟨q, 1, none⟩ = some (.int .u64 0) := HX_s20.out.cell 1
            have c_s2 : w20.cell? ⟨q, 2, none⟩ = some (.int .u64 0) := HX_s20.out.cell 2
            have c_s3 : w20.cell? ⟨q, 3, none⟩ = some (.int .u64 u) := HX_s20.out.cell 3
            have c_s4 : w20.cell? ⟨q, 4, none⟩ = some (.int .u64 rk) := HX_s20.out.cell 4
            have c_s5 : w20.cell? ⟨q, 5, none⟩ = some (.int .u64 c) := HX_s20.out.cell 5
            have c_s6 : w20.cell? ⟨q, 6, none⟩ = some (.int .i64 0) := HX_s20.out.cell 6
            go_wp2_with fail
            refine (HU2.out _).mono ?_
            rintro e w21 ⟨rfl, hb⟩
            have HX_s21 := Lib.hid (show Box w21 q 24 #[.bool true, .int .u64 0, .int .u64 0, .int .u64 u, .int .u64 rk, .int .u64 c, .int .i64 0] from HX_s20.out.of (hb.block _ HX_s20.out.lt))
            clear HX_s20
            have HB21 := Lib.hid (HB20.out.trans (hb.mono HB20.out.size))
            clear hb HB20
            clear c_s0 c_s1 c_s2 c_s3 c_s4 c_s5 c_s6
            have c_s0 : w21.cell? ⟨q, 0, none⟩ = some (.bool true) := HX_s21.out.cell 0
            have c_s1 : w21.cell? ⟨q, 1, none⟩ = some (.int .u64 0) := HX_s21.out.cell 1
            have c_s2 : w21.cell? ⟨q, 2, none⟩ = some (.int .u64 0) := HX_s21.out.cell 2
            have c_s3 : w21.cell? ⟨q, 3, none⟩ = some (.int .u64 u) := HX_s21.out.cell 3
            have c_s4 : w21.cell? ⟨q, 4, none⟩ = some (.int .u64 rk) := HX_s21.out.cell 4
            have c_s5 : w21.cell? ⟨q, 5, none⟩ = some (.int .u64 c) := HX_s21.out.cell 5
            have c_s6 : w21.cell? ⟨q, 6, none⟩ = some (.int .i64 0) := HX_s21.out.cell 6
            go_wp2_with fail
            refine (HX9.out _).mono ?_
            rintro e w22 ⟨rfl, hb⟩
            have HX_s22 := Lib.hid (show Box w22 q 24 #[.bool true, .int .u64 0, .int .u64 0, .int .u64 u, .int .u64 rk, .int .u64 c, .int .i64 0] from HX_s21.out.of (hb.block _ HX_s21.out.lt))
            clear HX_s21
            have HB22 := Lib.hid (HB21.out.trans (hb.mono HB21.out.size))
            clear hb HB21
            clear c_s0 c_s1 c_s2 c_s3 c_s4 c_s5 c_s6
            have c_s0 : w22.cell? ⟨q, 0, none⟩ = some (.bool true) := HX_s22.out.cell 0
            have c_s1 : w22.cell? ⟨q, 1, none⟩ = some (.int .u64 0) := HX_s22.out.cell 1
            have c_s2 : w22.cell? ⟨q, 2, none⟩ = some (.int .u64 0) := HX_s22.out.cell 2
            have c_s3 : w22.cell? ⟨q, 3, none⟩ = some (.int .u64 u) := HX_s22.out.cell 3
            have c_s4 : w22.cell? ⟨q, 4, none⟩ = some (.int .u64 rk) := HX_s22.out.cell 4
            have c_s5 : w22.cell? ⟨q, 5, none⟩ = some (.int .u64 c) := HX_s22.out.cell 5
            have c_s6 : w22.cell? ⟨q, 6, none⟩ = some (.int .i64 0) := HX_s22.out.cell 6
            go_upto_region 21 with fail
            clear c_s0 c_s1 c_s2 c_s3 c_s4 c_s5 c_s6
            have c9 : w22.cell? ⟨q, 4, none⟩ = some (.int .u64 rk) := HX_s22.out.cell 4
            have f9 := HX_s22.out.frozen 4
            go_upto_region 22 with (fail)
            obtain ⟨w23, hw9⟩ : ∃ w9, w22.setCell ⟨q, 4, none⟩ (.int .u64 rk') = w9 := ⟨_, rfl⟩
            have HX_s23 := Lib.hid (show Box w23 q 24 #[.bool true, .int .u64 0, .int .u64 0, .int .u64 u, .int .u64 rk', .int .u64 c, .int .i64 0] by rw [← hw9]; exact HX_s22.out.put 4 _)
            have HB23 := Lib.hid (show Below w.heap.size w w23 by rw [← hw9]; exact HB22.out.setCell (p := ⟨q, 4, none⟩) (by show w.heap.size ≤ q; exact HS_s.out) _)
            simp only [hw9]
            clear c9 f9 hw9 HB22 HX_s22
            have c9 : w23.cell? ⟨q, 5, none⟩ = some (.int .u64 c) := HX_s23.out.cell 5
            have f9 := HX_s23.out.frozen 5
            go_upto_region 23 with (fail)
            obtain ⟨w24, hw9⟩ : ∃ w9, w23.setCell ⟨q, 5, none⟩ (.int .u64 i2) = w9 := ⟨_, rfl⟩
            have HX_s24 := Lib.hid (show Box w24 q 24 #[.bool true, .int .u64 0, .int .u64 0, .int .u64 u, .int .u64 rk', .int .u64 i2, .int .i64 0] by rw [← hw9]; exact HX_s23.out.put 5 _)
            have HB24 := Lib.hid (show Below w.heap.size w w24 by rw [← hw9]; exact HB23.out.setCell (p := ⟨q, 5, none⟩) (by show w.heap.size ≤ q; exact HS_s.out) _)
            simp only [hw9]
            clear c9 f9 hw9 HB23 HX_s23
            go_wp2_with fail
            go_roundw
            case rel => exact ⟨i + 1, nx, _, rk', i2, rfl, by go_num, rfl, by have := HIN.out; omega, HNL.out, HE.out, by rw [← HCI.out]; exact HN1.out, HX_s24.out, HB24.out⟩
            case measure => have := HIN.out; simp [intOf]; omega
        · obtain rfl : i = n := by omega
          have hlt : decide ((i : Int) < (i : Int)) = false := by simp
          go_wp2_with fail
          go_roundw
          case rel => exact ⟨1, rfl, by omega, by omega, HB20.out⟩
          case measure => simp [intOf]
    · have x0 := (fun W => slexpired_any ⟨true, 0, 0, u, 0, 1, 0⟩ 0 W (okr u _ _ HUU.out ⟨by unfold U64; omega, by unfold U64; omega⟩))
      rw [show Sl.ex ⟨true, 0, 0, u, 0, 1, 0⟩ 0 = exS true u ((0 : Nat) : Int) from rfl] at x0
      have X0 : Hid (∀ W, Calls Try.prog 20 #[.agg #[.bool true, .int .u64 0, .int .u64 0, .int .u64 u, .int .u64 0, .int .u64 1, .int .i64 0], .int .u64 0] W fun e w' => e = .returned (.bool (exS true u ((0 : Nat) : Int))) ∧ Below W.heap.size W w') := Lib.hid x0
      clear x0
      go_upto_region 9 with (fail)
      obtain ⟨q, hq⟩ : ∃ q9, w5.heap.size = q9 := ⟨_, rfl⟩
      obtain ⟨w6, hw9⟩ : ∃ w9, w5.alloc (.cells #[.bool true, .int .u64 0, .int .u64 0, .int .u64 u, .int .u64 0, .int .u64 0, .int .i64 0] 24) = w9 := ⟨_, rfl⟩
      have HX_s6 := Lib.hid (show Box w6 q 24 #[.bool true, .int .u64 0, .int .u64 0, .int .u64 u, .int .u64 0, .int .u64 0, .int .i64 0] by rw [← hw9, ← hq]; exact Box.new w5 _ _)
      have HB6 := Lib.hid (show Below w.heap.size w w6 by rw [← hw9]; exact HB5.out.alloc HB5.out.size _)
      have HS_s := Lib.hid (show w.heap.size ≤ q by rw [← hq]; exact HB5.out.size)
      simp only [hw9, hq]
      clear hq hw9 HB5 
      go_wp2_with fail
      refine (en1 _).mono ?_
      rintro e w7 ⟨rfl, hb⟩
      have HX_s7 := Lib.hid (show Box w7 q 24 #[.bool true, .int .u64 0, .int .u64 0, .int .u64 u, .int .u64 0, .int .u64 0, .int .i64 0] from HX_s6.out.of (hb.block _ HX_s6.out.lt))
      clear HX_s6
      have HB7 := Lib.hid (HB6.out.trans (hb.mono HB6.out.size))
      clear hb HB6
      have c9 : w7.cell? ⟨q, 4, none⟩ = some (.int .u64 0) := HX_s7.out.cell 4
      have f9 := HX_s7.out.frozen 4
      go_upto_region 11 with (fail)
      obtain ⟨w8, hw9⟩ : ∃ w9, w7.setCell ⟨q, 4, none⟩ (.int .u64 0) = w9 := ⟨_, rfl⟩
      have HX_s8 := Lib.hid (show Box w8 q 24 #[.bool true, .int .u64 0, .int .u64 0, .int .u64 u, .int .u64 0, .int .u64 0, .int .i64 0] by rw [← hw9]; exact HX_s7.out.put 4 _)
      have HB8 := Lib.hid (show Below w.heap.size w w8 by rw [← hw9]; exact HB7.out.setCell (p := ⟨q, 4, none⟩) (by show w.heap.size ≤ q; exact HS_s.out) _)
      simp only [hw9]
      clear c9 f9 hw9 HB7 HX_s7
      have c9 : w8.cell? ⟨q, 5, none⟩ = some (.int .u64 0) := HX_s8.out.cell 5
      have f9 := HX_s8.out.frozen 5
      go_upto_region 12 with (fail)
      obtain ⟨w9, hw9⟩ : ∃ w9, w8.setCell ⟨q, 5, none⟩ (.int .u64 1) = w9 := ⟨_, rfl⟩
      have HX_s9 := Lib.hid (show Box w9 q 24 #[.bool true, .int .u64 0, .int .u64 0, .int .u64 u, .int .u64 0, .int .u64 1, .int .i64 0] by rw [← hw9]; exact HX_s8.out.put 5 _)
      have HB9 := Lib.hid (show Below w.heap.size w w9 by rw [← hw9]; exact HB8.out.setCell (p := ⟨q, 5, none⟩) (by show w.heap.size ≤ q; exact HS_s.out) _)
      simp only [hw9]
      clear c9 f9 hw9 HB8 HX_s8
      have c_s0 : w9.cell? ⟨q, 0, none⟩ = some (.bool true) := HX_s9.out.cell 0
      have c_s1 : w9.cell? ⟨q, 1, none⟩ = some (.int .u64 0) := HX_s9.out.cell 1
      have c_s2 : w9.cell? ⟨q, 2, none⟩ = some (.int .u64 0) := HX_s9.out.cell 2
      have c_s3 : w9.cell? ⟨q, 3, none⟩ = some (.int .u64 u) := HX_s9.out.cell 3
      have c_s4 : w9.cell? ⟨q, 4, none⟩ = some (.int .u64 0) := HX_s9.out.cell 4
      have c_s5 : w9.cell? ⟨q, 5, none⟩ = some (.int .u64 1) := HX_s9.out.cell 5
      have c_s6 : w9.cell? ⟨q, 6, none⟩ = some (.int .i64 0) := HX_s9.out.cell 6
      go_wp2_with fail
      refine (X0.out _).mono ?_
      rintro e w10 ⟨rfl, hb⟩
      have HX_s10 := Lib.hid (show Box w10 q 24 #[.bool true, .int .u64 0, .int .u64 0, .int .u64 u, .int .u64 0, .int .u64 1, .int .i64 0] from HX_s9.out.of (hb.block _ HX_s9.out.lt))
      clear HX_s9
      have HB10 := Lib.hid (HB9.out.trans (hb.mono HB9.out.size))
      clear hb HB9
      clear c_s0 c_s1 c_s2 c_s3 c_s4 c_s5 c_s6
      go_wp2_with fail
      go_loopw [7, 11, 12] (fun v7 v11 v12 wr => ∃ (i nw : Nat) (o : Bool) (rk c : Int), v7 = .int .u64 (nw : Int) ∧ v12 = .int .i64 (i : Int) ∧ v11 = .bool o ∧ i ≤ n ∧ nw ≤ 1000000 * i ∧ o = exS true u (nw : Int) ∧ Rk1 i nw rk c ∧ Box wr q 24 #[.bool true, .int .u64 0, .int .u64 0, .int .u64 u, .int .u64 rk, .int .u64 c, .int .i64 0] ∧ Below w.heap.size w wr) (fun _ _ v _ => n - (intOf v).toNat)
      case atStart => exact ⟨0, 0, _, 0, 1, rfl, rfl, rfl, by omega, by omega, rfl, ⟨rfl, rfl⟩, HX_s10.out, HB10.out⟩
      case round =>
        obtain ⟨i, nw, o, rk, c, rfl, rfl, rfl, hi, hnw, ho, hrk, hX, hB⟩ := hrel
        obtain ⟨w20, h9⟩ : ∃ x, x = wr := ⟨_, rfl⟩
        subst h9
        have HX_s20 := Lib.hid hX
        have HB20 := Lib.hid hB
        have HO := Lib.hid ho
        have HR := Lib.hid hrk
        clear hX hB ho hrk HX_s10 HB10
        by_cases hin : i < n
        · obtain ⟨b, off, rfl, hb, hc⟩ := (HZ.out.below HB20.out).at hin
          obtain ⟨m, hm⟩ : ∃ m : Nat, z i = (m : Int) := ⟨(z i).toNat, by have := (HU.out i hin).1; omega⟩
          rw [hm] at hc
          clear hm hb
          obtain ⟨md, hmd⟩ : ∃ md, m % 1000000 = md := ⟨_, rfl⟩
          have hml : md < 1000000 := by omega
          have e1 : (m : Int) % 1000000 = (md : Int) := by omega
          have e2 : Int.tmod (m : Int) 1000000 = (md : Int) := by rw [Int.tmod_eq_emod_of_nonneg (by omega)]; exact e1
          obtain ⟨nx, hnx⟩ : ∃ nx, nw + 1 + md = nx := ⟨_, rfl⟩
          have e3 : IntKind.u64.wrap ((nw : Int) + 1) = (nw : Int) + 1 := by rw [IntKind.wrap_u64]; omega
          have e4 : IntKind.u64.wrap ((nw : Int) + 1 + (md : Int)) = (nx : Int) := by rw [IntKind.wrap_u64]; omega
          have hnl : nx ≤ 1000000 * (i + 1) := by omega
          have hnl2 : nx ≤ 200000000 := by omega
          have hge : nw ≤ nx := by omega
          obtain ⟨rk', hn1, hn2, hn3, hn4, hn5⟩ := HR.out.next (m := nx) (by omega) (by omega) hnl2
          have HU2 := Lib.hid (fun W => sluse_any 1 ⟨true, 0, 0, u, rk, c, 0⟩ (nx : Int) W (by unfold I64; omega) (by unfold U64; omega))
          rw [show Sl.r ⟨true, 0, 0, u, rk, c, 0⟩ = rk from rfl, show Sl.n ⟨true, 0, 0, u, rk, c, 0⟩ = c from rfl, hn3, hn4] at HU2
          have HX9 := Lib.hid (fun W => slexpired_any ⟨true, 0, 0, u, rk, c, 0⟩ (nx : Int) W (okr u rk c HUU.out (HR.out.rng hi100 (by omega) hi) ))
          rw [show Sl.ex ⟨true, 0, 0, u, rk, c, 0⟩ (nx : Int) = exS true u nx from rfl] at HX9
          have HN1 := Lib.hid hn1
          have HNL := Lib.hid hnl
          have HIN := Lib.hid hin
          have ec : IntKind.u64.wrap (c + 1) = (i : Int) + 2 := hn2
          clear hmd hnx hn1 hn2 hn3 hn4 hnl hnl2 hml HR
          have hlt : decide ((i : Int) < (n : Int)) = true := by simp; exact hin
          have hlt2 : decide (i < n) = true := decide_eq_true hin
          clear hin
          obtain ⟨i2, hi2⟩ : ∃ i2, (i : Int) + 2 = i2 := ⟨_, rfl⟩
          rw [hi2] at ec HU2
          have hlate : (u = 0 ∧ o = false ∧ exS true u nx = false) ∨ (decide (0 < u) = true ∧ (o = false ∨ o = true ∧ exS true u nx = true) ∧ exS true u nx = decide (u ≤ (nx : Int))) := late_of HUU.out HO.out (by omega)
          have HU2 : Hid (∀ W, Calls Try.prog 13 #[.int .i64 1, .agg #[.bool true, .int .u64 0, .int .u64 0, .int .u64 u, .int .u64 rk, .int .u64 c, .int .i64 0], .int .u64 (nx : Int)] W fun e w' => e = .returned (.tuple #[.int .u64 rk', .int .u64 i2]) ∧ Below W.heap.size W w') := HU2
          have HX9 : Hid (∀ W, Calls Try.prog 20 #[.agg #[.bool true, .int .u64 0, .int .u64 0, .int .u64 u, .int .u64 rk, .int .u64 c, .int .i64 0], .int .u64 (nx : Int)] W fun e w' => e = .returned (.bool (exS true u (nx : Int))) ∧ Below W.heap.size W w') := HX9
          have HCI := Lib.hid hi2
          clear hi2 hge HO
          rcases hlate with ⟨hu, rfl, hx⟩ | ⟨hu, ⟨rfl⟩ | ⟨rfl, hy⟩, hx⟩
          · have hu0 : decide (0 < u) = false := by rw [hu]; rfl
            have HE := Lib.hid hx.symm
            clear hu
            rw [hx] at HX9
            clear hx
            have c_s0 : w20.cell? ⟨q, 0, none⟩ = some (.bool true) := HX_s20.out.cell 0
            have c_s1 : w20.cell? ⟨q, 1, none⟩ = some (.int .u64 0) := HX_s20.out.cell 1
            have c_s2 : w20.cell? ⟨q, 2, none⟩ = some (.int .u64 0) := HX_s20.out.cell 2
            have c_s3 : w20.cell? ⟨q, 3, none⟩ = some (.int .u64 u) := HX_s20.out.cell 3
            have c_s4 : w20.cell? ⟨q, 4, none⟩ = some (.int .u64 rk) := HX_s20.out.cell 4
            have c_s5 : w20.cell? ⟨q, 5, none⟩ = some (.int .u64 c) := HX_s20.out.cell 5
            have c_s6 : w20.cell? ⟨q, 6, none⟩ = some (.int .i64 0) := HX_s20.out.cell 6
            go_wp2_with fail
            refine (HU2.out _).mono ?_
            rintro e w21 ⟨rfl, hb⟩
            have HX_s21 := Lib.hid (show Box w21 q 24 #[.bool true, .int .u64 0, .int .u64 0, .int .u64 u, .int .u64 rk, .int .u64 c, .int .i64 0] from HX_s20.out.of (hb.block _ HX_s20.out.lt))
            clear HX_s20
            have HB21 := Lib.hid (HB20.out.trans (hb.mono HB20.out.size))
            clear hb HB20
            clear c_s0 c_s1 c_s2 c_s3 c_s4 c_s5 c_s6
            have c_s0 : w21.cell? ⟨q, 0, none⟩ = some (.bool true) := HX_s21.out.cell 0
            have c_s1 : w21.cell? ⟨q, 1, none⟩ = some (.int .u64 0) := HX_s21.out.cell 1
            have c_s2 : w21.cell? ⟨q, 2, none⟩ = some (.int .u64 0) := HX_s21.out.cell 2
            have c_s3 : w21.cell? ⟨q, 3, none⟩ = some (.int .u64 u) := HX_s21.out.cell 3
            have c_s4 : w21.cell? ⟨q, 4, none⟩ = some (.int .u64 rk) := HX_s21.out.cell 4
            have c_s5 : w21.cell? ⟨q, 5, none⟩ = some (.int .u64 c) := HX_s21.out.cell 5
            have c_s6 : w21.cell? ⟨q, 6, none⟩ = some (.int .i64 0) := HX_s21.out.cell 6
            go_wp2_with fail
            refine (HX9.out _).mono ?_
            rintro e w22 ⟨rfl, hb⟩
            have HX_s22 := Lib.hid (show Box w22 q 24 #[.bool true, .int .u64 0, .int .u64 0, .int .u64 u, .int .u64 rk, .int .u64 c, .int .i64 0] from HX_s21.out.of (hb.block _ HX_s21.out.lt))
            clear HX_s21
            have HB22 := Lib.hid (HB21.out.trans (hb.mono HB21.out.size))
            clear hb HB21
            clear c_s0 c_s1 c_s2 c_s3 c_s4 c_s5 c_s6
            have c_s0 : w22.cell? ⟨q, 0, none⟩ = some (.bool true) := HX_s22.out.cell 0
            have c_s1 : w22.cell? ⟨q, 1, none⟩ = some (.int .u64 0) := HX_s22.out.cell 1
            have c_s2 : w22.cell? ⟨q, 2, none⟩ = some (.int .u64 0) := HX_s22.out.cell 2
            have c_s3 : w22.cell? ⟨q, 3, none⟩ = some (.int .u64 u) := HX_s22.out.cell 3
            have c_s4 : w22.cell? ⟨q, 4, none⟩ = some (.int .u64 rk) := HX_s22.out.cell 4
            have c_s5 : w22.cell? ⟨q, 5, none⟩ = some (.int .u64 c) := HX_s22.out.cell 5
            have c_s6 : w22.cell? ⟨q, 6, none⟩ = some (.int .i64 0) := HX_s22.out.cell 6
            go_upto_region 21 with fail
            clear c_s0 c_s1 c_s2 c_s3 c_s4 c_s5 c_s6
            have c9 : w22.cell? ⟨q, 4, none⟩ = some (.int .u64 rk) := HX_s22.out.cell 4
            have f9 := HX_s22.out.frozen 4
            go_upto_region 22 with (fail)
            obtain ⟨w23, hw9⟩ : ∃ w9, w22.setCell ⟨q, 4, none⟩ (.int .u64 rk') = w9 := ⟨_, rfl⟩
            have HX_s23 := Lib.hid (show Box w23 q 24 #[.bool true, .int .u64 0, .int .u64 0, .int .u64 u, .int .u64 rk', .int .u64 c, .int .i64 0] by rw [← hw9]; exact HX_s22.out.put 4 _)
            have HB23 := Lib.hid (show Below w.heap.size w w23 by rw [← hw9]; exact HB22.out.setCell (p := ⟨q, 4, none⟩) (by show w.heap.size ≤ q; exact HS_s.out) _)
            simp only [hw9]
            clear c9 f9 hw9 HB22 HX_s22
            have c9 : w23.cell? ⟨q, 5, none⟩ = some (.int .u64 c) := HX_s23.out.cell 5
            have f9 := HX_s23.out.frozen 5
            go_upto_region 23 with (fail)
            obtain ⟨w24, hw9⟩ : ∃ w9, w23.setCell ⟨q, 5, none⟩ (.int .u64 i2) = w9 := ⟨_, rfl⟩
            have HX_s24 := Lib.hid (show Box w24 q 24 #[.bool true, .int .u64 0, .int .u64 0, .int .u64 u, .int .u64 rk', .int .u64 i2, .int .i64 0] by rw [← hw9]; exact HX_s23.out.put 5 _)
            have HB24 := Lib.hid (show Below w.heap.size w w24 by rw [← hw9]; exact HB23.out.setCell (p := ⟨q, 5, none⟩) (by show w.heap.size ≤ q; exact HS_s.out) _)
            simp only [hw9]
            clear c9 f9 hw9 HB23 HX_s23
            go_wp2_with fail
            go_roundw
            case rel => exact ⟨i + 1, nx, _, rk', i2, rfl, by go_num, rfl, by have := HIN.out; omega, HNL.out, HE.out, by rw [← HCI.out]; exact HN1.out, HX_s24.out, HB24.out⟩
            case measure => have := HIN.out; simp [intOf]; omega
          · have HE := Lib.hid hx.symm
            rw [hx] at HX9
            clear hx
            have c_s0 : w20.cell? ⟨q, 0, none⟩ = some (.bool true) := HX_s20.out.cell 0
            have c_s1 : w20.cell? ⟨q, 1, none⟩ = some (.int .u64 0) := HX_s20.out.cell 1
            have c_s2 : w20.cell? ⟨q, 2, none⟩ = some (.int .u64 0) := HX_s20.out.cell 2
            have c_s3 : w20.cell? ⟨q, 3, none⟩ = some (.int .u64 u) := HX_s20.out.cell 3
            have c_s4 : w20.cell? ⟨q, 4, none⟩ = some (.int .u64 rk) := HX_s20.out.cell 4
            have c_s5 : w20.cell? ⟨q, 5, none⟩ = some (.int .u64 c) := HX_s20.out.cell 5
            have c_s6 : w20.cell? ⟨q, 6, none⟩ = some (.int .i64 0) := HX_s20.out.cell 6
            go_wp2_with fail
            refine (HU2.out _).mono ?_
            rintro e w21 ⟨rfl, hb⟩
            have HX_s21 := Lib.hid (show Box w21 q 24 #[.bool true, .int .u64 0, .int .u64 0, .int .u64 u, .int .u64 rk, .int .u64 c, .int .i64 0] from HX_s20.out.of (hb.block _ HX_s20.out.lt))
            clear HX_s20
            have HB21 := Lib.hid (HB20.out.trans (hb.mono HB20.out.size))
            clear hb HB20
            clear c_s0 c_s1 c_s2 c_s3 c_s4 c_s5 c_s6
            have c_s0 : w21.cell? ⟨q, 0, none⟩ = some (.bool true) := HX_s21.out.cell 0
            have c_s1 : w21.cell? ⟨q, 1, none⟩ = some (.int .u64 0) := HX_s21.out.cell 1
            have c_s2 : w21.cell? ⟨q, 2, none⟩ = some (.int .u64 0) := HX_s21.out.cell 2
            have c_s3 : w21.cell? ⟨q, 3, none⟩ = some (.int .u64 u) := HX_s21.out.cell 3
            have c_s4 : w21.cell? ⟨q, 4, none⟩ = some (.int .u64 rk) := HX_s21.out.cell 4
            have c_s5 : w21.cell? ⟨q, 5, none⟩ = some (.int .u64 c) := HX_s21.out.cell 5
            have c_s6 : w21.cell? ⟨q, 6, none⟩ = some (.int .i64 0) := HX_s21.out.cell 6
            go_wp2_with fail
            refine (HX9.out _).mono ?_
            rintro e w22 ⟨rfl, hb⟩
            have HX_s22 := Lib.hid (show Box w22 q 24 #[.bool true, .int .u64 0, .int .u64 0, .int .u64 u, .int .u64 rk, .int .u64 c, .int .i64 0] from HX_s21.out.of (hb.block _ HX_s21.out.lt))
            clear HX_s21
            have HB22 := Lib.hid (HB21.out.trans (hb.mono HB21.out.size))
            clear hb HB21
            clear c_s0 c_s1 c_s2 c_s3 c_s4 c_s5 c_s6
            have c_s0 : w22.cell? ⟨q, 0, none⟩ = some (.bool true) := HX_s22.out.cell 0
            have c_s1 : w22.cell? ⟨q, 1, none⟩ = some (.int .u64 0) := HX_s22.out.cell 1
            have c_s2 : w22.cell? ⟨q, 2, none⟩ = some (.int .u64 0) := HX_s22.out.cell 2
            have c_s3 : w22.cell? ⟨q, 3, none⟩ = some (.int .u64 u) := HX_s22.out.cell 3
            have c_s4 : w22.cell? ⟨q, 4, none⟩ = some (.int .u64 rk) := HX_s22.out.cell 4
            have c_s5 : w22.cell? ⟨q, 5, none⟩ = some (.int .u64 c) := HX_s22.out.cell 5
            have c_s6 : w22.cell? ⟨q, 6, none⟩ = some (.int .i64 0) := HX_s22.out.cell 6
            go_upto_region 21 with fail
            clear c_s0 c_s1 c_s2 c_s3 c_s4 c_s5 c_s6
            have c9 : w22.cell? ⟨q, 4, none⟩ = some (.int .u64 rk) := HX_s22.out.cell 4
            have f9 := HX_s22.out.frozen 4
            go_upto_region 22 with (fail)
            obtain ⟨w23, hw9⟩ : ∃ w9, w22.setCell ⟨q, 4, none⟩ (.int .u64 rk') = w9 := ⟨_, rfl⟩
            have HX_s23 := Lib.hid (show Box w23 q 24 #[.bool true, .int .u64 0, .int .u64 0, .int .u64 u, .int .u64 rk', .int .u64 c, .int .i64 0] by rw [← hw9]; exact HX_s22.out.put 4 _)
            have HB23 := Lib.hid (show Below w.heap.size w w23 by rw [← hw9]; exact HB22.out.setCell (p := ⟨q, 4, none⟩) (by show w.heap.size ≤ q; exact HS_s.out) _)
            simp only [hw9]
            clear c9 f9 hw9 HB22 HX_s22
            have c9 : w23.cell? ⟨q, 5, none⟩ = some (.int .u64 c) := HX_s23.out.cell 5
            have f9 := HX_s23.out.frozen 5
            go_upto_region 23 with (fail)
            obtain ⟨w24, hw9⟩ : ∃ w9, w23.setCell ⟨q, 5, none⟩ (.int .u64 i2) = w9 := ⟨_, rfl⟩
            have HX_s24 := Lib.hid (show Box w24 q 24 #[.bool true, .int .u64 0, .int .u64 0, .int .u64 u, .int .u64 rk', .int .u64 i2, .int .i64 0] by rw [← hw9]; exact HX_s23.out.put 5 _)
            have HB24 := Lib.hid (show Below w.heap.size w w24 by rw [← hw9]; exact HB23.out.setCell (p := ⟨q, 5, none⟩) (by show w.heap.size ≤ q; exact HS_s.out) _)
            simp only [hw9]
            clear c9 f9 hw9 HB23 HX_s23
            go_wp2_with fail
            go_roundw
            case rel => exact ⟨i + 1, nx, _, rk', i2, rfl, by go_num, rfl, by have := HIN.out; omega, HNL.out, HE.out, by rw [← HCI.out]; exact HN1.out, HX_s24.out, HB24.out⟩
            case measure => have := HIN.out; simp [intOf]; omega
          · rw [hy] at hx
            have hd : decide (u ≤ (nx : Int)) = true := hx.symm
            have HE := Lib.hid hy.symm
            rw [hy] at HX9
            clear hx hy
            have c_s0 : w20.cell? ⟨q, 0, none⟩ = some (.bool true) := HX_s20.out.cell 0
            have c_s1 : w20.cell? ⟨q, 1, none⟩ = some (.int .u64 0) := HX_s20.out.cell 1
            have c_s2 : w20.cell? ⟨q, 2, none⟩ = some (.int .u64 0) := HX_s20.out.cell 2
            have c_s3 : w20.cell? ⟨q, 3, none⟩ = some (.int .u64 u) := HX_s20.out.cell 3
            have c_s4 : w20.cell? ⟨q, 4, none⟩ = some (.int .u64 rk) := HX_s20.out.cell 4
            have c_s5 : w20.cell? ⟨q, 5, none⟩ = some (.int .u64 c) := HX_s20.out.cell 5
            have c_s6 : w20.cell? ⟨q, 6, none⟩ = some (.int .i64 0) := HX_s20.out.cell 6
            go_wp2_with fail
            refine (HU2.out _).mono ?_
            rintro e w21 ⟨rfl, hb⟩
            have HX_s21 := Lib.hid (show Box w21 q 24 #[.bool true, .int .u64 0, .int .u64 0, .int .u64 u, .int .u64 rk, .int .u64 c, .int .i64 0] from HX_s20.out.of (hb.block _ HX_s20.out.lt))
            clear HX_s20
            have HB21 := Lib.hid (HB20.out.trans (hb.mono HB20.out.size))
            clear hb HB20
            clear c_s0 c_s1 c_s2 c_s3 c_s4 c_s5 c_s6
            have c_s0 : w21.cell? ⟨q, 0, none⟩ = some (.bool true) := HX_s21.out.cell 0
            have c_s1 : w21.cell? ⟨q, 1, none⟩ = some (.int .u64 0) := HX_s21.out.cell 1
            have c_s2 : w21.cell? ⟨q, 2, none⟩ = some (.int .u64 0) := HX_s21.out.cell 2
            have c_s3 : w21.cell? ⟨q, 3, none⟩ = some (.int .u64 u) := HX_s21.out.cell 3
            have c_s4 : w21.cell? ⟨q, 4, none⟩ = some (.int .u64 rk) := HX_s21.out.cell 4
            have c_s5 : w21.cell? ⟨q, 5, none⟩ = some (.int .u64 c) := HX_s21.out.cell 5
            have c_s6 : w21.cell? ⟨q, 6, none⟩ = some (.int .i64 0) := HX_s21.out.cell 6
            go_wp2_with fail
            refine (HX9.out _).mono ?_
            rintro e w22 ⟨rfl, hb⟩
            have HX_s22 := Lib.hid (show Box w22 q 24 #[.bool true, .int .u64 0, .int .u64 0, .int .u64 u, .int .u64 rk, .int .u64 c, .int .i64 0] from HX_s21.out.of (hb.block _ HX_s21.out.lt))
            clear HX_s21
            have HB22 := Lib.hid (HB21.out.trans (hb.mono HB21.out.size))
            clear hb HB21
            clear c_s0 c_s1 c_s2 c_s3 c_s4 c_s5 c_s6
            have c_s0 : w22.cell? ⟨q, 0, none⟩ = some (.bool true) := HX_s22.out.cell 0
            have c_s1 : w22.cell? ⟨q, 1, none⟩ = some (.int .u64 0) := HX_s22.out.cell 1
            have c_s2 : w22.cell? ⟨q, 2, none⟩ = some (.int .u64 0) := HX_s22.out.cell 2
            have c_s3 : w22.cell? ⟨q, 3, none⟩ = some (.int .u64 u) := HX_s22.out.cell 3
            have c_s4 : w22.cell? ⟨q, 4, none⟩ = some (.int .u64 rk) := HX_s22.out.cell 4
            have c_s5 : w22.cell? ⟨q, 5, none⟩ = some (.int .u64 c) := HX_s22.out.cell 5
            have c_s6 : w22.cell? ⟨q, 6, none⟩ = some (.int .i64 0) := HX_s22.out.cell 6
            go_upto_region 21 with fail
            clear c_s0 c_s1 c_s2 c_s3 c_s4 c_s5 c_s6
            have c9 : w22.cell? ⟨q, 4, none⟩ = some (.int .u64 rk) := HX_s22.out.cell 4
            have f9 := HX_s22.out.frozen 4
            go_upto_region 22 with (fail)
            obtain ⟨w23, hw9⟩ : ∃ w9, w22.setCell ⟨q, 4, none⟩ (.int .u64 rk') = w9 := ⟨_, rfl⟩
            have HX_s23 := Lib.hid (show Box w23 q 24 #[.bool true, .int .u64 0, .int .u64 0, .int .u64 u, .int .u64 rk', .int .u64 c, .int .i64 0] by rw [← hw9]; exact HX_s22.out.put 4 _)
            have HB23 := Lib.hid (show Below w.heap.size w w23 by rw [← hw9]; exact HB22.out.setCell (p := ⟨q, 4, none⟩) (by show w.heap.size ≤ q; exact HS_s.out) _)
            simp only [hw9]
            clear c9 f9 hw9 HB22 HX_s22
            have c9 : w23.cell? ⟨q, 5, none⟩ = some (.int .u64 c) := HX_s23.out.cell 5
            have f9 := HX_s23.out.frozen 5
            go_upto_region 23 with (fail)
            obtain ⟨w24, hw9⟩ : ∃ w9, w23.setCell ⟨q, 5, none⟩ (.int .u64 i2) = w9 := ⟨_, rfl⟩
            have HX_s24 := Lib.hid (show Box w24 q 24 #[.bool true, .int .u64 0, .int .u64 0, .int .u64 u, .int .u64 rk', .int .u64 i2, .int .i64 0] by rw [← hw9]; exact HX_s23.out.put 5 _)
            have HB24 := Lib.hid (show Below w.heap.size w w24 by rw [← hw9]; exact HB23.out.setCell (p := ⟨q, 5, none⟩) (by show w.heap.size ≤ q; exact HS_s.out) _)
            simp only [hw9]
            clear c9 f9 hw9 HB23 HX_s23
            go_wp2_with fail
            go_roundw
            case rel => exact ⟨i + 1, nx, _, rk', i2, rfl, by go_num, rfl, by have := HIN.out; omega, HNL.out, HE.out, by rw [← HCI.out]; exact HN1.out, HX_s24.out, HB24.out⟩
            case measure => have := HIN.out; simp [intOf]; omega
        · obtain rfl : i = n := by omega
          have hlt : decide ((i : Int) < (i : Int)) = false := by simp
          go_wp2_with fail
          go_roundw
          case rel => exact ⟨2, rfl, by omega, by omega, HB20.out⟩
          case measure => simp [intOf]
    · have x0 := (fun W => slexpired_any ⟨true, 0, 0, u, 4294967296, 1, 0⟩ 0 W (okr u _ _ HUU.out ⟨by unfold U64; omega, by unfold U64; omega⟩))
      rw [show Sl.ex ⟨true, 0, 0, u, 4294967296, 1, 0⟩ 0 = exS true u ((0 : Nat) : Int) from rfl] at x0
      have X0 : Hid (∀ W, Calls Try.prog 20 #[.agg #[.bool true, .int .u64 0, .int .u64 0, .int .u64 u, .int .u64 4294967296, .int .u64 1, .int .i64 0], .int .u64 0] W fun e w' => e = .returned (.bool (exS true u ((0 : Nat) : Int))) ∧ Below W.heap.size W w') := Lib.hid x0
      clear x0
      go_upto_region 9 with (fail)
      obtain ⟨q, hq⟩ : ∃ q9, w5.heap.size = q9 := ⟨_, rfl⟩
      obtain ⟨w6, hw9⟩ : ∃ w9, w5.alloc (.cells #[.bool true, .int .u64 0, .int .u64 0, .int .u64 u, .int .u64 0, .int .u64 0, .int .i64 0] 24) = w9 := ⟨_, rfl⟩
      have HX_s6 := Lib.hid (show Box w6 q 24 #[.bool true, .int .u64 0, .int .u64 0, .int .u64 u, .int .u64 0, .int .u64 0, .int .i64 0] by rw [← hw9, ← hq]; exact Box.new w5 _ _)
      have HB6 := Lib.hid (show Below w.heap.size w w6 by rw [← hw9]; exact HB5.out.alloc HB5.out.size _)
      have HS_s := Lib.hid (show w.heap.size ≤ q by rw [← hq]; exact HB5.out.size)
      simp only [hw9, hq]
      clear hq hw9 HB5 
      go_wp2_with fail
      refine (en2 _).mono ?_
      rintro e w7 ⟨rfl, hb⟩
      have HX_s7 := Lib.hid (show Box w7 q 24 #[.bool true, .int .u64 0, .int .u64 0, .int .u64 u, .int .u64 0, .int .u64 0, .int .i64 0] from HX_s6.out.of (hb.block _ HX_s6.out.lt))
      clear HX_s6
      have HB7 := Lib.hid (HB6.out.trans (hb.mono HB6.out.size))
      clear hb HB6
      have c9 : w7.cell? ⟨q, 4, none⟩ = some (.int .u64 0) := HX_s7.out.cell 4
      have f9 := HX_s7.out.frozen 4
      go_upto_region 11 with (fail)
      obtain ⟨w8, hw9⟩ : ∃ w9, w7.setCell ⟨q, 4, none⟩ (.int .u64 4294967296) = w9 := ⟨_, rfl⟩
      have HX_s8 := Lib.hid (show Box w8 q 24 #[.bool true, .int .u64 0, .int .u64 0, .int .u64 u, .int .u64 4294967296, .int .u64 0, .int .i64 0] by rw [← hw9]; exact HX_s7.out.put 4 _)
      have HB8 := Lib.hid (show Below w.heap.size w w8 by rw [← hw9]; exact HB7.out.setCell (p := ⟨q, 4, none⟩) (by show w.heap.size ≤ q; exact HS_s.out) _)
      simp only [hw9]
      clear c9 f9 hw9 HB7 HX_s7
      have c9 : w8.cell? ⟨q, 5, none⟩ = some (.int .u64 0) := HX_s8.out.cell 5
      have f9 := HX_s8.out.frozen 5
      go_upto_region 12 with (fail)
      obtain ⟨w9, hw9⟩ : ∃ w9, w8.setCell ⟨q, 5, none⟩ (.int .u64 1) = w9 := ⟨_, rfl⟩
      have HX_s9 := Lib.hid (show Box w9 q 24 #[.bool true, .int .u64 0, .int .u64 0, .int .u64 u, .int .u64 4294967296, .int .u64 1, .int .i64 0] by rw [← hw9]; exact HX_s8.out.put 5 _)
      have HB9 := Lib.hid (show Below w.heap.size w w9 by rw [← hw9]; exact HB8.out.setCell (p := ⟨q, 5, none⟩) (by show w.heap.size ≤ q; exact HS_s.out) _)
      simp only [hw9]
      clear c9 f9 hw9 HB8 HX_s8
      have c_s0 : w9.cell? ⟨q, 0, none⟩ = some (.bool true) := HX_s9.out.cell 0
      have c_s1 : w9.cell? ⟨q, 1, none⟩ = some (.int .u64 0) := HX_s9.out.cell 1
      have c_s2 : w9.cell? ⟨q, 2, none⟩ = some (.int .u64 0) := HX_s9.out.cell 2
      have c_s3 : w9.cell? ⟨q, 3, none⟩ = some (.int .u64 u) := HX_s9.out.cell 3
      have c_s4 : w9.cell? ⟨q, 4, none⟩ = some (.int .u64 4294967296) := HX_s9.out.cell 4
      have c_s5 : w9.cell? ⟨q, 5, none⟩ = some (.int .u64 1) := HX_s9.out.cell 5
      have c_s6 : w9.cell? ⟨q, 6, none⟩ = some (.int .i64 0) := HX_s9.out.cell 6
      go_wp2_with fail
      refine (X0.out _).mono ?_
      rintro e w10 ⟨rfl, hb⟩
      have HX_s10 := Lib.hid (show Box w10 q 24 #[.bool true, .int .u64 0, .int .u64 0, .int .u64 u, .int .u64 4294967296, .int .u64 1, .int .i64 0] from HX_s9.out.of (hb.block _ HX_s9.out.lt))
      clear HX_s9
      have HB10 := Lib.hid (HB9.out.trans (hb.mono HB9.out.size))
      clear hb HB9
      clear c_s0 c_s1 c_s2 c_s3 c_s4 c_s5 c_s6
      go_wp2_with fail
      go_loopw [7, 11, 12] (fun v7 v11 v12 wr => ∃ (i nw : Nat) (o : Bool) (rk c : Int), v7 = .int .u64 (nw : Int) ∧ v12 = .int .i64 (i : Int) ∧ v11 = .bool o ∧ i ≤ n ∧ nw ≤ 1000000 * i ∧ o = exS true u (nw : Int) ∧ Rk2 i nw rk c ∧ Box wr q 24 #[.bool true, .int .u64 0, .int .u64 0, .int .u64 u, .int .u64 rk, .int .u64 c, .int .i64 0] ∧ Below w.heap.size w wr) (fun _ _ v _ => n - (intOf v).toNat)
      case atStart => exact ⟨0, 0, _, 4294967296, 1, rfl, rfl, rfl, by omega, by omega, rfl, ⟨rfl, rfl⟩, HX_s10.out, HB10.out⟩
      case round =>
        obtain ⟨i, nw, o, rk, c, rfl, rfl, rfl, hi, hnw, ho, hrk, hX, hB⟩ := hrel
        obtain ⟨w20, h9⟩ : ∃ x, x = wr := ⟨_, rfl⟩
        subst h9
        have HX_s20 := Lib.hid hX
        have HB20 := Lib.hid hB
        have HO := Lib.hid ho
        have HR := Lib.hid hrk
        clear hX hB ho hrk HX_s10 HB10
        by_cases hin : i < n
        · obtain ⟨b, off, rfl, hb, hc⟩ := (HZ.out.below HB20.out).at hin
          obtain ⟨m, hm⟩ : ∃ m : Nat, z i = (m : Int) := ⟨(z i).toNat, by have := (HU.out i hin).1; omega⟩
          rw [hm] at hc
          clear hm hb
          obtain ⟨md, hmd⟩ : ∃ md, m % 1000000 = md := ⟨_, rfl⟩
          have hml : md < 1000000 := by omega
          have e1 : (m : Int) % 1000000 = (md : Int) := by omega
          have e2 : Int.tmod (m : Int) 1000000 = (md : Int) := by rw [Int.tmod_eq_emod_of_nonneg (by omega)]; exact e1
          obtain ⟨nx, hnx⟩ : ∃ nx, nw + 1 + md = nx := ⟨_, rfl⟩
          have e3 : IntKind.u64.wrap ((nw : Int) + 1) = (nw : Int) + 1 := by rw [IntKind.wrap_u64]; omega
          have e4 : IntKind.u64.wrap ((nw : Int) + 1 + (md : Int)) = (nx : Int) := by rw [IntKind.wrap_u64]; omega
          have hnl : nx ≤ 1000000 * (i + 1) := by omega
          have hnl2 : nx ≤ 200000000 := by omega
          have hge : nw ≤ nx := by omega
          obtain ⟨rk', hn1, hn2, hn3, hn4, hn5⟩ := HR.out.next (m := nx) (by omega) (by omega) hnl2
          have HU2 := Lib.hid (fun W => sluse_any 2 ⟨true, 0, 0, u, rk, c, 0⟩ (nx : Int) W (by unfold I64; omega) (by unfold U64; omega))
          rw [show Sl.r ⟨true, 0, 0, u, rk, c, 0⟩ = rk from rfl, show Sl.n ⟨true, 0, 0, u, rk, c, 0⟩ = c from rfl, hn3, hn4] at HU2
          have HX9 := Lib.hid (fun W => slexpired_any ⟨true, 0, 0, u, rk, c, 0⟩ (nx : Int) W (okr u rk c HUU.out (HR.out.rng hi100 (by omega) hi) ))
          rw [show Sl.ex ⟨true, 0, 0, u, rk, c, 0⟩ (nx : Int) = exS true u nx from rfl] at HX9
          have HN1 := Lib.hid hn1
          have HNL := Lib.hid hnl
          have HIN := Lib.hid hin
          have ec : IntKind.u64.wrap (c + 1) = (i : Int) + 2 := hn2
          clear hmd hnx hn1 hn2 hn3 hn4 hnl hnl2 hml HR
          have hlt : decide ((i : Int) < (n : Int)) = true := by simp; exact hin
          have hlt2 : decide (i < n) = true := decide_eq_true hin
          clear hin
          obtain ⟨i2, hi2⟩ : ∃ i2, (i : Int) + 2 = i2 := ⟨_, rfl⟩
          rw [hi2] at ec HU2
          have hlate : (u = 0 ∧ o = false ∧ exS true u nx = false) ∨ (decide (0 < u) = true ∧ (o = false ∨ o = true ∧ exS true u nx = true) ∧ exS true u nx = decide (u ≤ (nx : Int))) := late_of HUU.out HO.out (by omega)
          have HU2 : Hid (∀ W, Calls Try.prog 13 #[.int .i64 2, .agg #[.bool true, .int .u64 0, .int .u64 0, .int .u64 u, .int .u64 rk, .int .u64 c, .int .i64 0], .int .u64 (nx : Int)] W fun e w' => e = .returned (.tuple #[.int .u64 rk', .int .u64 i2]) ∧ Below W.heap.size W w') := HU2
          have HX9 : Hid (∀ W, Calls Try.prog 20 #[.agg #[.bool true, .int .u64 0, .int .u64 0, .int .u64 u, .int .u64 rk, .int .u64 c, .int .i64 0], .int .u64 (nx : Int)] W fun e w' => e = .returned (.bool (exS true u (nx : Int))) ∧ Below W.heap.size W w') := HX9
          have HCI := Lib.hid hi2
          clear hi2 hge HO
          rcases hlate with ⟨hu, rfl, hx⟩ | ⟨hu, ⟨rfl⟩ | ⟨rfl, hy⟩, hx⟩
          · have hu0 : decide (0 < u) = false := by rw [hu]; rfl
            have HE := Lib.hid hx.symm
            clear hu
            rw [hx] at HX9
            clear hx
            have c_s0 : w20.cell? ⟨q, 0, none⟩ = some (.bool true) := HX_s20.out.cell 0
            have c_s1 : w20.cell? ⟨q, 1, none⟩ = some (.int .u64 0) := HX_s20.out.cell 1
            have c_s2 : w20.cell? ⟨q, 2, none⟩ = some (.int .u64 0) := HX_s20.out.cell 2
            have c_s3 : w20.cell? ⟨q, 3, none⟩ = some (.int .u64 u) := HX_s20.out.cell 3
            have c_s4 : w20.cell? ⟨q, 4, none⟩ = some (.int .u64 rk) := HX_s20.out.cell 4
            have c_s5 : w20.cell? ⟨q, 5, none⟩ = some (.int .u64 c) := HX_s20.out.cell 5
            have c_s6 : w20.cell? ⟨q, 6, none⟩ = some (.int .i64 0) := HX_s20.out.cell 6
            go_wp2_with fail
            refine (HU2.out _).mono ?_
            rintro e w21 ⟨rfl, hb⟩
            have HX_s21 := Lib.hid (show Box w21 q 24 #[.bool true, .int .u64 0, .int .u64 0, .int .u64 u, .int .u64 rk, .int .u64 c, .int .i64 0] from HX_s20.out.of (hb.block _ HX_s20.out.lt))
            clear HX_s20
            have HB21 := Lib.hid (HB20.out.trans (hb.mono HB20.out.size))
            clear hb HB20
            clear c_s0 c_s1 c_s2 c_s3 c_s4 c_s5 c_s6
            have c_s0 : w21.cell? ⟨q, 0, none⟩ = some (.bool true) := HX_s21.out.cell 0
            have c_s1 : w21.cell? ⟨q, 1, none⟩ = some (.int .u64 0) := HX_s21.out.cell 1
            have c_s2 : w21.cell? ⟨q, 2, none⟩ = some (.int .u64 0) := HX_s21.out.cell 2
            have c_s3 : w21.cell? ⟨q, 3, none⟩ = some (.int .u64 u) := HX_s21.out.cell 3
            have c_s4 : w21.cell? ⟨q, 4, none⟩ = some (.int .u64 rk) := HX_s21.out.cell 4
            have c_s5 : w21.cell? ⟨q, 5, none⟩ = some (.int .u64 c) := HX_s21.out.cell 5
            have c_s6 : w21.cell? ⟨q, 6, none⟩ = some (.int .i64 0) := HX_s21.out.cell 6
            go_wp2_with fail
            refine (HX9.out _).mono ?_
            rintro e w22 ⟨rfl, hb⟩
            have HX_s22 := Lib.hid (show Box w22 q 24 #[.bool true, .int .u64 0, .int .u64 0, .int .u64 u, .int .u64 rk, .int .u64 c, .int .i64 0] from HX_s21.out.of (hb.block _ HX_s21.out.lt))
            clear HX_s21
            have HB22 := Lib.hid (HB21.out.trans (hb.mono HB21.out.size))
            clear hb HB21
            clear c_s0 c_s1 c_s2 c_s3 c_s4 c_s5 c_s6
            have c_s0 : w22.cell? ⟨q, 0, none⟩ = some (.bool true) := HX_s22.out.cell 0
            have c_s1 : w22.cell? ⟨q, 1, none⟩ = some (.int .u64 0) := HX_s22.out.cell 1
            have c_s2 : w22.cell? ⟨q, 2, none⟩ = some (.int .u64 0) := HX_s22.out.cell 2
            have c_s3 : w22.cell? ⟨q, 3, none⟩ = some (.int .u64 u) := HX_s22.out.cell 3
            have c_s4 : w22.cell? ⟨q, 4, none⟩ = some (.int .u64 rk) := HX_s22.out.cell 4
            have c_s5 : w22.cell? ⟨q, 5, none⟩ = some (.int .u64 c) := HX_s22.out.cell 5
            have c_s6 : w22.cell? ⟨q, 6, none⟩ = some (.int .i64 0) := HX_s22.out.cell 6
            go_upto_region 21 with fail
            clear c_s0 c_s1 c_s2 c_s3 c_s4 c_s5 c_s6
            have c9 : w22.cell? ⟨q, 4, none⟩ = some (.int .u64 rk) := HX_s22.out.cell 4
            have f9 := HX_s22.out.frozen 4
            go_upto_region 22 with (fail)
            obtain ⟨w23, hw9⟩ : ∃ w9, w22.setCell ⟨q, 4, none⟩ (.int .u64 rk') = w9 := ⟨_, rfl⟩
            have HX_s23 := Lib.hid (show Box w23 q 24 #[.bool true, .int .u64 0, .int .u64 0, .int .u64 u, .int .u64 rk', .int .u64 c, .int .i64 0] by rw [← hw9]; exact HX_s22.out.put 4 _)
            have HB23 := Lib.hid (show Below w.heap.size w w23 by rw [← hw9]; exact HB22.out.setCell (p := ⟨q, 4, none⟩) (by show w.heap.size ≤ q; exact HS_s.out) _)
            simp only [hw9]
            clear c9 f9 hw9 HB22 HX_s22
            have c9 : w23.cell? ⟨q, 5, none⟩ = some (.int .u64 c) := HX_s23.out.cell 5
            have f9 := HX_s23.out.frozen 5
            go_upto_region 23 with (fail)
            obtain ⟨w24, hw9⟩ : ∃ w9, w23.setCell ⟨q, 5, none⟩ (.int .u64 i2) = w9 := ⟨_, rfl⟩
            have HX_s24 := Lib.hid (show Box w24 q 24 #[.bool true, .int .u64 0, .int .u64 0, .int .u64 u, .int .u64 rk', .int .u64 i2, .int .i64 0] by rw [← hw9]; exact HX_s23.out.put 5 _)
            have HB24 := Lib.hid (show Below w.heap.size w w24 by rw [← hw9]; exact HB23.out.setCell (p := ⟨q, 5, none⟩) (by show w.heap.size ≤ q; exact HS_s.out) _)
            simp only [hw9]
            clear c9 f9 hw9 HB23 HX_s23
            go_wp2_with fail
            go_roundw
            case rel => exact ⟨i + 1, nx, _, rk', i2, rfl, by go_num, rfl, by have := HIN.out; omega, HNL.out, HE.out, by rw [← HCI.out]; exact HN1.out, HX_s24.out, HB24.out⟩
            case measure => have := HIN.out; simp [intOf]; omega
          · have HE := Lib.hid hx.symm
            rw [hx] at HX9
            clear hx
            have c_s0 : w20.cell? ⟨q, 0, none⟩ = some (.bool true) := HX_s20.out.cell 0
            have c_s1 : w20.cell? ⟨q, 1, none⟩ = some (.int .u64 0) := HX_s20.out.cell 1
            have c_s2 : w20.cell? ⟨q, 2, none⟩ = some (.int .u64 0) := HX_s20.out.cell 2
            have c_s3 : w20.cell? ⟨q, 3, none⟩ = some (.int .u64 u) := HX_s20.out.cell 3
            have c_s4 : w20.cell? ⟨q, 4, none⟩ = some (.int .u64 rk) := HX_s20.out.cell 4
            have c_s5 : w20.cell? ⟨q, 5, none⟩ = some (.int .u64 c) := HX_s20.out.cell 5
            have c_s6 : w20.cell? ⟨q, 6, none⟩ = some (.int .i64 0) := HX_s20.out.cell 6
            go_wp2_with fail
            refine (HU2.out _).mono ?_
            rintro e w21 ⟨rfl, hb⟩
            have HX_s21 := Lib.hid (show Box w21 q 24 #[.bool true, .int .u64 0, .int .u64 0, .int .u64 u, .int .u64 rk, .int .u64 c, .int .i64 0] from HX_s20.out.of (hb.block _ HX_s20.out.lt))
            clear HX_s20
            have HB21 := Lib.hid (HB20.out.trans (hb.mono HB20.out.size))
            clear hb HB20
            clear c_s0 c_s1 c_s2 c_s3 c_s4 c_s5 c_s6
            have c_s0 : w21.cell? ⟨q, 0, none⟩ = some (.bool true) := HX_s21.out.cell 0
            have c_s1 : w21.cell? ⟨q, 1, none⟩ = some (.int .u64 0) := HX_s21.out.cell 1
            have c_s2 : w21.cell? ⟨q, 2, none⟩ = some (.int .u64 0) := HX_s21.out.cell 2
            have c_s3 : w21.cell? ⟨q, 3, none⟩ = some (.int .u64 u) := HX_s21.out.cell 3
            have c_s4 : w21.cell? ⟨q, 4, none⟩ = some (.int .u64 rk) := HX_s21.out.cell 4
            have c_s5 : w21.cell? ⟨q, 5, none⟩ = some (.int .u64 c) := HX_s21.out.cell 5
            have c_s6 : w21.cell? ⟨q, 6, none⟩ = some (.int .i64 0) := HX_s21.out.cell 6
            go_wp2_with fail
            refine (HX9.out _).mono ?_
            rintro e w22 ⟨rfl, hb⟩
            have HX_s22 := Lib.hid (show Box w22 q 24 #[.bool true, .int .u64 0, .int .u64 0, .int .u64 u, .int .u64 rk, .int .u64 c, .int .i64 0] from HX_s21.out.of (hb.block _ HX_s21.out.lt))
            clear HX_s21
            have HB22 := Lib.hid (HB21.out.trans (hb.mono HB21.out.size))
            clear hb HB21
            clear c_s0 c_s1 c_s2 c_s3 c_s4 c_s5 c_s6
            have c_s0 : w22.cell? ⟨q, 0, none⟩ = some (.bool true) := HX_s22.out.cell 0
            have c_s1 : w22.cell? ⟨q, 1, none⟩ = some (.int .u64 0) := HX_s22.out.cell 1
            have c_s2 : w22.cell? ⟨q, 2, none⟩ = some (.int .u64 0) := HX_s22.out.cell 2
            have c_s3 : w22.cell? ⟨q, 3, none⟩ = some (.int .u64 u) := HX_s22.out.cell 3
            have c_s4 : w22.cell? ⟨q, 4, none⟩ = some (.int .u64 rk) := HX_s22.out.cell 4
            have c_s5 : w22.cell? ⟨q, 5, none⟩ = some (.int .u64 c) := HX_s22.out.cell 5
            have c_s6 : w22.cell? ⟨q, 6, none⟩ = some (.int .i64 0) := HX_s22.out.cell 6
            go_upto_region 21 with fail
            clear c_s0 c_s1 c_s2 c_s3 c_s4 c_s5 c_s6
            have c9 : w22.cell? ⟨q, 4, none⟩ = some (.int .u64 rk) := HX_s22.out.cell 4
            have f9 := HX_s22.out.frozen 4
            go_upto_region 22 with (fail)
            obtain ⟨w23, hw9⟩ : ∃ w9, w22.setCell ⟨q, 4, none⟩ (.int .u64 rk') = w9 := ⟨_, rfl⟩
            have HX_s23 := Lib.hid (show Box w23 q 24 #[.bool true, .int .u64 0, .int .u64 0, .int .u64 u, .int .u64 rk', .int .u64 c, .int .i64 0] by rw [← hw9]; exact HX_s22.out.put 4 _)
            have HB23 := Lib.hid (show Below w.heap.size w w23 by rw [← hw9]; exact HB22.out.setCell (p := ⟨q, 4, none⟩) (by show w.heap.size ≤ q; exact HS_s.out) _)
            simp only [hw9]
            clear c9 f9 hw9 HB22 HX_s22
            have c9 : w23.cell? ⟨q, 5, none⟩ = some (.int .u64 c) := HX_s23.out.cell 5
            have f9 := HX_s23.out.frozen 5
            go_upto_region 23 with (fail)
            obtain ⟨w24, hw9⟩ : ∃ w9, w23.setCell ⟨q, 5, none⟩ (.int .u64 i2) = w9 := ⟨_, rfl⟩
            have HX_s24 := Lib.hid (show Box w24 q 24 #[.bool true, .int .u64 0, .int .u64 0, .int .u64 u, .int .u64 rk', .int .u64 i2, .int .i64 0] by rw [← hw9]; exact HX_s23.out.put 5 _)
            have HB24 := Lib.hid (show Below w.heap.size w w24 by rw [← hw9]; exact HB23.out.setCell (p := ⟨q, 5, none⟩) (by show w.heap.size ≤ q; exact HS_s.out) _)
            simp only [hw9]
            clear c9 f9 hw9 HB23 HX_s23
            go_wp2_with fail
            go_roundw
            case rel => exact ⟨i + 1, nx, _, rk', i2, rfl, by go_num, rfl, by have := HIN.out; omega, HNL.out, HE.out, by rw [← HCI.out]; exact HN1.out, HX_s24.out, HB24.out⟩
            case measure => have := HIN.out; simp [intOf]; omega
          · rw [hy] at hx
            have hd : decide (u ≤ (nx : Int)) = true := hx.symm
            have HE := Lib.hid hy.symm
            rw [hy] at HX9
            clear hx hy
            have c_s0 : w20.cell? ⟨q, 0, none⟩ = some (.bool true) := HX_s20.out.cell 0
            have c_s1 : w20.cell? ⟨q, 1, none⟩ = some (.int .u64 0) := HX_s20.out.cell 1
            have c_s2 : w20.cell? ⟨q, 2, none⟩ = some (.int .u64 0) := HX_s20.out.cell 2
            have c_s3 : w20.cell? ⟨q, 3, none⟩ = some (.int .u64 u) := HX_s20.out.cell 3
            have c_s4 : w20.cell? ⟨q, 4, none⟩ = some (.int .u64 rk) := HX_s20.out.cell 4
            have c_s5 : w20.cell? ⟨q, 5, none⟩ = some (.int .u64 c) := HX_s20.out.cell 5
            have c_s6 : w20.cell? ⟨q, 6, none⟩ = some (.int .i64 0) := HX_s20.out.cell 6
            go_wp2_with fail
            refine (HU2.out _).mono ?_
            rintro e w21 ⟨rfl, hb⟩
            have HX_s21 := Lib.hid (show Box w21 q 24 #[.bool true, .int .u64 0, .int .u64 0, .int .u64 u, .int .u64 rk, .int .u64 c, .int .i64 0] from HX_s20.out.of (hb.block _ HX_s20.out.lt))
            clear HX_s20
            have HB21 := Lib.hid (HB20.out.trans (hb.mono HB20.out.size))
            clear hb HB20
            clear c_s0 c_s1 c_s2 c_s3 c_s4 c_s5 c_s6
            have c_s0 : w21.cell? ⟨q, 0, none⟩ = some (.bool true) := HX_s21.out.cell 0
            have c_s1 : w21.cell? ⟨q, 1, none⟩ = some (.int .u64 0) := HX_s21.out.cell 1
            have c_s2 : w21.cell? ⟨q, 2, none⟩ = some (.int .u64 0) := HX_s21.out.cell 2
            have c_s3 : w21.cell? ⟨q, 3, none⟩ = some (.int .u64 u) := HX_s21.out.cell 3
            have c_s4 : w21.cell? ⟨q, 4, none⟩ = some (.int .u64 rk) := HX_s21.out.cell 4
            have c_s5 : w21.cell? ⟨q, 5, none⟩ = some (.int .u64 c) := HX_s21.out.cell 5
            have c_s6 : w21.cell? ⟨q, 6, none⟩ = some (.int .i64 0) := HX_s21.out.cell 6
            go_wp2_with fail
            refine (HX9.out _).mono ?_
            rintro e w22 ⟨rfl, hb⟩
            have HX_s22 := Lib.hid (show Box w22 q 24 #[.bool true, .int .u64 0, .int .u64 0, .int .u64 u, .int .u64 rk, .int .u64 c, .int .i64 0] from HX_s21.out.of (hb.block _ HX_s21.out.lt))
            clear HX_s21
            have HB22 := Lib.hid (HB21.out.trans (hb.mono HB21.out.size))
            clear hb HB21
            clear c_s0 c_s1 c_s2 c_s3 c_s4 c_s5 c_s6
            have c_s0 : w22.cell? ⟨q, 0, none⟩ = some (.bool true) := HX_s22.out.cell 0
            have c_s1 : w22.cell? ⟨q, 1, none⟩ = some (.int .u64 0) := HX_s22.out.cell 1
            have c_s2 : w22.cell? ⟨q, 2, none⟩ = some (.int .u64 0) := HX_s22.out.cell 2
            have c_s3 : w22.cell? ⟨q, 3, none⟩ = some (.int .u64 u) := HX_s22.out.cell 3
            have c_s4 : w22.cell? ⟨q, 4, none⟩ = some (.int .u64 rk) := HX_s22.out.cell 4
            have c_s5 : w22.cell? ⟨q, 5, none⟩ = some (.int .u64 c) := HX_s22.out.cell 5
            have c_s6 : w22.cell? ⟨q, 6, none⟩ = some (.int .i64 0) := HX_s22.out.cell 6
            go_upto_region 21 with fail
            clear c_s0 c_s1 c_s2 c_s3 c_s4 c_s5 c_s6
            have c9 : w22.cell? ⟨q, 4, none⟩ = some (.int .u64 rk) := HX_s22.out.cell 4
            have f9 := HX_s22.out.frozen 4
            go_upto_region 22 with (fail)
            obtain ⟨w23, hw9⟩ : ∃ w9, w22.setCell ⟨q, 4, none⟩ (.int .u64 rk') = w9 := ⟨_, rfl⟩
            have HX_s23 := Lib.hid (show Box w23 q 24 #[.bool true, .int .u64 0, .int .u64 0, .int .u64 u, .int .u64 rk', .int .u64 c, .int .i64 0] by rw [← hw9]; exact HX_s22.out.put 4 _)
            have HB23 := Lib.hid (show Below w.heap.size w w23 by rw [← hw9]; exact HB22.out.setCell (p := ⟨q, 4, none⟩) (by show w.heap.size ≤ q; exact HS_s.out) _)
            simp only [hw9]
            clear c9 f9 hw9 HB22 HX_s22
            have c9 : w23.cell? ⟨q, 5, none⟩ = some (.int .u64 c) := HX_s23.out.cell 5
            have f9 := HX_s23.out.frozen 5
            go_upto_region 23 with (fail)
            obtain ⟨w24, hw9⟩ : ∃ w9, w23.setCell ⟨q, 5, none⟩ (.int .u64 i2) = w9 := ⟨_, rfl⟩
            have HX_s24 := Lib.hid (show Box w24 q 24 #[.bool true, .int .u64 0, .int .u64 0, .int .u64 u, .int .u64 rk', .int .u64 i2, .int .i64 0] by rw [← hw9]; exact HX_s23.out.put 5 _)
            have HB24 := Lib.hid (show Below w.heap.size w w24 by rw [← hw9]; exact HB23.out.setCell (p := ⟨q, 5, none⟩) (by show w.heap.size ≤ q; exact HS_s.out) _)
            simp only [hw9]
            clear c9 f9 hw9 HB23 HX_s23
            go_wp2_with fail
            go_roundw
            case rel => exact ⟨i + 1, nx, _, rk', i2, rfl, by go_num, rfl, by have := HIN.out; omega, HNL.out, HE.out, by rw [← HCI.out]; exact HN1.out, HX_s24.out, HB24.out⟩
            case measure => have := HIN.out; simp [intOf]; omega
        · obtain rfl : i = n := by omega
          have hlt : decide ((i : Int) < (i : Int)) = false := by simp
          go_wp2_with fail
          go_roundw
          case rel => exact ⟨3, rfl, by omega, by omega, HB20.out⟩
          case measure => simp [intOf]
    · go_wp2_with fail
      go_ret
      exact ⟨rfl, HB5.out⟩
theorem rises_law (a : Option Addr) (n cap : Nat) (z : Nat → Int) (u : Int) (w : World) (hz : Nums .u64 w w.heap.size a n z) (hu : ∀ j, j < n → (Lit.int .u64 (z j)).wf = true) (huu : U64 u) :
    Calls Try.prog 5 #[.slice a n cap, .int .u64 u] w fun e w' => e = .returned (.bool true) ∧ Below w.heap.size w w' := by
  by_cases h : n ≤ 100
  · exact rises_short a n cap z u w h hz (fun j hj => u64_rng (hu j hj)) huu
  · exact rises_long a n cap u w (by omega)
end Go.Proofs.Ytjamfcjglodfeaa
