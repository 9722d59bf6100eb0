/- A row of bytes of the call's own that grows, told whole; op.appendText: a word's text behind a row. Conditions: the word is of 64 bits, and a text's; the row has no more than 100 bytes. -/
import Derived.Test.YtpnjeoilkaimmaaOpMath
import Derived.Test.YtpnjeoilkaimmaaPackWords
import Derived.Test.YtpnjeoilkaimmaaAppend
import Derived.Lib.AppendStr
import Derived.Deep.Cut
namespace Go.Proofs.Ytpnjeoilkaimmaa
open Go.RowKit Go.ChangeShapes Go.WideShapes Go.ChangeAt

/-- Bytes as cells. -/
def brow (l : List UInt8) : List Value := l.map (fun b => .int .u8 (b.toNat : Int))
theorem brow_len (l : List UInt8) : (brow l).length = l.length := by simp [brow]
theorem brow_append (l m : List UInt8) : brow (l ++ m) = brow l ++ brow m := by simp [brow]
theorem brow_one (l : List UInt8) : ∀ u ∈ brow l, u.oneCell' = true := by
  intro u hu
  obtain ⟨e, _, rfl⟩ := List.mem_map.1 hu
  rfl
theorem brow_at (l : List UInt8) (i : Nat) (h : i < l.length) : (brow l)[i]? = some (.int .u8 (l[i].toNat : Int)) := by simp [brow, h]
theorem brow_new (W : World) (t : TypeId) (l : List UInt8) {b : Nat} (hb : b = W.heap.size) : ∀ j u, (brow l)[j]? = some u → (W.alloc (.cells (brow l).toArray t)).cell? ((⟨b, 0, none⟩ : Addr).add j) = some u := by
  subst hb
  intro j u h
  have hb := Box.new W t (brow l).toArray
  have := hb.cell j
  rw [add_plain, Nat.zero_add, this, List.getElem?_toArray]
  exact h
theorem infoU8 : (Try.prog.info? 5).map (fun i => (i.zero, i.size, i.bytes)) = some (some (.int .u8 0), 1, 1) := by kernel_rfl
/-- The bytes so far lie in a row that is new since block B. -/
structure BrAt (B : Nat) (w1 : World) (v : Value) (l : List UInt8) (wr : World) : Prop where
  own : wr.ownsRow B 5 1 v l.length (brow l)
  below : Below B w1 wr
theorem BrAt.stay {B : Nat} {w1 wr wx : World} {v : Value} {l : List UInt8} (h : BrAt B w1 v l wr) (hx : Below wr.heap.size wr wx) (hB : B ≤ wr.heap.size) : BrAt B w1 v l wx := by
  refine ⟨⟨h.own.1, ?_⟩, h.below.trans (hx.mono hB)⟩
  rcases h.own.2 with h0 | ⟨g, cap, cur, h1, h2, h3, h4⟩
  · exact .inl h0
  · exact .inr ⟨g, cap, cur, h1, h2, (hx.block g (Array.getElem?_eq_some_iff.1 h3).1).trans h3, h4⟩
theorem BrAt.grow {B : Nat} {w1 wr w7 : World} {v v' : Value} {l m : List UInt8} (h : BrAt B w1 v l wr) (hB : B ≤ wr.heap.size)
    (ho : w7.ownsRow B 5 1 v' (l.length + m.length) (brow l ++ brow m)) (hg : wr.grownBy w7 v.ownBlock) : BrAt B w1 v' (l ++ m) w7 := by
  constructor
  · rw [List.length_append, brow_append]
    exact ho
  · refine h.below.grown hg hB (fun b e => ?_)
    rcases h.own.2 with ⟨rfl, _⟩ | ⟨g, cap, cur, rfl, hb, _⟩
    · simp [Value.ownBlock] at e
    · obtain rfl : g = b := by simpa [Value.ownBlock] using e
      exact hb
theorem BrAt.made {B : Nat} {w1 wr : World} (hb : Below B w1 wr) (hB : B ≤ wr.heap.size) (l : List UInt8) (hl : l.length ≤ 1000) : BrAt B w1 (.slice (some ⟨wr.heap.size, 0, none⟩) l.length l.length) l (wr.alloc (.cells (brow l).toArray 5)) := by
  refine ⟨⟨by rw [brow_len, Nat.mul_one], .inr ⟨wr.heap.size, l.length, _, rfl, hB, heap_alloc_new wr _, Nat.le_refl _, by unfold maxLen; omega, by simp [brow_len], ?_⟩⟩, hb.alloc hB _⟩
  rw [Nat.mul_one, ← brow_len l]
  simp
/-- Bytes as a text. -/
theorem brow_nums (l : List UInt8) : strOfNums (l.map fun b => (b.toNat : Int)) = BA l := by
  unfold strOfNums BA
  rw [List.map_map]
  congr 2
  refine (List.map_congr_left (fun b _ => ?_)).trans (List.map_id l)
  show UInt8.ofNat (b.toNat : Int).toNat = id b
  simp
theorem BrAt.text {B : Nat} {w1 wr : World} {v : Value} {l : List UInt8} (h : BrAt B w1 v l wr) (hl : 0 < l.length) : ∃ g cap, v = .slice (some ⟨g, 0, none⟩) l.length cap ∧
    (convert 38 9 (.slice (some ⟨g, 0, none⟩) l.length cap)).run Try.prog wr = .ok (.string (BA l)) wr := by
  rcases h.own.2 with ⟨_, h0⟩ | ⟨g, cap, cur, rfl, hb, hg, hn, _⟩
  · omega
  · refine ⟨g, cap, rfl, ?_⟩
    have := run_convert_bytes_arg (P := Try.prog) wr 38 5 Try.underlying38 Try.underlying5 g 0 l.length cap (l.map fun b => (b.toNat : Int)) (by simp)
      (fun i hi => ?_) 9 Try.underlying9
    · rwa [brow_nums] at this
    · have := h.own.cells (g := g) rfl i _ (brow_at l i hi)
      rw [add_plain, Nat.zero_add] at this
      rw [Nat.zero_add, this]
      simp [List.getD_eq_getElem?_getD, hi]
theorem len_u8 (n : Nat) (h : mn n ≤ 7) : IntKind.u8.wrap ((tx n).size : Int) = ((UInt8.ofNat (mn n)).toNat : Int) := by
  rw [tx_size, u8_back _ (by omega), IntKind.wrap_u8]; omega
def AtPost (B : Nat) (w : World) (l : List UInt8) (e : Ending) (w' : World) : Prop := ∃ v, e = .returned v ∧ BrAt B w v l w'
set_option maxHeartbeats 1000000 in
theorem at_any (B : Nat) (v : Value) (l : List UInt8) (n : Nat) (w0 w : World) (h : BrAt B w0 v l w) (hB : B ≤ w.heap.size) (hl : l.length ≤ 100) (hn : n < 18446744073709551616) (hr : rt n = true) :
    Calls Try.prog 27 #[v, .int .u64 n] w (AtPost B w0 (l ++ cnt n)) := by
  have h7 := Lib.hid (rt_few hr)
  have HT := Lib.hid (fun w => text_yes n w hn hr)
  have HA := Lib.hid h
  have HB := Lib.hid hB
  have HL := Lib.hid hl
  clear h hr hn hB hl
  go_enter Try.func27, Try.ntmps27
  go_wp2_with fail
  refine (HT.out _).mono ?_
  rintro e w2 ⟨rfl, hb⟩
  have HA2 := Lib.hid (HA.out.stay hb HB.out)
  have HB2 := Lib.hid (Nat.le_trans HB.out hb.size)
  clear hb HA HB HT
  have hw := len_u8 n h7.out
  go_upto_region 3 with (with_reducible refine wpList_append_where _ rfl (.tmp 12) (.tmp 16) 38 rfl B 5 (.int .u8 0) 1 1 Try.underlying38 infoU8 rfl (by decide) v l.length (brow l) rfl (HA2.out.stay ((Below.refl _ _).alloc (Nat.le_refl _) _) HB2.out).own ⟨w2.heap.size, 0, none⟩ 1 1 (brow [UInt8.ofNat (mn n)]) rfl rfl ?c0 (brow_one _) ?c2 ?c3 ?c4 ?_)
  case c0 => exact brow_new _ _ _ rfl
  case c2 => have := HL.out; unfold maxLen; omega
  case c3 => have := HL.out; omega
  case c4 => have := HB2.out; simp; omega
  intro A cap w4 hown hg _
  have HA4 := Lib.hid ((HA2.out.stay (wx := w2.alloc (.cells (brow [UInt8.ofNat (mn n)]).toArray 5)) ((Below.refl _ _).alloc (Nat.le_refl _) _) HB2.out).grow (by have := HB2.out; simp; omega) hown hg)
  have HB4 := Lib.hid (show B ≤ w4.heap.size by have := HB2.out; have := hg.size; simp at this; omega)
  clear hown hg HA2 HB2 hw
  obtain ⟨i, hi, hzz⟩ := Option.map_eq_some_iff.1 infoU8
  simp only [Prod.mk.injEq] at hzz
  obtain ⟨hz, hsz, hby⟩ := hzz
  have HI := Lib.hid hi
  have HZ := Lib.hid hz
  have HS := Lib.hid hsz
  have HY := Lib.hid hby
  clear hi hz hsz hby
  have hts := Lib.hid (show (tx n).size ≤ 7 by rw [tx_size]; exact h7.out)
  go_wp2_with (with_reducible refine Lib.wpList_append_own_string _ rfl (.tmp 18) (.tmp 19) 38 9 rfl B 5 i Try.underlying38 Try.underlying9 HI.out HZ.out HS.out HY.out (.slice A (l.length + 1) cap) (l.length + 1) (brow (l ++ [UInt8.ofNat (mn n)])) rfl ?d0 (tx n) rfl ?d1 ?d2 HB4.out ?_)
  case d0 => have := HA4.out.own; rw [List.length_append] at this; exact this
  case d1 => have := HL.out; have := hts.out; unfold maxLen; omega
  case d2 => have := HL.out; have := hts.out; omega
  intro v' w5 hown hg _
  have HA5 := Lib.hid (show BrAt B w0 v' (l ++ cnt n) w5 by
    have e : l ++ cnt n = (l ++ [UInt8.ofNat (mn n)]) ++ Ls (tx n) := by simp [cnt]
    rw [e]
    exact HA4.out.grow HB4.out (by rw [List.length_append, Ls_len]; exact hown) hg)
  clear hown hg HA4
  go_wp2
  go_ret
  exact ⟨_, rfl, HA5.out⟩
end Go.Proofs.Ytpnjeoilkaimmaa
