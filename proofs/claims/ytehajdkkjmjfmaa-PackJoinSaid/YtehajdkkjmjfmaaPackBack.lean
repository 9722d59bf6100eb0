/- The walk of the law on ways back: a text's word is that text's, and a word's text is that word's. Conditions: the word is one of 64 bits; lengths are ints. -/
import Derived.Test.YtehajdkkjmjfmaaPackWords
namespace Go.Proofs.Ytehajdkkjmjfmaa
open Go.RowKit Go.ChangeShapes Go.WideShapes Go.ChangeAt

/-- What the walk is told of a short text: its word is a number x whose text it is. -/
structure Short (s : ByteArray) (x : Nat) : Prop where
  word : ∀ w, Calls Try.prog 8 #[.string s] w fun e w' => e = .returned (.tuple #[.int .u64 x, .int .i64 0]) ∧ Below w.heap.size w w'
  text : ∀ w, Calls Try.prog 10 #[.int .u64 x] w fun e w' => e = .returned (.tuple #[.string s, .int .i64 0]) ∧ Below w.heap.size w w'
  small : decide ((576460752303423488 : Int) ≤ (x : Int)) = false
theorem short_any (s : ByteArray) (h : s.size ≤ 7) : Short s (wd s) := by
  have hl := wd_lt s h
  refine ⟨fun w => word_short s w h, fun w => ?_, by simp; omega⟩
  have := text_yes (wd s) w (by omega) (rt_wd s h)
  rwa [tx_wd s h] at this
theorem two_short (s t : ByteArray) (hs : s.size ≤ 7) (ht : t.size ≤ 7) : ((wd s : Int) == (wd t : Int)) = (s.toList == t.toList) := by
  rw [Bool.eq_iff_iff, beq_iff_eq, beq_iff_eq]
  constructor
  · intro h; rw [(wd_inj s t hs ht).1 (by omega)]
  · intro h
    have : s = t := by
      apply ByteArray.ext
      apply Array.toList_inj.1
      rwa [Lib.toList_data, Lib.toList_data] at h
    rw [this]
theorem word_far (s : ByteArray) (w : World) (h : 7 < s.size) (hm : s.size ≤ 9223372036854775807) :
    Calls Try.prog 8 #[.string s] w fun e w' => e = .returned (.tuple #[.int .u64 0, .int .i64 4]) ∧ Below w.heap.size w w' :=
  (word_long s w h hm).mono fun _ _ ⟨he, hw⟩ => ⟨he, hw ▸ Below.refl _ _⟩
/-- What the walk is told of a word: it is none, or a text's. -/
theorem last_any (n : Nat) (hn : n < 18446744073709551616) : (rt n = false ∧ ∀ w, Calls Try.prog 10 #[.int .u64 n] w fun e w' => e = .returned (.tuple #[.string ByteArray.empty, .int .i64 3]) ∧ Below w.heap.size w w') ∨
    ∃ v, (∀ w, Calls Try.prog 10 #[.int .u64 n] w fun e w' => e = .returned (.tuple #[.string v, .int .i64 0]) ∧ Below w.heap.size w w') ∧ ∀ w, Calls Try.prog 8 #[.string v] w fun e w' => e = .returned (.tuple #[.int .u64 n, .int .i64 0]) ∧ Below w.heap.size w w' := by
  cases h : rt n
  · exact .inl ⟨rfl, fun w => text_not n w hn h⟩
  · refine .inr ⟨tx n, fun w => text_yes n w hn h, fun w => ?_⟩
    have := word_short (tx n) w (by rw [tx_size]; exact rt_few h)
    unfold WordPost at this
    rwa [wd_tx n h] at this

set_option maxHeartbeats 2000000 in
set_option maxRecDepth 100000 in
theorem back_ss (s t : ByteArray) (n : Nat) (w : World) (hm : s.size ≤ 9223372036854775807) (hm2 : t.size ≤ 9223372036854775807) (hn : n < 18446744073709551616) (hs : s.size ≤ 7) (ht : t.size ≤ 7) :
    Calls Try.prog 4 #[.string s, .string t, .int .u64 n] w (Good w) := by
  have hds : decide ((s.size : Int) ≤ 7) = true := by simp; omega
  have hdt : decide ((t.size : Int) ≤ 7) = true := by simp; omega
  have heq := two_short s t hs ht
  have S := Lib.hid (short_any s hs)
  generalize wd s = x at S heq
  have hge := S.out.small
  have T := Lib.hid (short_any t ht)
  generalize wd t = y at T heq
  have L := Lib.hid (last_any n hn)
  clear hn hs ht hm hm2
  go_enter Try.func4, Try.ntmps4
  go_wp2_with fail
  refine (shown_any _).mono ?_
  rintro e w1 ⟨rfl, hb⟩
  have B1 := Lib.hid hb
  clear hb
  go_wp2_with fail
  refine (S.out.word _).mono ?_
  rintro e w2 ⟨rfl, hb⟩
  have B2 := Lib.hid (below3 B1.out hb)
  clear hb B1
  go_wp2_with fail
  refine (T.out.word _).mono ?_
  rintro e w3 ⟨rfl, hb⟩
  have B3 := Lib.hid (below3 B2.out hb)
  clear hb B2
  go_wp2_with fail
  refine (S.out.text _).mono ?_
  rintro e w4 ⟨rfl, hb⟩
  have B4 := Lib.hid (below3 B3.out hb)
  clear hb B3
  clear S T
  rcases L.out with ⟨_, h⟩ | ⟨v, h, h'⟩
  · have H := Lib.hid h
    clear h L
    go_wp2_with fail
    refine (H.out _).mono ?_
    rintro e w5 ⟨rfl, hb⟩
    have B5 := Lib.hid (below3 B4.out hb)
    clear hb B4 H
    go_wp2
    go_ret
    exact ⟨rfl, B5.out⟩
  · have H := Lib.hid h
    have H' := Lib.hid h'
    clear h h' L
    go_wp2_with fail
    refine (H.out _).mono ?_
    rintro e w5 ⟨rfl, hb⟩
    have B5 := Lib.hid (below3 B4.out hb)
    clear hb B4 H
    go_wp2_with fail
    refine (H'.out _).mono ?_
    rintro e w6 ⟨rfl, hb⟩
    have B6 := Lib.hid (below3 B5.out hb)
    clear hb B5 H'
    go_wp2
    go_ret
    exact ⟨rfl, B6.out⟩

set_option maxHeartbeats 2000000 in
set_option maxRecDepth 100000 in
theorem back_sl (s t : ByteArray) (n : Nat) (w : World) (hm : s.size ≤ 9223372036854775807) (hm2 : t.size ≤ 9223372036854775807) (hn : n < 18446744073709551616) (hs : s.size ≤ 7) (ht : 7 < t.size) :
    Calls Try.prog 4 #[.string s, .string t, .int .u64 n] w (Good w) := by
  have hds : decide ((s.size : Int) ≤ 7) = true := by simp; omega
  have hdt : decide ((t.size : Int) ≤ 7) = false := by simp; omega
  have S := Lib.hid (short_any s hs)
  generalize wd s = x at S
  have hge := S.out.small
  have T := Lib.hid (fun w => word_far t w ht hm2)
  have L := Lib.hid (last_any n hn)
  clear hn hs ht hm hm2
  go_enter Try.func4, Try.ntmps4
  go_wp2_with fail
  refine (shown_any _).mono ?_
  rintro e w1 ⟨rfl, hb⟩
  have B1 := Lib.hid hb
  clear hb
  go_wp2_with fail
  refine (S.out.word _).mono ?_
  rintro e w2 ⟨rfl, hb⟩
  have B2 := Lib.hid (below3 B1.out hb)
  clear hb B1
  go_wp2_with fail
  refine (T.out _).mono ?_
  rintro e w3 ⟨rfl, hb⟩
  have B3 := Lib.hid (below3 B2.out hb)
  clear hb B2
  go_wp2_with fail
  refine (S.out.text _).mono ?_
  rintro e w4 ⟨rfl, hb⟩
  have B4 := Lib.hid (below3 B3.out hb)
  clear hb B3
  clear S T
  rcases L.out with ⟨_, h⟩ | ⟨v, h, h'⟩
  · have H := Lib.hid h
    clear h L
    go_wp2_with fail
    refine (H.out _).mono ?_
    rintro e w5 ⟨rfl, hb⟩
    have B5 := Lib.hid (below3 B4.out hb)
    clear hb B4 H
    go_wp2
    go_ret
    exact ⟨rfl, B5.out⟩
  · have H := Lib.hid h
    have H' := Lib.hid h'
    clear h h' L
    go_wp2_with fail
    refine (H.out _).mono ?_
    rintro e w5 ⟨rfl, hb⟩
    have B5 := Lib.hid (below3 B4.out hb)
    clear hb B4 H
    go_wp2_with fail
    refine (H'.out _).mono ?_
    rintro e w6 ⟨rfl, hb⟩
    have B6 := Lib.hid (below3 B5.out hb)
    clear hb B5 H'
    go_wp2
    go_ret
    exact ⟨rfl, B6.out⟩

set_option maxHeartbeats 2000000 in
set_option maxRecDepth 100000 in
theorem back_ls (s t : ByteArray) (n : Nat) (w : World) (hm : s.size ≤ 9223372036854775807) (hm2 : t.size ≤ 9223372036854775807) (hn : n < 18446744073709551616) (hs : 7 < s.size) (ht : t.size ≤ 7) :
    Calls Try.prog 4 #[.string s, .string t, .int .u64 n] w (Good w) := by
  have hds : decide ((s.size : Int) ≤ 7) = false := by simp; omega
  have hdt : decide ((t.size : Int) ≤ 7) = true := by simp; omega
  have S := Lib.hid (fun w => word_far s w hs hm)
  have T := Lib.hid (short_any t ht)
  generalize wd t = y at T
  have L := Lib.hid (last_any n hn)
  clear hn hs ht hm hm2
  go_enter Try.func4, Try.ntmps4
  go_wp2_with fail
  refine (shown_any _).mono ?_
  rintro e w1 ⟨rfl, hb⟩
  have B1 := Lib.hid hb
  clear hb
  go_wp2_with fail
  refine (S.out _).mono ?_
  rintro e w2 ⟨rfl, hb⟩
  have B2 := Lib.hid (below3 B1.out hb)
  clear hb B1
  go_wp2_with fail
  refine (T.out.word _).mono ?_
  rintro e w3 ⟨rfl, hb⟩
  have B3 := Lib.hid (below3 B2.out hb)
  clear hb B2
  clear S T
  rcases L.out with ⟨_, h⟩ | ⟨v, h, h'⟩
  · have H := Lib.hid h
    clear h L
    go_wp2_with fail
    refine (H.out _).mono ?_
    rintro e w4 ⟨rfl, hb⟩
    have B4 := Lib.hid (below3 B3.out hb)
    clear hb B3 H
    go_wp2
    go_ret
    exact ⟨rfl, B4.out⟩
  · have H := Lib.hid h
    have H' := Lib.hid h'
    clear h h' L
    go_wp2_with fail
    refine (H.out _).mono ?_
    rintro e w4 ⟨rfl, hb⟩
    have B4 := Lib.hid (below3 B3.out hb)
    clear hb B3 H
    go_wp2_with fail
    refine (H'.out _).mono ?_
    rintro e w5 ⟨rfl, hb⟩
    have B5 := Lib.hid (below3 B4.out hb)
    clear hb B4 H'
    go_wp2
    go_ret
    exact ⟨rfl, B5.out⟩

set_option maxHeartbeats 2000000 in
set_option maxRecDepth 100000 in
theorem back_ll (s t : ByteArray) (n : Nat) (w : World) (hm : s.size ≤ 9223372036854775807) (hm2 : t.size ≤ 9223372036854775807) (hn : n < 18446744073709551616) (hs : 7 < s.size) (ht : 7 < t.size) :
    Calls Try.prog 4 #[.string s, .string t, .int .u64 n] w (Good w) := by
  have hds : decide ((s.size : Int) ≤ 7) = false := by simp; omega
  have hdt : decide ((t.size : Int) ≤ 7) = false := by simp; omega
  have S := Lib.hid (fun w => word_far s w hs hm)
  have T := Lib.hid (fun w => word_far t w ht hm2)
  have L := Lib.hid (last_any n hn)
  clear hn hs ht hm hm2
  go_enter Try.func4, Try.ntmps4
  go_wp2_with fail
  refine (shown_any _).mono ?_
  rintro e w1 ⟨rfl, hb⟩
  have B1 := Lib.hid hb
  clear hb
  go_wp2_with fail
  refine (S.out _).mono ?_
  rintro e w2 ⟨rfl, hb⟩
  have B2 := Lib.hid (below3 B1.out hb)
  clear hb B1
  go_wp2_with fail
  refine (T.out _).mono ?_
  rintro e w3 ⟨rfl, hb⟩
  have B3 := Lib.hid (below3 B2.out hb)
  clear hb B2
  clear S T
  rcases L.out with ⟨_, h⟩ | ⟨v, h, h'⟩
  · have H := Lib.hid h
    clear h L
    go_wp2_with fail
    refine (H.out _).mono ?_
    rintro e w4 ⟨rfl, hb⟩
    have B4 := Lib.hid (below3 B3.out hb)
    clear hb B3 H
    go_wp2
    go_ret
    exact ⟨rfl, B4.out⟩
  · have H := Lib.hid h
    have H' := Lib.hid h'
    clear h h' L
    go_wp2_with fail
    refine (H.out _).mono ?_
    rintro e w4 ⟨rfl, hb⟩
    have B4 := Lib.hid (below3 B3.out hb)
    clear hb B3 H
    go_wp2_with fail
    refine (H'.out _).mono ?_
    rintro e w5 ⟨rfl, hb⟩
    have B5 := Lib.hid (below3 B4.out hb)
    clear hb B4 H'
    go_wp2
    go_ret
    exact ⟨rfl, B5.out⟩

theorem back_law (s t : ByteArray) (a : Int) (w : World) (hm : s.size ≤ maxLen) (hm2 : t.size ≤ maxLen) (ha : (Lit.int .u64 a).wf = true) :
    Calls Try.prog 4 #[.string s, .string t, .int .u64 a] w fun e w' => e = .returned (.bool true) ∧ Below w.heap.size w w' := by
  obtain ⟨n, rfl, hn⟩ := word_rng ha
  rcases Nat.lt_or_ge 7 s.size with hs | hs <;> rcases Nat.lt_or_ge 7 t.size with ht | ht
  · exact back_ll s t n w (text_len hm) (text_len hm2) hn hs ht
  · exact back_ls s t n w (text_len hm) (text_len hm2) hn hs ht
  · exact back_sl s t n w (text_len hm) (text_len hm2) hn hs ht
  · exact back_ss s t n w (text_len hm) (text_len hm2) hn hs ht
end Go.Proofs.Ytehajdkkjmjfmaa
