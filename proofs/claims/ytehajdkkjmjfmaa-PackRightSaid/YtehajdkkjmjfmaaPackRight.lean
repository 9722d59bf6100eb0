/- The walk of the law on right words: a word is a text's just if what is above its first bytes is noughts; texts of one length are in the order of their bytes, from behind, as words. Conditions: the word is one of 64 bits; lengths are ints. -/
import Derived.Test.YtehajdkkjmjfmaaPackBack
import Derived.Deep.QuietTactic
import Derived.BigQuiet
import Derived.Deep.Cut
import Derived.Test.YtehajdkkjmjfmaaHeap
namespace Go.Proofs.Ytehajdkkjmjfmaa
open Go.RowKit Go.ChangeShapes Go.WideShapes Go.ChangeAt

/-- What is above a word's first bytes, by shifts. -/
theorem above (n : Nat) (h : mn n < 7) : (IntKind.u64.wrap ((n : Int) * 256) / 256 / 2 ^ (8 * mn n) == 0) = rt n := by
  have e : IntKind.u64.wrap ((n : Int) * 256) / 256 = ((n % 72057594037927936 : Nat) : Int) := by rw [IntKind.wrap_u64]; omega
  rw [e, p_up, ← Int.natCast_ediv]
  have e2 : rt n = decide (n % 72057594037927936 < 256 ^ mn n) := by
    unfold rt
    rw [pv_dg, show 256 ^ 7 = 72057594037927936 from rfl]
    have : decide (mn n ≤ 7) = true := by simp; omega
    rw [this, Bool.true_and]
  rw [e2, Bool.eq_iff_iff, beq_iff_eq, decide_eq_true_eq]
  have hp := p_pos (mn n)
  have := Nat.div_eq_zero_iff (a := n % 72057594037927936) (b := 256 ^ mn n)
  omega
theorem rt_seven (n : Nat) (h : mn n = 7) : rt n = true := rt_of (by omega) (fun k h1 h2 => absurd h2 (by omega))
theorem top_any (s : ByteArray) : (wd s : Int) / 72057594037927936 = (s.size : Int) := by
  have := mn_wd s
  unfold mn at this; omega
/-- The bytes of both are the same from place k on. -/
def Alike (s t : ByteArray) (k : Nat) : Prop := ∀ j, k ≤ j → sb s j = sb t j
theorem Alike.top {s t : ByteArray} (h : s.size = t.size) : Alike s t s.size := fun j hj => by rw [sb_past s j hj, sb_past t j (by omega)]
theorem Alike.down {s t : ByteArray} {m : Nat} (h : Alike s t (m + 1)) (hm : sb s m = sb t m) : Alike s t m := fun j hj => by
  by_cases e : j = m
  · rw [e]; exact hm
  · exact h j (by omega)
theorem Alike.same {s t : ByteArray} (h : Alike s t 0) (hl : s.size = t.size) : wd s = wd t := by
  rw [sb_inj s t hl (fun k _ => h k (Nat.zero_le _))]
theorem Alike.less {s t : ByteArray} {m : Nat} (h : Alike s t (m + 1)) (hl : s.size = t.size) (hm : m < 7) (hlt : sb s m < sb t m) : wd s < wd t :=
  wd_less s t m hl hm (fun j h1 _ => h j (by omega)) hlt
/-- Where the loop stands: behind the first byte, or at one. -/
def Down (s t : ByteArray) (i : Value) : Prop := (i = .int .i64 (-1) ∧ Alike s t 0) ∨ ∃ m, m < s.size ∧ i = .int .i64 (m : Int) ∧ Alike s t (m + 1)
theorem Down.start {s t : ByteArray} (h : s.size = t.size) : Down s t (.int .i64 ((s.size : Int) - 1)) := by
  have ht := Alike.top h
  rcases Nat.eq_zero_or_pos s.size with h0 | h0
  · rw [h0] at ht ⊢; exact .inl ⟨rfl, ht⟩
  · refine .inr ⟨s.size - 1, by omega, by rw [show ((s.size - 1 : Nat) : Int) = (s.size : Int) - 1 by omega], ?_⟩
    rwa [show s.size - 1 + 1 = s.size by omega]
theorem Down.next {s t : ByteArray} {m : Nat} (hm : m < s.size) (h : Alike s t m) : Down s t (.int .i64 ((m : Int) - 1)) := by
  rcases Nat.eq_zero_or_pos m with h0 | h0
  · subst h0; exact .inl ⟨rfl, h⟩
  · refine .inr ⟨m - 1, by omega, by rw [show ((m - 1 : Nat) : Int) = (m : Int) - 1 by omega], ?_⟩
    rwa [show m - 1 + 1 = m by omega]
theorem Alike.swap {s t : ByteArray} {m : Nat} (h : Alike s t m) : Alike t s m := fun j hj => (h j hj).symm

set_option maxHeartbeats 4000000 in
set_option maxRecDepth 100000 in
theorem right_ss (s t : ByteArray) (n : Nat) (w : World) (hm : s.size ≤ 9223372036854775807) (hn : n < 18446744073709551616) (hs : s.size ≤ 7) (ht : t.size ≤ 7) (hl : s.size = t.size) :
    Calls Try.prog 5 #[.int .u64 n, .string s, .string t] w (Good w) := by
  have HA := Lib.hid (fun m (h : Alike s t (m + 1)) hm (hlt : sb s m < sb t m) => h.less hl hm hlt)
  have HZ := Lib.hid (fun m (h : Alike s t (m + 1)) hm (hlt : sb t m < sb s m) => h.swap.less hl.symm hm hlt)
  have HE := Lib.hid (fun (h : Alike s t 0) => h.same hl)
  have hx56 := top_any s
  have S := Lib.hid (short_any s hs)
  generalize wd s = x at S hx56 HA HZ HE
  have T := Lib.hid (short_any t ht)
  generalize wd t = y at T HA HZ HE
  have hq : (n : Int) / 72057594037927936 = (mn n : Int) := by unfold mn; omega
  have hx : (mn n : Int) ≤ 255 := by have := mn_lt n hn; omega
  have R := Lib.hid (fun w => right_any n w hn)
  have HN := Lib.hid hn
  clear hn
  have hp : ((s.size : Int) != (t.size : Int)) = false := by simp; omega
  have HL := Lib.hid hl
  clear hl
  go_enter Try.func5, Try.ntmps5
  go_wp2_with fail
  refine (shown_any _).mono ?_
  rintro e w1 ⟨rfl, hb⟩
  have B1 := Lib.hid hb
  clear hb
  go_upto_region 3 with fail
  go_cut [9] from 15 (fun r w' => r = .bool (rt n) ∧ w' = w1)
  case first =>
    rcases Nat.lt_trichotomy (mn n) 7 with hf | hf | hf
    · have hab := above n hf
      have h7 : ((mn n : Int) == 7) = false := by simp; omega
      have h8 : decide ((mn n : Int) ≤ 7) = true := by simp; omega
      go_wp2_with fail
      go_meet
      case rel => exact ⟨by simp, rfl⟩
    · have hab := rt_seven n hf
      have h7 : ((mn n : Int) == 7) = true := by simp; omega
      have h8 : decide ((mn n : Int) ≤ 7) = true := by simp; omega
      clear hf
      go_wp2_with fail
      go_meet
      case rel => exact ⟨by simp [hab], rfl⟩
    · have hab := rt_many hf
      have h8 : decide ((mn n : Int) ≤ 7) = false := by simp; omega
      go_wp2_with fail
      go_meet
      case rel => exact ⟨by simp [hab], rfl⟩
  obtain ⟨rfl, rfl⟩ := hcut
  go_wp2_with fail
  refine (S.out.word _).mono ?_
  rintro e w2 ⟨rfl, hb⟩
  have B2 := Lib.hid (below3 B1.out hb)
  clear hb B1
  go_wp2_with fail
  refine (T.out.word _).mono ?_
  rintro e w3 ⟨rfl, hb⟩
  have B3 := Lib.hid (below3 B2.out hb)
  clear hb B2
  go_wp2_with fail
  refine (R.out _).mono ?_
  rintro e w4 ⟨rfl, hb⟩
  have B4 := Lib.hid (below3 B3.out hb)
  clear hb B3
  clear S T R
  go_wp2
  go_loopw [14] (fun i wr => Down s t i ∧ Below w.heap.size w wr) (fun i _ => (intOf i + 1).toNat)
  case atStart => exact ⟨Down.start HL.out, B4.out⟩
  case round =>
    obtain ⟨hd, hb⟩ := hrel
    have BR := Lib.hid hb
    clear hb B4
    rcases hd with ⟨rfl, hal⟩ | ⟨m, hms, rfl, hal⟩
    · have hxy := HE.out hal
      subst hxy
      go_wp2
      go_ret
      exact ⟨rfl, BR.out⟩
    · have hmt : m < t.size := by rw [← HL.out]; exact hms
      have AL := Lib.hid hal
      clear hal
      have e1 := sb_at s m hms
      have e2 := sb_at t m hmt
      rcases Nat.lt_trichotomy (sb s m) (sb t m) with hc | hc | hc
      · have hne : ((s[m].toNat : Int) != (t[m].toNat : Int)) = true := by simp; omega
        have hl2 : decide (s[m].toNat < t[m].toNat) = true := by simp; omega
        have hl1 : decide (x < y) = true := by have := HA.out m AL.out (by omega) hc; simp; omega
        clear e1 e2 hc
        go_wp2
        go_quiet (fail)
        go_wp2
        go_quiet (fail)
        go_wp2
        go_ret
        exact ⟨rfl, below_drewN (below_drewN BR.out _) _⟩
      · have hne : ((s[m].toNat : Int) != (t[m].toNat : Int)) = false := by simp; omega
        have HD := Lib.hid (Down.next hms (AL.out.down hc))
        clear e1 e2 hc
        go_wp2
        go_quiet (fail)
        go_wp2
        go_roundw
        case rel => exact ⟨HD.out, below_drewN BR.out _⟩
        case measure => simp [intOf]
      · have hne : ((s[m].toNat : Int) != (t[m].toNat : Int)) = true := by simp; omega
        have hl2 : decide (s[m].toNat < t[m].toNat) = false := by simp; omega
        have hl1 : decide (x < y) = false := by have := HZ.out m AL.out (by omega) hc; simp; omega
        clear e1 e2 hc
        go_wp2
        go_quiet (fail)
        go_wp2
        go_quiet (fail)
        go_wp2
        go_ret
        exact ⟨rfl, below_drewN (below_drewN BR.out _) _⟩

set_option maxHeartbeats 4000000 in
set_option maxRecDepth 100000 in
theorem right_sp (s t : ByteArray) (n : Nat) (w : World) (hm : s.size ≤ 9223372036854775807) (hn : n < 18446744073709551616) (hs : s.size ≤ 7) (ht : t.size ≤ 7) (hl : s.size ≠ t.size) :
    Calls Try.prog 5 #[.int .u64 n, .string s, .string t] w (Good w) := by
  have hx56 := top_any s
  have S := Lib.hid (short_any s hs)
  generalize wd s = x at S hx56
  have T := Lib.hid (short_any t ht)
  generalize wd t = y at T
  have hq : (n : Int) / 72057594037927936 = (mn n : Int) := by unfold mn; omega
  have hx : (mn n : Int) ≤ 255 := by have := mn_lt n hn; omega
  have R := Lib.hid (fun w => right_any n w hn)
  have HN := Lib.hid hn
  clear hn
  have hp : ((s.size : Int) != (t.size : Int)) = true := by simp; omega
  go_enter Try.func5, Try.ntmps5
  go_wp2_with fail
  refine (shown_any _).mono ?_
  rintro e w1 ⟨rfl, hb⟩
  have B1 := Lib.hid hb
  clear hb
  go_upto_region 3 with fail
  go_cut [9] from 15 (fun r w' => r = .bool (rt n) ∧ w' = w1)
  case first =>
    rcases Nat.lt_trichotomy (mn n) 7 with hf | hf | hf
    · have hab := above n hf
      have h7 : ((mn n : Int) == 7) = false := by simp; omega
      have h8 : decide ((mn n : Int) ≤ 7) = true := by simp; omega
      go_wp2_with fail
      go_meet
      case rel => exact ⟨by simp, rfl⟩
    · have hab := rt_seven n hf
      have h7 : ((mn n : Int) == 7) = true := by simp; omega
      have h8 : decide ((mn n : Int) ≤ 7) = true := by simp; omega
      clear hf
      go_wp2_with fail
      go_meet
      case rel => exact ⟨by simp [hab], rfl⟩
    · have hab := rt_many hf
      have h8 : decide ((mn n : Int) ≤ 7) = false := by simp; omega
      go_wp2_with fail
      go_meet
      case rel => exact ⟨by simp [hab], rfl⟩
  obtain ⟨rfl, rfl⟩ := hcut
  go_wp2_with fail
  refine (S.out.word _).mono ?_
  rintro e w2 ⟨rfl, hb⟩
  have B2 := Lib.hid (below3 B1.out hb)
  clear hb B1
  go_wp2_with fail
  refine (T.out.word _).mono ?_
  rintro e w3 ⟨rfl, hb⟩
  have B3 := Lib.hid (below3 B2.out hb)
  clear hb B2
  go_wp2_with fail
  refine (R.out _).mono ?_
  rintro e w4 ⟨rfl, hb⟩
  have B4 := Lib.hid (below3 B3.out hb)
  clear hb B3
  clear S T R
  go_wp2
  go_ret
  exact ⟨rfl, B4.out⟩

set_option maxHeartbeats 4000000 in
set_option maxRecDepth 100000 in
theorem right_sl (s t : ByteArray) (n : Nat) (w : World) (hm : s.size ≤ 9223372036854775807) (hm2 : t.size ≤ 9223372036854775807) (hn : n < 18446744073709551616) (hs : s.size ≤ 7) (ht : 7 < t.size) :
    Calls Try.prog 5 #[.int .u64 n, .string s, .string t] w (Good w) := by
  have hx56 := top_any s
  have S := Lib.hid (short_any s hs)
  generalize wd s = x at S hx56
  have T := Lib.hid (fun w => word_far t w ht hm2)
  have hq : (n : Int) / 72057594037927936 = (mn n : Int) := by unfold mn; omega
  have hx : (mn n : Int) ≤ 255 := by have := mn_lt n hn; omega
  have R := Lib.hid (fun w => right_any n w hn)
  have HN := Lib.hid hn
  clear hn
  go_enter Try.func5, Try.ntmps5
  go_wp2_with fail
  refine (shown_any _).mono ?_
  rintro e w1 ⟨rfl, hb⟩
  have B1 := Lib.hid hb
  clear hb
  go_upto_region 3 with fail
  go_cut [9] from 15 (fun r w' => r = .bool (rt n) ∧ w' = w1)
  case first =>
    rcases Nat.lt_trichotomy (mn n) 7 with hf | hf | hf
    · have hab := above n hf
      have h7 : ((mn n : Int) == 7) = false := by simp; omega
      have h8 : decide ((mn n : Int) ≤ 7) = true := by simp; omega
      go_wp2_with fail
      go_meet
      case rel => exact ⟨by simp, rfl⟩
    · have hab := rt_seven n hf
      have h7 : ((mn n : Int) == 7) = true := by simp; omega
      have h8 : decide ((mn n : Int) ≤ 7) = true := by simp; omega
      clear hf
      go_wp2_with fail
      go_meet
      case rel => exact ⟨by simp [hab], rfl⟩
    · have hab := rt_many hf
      have h8 : decide ((mn n : Int) ≤ 7) = false := by simp; omega
      go_wp2_with fail
      go_meet
      case rel => exact ⟨by simp [hab], rfl⟩
  obtain ⟨rfl, rfl⟩ := hcut
  go_wp2_with fail
  refine (S.out.word _).mono ?_
  rintro e w2 ⟨rfl, hb⟩
  have B2 := Lib.hid (below3 B1.out hb)
  clear hb B1
  go_wp2_with fail
  refine (T.out _).mono ?_
  rintro e w3 ⟨rfl, hb⟩
  have B3 := Lib.hid (below3 B2.out hb)
  clear hb B2
  go_wp2_with fail
  refine (R.out _).mono ?_
  rintro e w4 ⟨rfl, hb⟩
  have B4 := Lib.hid (below3 B3.out hb)
  clear hb B3
  clear S T R
  go_wp2
  go_ret
  exact ⟨rfl, B4.out⟩

set_option maxHeartbeats 4000000 in
set_option maxRecDepth 100000 in
theorem right_ls (s t : ByteArray) (n : Nat) (w : World) (hm : s.size ≤ 9223372036854775807) (hn : n < 18446744073709551616) (hs : 7 < s.size) (ht : t.size ≤ 7) :
    Calls Try.prog 5 #[.int .u64 n, .string s, .string t] w (Good w) := by
  have S := Lib.hid (fun w => word_far s w hs hm)
  have T := Lib.hid (short_any t ht)
  generalize wd t = y at T
  have hq : (n : Int) / 72057594037927936 = (mn n : Int) := by unfold mn; omega
  have hx : (mn n : Int) ≤ 255 := by have := mn_lt n hn; omega
  have R := Lib.hid (fun w => right_any n w hn)
  have HN := Lib.hid hn
  clear hn
  go_enter Try.func5, Try.ntmps5
  go_wp2_with fail
  refine (shown_any _).mono ?_
  rintro e w1 ⟨rfl, hb⟩
  have B1 := Lib.hid hb
  clear hb
  go_upto_region 3 with fail
  go_cut [9] from 15 (fun r w' => r = .bool (rt n) ∧ w' = w1)
  case first =>
    rcases Nat.lt_trichotomy (mn n) 7 with hf | hf | hf
    · have hab := above n hf
      have h7 : ((mn n : Int) == 7) = false := by simp; omega
      have h8 : decide ((mn n : Int) ≤ 7) = true := by simp; omega
      go_wp2_with fail
      go_meet
      case rel => exact ⟨by simp, rfl⟩
    · have hab := rt_seven n hf
      have h7 : ((mn n : Int) == 7) = true := by simp; omega
      have h8 : decide ((mn n : Int) ≤ 7) = true := by simp; omega
      clear hf
      go_wp2_with fail
      go_meet
      case rel => exact ⟨by simp [hab], rfl⟩
    · have hab := rt_many hf
      have h8 : decide ((mn n : Int) ≤ 7) = false := by simp; omega
      go_wp2_with fail
      go_meet
      case rel => exact ⟨by simp [hab], rfl⟩
  obtain ⟨rfl, rfl⟩ := hcut
  go_wp2_with fail
  refine (S.out _).mono ?_
  rintro e w2 ⟨rfl, hb⟩
  have B2 := Lib.hid (below3 B1.out hb)
  clear hb B1
  go_wp2_with fail
  refine (T.out.word _).mono ?_
  rintro e w3 ⟨rfl, hb⟩
  have B3 := Lib.hid (below3 B2.out hb)
  clear hb B2
  go_wp2_with fail
  refine (R.out _).mono ?_
  rintro e w4 ⟨rfl, hb⟩
  have B4 := Lib.hid (below3 B3.out hb)
  clear hb B3
  clear S T R
  go_wp2
  go_ret
  exact ⟨rfl, B4.out⟩

set_option maxHeartbeats 4000000 in
set_option maxRecDepth 100000 in
theorem right_ll (s t : ByteArray) (n : Nat) (w : World) (hm : s.size ≤ 9223372036854775807) (hm2 : t.size ≤ 9223372036854775807) (hn : n < 18446744073709551616) (hs : 7 < s.size) (ht : 7 < t.size) :
    Calls Try.prog 5 #[.int .u64 n, .string s, .string t] w (Good w) := by
  have S := Lib.hid (fun w => word_far s w hs hm)
  have T := Lib.hid (fun w => word_far t w ht hm2)
  have hq : (n : Int) / 72057594037927936 = (mn n : Int) := by unfold mn; omega
  have hx : (mn n : Int) ≤ 255 := by have := mn_lt n hn; omega
  have R := Lib.hid (fun w => right_any n w hn)
  have HN := Lib.hid hn
  clear hn
  go_enter Try.func5, Try.ntmps5
  go_wp2_with fail
  refine (shown_any _).mono ?_
  rintro e w1 ⟨rfl, hb⟩
  have B1 := Lib.hid hb
  clear hb
  go_upto_region 3 with fail
  go_cut [9] from 15 (fun r w' => r = .bool (rt n) ∧ w' = w1)
  case first =>
    rcases Nat.lt_trichotomy (mn n) 7 with hf | hf | hf
    · have hab := above n hf
      have h7 : ((mn n : Int) == 7) = false := by simp; omega
      have h8 : decide ((mn n : Int) ≤ 7) = true := by simp; omega
      go_wp2_with fail
      go_meet
      case rel => exact ⟨by simp, rfl⟩
    · have hab := rt_seven n hf
      have h7 : ((mn n : Int) == 7) = true := by simp; omega
      have h8 : decide ((mn n : Int) ≤ 7) = true := by simp; omega
      clear hf
      go_wp2_with fail
      go_meet
      case rel => exact ⟨by simp [hab], rfl⟩
    · have hab := rt_many hf
      have h8 : decide ((mn n : Int) ≤ 7) = false := by simp; omega
      go_wp2_with fail
      go_meet
      case rel => exact ⟨by simp [hab], rfl⟩
  obtain ⟨rfl, rfl⟩ := hcut
  go_wp2_with fail
  refine (S.out _).mono ?_
  rintro e w2 ⟨rfl, hb⟩
  have B2 := Lib.hid (below3 B1.out hb)
  clear hb B1
  go_wp2_with fail
  refine (T.out _).mono ?_
  rintro e w3 ⟨rfl, hb⟩
  have B3 := Lib.hid (below3 B2.out hb)
  clear hb B2
  go_wp2_with fail
  refine (R.out _).mono ?_
  rintro e w4 ⟨rfl, hb⟩
  have B4 := Lib.hid (below3 B3.out hb)
  clear hb B3
  clear S T R
  go_wp2
  go_ret
  exact ⟨rfl, B4.out⟩
theorem right_law (s t : ByteArray) (a : Int) (w : World) (hm : s.size ≤ maxLen) (hm2 : t.size ≤ maxLen) (ha : (Lit.int .u64 a).wf = true) :
    Calls Try.prog 5 #[.int .u64 a, .string s, .string t] w fun e w' => e = .returned (.bool true) ∧ Below w.heap.size w w' := by
  obtain ⟨n, rfl, hn⟩ := word_rng ha
  rcases Nat.lt_or_ge 7 s.size with hs | hs <;> rcases Nat.lt_or_ge 7 t.size with ht | ht
  · exact right_ll s t n w (text_len hm) (text_len hm2) hn hs ht
  · exact right_ls s t n w (text_len hm) hn hs ht
  · exact right_sl s t n w (text_len hm) (text_len hm2) hn hs ht
  · by_cases hl : s.size = t.size
    · exact right_ss s t n w (text_len hm) hn hs ht hl
    · exact right_sp s t n w (text_len hm) hn hs ht hl
end Go.Proofs.Ytehajdkkjmjfmaa
