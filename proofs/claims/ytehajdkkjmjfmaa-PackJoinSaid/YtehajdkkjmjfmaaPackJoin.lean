/- The walk of the law on joining: a text's word is its first bytes' word, with those behind them above it. Conditions: the place is an int; the text's length is one. -/
import Derived.Test.YtehajdkkjmjfmaaPackBack
import Derived.Lib.Strings
import Derived.Deep.Cut
namespace Go.Proofs.Ytehajdkkjmjfmaa
open Go.RowKit Go.ChangeShapes Go.WideShapes Go.ChangeAt

/-- Where a text is cut. -/
def cutAt (s : ByteArray) (a : Int) : Nat := (max 0 (min a (s.size : Int))).toNat
theorem cutAt_le (s : ByteArray) (a : Int) : cutAt s a ≤ s.size := by unfold cutAt; omega
theorem cut_all {s : ByteArray} {a : Int} (h : (s.size : Int) < a) : Value.int .i64 (s.size : Int) = .int .i64 (cutAt s a : Int) := by
  have : (cutAt s a : Int) = s.size := by unfold cutAt; omega
  rw [this]
theorem cut_some {s : ByteArray} {a : Int} (h1 : 0 < if (s.size : Int) < a then (s.size : Int) else a) (h : a ≤ (s.size : Int)) : Value.int .i64 a = .int .i64 (cutAt s a : Int) := by
  rw [if_neg (by omega)] at h1
  have : (cutAt s a : Int) = a := by unfold cutAt; omega
  rw [this]
theorem cut_none {s : ByteArray} {a : Int} (h1 : (if (s.size : Int) < a then (s.size : Int) else a) ≤ 0) : Value.int .i64 0 = .int .i64 (cutAt s a : Int) := by
  have : (cutAt s a : Int) = 0 := by
    unfold cutAt
    by_cases h : (s.size : Int) < a
    · rw [if_pos h] at h1; omega
    · rw [if_neg h] at h1; omega
  rw [this]

/-- The lowest seven bytes of a word. -/
theorem low_and (x : Nat) (hx : x < 18446744073709551616) : bits .and .u64 (x : Int) 72057594037927935 = ((x % 72057594037927936 : Nat) : Int) := by
  have := u64_and_nat x 72057594037927935 hx (by decide)
  rw [show ((72057594037927935 : Nat) : Int) = 72057594037927935 from rfl] at this
  rw [this]
  have e := Nat.and_two_pow_sub_one_eq_mod x 56
  rw [show (2 : Nat) ^ 56 - 1 = 72057594037927935 from rfl, show (2 : Nat) ^ 56 = 72057594037927936 from rfl] at e
  rw [e]
theorem ex_size (s : ByteArray) (i j : Nat) (h : j ≤ s.size) : (s.extract i j).size = j - i := by
  rw [ByteArray.size_extract]; omega
theorem sb_ex (s : ByteArray) (i j k : Nat) (h : i + k < j) : sb (s.extract i j) k = sb s (i + k) := by
  unfold sb
  rw [Lib.extract_data, List.getD_eq_getElem?_getD, List.getD_eq_getElem?_getD, List.getElem?_take_of_lt (by omega), List.getElem?_drop]
/-- What the walk is told of a text that is cut: the words of both parts and of the whole, by their highest and by their other bytes. -/
structure Parts (s : ByteArray) (K x y z lx ly lz : Nat) : Prop where
  xw : Short (s.extract 0 K) x
  yw : Short (s.extract K s.size) y
  zw : Short s z
  tops : ((z : Int) / 72057594037927936 == IntKind.u64.wrap ((x : Int) / 72057594037927936 + (y : Int) / 72057594037927936)) = true
  xl : bits .and .u64 (x : Int) 72057594037927935 = (lx : Int)
  yl : bits .and .u64 (y : Int) 72057594037927935 = (ly : Int)
  zl : bits .and .u64 (z : Int) 72057594037927935 = (lz : Int)
  all : bits .and .u64 (bits .or .u64 (lx : Int) (IntKind.u64.wrap ((ly : Int) * 2 ^ (8 * K)))) 72057594037927935 = (lz : Int)
theorem top_of (s : ByteArray) : (wd s : Int) / 72057594037927936 = (s.size : Int) := by
  have := mn_wd s
  unfold mn at this; omega
theorem low_of (s : ByteArray) (h : s.size ≤ 7) : bits .and .u64 (wd s : Int) 72057594037927935 = (pv (sb s) 7 : Int) := by
  have := wd_lt s h
  rw [low_and _ (by omega), wd_low]
theorem parts_of (s : ByteArray) (K : Nat) (hs : s.size ≤ 7) (hK : K ≤ s.size) : ∃ x y z lx ly lz, Parts s K x y z lx ly lz := by
  have s1 : (s.extract 0 K).size = K := by rw [ex_size s 0 K hK]; omega
  have s2 : (s.extract K s.size).size = s.size - K := ex_size s K s.size (Nat.le_refl _)
  refine ⟨_, _, _, _, _, _, short_any _ (by omega), short_any _ (by omega), short_any s hs, by rw [top_of, top_of, top_of, s1, s2, IntKind.wrap_u64, beq_iff_eq]; omega, low_of _ (by omega), low_of _ (by omega), low_of s hs, ?_⟩
  have e1 : pv (sb (s.extract 0 K)) 7 = pv (sb s) K := by
    rw [pv_sb _ K (by omega) (by omega)]
    exact pv_ext _ _ K (fun i hi => by rw [sb_ex s 0 K i (by omega), Nat.zero_add])
  have e2 : pv (sb (s.extract K s.size)) 7 = pv (fun i => sb s (K + i)) (s.size - K) := by
    rw [pv_sb _ (s.size - K) (by omega) (by omega)]
    exact pv_ext _ _ _ (fun i hi => sb_ex s K s.size i (by omega))
  have e3 : pv (sb s) 7 = pv (sb s) K + pv (fun i => sb s (K + i)) (s.size - K) * 256 ^ K := by
    rw [pv_sb s s.size (Nat.le_refl _) hs, ← pv_join (sb s) K (s.size - K), show K + (s.size - K) = s.size by omega]
  have h1 := pv_lt (sb s) K (fun i _ => sb_lt s i)
  have h2 := low_lt s
  rw [e1, e2, p_up, ← Int.natCast_mul]
  generalize pv (fun i => sb s (K + i)) (s.size - K) = ly at *
  have e4 : IntKind.u64.wrap ((ly * 256 ^ K : Nat) : Int) = ((ly * 256 ^ K : Nat) : Int) := by rw [IntKind.wrap_u64]; omega
  rw [e4, or_up _ _ _ h1 (by omega), ← e3, low_and _ (by omega), Nat.mod_eq_of_lt h2]

set_option maxHeartbeats 4000000 in
set_option maxRecDepth 100000 in
theorem join_short (s : ByteArray) (a : Int) (w : World) (hs : s.size ≤ 7) :
    Calls Try.prog 6 #[.string s, .int .i64 a] w (Good w) := by
  go_enter Try.func6, Try.ntmps6
  go_wp2_with fail
  refine (shown_any _).mono ?_
  rintro e w1 ⟨rfl, hb⟩
  have B1 := Lib.hid hb
  clear hb
  go_upto_region 4 with fail
  go_cut [6] from 14 (fun k w' => k = .int .i64 (cutAt s a) ∧ w' = w1)
  case first =>
    go_wp2_with fail
    all_goals
      go_meet
      case rel => first | exact ⟨cut_all ‹_›, rfl⟩ | exact ⟨cut_some ‹_› ‹_›, rfl⟩ | exact ⟨cut_none ‹_›, rfl⟩
  obtain ⟨rfl, rfl⟩ := hcut
  have hK := cutAt_le s a
  generalize cutAt s a = K at hK
  obtain ⟨x, y, z, lx, ly, lz, hp⟩ := parts_of s K hs hK
  have P := Lib.hid hp
  clear hp
  go_wp2_with fail
  refine (P.out.xw.word _).mono ?_
  rintro e w2 ⟨rfl, hb⟩
  have B2 := Lib.hid (below3 B1.out hb)
  clear hb B1
  go_wp2_with fail
  refine (P.out.yw.word _).mono ?_
  rintro e w3 ⟨rfl, hb⟩
  have B3 := Lib.hid (below3 B2.out hb)
  clear hb B2
  go_wp2_with fail
  refine (P.out.zw.word _).mono ?_
  rintro e w4 ⟨rfl, hb⟩
  have B4 := Lib.hid (below3 B3.out hb)
  clear hb B3
  have t1 := P.out.tops
  have hK7 : (K : Int) ≤ 7 := by omega
  have l1 := P.out.xl
  have l2 := P.out.yl
  have l3 := P.out.zl
  have l4 := P.out.all
  clear P hs hK
  go_wp2
  go_ret
  exact ⟨rfl, B4.out⟩
theorem join_long (s : ByteArray) (a : Int) (w : World) (hs : 7 < s.size) (hm : s.size ≤ 9223372036854775807) :
    Calls Try.prog 6 #[.string s, .int .i64 a] w (Good w) := by
  go_enter Try.func6, Try.ntmps6
  go_wp2_with fail
  refine (shown_any _).mono ?_
  rintro e w1 ⟨rfl, hb⟩
  have B1 := Lib.hid hb
  clear hb
  go_wp2
  go_ret
  exact ⟨rfl, B1.out⟩
theorem join_law (s : ByteArray) (a : Int) (w : World) (hm : s.size ≤ maxLen) :
    Calls Try.prog 6 #[.string s, .int .i64 a] w fun e w' => e = .returned (.bool true) ∧ Below w.heap.size w w' := by
  rcases Nat.lt_or_ge 7 s.size with hs | hs
  · exact join_long s a w hs (text_len hm)
  · exact join_short s a w hs
end Go.Proofs.Ytehajdkkjmjfmaa
