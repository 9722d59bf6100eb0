/- The walk of the law on parts: so many words at once are those one by one. Conditions: the slice's cells hold numbers; it is no longer than memory can hold. -/
import Derived.Test.YtmdlankeflnpgaaTapeTwo
namespace Go.Proofs.Ytmdlankeflnpgaa
open Go.RowKit Go.ChangeShapes Go.WideShapes Go.ChangeAt

set_option maxRecDepth 100000 in
set_option maxHeartbeats 2000000 in
theorem parts_many (a : Option Addr) (n cap : Nat) (z : Nat → Int) (m : Int) (W : World) (hn : n * 8 ≤ 140737488351232) (hz : Nums .u64 W W.heap.size a n z) (hm : 200 < m) :
    Calls Try.prog 5 #[.slice a n cap, .int .i64 m] W (Yes W) := by
  have HZ := Lib.hid hz
  clear hz
  go_enter Try.func5, Try.ntmps5
  go_wp2_with fail
  refine (shown_any W).mono ?_
  rintro e w0 ⟨rfl, hb0⟩
  have B0 := Lib.hid hb0
  clear hb0
  go_wp2_with fail
  refine (new_any a n cap z _ hn ((HZ.out.below B0.out).more B0.out.size)).mono ?_
  rintro e w1 ⟨p1, g1, rfl, hp, hg, ho, ht⟩
  have O1 := Lib.hid (One.new B0.out hp hg ho ht)
  clear ho ht hp hg
  go_wp2_with fail
  refine (new_any a n cap z _ hn ((HZ.out.below O1.out.below).more O1.out.below.size)).mono ?_
  rintro e w2 ⟨p2, g2, rfl, hp, hg, ho, ht⟩
  have T2 := Lib.hid (Two.new O1.out hp hg ho ht)
  clear ho ht hp hg
  go_wp2
  go_ret
  exact ⟨rfl, T2.out.a.below⟩

/-- In the middle of the law's loop: k words of the second tape were read, K of the first one at once. -/
structure Parts (W wr : World) (r p1 g1 p2 g2 n : Nat) (z : Nat → Int) (K k : Nat) : Prop where
  le : k ≤ K
  two : Two W wr p1 g1 p2 g2 n z K k
  row : wr.rowIs r 30 K (fun i => .int .u64 (told n z i))
  r2 : p2 < r
  r0 : W.heap.size ≤ r
theorem Parts.next {W wr w1 : World} {r p1 g1 p2 g2 n : Nat} {z : Nat → Int} {K k : Nat} (h : Parts W wr r p1 g1 p2 g2 n z K k) (hk : k < K) (ho : Only (just p2) wr w1) (ht : Tp w1 p2 g2 n z (k + 1)) :
    Parts W w1 r p1 g1 p2 g2 n z K (k + 1) := ⟨by omega, h.two.two ho ht, ho.row h.row (just_ne (by have := h.r2; omega)), h.r2, h.r0⟩

set_option maxRecDepth 100000 in
set_option maxHeartbeats 2000000 in
theorem parts_few (a : Option Addr) (n cap : Nat) (z : Nat → Int) (m : Int) (K : Nat) (W : World) (hn : n * 8 ≤ 140737488351232) (hz : Nums .u64 W W.heap.size a n z) (hm : m ≤ 200) (hK : K = m.toNat) :
    Calls Try.prog 5 #[.slice a n cap, .int .i64 m] W (Yes W) := by
  have HZ := Lib.hid hz
  have HK := Lib.hid hK
  have hK1 : K ≤ 200 := by omega
  have hmax : (if m < 0 then (0 : Int) else m) = (K : Int) := by split <;> omega
  clear hz hK
  go_enter Try.func5, Try.ntmps5
  go_wp2_with fail
  refine (shown_any W).mono ?_
  rintro e w0 ⟨rfl, hb0⟩
  have B0 := Lib.hid hb0
  clear hb0
  go_wp2_with fail
  refine (new_any a n cap z _ hn ((HZ.out.below B0.out).more B0.out.size)).mono ?_
  rintro e w1 ⟨p1, g1, rfl, hp, hg, ho, ht⟩
  have O1 := Lib.hid (One.new B0.out hp hg ho ht)
  clear ho ht hp hg
  go_wp2_with fail
  refine (new_any a n cap z _ hn ((HZ.out.below O1.out.below).more O1.out.below.size)).mono ?_
  rintro e w2 ⟨p2, g2, rfl, hp, hg, ho, ht⟩
  have T2 := Lib.hid (Two.new O1.out hp hg ho ht)
  clear ho ht hp hg
  go_wp2_with fail
  refine (take_int p1 g1 n z 0 m _ (by omega) (by omega) T2.out.a.tp).mono ?_
  rw [← HK.out]
  rintro e w3 ⟨rfl, ho, hs, ht, hr⟩
  have T3 := Lib.hid (T2.out.one ho ht)
  have HR := Lib.hid hr
  have hr0 : W.heap.size ≤ w2.heap.size := T2.out.a.below.size
  have hp2 : p2 < w2.heap.size := T2.out.b.box.lt
  clear ho ht hs hr
  have R3 := Lib.hid (show Parts W w3 w2.heap.size p1 g1 p2 g2 n z K 0 from ⟨Nat.zero_le _, by rw [Nat.zero_add] at T3; exact T3.out, HR.out.congr (fun i _ => by rw [Nat.zero_add]), hp2, hr0⟩)
  clear T3 HR
  go_wp2
  all_goals
    go_loopw [9] (fun i wr => ∃ k : Nat, i = .int .i64 k ∧ Parts W wr w2.heap.size p1 g1 p2 g2 n z K k) (fun i _ => K - (intOf i).toNat)
    case atStart => exact ⟨0, rfl, R3.out⟩
    case round =>
      obtain ⟨k, rfl, hP⟩ := hrel
      have hk := hP.le
      have HP := Lib.hid hP
      clear hP
      by_cases hlt : k < K
      · go_wp2_with fail
        refine (next_any p2 g2 n z k _ (by omega) HP.out.two.b).mono ?_
        rintro e w4 ⟨rfl, ho, hs, ht⟩
        have R := Lib.hid (HP.out.next hlt ho ht)
        have ck : w4.cell? ⟨w2.heap.size, k, none⟩ = some (.int .u64 (told n z k)) := R.out.row.cell hlt
        clear ho hs ht
        by_cases hl : k < n
        · obtain ⟨b, off, rfl, hbW, hcz⟩ := HZ.out.at hl
          have cz : w4.cell? ⟨b, off + k, none⟩ = some (.int .u64 (z k)) := ((R.out.two.a.below).cell (p := ⟨b, off + k, none⟩) hbW).trans hcz
          have et : told n z k = z k := told_some hl
          rw [et] at ck
          clear hcz
          go_wp2
          go_roundw
          case rel => exact ⟨k + 1, by go_num, R.out⟩
          case measure => simp [intOf]; omega
        · have et : told n z k = 0 := told_none hl
          rw [et] at ck
          go_wp2
          go_roundw
          case rel => exact ⟨k + 1, by go_num, R.out⟩
          case measure => simp [intOf]; omega
      · obtain rfl : K = k := by omega
        go_wp2_with fail
        refine (used_any p1 g1 n z K _ HP.out.two.a.tp).mono ?_
        rintro e w' ⟨rfl, rfl⟩
        go_wp2_with fail
        refine (used_any p2 g2 n z K _ HP.out.two.b).mono ?_
        rintro e w' ⟨rfl, rfl⟩
        go_wp2_with fail
        refine (short_any p1 g1 n z K _ HP.out.two.a.tp).mono ?_
        rintro e w5 ⟨rfl, k5, rfl⟩
        go_wp2_with fail
        refine (short_any p2 g2 n z K _ (HP.out.two.b.drewN k5)).mono ?_
        rintro e w6 ⟨rfl, k6, rfl⟩
        go_wp2_with fail
        refine (short_any p1 g1 n z K _ (HP.out.two.a.tp.drewN (k5 + k6))).mono ?_
        rintro e w7 ⟨rfl, k7, rfl⟩
        go_wp2
        go_ret
        exact ⟨rfl, below_drewN HP.out.two.a.below _⟩

theorem parts_any (a : Option Addr) (n cap : Nat) (z : Nat → Int) (m : Int) (W : World) (hn : n * 8 ≤ 140737488351232) (hz : Nums .u64 W W.heap.size a n z) :
    Calls Try.prog 5 #[.slice a n cap, .int .i64 m] W (Yes W) := by
  by_cases h : 200 < m
  · exact parts_many a n cap z m W hn hz h
  · exact parts_few a n cap z m _ W hn hz (by omega) rfl
end Go.Proofs.Ytmdlankeflnpgaa
