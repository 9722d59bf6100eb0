/- The walk of the law on two goes: a tape that is read in two goes tells what one tells that is read in one. Conditions: the slice's cells hold numbers; it is no longer than memory can hold. -/
import Derived.Test.YtmdlankeflnpgaaTapeTwo
import Derived.OwnWalk
namespace Go.Proofs.Ytmdlankeflnpgaa
open Go.RowKit Go.ChangeShapes Go.WideShapes Go.ChangeAt

set_option maxRecDepth 100000 in
set_option maxHeartbeats 2000000 in
theorem split_out (a : Option Addr) (n cap : Nat) (z : Nat → Int) (x y : Int) (W : World) (hn : n * 8 ≤ 140737488351232) (hz : Nums .u64 W W.heap.size a n z) (hxy : x < 0 ∨ (0 ≤ x ∧ y < 0) ∨ (0 ≤ x ∧ 0 ≤ y ∧ 100 < x) ∨ (0 ≤ x ∧ 0 ≤ y ∧ x ≤ 100 ∧ 100 < y)) :
    Calls Try.prog 6 #[.slice a n cap, .int .i64 x, .int .i64 y] W (Yes W) := by
  have HZ := Lib.hid hz
  have HX := Lib.hid hxy
  clear hz hxy
  go_enter Try.func6, Try.ntmps6
  go_wp2_with fail
  refine (shown_any W).mono ?_
  rintro e w0 ⟨rfl, hb0⟩
  have B0 := Lib.hid hb0
  clear hb0
  go_wp2_with fail
  refine (new_any a n cap z _ hn ((HZ.out.below B0.out).more B0.out.size)).mono ?_
  rintro e w1 ⟨p1, g1, rfl, hp, hg, ho, ht⟩
  have O1 := Lib.hid (One.new B0.out hp hg ho ht)
  clear ho ht hp hg
  go_wp2_with fail
  refine (new_any a n cap z _ hn ((HZ.out.below O1.out.below).more O1.out.below.size)).mono ?_
  rintro e w2 ⟨p2, g2, rfl, hp, hg, ho, ht⟩
  have T2 := Lib.hid (Two.new O1.out hp hg ho ht)
  clear ho ht hp hg
  rcases HX.out with h | ⟨h0, h⟩ | ⟨h0, h1, h⟩ | ⟨h0, h1, h2, h⟩
  all_goals
    go_wp2
    go_ret
    exact ⟨rfl, T2.out.a.below⟩

/-- In the middle of the law's loop: both rows hold the words that were told. -/
structure Split (W : World) (gp : Nat) (cur : Array Value) (r n : Nat) (z : Nat → Int) (K k : Nat) (wr : World) : Prop where
  le : k ≤ K
  below : Below W.heap.size W wr
  box : Box wr gp 30 cur
  row : wr.rowIs r 30 K (fun i => .int .u64 (told n z i))
theorem Split.step {W : World} {gp : Nat} {cur : Array Value} {r n : Nat} {z : Nat → Int} {K k : Nat} {wr : World} (h : Split W gp cur r n z K k wr) (hk : k < K) (m : Nat) : Split W gp cur r n z K (k + 1) (wr.drewN m) :=
  ⟨by omega, below_drewN h.below m, h.box, h.row⟩

set_option maxRecDepth 100000 in
set_option maxHeartbeats 2000000 in
theorem split_in (a : Option Addr) (n cap : Nat) (z : Nat → Int) (x y : Nat) (W : World) (hn : n * 8 ≤ 140737488351232) (hz : Nums .u64 W W.heap.size a n z) (hx : x ≤ 100) (hy : y ≤ 100) :
    Calls Try.prog 6 #[.slice a n cap, .int .i64 x, .int .i64 y] W (Yes W) := by
  have HZ := Lib.hid hz
  clear hz
  go_enter Try.func6, Try.ntmps6
  go_wp2_with fail
  refine (shown_any W).mono ?_
  rintro e w0 ⟨rfl, hb0⟩
  have B0 := Lib.hid hb0
  clear hb0
  go_wp2_with fail
  refine (new_any a n cap z _ hn ((HZ.out.below B0.out).more B0.out.size)).mono ?_
  rintro e w1 ⟨p1, g1, rfl, hp, hg, ho, ht⟩
  have O1 := Lib.hid (One.new B0.out hp hg ho ht)
  clear ho ht hp hg
  go_wp2_with fail
  refine (new_any a n cap z _ hn ((HZ.out.below O1.out.below).more O1.out.below.size)).mono ?_
  rintro e w2 ⟨p2, g2, rfl, hp, hg, ho, ht⟩
  have T2 := Lib.hid (Two.new O1.out hp hg ho ht)
  clear ho ht hp hg
  go_wp2_with fail
  refine (take_any p1 g1 n z 0 x _ (by omega) (by omega) T2.out.a.tp).mono ?_
  rintro e w3 ⟨rfl, ho, hs, ht, hr⟩
  rw [Nat.zero_add] at ht
  have T3 := Lib.hid (T2.out.one ho ht)
  have S3 := Lib.hid hs
  have R3 := Lib.hid (hr.congr (fun i _ => by rw [Nat.zero_add]))
  have hr0 : W.heap.size ≤ w2.heap.size := T2.out.a.below.size
  have q1 := T2.out.a.tp.box.lt
  have q2 := T2.out.b.box.lt
  clear ho ht hs hr
  go_wp2_with fail
  refine (take_any p1 g1 n z x y _ (by omega) (by omega) T3.out.a.tp).mono ?_
  rintro e w4 ⟨rfl, ho, hs, ht, hr⟩
  have T4 := Lib.hid (T3.out.one ho ht)
  have S4 := Lib.hid hs
  have R4 := Lib.hid hr
  have R4' := Lib.hid (ho.row R3.out (just_ne (by omega)))
  clear ho ht hs hr
  obtain ⟨i0, hi, hz0, hz1, hz2⟩ := info_parts infoWord
  have own4 := own_of_row (base := W.heap.size) R4'.out hr0 (by unfold maxLen; omega)
  go_wp2_with (at_builtin; refine wpList_append_own _ rfl (.tmp 55) (.tmp 58) 22 rfl W.heap.size 30 i0 (.int .u64 0) 1 8 Try.underlying22 hi hz0 hz1 hz2 rfl (by decide) _ x (wordsOf x (fun i => told n z i)) rfl own4 ⟨w3.heap.size, 0, none⟩ y y (wordsOf y (fun i => told n z (x + i))) rfl (by rw [wordsOf_len, Nat.mul_one]) ?c1 (wordsOf_one _ _) (by unfold maxLen; omega) (by omega) T4.out.a.below.size ?_)
  case c1 =>
    intro j u hu
    have hj : j < y := by have := (List.getElem?_eq_some_iff.1 hu).1; rwa [wordsOf_len] at this
    rw [wordsOf_at y _ j hj] at hu
    rw [add_plain, Nat.zero_add]
    exact (R4.out.cell hj).trans hu
  intro v5 w5 hown5 hgrow5 hnn5
  rw [wordsOf_add x y (fun i => told n z i)] at hown5
  obtain ⟨gp, cp, cur, rfl, hgp, hcp, hbox, hcur⟩ := own_at hown5 hnn5
  have o5 : Only (just w2.heap.size) w4 w5 := (Only.refl _ _).grown hgrow5 (fun k hk => .inl (by injection hk with hk; exact hk.symm))
  have q3 := T2.out.a.tp.row.lt
  have q4 := T2.out.b.row.lt
  have T5 := Lib.hid (T4.out.far o5 (just_ne (by omega)) (just_ne (by omega)) (just_ne (by omega)) (just_ne (by omega)) (fun i hi => just_ne (by omega)))
  have X5 := Lib.hid hbox
  have C5 := Lib.hid hcur
  clear hown5 hgrow5 hnn5 hbox hcur o5 own4 hi hz0 hz1 hz2
  go_wp2_with fail
  refine (take_any p2 g2 n z 0 (x + y) _ (by omega) (by omega) T5.out.b).mono ?_
  rintro e w6 ⟨rfl, ho, hs, ht, hr⟩
  rw [Nat.zero_add] at ht
  have T6 := Lib.hid (T5.out.two ho ht)
  have R6 := Lib.hid (hr.congr (fun i _ => by rw [Nat.zero_add]))
  have X6 := Lib.hid (X5.out.only ho (just_ne (X5.out.ne T5.out.b.box (by decide))))
  clear ho ht hs hr
  go_wp2_with fail
  refine (used_any p1 g1 n z (x + y) _ T6.out.a.tp).mono ?_
  rintro e w' ⟨rfl, rfl⟩
  go_wp2_with fail
  refine (used_any p2 g2 n z (x + y) _ T6.out.b).mono ?_
  rintro e w' ⟨rfl, rfl⟩
  go_wp2_with fail
  refine (short_any p1 g1 n z (x + y) _ T6.out.a.tp).mono ?_
  rintro e w7 ⟨rfl, k7, rfl⟩
  go_wp2_with fail
  refine (short_any p2 g2 n z (x + y) _ (T6.out.b.drewN k7)).mono ?_
  rintro e w8 ⟨rfl, k8, rfl⟩
  go_wp2
  go_loopw [12] (fun i wr => ∃ k : Nat, i = .int .i64 k ∧ Split W gp cur w5.heap.size n z (x + y) k wr) (fun i _ => x + y - (intOf i).toNat)
  case atStart => exact ⟨0, rfl, Nat.zero_le _, below_drewN T6.out.a.below _, X6.out, R6.out⟩
  case round =>
    obtain ⟨k, rfl, hS⟩ := hrel
    have hk := hS.le
    have HS := Lib.hid hS
    clear hS
    by_cases hlt : k < x + y
    · have c1 : wr.cell? ⟨gp, k, none⟩ = some (.int .u64 (told n z k)) := (HS.out.box.cell k).trans (C5.out k hlt)
      have c2 : wr.cell? ⟨w5.heap.size, k, none⟩ = some (.int .u64 (told n z k)) := HS.out.row.cell hlt
      go_wp2
      go_quiet (fail)
      go_wp2
      go_roundw
      case rel => exact ⟨k + 1, by go_num, HS.out.step hlt _⟩
      case measure => simp [intOf]; omega
    · go_wp2
      go_ret
      exact ⟨rfl, HS.out.below⟩

theorem split_any (a : Option Addr) (n cap : Nat) (z : Nat → Int) (x y : Int) (W : World) (hn : n * 8 ≤ 140737488351232) (hz : Nums .u64 W W.heap.size a n z) :
    Calls Try.prog 6 #[.slice a n cap, .int .i64 x, .int .i64 y] W (Yes W) := by
  by_cases h : x < 0 ∨ (0 ≤ x ∧ y < 0) ∨ (0 ≤ x ∧ 0 ≤ y ∧ 100 < x) ∨ (0 ≤ x ∧ 0 ≤ y ∧ x ≤ 100 ∧ 100 < y)
  · exact split_out a n cap z x y W hn hz h
  · obtain ⟨u, rfl⟩ : ∃ u : Nat, x = u := ⟨x.toNat, by omega⟩
    obtain ⟨v, rfl⟩ : ∃ v : Nat, y = v := ⟨y.toNat, by omega⟩
    exact split_in a n cap z u v W hn hz (by omega) (by omega)
end Go.Proofs.Ytmdlankeflnpgaa
