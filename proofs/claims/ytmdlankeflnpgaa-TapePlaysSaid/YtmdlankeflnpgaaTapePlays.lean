/- The walk of the law on plays: word behind word, and so many at once, as the document's own tape tells. Conditions: the slices' cells hold numbers; they are no longer than memory can hold. -/
import Derived.Test.YtmdlankeflnpgaaTapeTwo
namespace Go.Proofs.Ytmdlankeflnpgaa
open Go.RowKit Go.ChangeShapes Go.WideShapes Go.ChangeAt

/-- Behind the document's Next. -/
def RNextPost (w : World) (q : Nat) (a : Option Addr) (n cap : Nat) (z : Nat → Int) (u : Nat) (e : Ending) (w' : World) : Prop :=
  e = .returned (.tuple #[.int .u64 (told n z u), .int .i64 u]) ∧ Only (just q) w w' ∧ Box w' q 29 #[.slice a n cap, .int .i64 ((u + 1 : Nat) : Int)]
theorem RNextPost.mk {w : World} {q n cap : Nat} {a : Option Addr} {z : Nat → Int} {u : Nat} (h : Box w q 29 #[.slice a n cap, .int .i64 u]) (x : Int) (hx : told n z u = x) :
    RNextPost w q a n cap z u (.returned (.tuple #[.int .u64 x, .int .i64 u])) (w.setCell ⟨q, 1, none⟩ (.int .i64 ((u : Int) + 1))) := by
  refine ⟨by rw [hx], (Only.refl _ _).setCell (.inl (just_self q)) _, ?_⟩
  have := h.put 1 (.int .i64 ((u : Int) + 1))
  simpa using this

set_option maxHeartbeats 1000000 in
theorem rnext_any (q : Nat) (a : Option Addr) (n cap : Nat) (z : Nat → Int) (u B : Nat) (w : World) (hu : u < 9223372036854775807) (h : Box w q 29 #[.slice a n cap, .int .i64 u]) (hz : Nums .u64 w B a n z) (hB : B ≤ q) :
    Calls Try.prog 10 #[.pointer (some ⟨q, 0, none⟩)] w (RNextPost w q a n cap z u) := by
  have HT := Lib.hid h
  have c0 : w.cell? ⟨q, 0, none⟩ = some (.slice a n cap) := h.cell 0
  have c1 : w.cell? ⟨q, 1, none⟩ = some (.int .i64 u) := h.cell 1
  have f1 : w.frozen? ⟨q, 1, none⟩ = false := h.frozen 1
  by_cases hlt : u < n
  · obtain ⟨b, off, rfl, hb, cu⟩ := hz.at hlt
    have hne : b ≠ q := by omega
    have HE : Hid (told n z u = z u) := if_pos hlt
    clear h hz
    go_enter Try.func10, Try.ntmps10
    go_wp2
    go_ret2
    exact RNextPost.mk HT.out _ HE.out
  · have HE : Hid (told n z u = 0) := if_neg hlt
    clear h hz
    go_enter Try.func10, Try.ntmps10
    go_wp2
    go_ret2
    exact RNextPost.mk HT.out _ HE.out

theorem rshort_any (q : Nat) (a : Option Addr) (n cap u : Nat) (w : World) (h : Box w q 29 #[.slice a n cap, .int .i64 u]) :
    Calls Try.prog 14 #[.pointer (some ⟨q, 0, none⟩)] w fun e w' => e = .returned (.bool (decide (n < u))) ∧ ∃ k, w' = w.drewN k := by
  have c0 : w.cell? ⟨q, 0, none⟩ = some (.slice a n cap) := h.cell 0
  have c1 : w.cell? ⟨q, 1, none⟩ = some (.int .i64 u) := h.cell 1
  clear h
  go_enter Try.func14, Try.ntmps14
  go_wp2
  go_quiet (fail)
  go_wp2
  go_ret
  exact ⟨rfl, _, rfl⟩

/-- Both tapes: u were read of the one, v of the document's. -/
structure Plays (W wr : World) (p g q : Nat) (a : Option Addr) (n cap : Nat) (z : Nat → Int) (u v : Nat) : Prop where
  one : One W wr p g n z u
  ref : Box wr q 29 #[.slice a n cap, .int .i64 v]
  q0 : W.heap.size ≤ q
  ne : q ≠ p
  ng : q ≠ g
section
variable {W wr w1 : World} {p g q n cap : Nat} {a : Option Addr} {z : Nat → Int} {u v u' v' : Nat}
theorem Plays.next (h : Plays W wr p g q a n cap z u v) (ho : Only (just p) wr w1) (ht : Tp w1 p g n z u') : Plays W w1 p g q a n cap z u' v := ⟨h.one.next ho ht, h.ref.only ho (just_ne h.ne), h.q0, h.ne, h.ng⟩
theorem Plays.rnext (h : Plays W wr p g q a n cap z u v) (ho : Only (just q) wr w1) (hb : Box w1 q 29 #[.slice a n cap, .int .i64 ((v' : Nat) : Int)]) : Plays W w1 p g q a n cap z u v' :=
  ⟨⟨h.one.tp.only ho (just_ne (Ne.symm h.ne)) (just_ne (Ne.symm h.ng)), h.one.p0, h.one.g0, below_only h.one.below ho h.one.below.size (fun i hi => just_ne (by have := h.q0; omega))⟩, hb, h.q0, h.ne, h.ng⟩
theorem Plays.drewN (h : Plays W wr p g q a n cap z u v) (k : Nat) : Plays W (wr.drewN k) p g q a n cap z u v := ⟨h.one.drewN k, h.ref, h.q0, h.ne, h.ng⟩
end
theorem quiet_eq {P : Program} {f : FuncId} {args : Array Value} {w : World} {n : Nat} {v : Value} (h : Calls P f args (w.drewN n) fun e w' => e = .returned v ∧ w.drewN n = w') :
    Calls P f args (w.drewN n) fun e w'' => e = .returned v ∧ ∃ m, w'' = w.drewN m := h.mono fun _ _ ⟨he, hm⟩ => ⟨he, n, hm.symm⟩

set_option maxRecDepth 100000 in
set_option maxHeartbeats 2000000 in
theorem plays_many (a : Option Addr) (n cap : Nat) (z : Nat → Int) (a2 : Option Addr) (T cap2 : Nat) (W : World) (hn : n * 8 ≤ 140737488351232) (hz : Nums .u64 W W.heap.size a n z) (hT : 60 < T) :
    Calls Try.prog 3 #[.slice a n cap, .slice a2 T cap2] W (Yes W) := by
  have HZ := Lib.hid hz
  clear hz
  go_enter Try.func3, Try.ntmps3
  go_wp2_with fail
  refine (shown_any W).mono ?_
  rintro e w0 ⟨rfl, hb0⟩
  have B0 := Lib.hid hb0
  clear hb0
  go_wp2_with fail
  refine (new_any a n cap z _ hn ((HZ.out.below B0.out).more B0.out.size)).mono ?_
  rintro e w1 ⟨p, g, rfl, hp, hg, ho, ht⟩
  have O1 := Lib.hid (One.new B0.out hp hg ho ht)
  clear ho ht hp hg
  go_wp2
  go_ret
  exact ⟨rfl, O1.out.below⟩

set_option maxRecDepth 100000 in
set_option maxHeartbeats 4000000 in
theorem plays_few (a : Option Addr) (n cap : Nat) (z : Nat → Int) (a2 : Option Addr) (T cap2 : Nat) (y : Nat → Int) (W : World) (hn : n * 8 ≤ 140737488351232) (hz : Nums .u64 W W.heap.size a n z) (hy : Nums .i64 W W.heap.size a2 T y) (hT : T ≤ 60) :
    Calls Try.prog 3 #[.slice a n cap, .slice a2 T cap2] W (Yes W) := by
  have HZ := Lib.hid hz
  have HY := Lib.hid hy
  clear hz hy
  go_enter Try.func3, Try.ntmps3
  go_wp2_with fail
  refine (shown_any W).mono ?_
  rintro e w0 ⟨rfl, hb0⟩
  have B0 := Lib.hid hb0
  clear hb0
  go_wp2_with fail
  refine (new_any a n cap z _ hn ((HZ.out.below B0.out).more B0.out.size)).mono ?_
  rintro e w1 ⟨p, g, rfl, hp, hg, ho, ht⟩
  have O1 := Lib.hid (One.new B0.out hp hg ho ht)
  clear ho ht hp hg
  have P1 := Lib.hid (show Plays W (w1.alloc (.cells #[.slice a n cap, .int .i64 0] 29)) p g w1.heap.size a n cap z 0 0 from ⟨⟨⟨O1.out.tp.box.alloc _, O1.out.tp.row.alloc _⟩, O1.out.p0, O1.out.g0, O1.out.below.alloc O1.out.below.size _⟩, Box.new _ _ _, O1.out.below.size, by have := O1.out.tp.box.lt; omega, by have := O1.out.tp.row.lt; omega⟩)
  go_wp2
  go_loopw [8] (fun i wr => ∃ k : Nat, i = .int .i64 k ∧ k ≤ T ∧ ∃ u : Nat, u ≤ 50 * k ∧ Plays W wr p g w1.heap.size a n cap z u u) (fun i _ => T - (intOf i).toNat)
  case atStart => exact ⟨0, rfl, Nat.zero_le _, 0, by omega, P1.out⟩
  case round =>
    obtain ⟨w9, hw9⟩ : ∃ x, x = wr := ⟨_, rfl⟩
    subst hw9
    obtain ⟨k, rfl, hk, u, hu, hP⟩ := hrel
    have HP := Lib.hid hP
    clear hP
    by_cases hlt : k < T
    · obtain ⟨b, off, rfl, hbW, hcy⟩ := HY.out.at hlt
      have cy : w9.cell? ⟨b, off + k, none⟩ = some (.int .i64 (y k)) := ((HP.out.one.below).cell (p := ⟨b, off + k, none⟩) hbW).trans hcy
      clear hcy
      obtain ⟨v, hv⟩ : ∃ v, y k = v := ⟨_, rfl⟩
      rw [hv] at cy
      clear hv
      rcases (show v < 1 ∨ (∃ m : Nat, v = m ∧ 1 ≤ m ∧ m ≤ 50) ∨ 50 < v from by
        by_cases h1 : v < 1
        · exact .inl h1
        · by_cases h2 : 50 < v
          · exact .inr (.inr h2)
          · exact .inr (.inl ⟨v.toNat, by omega, by omega, by omega⟩)) with h1 | ⟨m, rfl, h1, h2⟩ | h1
      · go_wp2_with fail
        refine (next_any p g n z u _ (by omega) HP.out.one.tp).mono ?_
        rintro e w2 ⟨rfl, ho, hs, htp⟩
        have P2 := Lib.hid (HP.out.next ho htp)
        clear ho hs htp
        go_wp2_with fail
        refine (rnext_any _ a n cap z u W.heap.size _ (by omega) P2.out.ref (HZ.out.below P2.out.one.below) P2.out.q0).mono ?_
        rintro e w3 ⟨rfl, ho, hbx⟩
        have P3 := Lib.hid (P2.out.rnext ho hbx)
        clear ho hbx
        go_wp2_with fail
        refine (take_none p g n z (u + 1) v _ h1 (by omega) P3.out.one.tp).mono ?_
        rintro e w4 ⟨rfl, ho, hs, htp, _⟩
        have P4 := Lib.hid (P3.out.next ho htp)
        clear ho hs htp
        have c5 : w4.cell? ⟨w1.heap.size, 1, none⟩ = some (.int .i64 ((u + 1 : Nat) : Int)) := P4.out.ref.cell 1
        go_wp2
        go_quiet (first | (go_at_call 12; exact quiet_eq (used_any p g n z (u + 1) _ (P4.out.one.tp.drewN _))) | (go_at_call 13; exact Calls.quiet_of (short_any p g n z (u + 1) _ (P4.out.one.tp.drewN _))) | (go_at_call 14; exact Calls.quiet_of (rshort_any _ a n cap (u + 1) _ (P4.out.ref.drewN _))))
        go_wp2
        go_roundw
        case rel => exact ⟨k + 1, by go_num, by omega, (u + 1), by omega, P4.out.drewN _⟩
        case measure => simp [intOf]; omega
      · skip
        go_wp2_with fail
        refine (take_any p g n z u m _ (by omega) (by omega) HP.out.one.tp).mono ?_
        rintro e w2 ⟨rfl, ho, hs, htp, hr⟩
        have P2 := Lib.hid (HP.out.next ho htp)
        have R2 := Lib.hid hr
        have hlq : w1.heap.size < w9.heap.size := HP.out.ref.lt
        clear ho hs htp hr
        go_wp2
        go_loopw [15] (fun i ws => ∃ j : Nat, i = .int .i64 j ∧ j ≤ m ∧ Plays W ws p g w1.heap.size a n cap z (u + m) (u + j) ∧ ws.rowIs w9.heap.size 30 m (fun i => .int .u64 (told n z (u + i)))) (fun i _ => m - (intOf i).toNat)
        case atStart => exact ⟨0, rfl, Nat.zero_le _, P2.out, R2.out⟩
        case round =>
          obtain ⟨j, rfl, hj, hP3, hR3⟩ := hrel
          have P3 := Lib.hid hP3
          have R3 := Lib.hid hR3
          clear hP3 hR3
          by_cases hlj : j < m
          · go_wp2_with fail
            refine (rnext_any _ a n cap z (u + j) W.heap.size _ (by omega) P3.out.ref (HZ.out.below P3.out.one.below) P3.out.q0).mono ?_
            rintro e w4 ⟨rfl, ho, hbx⟩
            have P4 := Lib.hid (P3.out.rnext ho hbx)
            have R4 := Lib.hid (ho.row R3.out (just_ne (by omega)))
            have cr : w4.cell? ⟨w9.heap.size, j, none⟩ = some (.int .u64 (told n z (u + j))) := R4.out.cell hlj
            clear ho hbx
            go_wp2
            go_roundw
            case rel => exact ⟨j + 1, by go_num, by omega, P4.out, R4.out⟩
            case measure => simp [intOf]; omega
          · obtain rfl : j = m := by omega
            have c5 : wr.cell? ⟨w1.heap.size, 1, none⟩ = some (.int .i64 (((u + j) : Nat) : Int)) := P3.out.ref.cell 1
            go_wp2
            go_quiet (first | (go_at_call 12; exact quiet_eq (used_any p g n z (u + j) _ (P3.out.one.tp.drewN _))) | (go_at_call 13; exact Calls.quiet_of (short_any p g n z (u + j) _ (P3.out.one.tp.drewN _))) | (go_at_call 14; exact Calls.quiet_of (rshort_any _ a n cap (u + j) _ (P3.out.ref.drewN _))))
            go_wp2
            go_roundw
            case rel => exact ⟨k + 1, by go_num, by omega, (u + j), by omega, P3.out.drewN _⟩
            case measure => simp [intOf]; omega
      · skip
        go_wp2_with fail
        refine (take_any p g n z u 50 _ (by omega) (by omega) HP.out.one.tp).mono ?_
        rintro e w2 ⟨rfl, ho, hs, htp, hr⟩
        have P2 := Lib.hid (HP.out.next ho htp)
        have R2 := Lib.hid hr
        have hlq : w1.heap.size < w9.heap.size := HP.out.ref.lt
        clear ho hs htp hr
        go_wp2
        go_loopw [15] (fun i ws => ∃ j : Nat, i = .int .i64 j ∧ j ≤ 50 ∧ Plays W ws p g w1.heap.size a n cap z (u + 50) (u + j) ∧ ws.rowIs w9.heap.size 30 50 (fun i => .int .u64 (told n z (u + i)))) (fun i _ => 50 - (intOf i).toNat)
        case atStart => exact ⟨0, rfl, Nat.zero_le _, P2.out, R2.out⟩
        case round =>
          obtain ⟨j, rfl, hj, hP3, hR3⟩ := hrel
          have P3 := Lib.hid hP3
          have R3 := Lib.hid hR3
          clear hP3 hR3
          by_cases hlj : j < 50
          · go_wp2_with fail
            refine (rnext_any _ a n cap z (u + j) W.heap.size _ (by omega) P3.out.ref (HZ.out.below P3.out.one.below) P3.out.q0).mono ?_
            rintro e w4 ⟨rfl, ho, hbx⟩
            have P4 := Lib.hid (P3.out.rnext ho hbx)
            have R4 := Lib.hid (ho.row R3.out (just_ne (by omega)))
            have cr : w4.cell? ⟨w9.heap.size, j, none⟩ = some (.int .u64 (told n z (u + j))) := R4.out.cell hlj
            clear ho hbx
            go_wp2
            go_roundw
            case rel => exact ⟨j + 1, by go_num, by omega, P4.out, R4.out⟩
            case measure => simp [intOf]; omega
          · obtain rfl : j = 50 := by omega
            have c5 : wr.cell? ⟨w1.heap.size, 1, none⟩ = some (.int .i64 (((u + 50) : Nat) : Int)) := P3.out.ref.cell 1
            go_wp2
            go_quiet (first | (go_at_call 12; exact quiet_eq (used_any p g n z (u + 50) _ (P3.out.one.tp.drewN _))) | (go_at_call 13; exact Calls.quiet_of (short_any p g n z (u + 50) _ (P3.out.one.tp.drewN _))) | (go_at_call 14; exact Calls.quiet_of (rshort_any _ a n cap (u + 50) _ (P3.out.ref.drewN _))))
            go_wp2
            go_roundw
            case rel => exact ⟨k + 1, by go_num, by omega, (u + 50), by omega, P3.out.drewN _⟩
            case measure => simp [intOf]; omega
    · go_wp2
      go_ret
      exact ⟨rfl, HP.out.one.below⟩

theorem plays_any (a : Option Addr) (n cap : Nat) (z : Nat → Int) (a2 : Option Addr) (T cap2 : Nat) (y : Nat → Int) (W : World) (hn : n * 8 ≤ 140737488351232) (hz : Nums .u64 W W.heap.size a n z) (hy : Nums .i64 W W.heap.size a2 T y) :
    Calls Try.prog 3 #[.slice a n cap, .slice a2 T cap2] W (Yes W) := by
  by_cases h : 60 < T
  · exact plays_many a n cap z a2 T cap2 W hn hz h
  · exact plays_few a n cap z a2 T cap2 y W hn hz hy (by omega)
end Go.Proofs.Ytmdlankeflnpgaa
