/- What the laws of layer 9 share: same, filled, as, pick; Deal of a shape that is not right, or of another number of items. -/
import Derived.Test.YtnpddimepcblkaaDealDeal
import Derived.Test.YtnpddimepcblkaaHeld
namespace Go.Proofs.Ytnpddimepcblkaa
open Go.RowKit Go.ChangeShapes Go.WideShapes Go.ChangeAt

set_option maxHeartbeats 1000000 in
theorem same_nums (a b : Option Addr) (n c d B C : Nat) (z : Nat → Int) (w : World) (hn : n ≤ 9223372036854775807) (ha : Nums .i64 w B a n z) (hb : Nums .i64 w C b n z) :
    Calls Try.prog 13 #[.slice a n c, .slice b n d] w fun e w' => e = .returned (.bool true) ∧ ∃ k, w' = w.drewN k := by
  have HA := Lib.hid ha
  have HB := Lib.hid hb
  clear ha hb
  go_enter Try.func13, Try.ntmps13
  go_wp2_with fail
  go_loopw [5] (fun v wr => ∃ i : Nat, v = .int .i64 i ∧ i ≤ n ∧ ∃ k, wr = w.drewN k) (fun v _ => n - (intOf v).toNat)
  case atStart => exact ⟨0, rfl, by omega, 0, rfl⟩
  case round =>
    obtain ⟨i, rfl, hle, hwk⟩ := hrel
    have HW := Lib.hid hwk
    by_cases hlt : i < n
    · obtain ⟨k, hk⟩ := hwk
      obtain ⟨b1, o1, rfl, _, c1⟩ := (show Nums .i64 (w.drewN k) B a n z from HA.out).at hlt
      obtain ⟨b2, o2, rfl, _, c2⟩ := (show Nums .i64 (w.drewN k) C b n z from HB.out).at hlt
      rw [← hk] at c1 c2
      clear hk
      go_wp2_with fail
      go_quiet (fail)
      go_wp2_with fail
      go_roundw
      case rel =>
        obtain ⟨k, hk⟩ := HW.out
        exact ⟨i + 1, by go_num, by omega, k + nq, by rw [hk]; simp [World.drewN, Nat.add_assoc]⟩
      case measure => simp [intOf]; omega
    · clear hwk
      go_wp2_with fail
      go_ret
      exact ⟨rfl, HW.out⟩
theorem Nums.congr9 {k : IntKind} {w : World} {B : Nat} {a : Option Addr} {n : Nat} {z z' : Nat → Int} (h : Nums k w B a n z) (e : ∀ j, j < n → z j = z' j) : Nums k w B a n z' := fun hn => by
  obtain ⟨b, off, ea, hb, hc⟩ := h hn
  exact ⟨b, off, ea, hb, fun j hj => by rw [← e j hj]; exact hc j hj⟩
theorem below_same {B : Nat} {w w' : World} (h : ∃ k, w' = w.drewN k) : Below B w w' := by
  obtain ⟨k, rfl⟩ := h
  exact below_drewN (Below.refl _ _) k
set_option maxHeartbeats 1000000 in
theorem deal_no (D S T : Int) (n c : Nat) (a : Option Addr) (w : World) (h : isSh D S T = false) :
    Calls Try.prog 8 #[.agg #[.int .i64 D, .int .i64 S, .int .i64 T], .slice a n c] w fun e w' => e = .returned (.tuple #[.slice none 0 0, .slice none 0 0]) ∧ Below w.heap.size w w' := by
  go_enter Try.func8, Try.ntmps8
  go_wp2_with fail
  refine (deal_right D S T _).mono ?_
  rintro e w1 ⟨rfl, hb1⟩
  rw [h]
  have HB := Lib.hid (((Below.refl _ w).alloc (Nat.le_refl _) (.cells #[.int .i64 D, .int .i64 S, .int .i64 T] 23)).trans (hb1.mono (by simp)))
  clear hb1
  go_wp2_with fail
  go_ret2
  exact ⟨rfl, HB.out⟩
set_option maxHeartbeats 1000000 in
theorem deal_many (D S T L m n c : Nat) (a : Option Addr) (w : World) (h1 : D ≤ 10) (h2 : 1 ≤ S) (h3 : S ≤ 8) (h4 : 1 ≤ T) (h5 : T ≤ 64) (hL : (D + 1) * S = L) (hm : L + T + 1 = m) (hn : n ≠ m) :
    Calls Try.prog 8 #[.agg #[.int .i64 (D : Int), .int .i64 (S : Int), .int .i64 (T : Int)], .slice a n c] w fun e w' => e = .returned (.tuple #[.slice none 0 0, .slice none 0 0]) ∧ Below w.heap.size w w' := by
  have hsh := isSh_yes h1 h2 h3 h4 h5
  have HP := Lib.hid (fun W => places_in D S T L m h1 h2 h3 h4 h5 hL hm W)
  have hne : ((n : Int) != (m : Int)) = true := by rw [bne_iff_ne]; omega
  clear hL hm
  go_enter Try.func8, Try.ntmps8
  go_wp2_with fail
  refine (deal_right (D : Int) (S : Int) (T : Int) _).mono ?_
  rintro e w1 ⟨rfl, hb1⟩
  rw [hsh]
  have hbx := (Box.new w 23 #[.int .i64 (D : Int), .int .i64 (S : Int), .int .i64 (T : Int)]).of (hb1.block _ (by simp))
  have HB := Lib.hid (((Below.refl _ w).alloc (Nat.le_refl _) (.cells #[.int .i64 (D : Int), .int .i64 (S : Int), .int .i64 (T : Int)] 23)).trans (hb1.mono (by simp)))
  have c0 := hbx.cell 0
  have c1 := hbx.cell 1
  have c2 := hbx.cell 2
  clear hb1 hbx
  go_wp2_with fail
  refine (HP.out _).mono ?_
  rintro e w2 ⟨rfl, hb2⟩
  have HB2 := Lib.hid (HB.out.trans (hb2.mono HB.out.size))
  clear hb2 HB c0 c1 c2
  go_wp2_with fail
  go_ret2
  exact ⟨rfl, HB2.out⟩
/-- Items as cells. -/
def itl (l : List It) : List Value := l.flatMap fun x => [.int .u64 x.1, .int .i64 x.2]
theorem itl_len (l : List It) : (itl l).length = l.length * 2 := by
  induction l with
  | nil => rfl
  | cons x l ih => unfold itl at *; rw [List.flatMap_cons, List.length_append, ih, List.length_cons]; simp; omega
theorem itl_snoc (l : List It) (x : It) : itl (l ++ [x]) = itl l ++ [.int .u64 x.1, .int .i64 x.2] := by unfold itl; rw [List.flatMap_append]; simp
theorem itl_one (l : List It) : ∀ u ∈ itl l, u.oneCell' = true := by
  intro u hu
  unfold itl at hu
  obtain ⟨x, _, hx⟩ := List.mem_flatMap.1 hu
  simp only [List.mem_cons, List.not_mem_nil, or_false] at hx
  rcases hx with rfl | rfl <;> rfl
theorem itl_at : ∀ (l : List It) (j : Nat) (h : j < l.length), (itl l)[j * 2]? = some (.int .u64 l[j].1) ∧ (itl l)[j * 2 + 1]? = some (.int .i64 l[j].2)
  | x :: l, 0, _ => ⟨rfl, rfl⟩
  | x :: l, j + 1, h => by
    have := itl_at l j (by simpa using h)
    have e : itl (x :: l) = .int .u64 x.1 :: .int .i64 x.2 :: itl l := rfl
    rw [e, show (j + 1) * 2 = j * 2 + 1 + 1 by omega]
    simpa using this
/-- The first n of them. -/
def lsI (n : Nat) (y : Nat → It) : List It := (List.range n).map y
theorem lsI_len (n : Nat) (y : Nat → It) : (lsI n y).length = n := by simp [lsI]
theorem lsI_succ (n : Nat) (y : Nat → It) : lsI (n + 1) y = lsI n y ++ [y n] := by simp [lsI, List.range_succ]
theorem own_items {w : World} {base : Nat} {e : TypeId} {A : Option Addr} {n cap : Nat} {y : Nat → It} (h : w.ownsRow base e 2 (.slice A n cap) n (itl (lsI n y))) : Its w w.heap.size A n y := fun hn => by
  have h' := h
  rcases h.2 with ⟨h1, h0⟩ | ⟨g, cap', cur, e, hb, hg, _⟩
  · omega
  · injection e with e1
    subst e1
    refine ⟨g, 0, rfl, (Array.getElem?_eq_some_iff.1 hg).1, fun j hj => ?_⟩
    have hl := itl_at (lsI n y) j (by rw [lsI_len]; exact hj)
    have e0 : (lsI n y)[j]'(by rw [lsI_len]; exact hj) = y j := by simp [lsI]
    rw [e0] at hl
    have q0 := h'.cells (g := g) rfl (j * 2) _ hl.1
    have q1 := h'.cells (g := g) rfl (j * 2 + 1) _ hl.2
    rw [add_plain] at q0 q1
    rw [Nat.zero_add] at q0 q1 ⊢
    exact ⟨q0, q1⟩
/-- A row of items of the call's own that grows. -/
structure ItAt (t : TypeId) (w1 : World) (v : Value) (l : List It) (wr : World) : Prop where
  own : wr.ownsRow w1.heap.size t 2 v l.length (itl l)
  below : Below w1.heap.size w1 wr
theorem ItAt.nil (t : TypeId) (w : World) : ItAt t w (.slice none 0 0) [] w := ⟨World.ownsRow_nil _ _ _ _, Below.refl _ _⟩
theorem ItAt.grow {t : TypeId} {w1 wr wx : World} {v : Value} {l : List It} (h : ItAt t w1 v l wr) (hb : Below wr.heap.size wr wx) : ItAt t w1 v l wx :=
  ⟨row_stay h.own (fun b _ hl => hb.block b hl), h.below.trans (hb.mono h.below.size)⟩
theorem ItAt.next {t u : TypeId} {w1 : World} {v : Value} {l : List It} {x : It} {A : Option Addr} {cap : Nat} {wx w7 : World} (h : ItAt t w1 v l wx)
    (ho : w7.ownsRow w1.heap.size t 2 (.slice A (l.length + 1) cap) (l.length + 1) (itl l ++ [.int .u64 x.1, .int .i64 x.2])) (hg : (wx.alloc (.cells #[.int .u64 x.1, .int .i64 x.2] u)).grownBy w7 v.ownBlock) :
    ItAt t w1 (.slice A (l.length + 1) cap) (l ++ [x]) w7 := by
  constructor
  · rw [List.length_append, itl_snoc]
    exact ho
  · exact (h.below.alloc h.below.size _).grown hg (by have := h.below.size; simp; omega) (fun b e => (own_lt h.own e).1)
end Go.Proofs.Ytnpddimepcblkaa
