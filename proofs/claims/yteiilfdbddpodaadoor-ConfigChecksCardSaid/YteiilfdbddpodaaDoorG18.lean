/- Texts of ours put together: NetIter, NetCall. -/
import Derived.RangeFuncNested
import Derived.RangeFuncBound
import Derived.RangeFuncCalls
import Derived.RangeFuncLeaves
import Derived.Shelf.Abstract
import Derived.Shelf.RegionOpen
import Derived.WalkKit
import Derived.OwnWalkIn
import Derived.TacticsInMore
import Derived.LoopNIn
import Derived.LoopIn
import Derived.Test.YteiilfdbddpodaaDoorProg
import Derived.Test.YteiilfdbddpodaaDoorG3
import Derived.Test.YteiilfdbddpodaaDoorG0
import Derived.Test.YteiilfdbddpodaaDoorG5
/- The network as the program tells it: Right, the pairs of one distance, the function that is ranged over. Conditions: numbers as they are named. -/
namespace Go.Proofs.YteiilfdbddpodaaDoor
set_option maxRecDepth 100000
open Go.RowKit Go.Shelf
attribute [local go_sem] Oper.semAt_some

/-- Where no depth is asked a round does not ask for room. -/
theorem YieldAt.free {m : Nat} (m' : Nat) {P : Program} {l : Nat} {args : Array Value} {W : World} {R : Ending → World → Prop} (h : YieldAt Fence.wide m P l args W R) : YieldAt Fence.wide m' P l args W R := by
  obtain ⟨fn, tmps, assign, body, hy, hR⟩ := h
  exact ⟨fn, tmps, assign, body, hy, hR.1, fun c cs _ => hR.2 c cs (room_wide _)⟩

theorem no_depth (m : Nat) : Fence.wide.depth.isSome = true → 1 ≤ m := fun h => by cases h

/-- A pair of places of n. -/
def Place (n : Nat) : Type := { p : Pr // p.1 < p.2.1 ∧ p.2.1 < n }
def val {n : Nat} (x : Place n) : Pr := x.1
/-- A pair as a value. -/
def pairV (p : Pr) : Value := .agg #[.int .i64 (p.1 : Nat), .int .i64 (p.2.1 : Nat), .bool p.2.2]
def encP {n : Nat} (x : Place n) : Array Value := #[pairV (val x)]

theorem and_two (i q : Nat) : i &&& 2 ^ q = 0 ↔ i / 2 ^ q % 2 = 0 := by
  have ht : i.testBit q = decide (i / 2 ^ q % 2 = 1) := Nat.testBit_eq_decide_div_mod_eq
  constructor
  · intro h
    have h1 : (i &&& 2 ^ q).testBit q = false := by rw [h]; simp
    rw [Nat.testBit_and, Nat.testBit_two_pow_self, Bool.and_true, ht] at h1
    have := of_decide_eq_false h1
    omega
  · intro h
    apply Nat.eq_of_testBit_eq
    intro x
    rw [Nat.testBit_and, Nat.testBit_two_pow, Nat.zero_testBit]
    by_cases hx : q = x
    · subst hx; rw [ht, h]; simp
    · simp [hx]
theorem and_i64' (a b : Nat) (ha : a < 9223372036854775808) (hb : b < 9223372036854775808) : bits .and .i64 (a : Int) (b : Int) = ((a &&& b : Nat) : Int) := and_i64 a b ha hb
theorem low_bit (i q : Nat) (hi : i < 4096) (hq : 2 ^ q < 4096) : (bits .and .i64 (i : Int) ((2 ^ q : Nat) : Int) == 0) = lowB (2 ^ q) i := by
  rw [and_i64 i (2 ^ q) (by omega) (by omega)]
  unfold lowB
  have := and_two i q
  show decide (_ = _) = _
  rw [decide_eq_decide]
  constructor
  · intro h; exact this.1 (by omega)
  · intro h; have := this.2 h; omega
theorem up_bit (i q : Nat) (hi : i < 4096) (hq : 2 ^ q < 4096) : (bits .and .i64 (i : Int) ((2 ^ q : Nat) : Int) == 0) = upOf (2 ^ q) i := low_bit i q hi hq

/-- Between two pairs of one distance. -/
def StAt {n : Nat} (k j : Nat) (pre : List (Place n)) (J : List (Place n) → World → Prop) (Kp : World → World → Prop) (W : World) (i : Nat) (wr : World) : Prop :=
  i ≤ n ∧ ∃ r : List (Place n), r.map val = pre.map val ++ stageL i k j ∧ J r wr ∧ Kp W wr
section
variable {n : Nat} {J Jx : List (Place n) → World → Prop} {Kp : World → World → Prop}
theorem StAt.start {k j : Nat} {pre : List (Place n)} {W : World} (hr : ∀ W, Kp W W) (h : J pre W) : StAt k j pre J Kp W 0 W := ⟨by omega, pre, by simp [stageL], h, hr W⟩
theorem StAt.skip {k j i : Nat} {pre : List (Place n)} {W wr : World} (h : StAt k j pre J Kp W i wr) (hi : i < n) (hl : lowB j i = false) : StAt k j pre J Kp W (i + 1) wr := by
  obtain ⟨h1, r, h2, h3, h4⟩ := h
  exact ⟨hi, r, by rw [h2, stageL_succ, hl]; simp, h3, h4⟩
end
theorem pair_in {k j q i n : Nat} (hj : 2 ^ q = j) (hdv : 2 * j ∣ n) (hi : i < n) (hl : lowB j i = true) : (mkP k j i).1 < (mkP k j i).2.1 ∧ (mkP k j i).2.1 < n := by
  have h0 : 0 < j := by rw [← hj]; exact two_pos q
  refine stageL_within (k := k) h0 hdv _ ?_
  unfold stageL
  simp only [List.mem_map, List.mem_filter, List.mem_range]
  exact ⟨i, ⟨hi, hl⟩, rfl⟩
theorem stageL_mono (k j : Nat) {i n : Nat} (h : i ≤ n) : (stageL i k j).length ≤ (stageL n k j).length := by
  induction n with
  | zero => rw [show i = 0 by omega]; exact Nat.le_refl _
  | succ n ih =>
    rcases Nat.lt_or_ge n i with h1 | h1
    · rw [show i = n + 1 by omega]; exact Nat.le_refl _
    · have := ih h1
      rw [stageL_succ, List.length_append]; omega
theorem stage_room {k j i n N : Nat} {r pre : List (Place n)} (hr : r.map val = pre.map val ++ stageL i k j) (hN : pre.length + (stageL n k j).length ≤ N) (hi : i < n) (hl : lowB j i = true) : r.length < N := by
  have h1 := congrArg List.length hr
  have h2 := stageL_mono k j (i := i + 1) (n := n) hi
  rw [stageL_succ, hl] at h2
  simp at h1 h2
  omega
/-- Is there a network of so many places? -/
def isNet (n : Int) : Bool := (List.range 11).any fun p => n == ((2 ^ p : Nat) : Int)
theorem isNet_iff (n : Int) : isNet n = true ↔ ∃ p, p ≤ 10 ∧ n = ((2 ^ p : Nat) : Int) := by
  unfold isNet
  rw [List.any_eq_true]
  constructor
  · rintro ⟨p, hp, h⟩
    exact ⟨p, by have := List.mem_range.1 hp; omega, by simpa using h⟩
  · rintro ⟨p, hp, h⟩
    exact ⟨p, List.mem_range.2 (by omega), by simpa using h⟩
theorem two_le (p : Nat) (h : p ≤ 10) : 2 ^ p ≤ 1024 := Nat.pow_le_pow_right (by decide) h
theorem isNet_rng {n : Int} (h : isNet n = true) : 1 ≤ n ∧ n ≤ 1024 := by
  obtain ⟨p, hp, rfl⟩ := (isNet_iff n).1 h
  have := two_le p hp
  have := two_pos p
  omega
theorem net_and : ∀ k : Nat, k < 1025 → 1 ≤ k → ((k &&& (k - 1)) == 0) = isNet (k : Int) := by decide +kernel
theorem right_bits (n : Int) (h0 : 1 ≤ n) (h1 : n ≤ 1024) : (bits .and .i64 n (n - 1) == 0) = isNet n := by
  obtain ⟨k, rfl⟩ := Int.eq_ofNat_of_zero_le (a := n) (by omega)
  rw [show ((k : Int) - 1) = ((k - 1 : Nat) : Int) by omega, and_i64 _ _ (by omega) (by omega), ← net_and k (by omega) (by omega)]
  show decide (_ = _) = decide (_ = _)
  rw [decide_eq_decide]
  constructor <;> (intro h; omega)
/-- The box of the captured number stays. -/
def KB (b : Nat) (n : Int) (W W' : World) : Prop := Boxed W b 3 (.int .i64 n) → Boxed W' b 3 (.int .i64 n)
theorem KB.refl (b : Nat) (n : Int) (W : World) : KB b n W W := id
theorem KB.trans {b : Nat} {n : Int} {A B C : World} (h : KB b n A B) (k : KB b n B C) : KB b n A C := fun x => k (h x)
theorem KB.book {b : Nat} {n : Int} {w : World} (W : World) (l : Nat) (o o' : Obj) (_ : w.heap.size ≤ l) (h : W.heap[l]? = some o) (hc : o.isCells = false) (_ : o.isWalk = false) : KB b n W (W.putObj l o') := fun hb =>
  hb.kept (grownBy_putObj' W l o') (fun e => by
    cases e
    have := (show W.heap[b]? = _ from hb).symm.trans h
    cases this
    cases hc)
/-- Behind c rounds; within one, d distances being left. -/
def PhAt {n : Nat} (b : Nat) (J : List (Place n) → World → Prop) (c : Nat) (wr : World) : Prop :=
  Boxed wr b 3 (.int .i64 n) ∧ ∃ r : List (Place n), r.map val = phasesL n c ∧ J r wr
def MgAt {n : Nat} (b : Nat) (J : List (Place n) → World → Prop) (c d : Nat) (wr : World) : Prop :=
  d ≤ c + 1 ∧ Boxed wr b 3 (.int .i64 n) ∧ ∃ r : List (Place n), r.map val ++ mergeL n (2 ^ (c + 1)) d = phasesL n (c + 1) ∧ J r wr
theorem MgAt.start {n : Nat} {b : Nat} {J : List (Place n) → World → Prop} {c : Nat} {wr : World} (h : PhAt b J c wr) : MgAt b J c (c + 1) wr := by
  obtain ⟨hb, r, hr, hJ⟩ := h
  exact ⟨Nat.le_refl _, hb, r, by rw [hr]; rfl, hJ⟩
theorem MgAt.done {n : Nat} {b : Nat} {J : List (Place n) → World → Prop} {c : Nat} {wr : World} (h : MgAt b J c 0 wr) : PhAt b J (c + 1) wr := by
  obtain ⟨_, hb, r, hr, hJ⟩ := h
  exact ⟨hb, r, by rw [← hr]; simp [mergeL], hJ⟩
theorem MgAt.next {n : Nat} {b : Nat} {J : List (Place n) → World → Prop} {c d : Nat} {wr W' : World} {r : List (Place n)} (hd : d + 1 ≤ c + 1) (hb : Boxed wr b 3 (.int .i64 n))
    (hr : r.map val ++ mergeL n (2 ^ (c + 1)) (d + 1) = phasesL n (c + 1)) (h : StAt (2 ^ (c + 1)) (2 ^ d) r J (KB b n) wr n W') : MgAt b J c d W' := by
  obtain ⟨_, r', h1, h2, h3⟩ := h
  refine ⟨by omega, h3 hb, r', ?_, h2⟩
  rw [h1, ← hr, List.append_assoc]; rfl
theorem merge_room {n c d P : Nat} {r : List (Place n)} (hr : r.map val ++ mergeL n (2 ^ (c + 1)) (d + 1) = phasesL n (c + 1)) (hc : c < P) (hl : ∀ x y, x ≤ y → (phasesL n x).length ≤ (phasesL n y).length) :
    r.length + (stageL n (2 ^ (c + 1)) (2 ^ d)).length ≤ (phasesL n P).length := by
  have h1 := congrArg List.length hr
  have h2 := hl (c + 1) P (by omega)
  rw [List.length_append, mergeL, List.length_append] at h1
  simp at h1
  omega
theorem phasesL_mono (n : Nat) : ∀ x y, x ≤ y → (phasesL n x).length ≤ (phasesL n y).length := by
  intro x y h
  induction y with
  | zero => rw [show x = 0 by omega]; exact Nat.le_refl _
  | succ y ih =>
    rcases Nat.lt_or_ge y x with h1 | h1
    · rw [show x = y + 1 by omega]; exact Nat.le_refl _
    · have := ih h1
      rw [phasesL, List.length_append]; omega
/-- Half of a power of two, the last one nothing. -/
def hf (d : Nat) : Nat := 2 ^ d / 2
theorem half_two (d : Nat) : 2 ^ (d + 1) / 2 = 2 ^ d := by rw [Nat.pow_succ, Nat.mul_div_cancel _ (by decide)]
/-- Which pairs there are, of a number of places that is right or not: told of places of k, which is n, or none. -/
structure Net (n : Int) (k : Nat) (ps : List Pr) : Prop where
  is : (∃ P, P ≤ 10 ∧ n = ((2 ^ P : Nat) : Int) ∧ k = 2 ^ P ∧ ps = netL P) ∨ (isNet n = false ∧ k = 0 ∧ ps = [])
end Go.Proofs.YteiilfdbddpodaaDoor

/- What the callers of the network share: how many pairs there are at most, and that each number is one of a network or of none. -/
namespace Go.Proofs.YteiilfdbddpodaaDoor
set_option maxRecDepth 100000
open Go.RowKit Go.Shelf

theorem zip_one (t : Tmp) (v : Value) (l : List Value) : ((#[t] : Array Tmp).zip #[v]).foldl (fun t (p, v) => t.setIfInBounds p v) l.toArray = (l.set t v).toArray := by
  simp
theorem Net.len {n : Int} {k : Nat} {ps : List Pr} (h : Net n k ps) : ps.length ≤ 28160 := by
  rcases h.is with ⟨P, hP, _, _, rfl⟩ | ⟨_, _, rfl⟩
  · have h1 := netL_len P
    have h2 := two_le P hP
    have h3 : P * (P + 1) ≤ 10 * 11 := Nat.mul_le_mul hP (by omega)
    have h4 : P * (P + 1) * 2 ^ P ≤ 10 * 11 * 1024 := Nat.mul_le_mul h3 h2
    omega
  · simp
theorem Net.of (n : Int) : ∃ k ps, Net n k ps := by
  cases h : isNet n
  · exact ⟨0, [], ⟨.inr ⟨h, rfl, rfl⟩⟩⟩
  · obtain ⟨p, hp, e⟩ := (isNet_iff n).1 h
    exact ⟨_, _, ⟨.inl ⟨p, hp, e, rfl, rfl⟩⟩⟩
end Go.Proofs.YteiilfdbddpodaaDoor
