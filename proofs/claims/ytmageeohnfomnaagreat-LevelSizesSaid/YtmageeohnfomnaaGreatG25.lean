/- Texts of ours put together: NetIter, NetCall. -/
import Derived.Below
import Derived.ChangeSlices
import Derived.Deep.Draws
import Derived.Deep.OwnRows
import Derived.Laws.BitsAllLaws
import Derived.Lib.BitFns
import Derived.Lib.Hide
import Derived.LoopIn
import Derived.LoopNIn
import Derived.OpenShut
import Derived.OwnWalkIn
import Derived.ProofKit
import Derived.RangeFuncBound
import Derived.RangeFuncCalls
import Derived.RangeFuncLeaves
import Derived.RangeFuncNested
import Derived.RowKit3
import Derived.Shelf.Abstract
import Derived.Shelf.RegionOpen
import Derived.SizedLaws
import Derived.TacticsInMore
import Derived.WalkKit
import Derived.Test.YtmageeohnfomnaaGreatProg
import Derived.Test.YtmageeohnfomnaaGreatG2
import Derived.Test.YtmageeohnfomnaaGreatG9
import Derived.Test.YtmageeohnfomnaaGreatG6
namespace Go.Proofs.YtmageeohnfomnaaGreat
set_option maxRecDepth 100000
open Go.RowKit Go.Shelf
attribute [local go_sem] Oper.semAt_some

theorem YieldAt.free {m : Nat} (m' : Nat) {P : Program} {l : Nat} {args : Array Value} {W : World} {R : Ending → World → Prop} (h : YieldAt Fence.wide m P l args W R) : YieldAt Fence.wide m' P l args W R := by
  obtain ⟨fn, tmps, assign, body, hy, hR⟩ := h
  exact ⟨fn, tmps, assign, body, hy, hR.1, fun c cs _ => hR.2 c cs (room_wide _)⟩

theorem no_depth (m : Nat) : Fence.wide.depth.isSome = true → 1 ≤ m := fun h => by cases h

def Place (n : Nat) : Type := { p : Pr // p.1 < p.2.1 ∧ p.2.1 < n }
def val {n : Nat} (x : Place n) : Pr := x.1
def pairV (p : Pr) : Value := .agg #[.int .i64 (p.1 : Nat), .int .i64 (p.2.1 : Nat), .bool p.2.2]
def encP {n : Nat} (x : Place n) : Array Value := #[pairV (val x)]

theorem and_two (i q : Nat) : i &&& 2 ^ q = 0 ↔ i / 2 ^ q % 2 = 0 := by
  have ht : i.testBit q = decide (i / 2 ^ q % 2 = 1) := Nat.testBit_eq_decide_div_mod_eq
  constructor
  · intro h
    have h1 : (i &&& 2 ^ q).testBit q = false := by rw [h]; simp
    rw [Nat.testBit_and, Nat.testBit_two_pow_self, Bool.and_true, ht] at h1
    have := of_decide_eq_false h1
    omega
  · intro h
    apply Nat.eq_of_testBit_eq
    intro x
    rw [Nat.testBit_and, Nat.testBit_two_pow, Nat.zero_testBit]
    by_cases hx : q = x
    · subst hx; rw [ht, h]; simp
    · simp [hx]
theorem low_bit (i q : Nat) (hi : i < 4096) (hq : 2 ^ q < 4096) : (bits .and .i64 (i : Int) ((2 ^ q : Nat) : Int) == 0) = lowB (2 ^ q) i := by
  rw [and_i64 i (2 ^ q) (by omega) (by omega)]
  unfold lowB
  have := and_two i q
  show decide (_ = _) = _
  rw [decide_eq_decide]
  constructor
  · intro h; exact this.1 (by omega)
  · intro h; have := this.2 h; omega
theorem up_bit (i q : Nat) (hi : i < 4096) (hq : 2 ^ q < 4096) : (bits .and .i64 (i : Int) ((2 ^ q : Nat) : Int) == 0) = upOf (2 ^ q) i := low_bit i q hi hq

def StAt {n : Nat} (k j : Nat) (pre : List (Place n)) (J : List (Place n) → World → Prop) (Kp : World → World → Prop) (W : World) (i : Nat) (wr : World) : Prop :=
  i ≤ n ∧ ∃ r : List (Place n), r.map val = pre.map val ++ stageL i k j ∧ J r wr ∧ Kp W wr
section
variable {n : Nat} {J Jx : List (Place n) → World → Prop} {Kp : World → World → Prop}
theorem StAt.start {k j : Nat} {pre : List (Place n)} {W : World} (hr : ∀ W, Kp W W) (h : J pre W) : StAt k j pre J Kp W 0 W := ⟨by omega, pre, by simp [stageL], h, hr W⟩
theorem StAt.skip {k j i : Nat} {pre : List (Place n)} {W wr : World} (h : StAt k j pre J Kp W i wr) (hi : i < n) (hl : lowB j i = false) : StAt k j pre J Kp W (i + 1) wr := by
  obtain ⟨h1, r, h2, h3, h4⟩ := h
  exact ⟨hi, r, by rw [h2, stageL_succ, hl]; simp, h3, h4⟩
end
theorem pair_in {k j q i n : Nat} (hj : 2 ^ q = j) (hdv : 2 * j ∣ n) (hi : i < n) (hl : lowB j i = true) : (mkP k j i).1 < (mkP k j i).2.1 ∧ (mkP k j i).2.1 < n := by
  have h0 : 0 < j := by rw [← hj]; exact two_pos q
  refine stageL_within (k := k) h0 hdv _ ?_
  unfold stageL
  simp only [List.mem_map, List.mem_filter, List.mem_range]
  exact ⟨i, ⟨hi, hl⟩, rfl⟩
theorem stageL_mono (k j : Nat) {i n : Nat} (h : i ≤ n) : (stageL i k j).length ≤ (stageL n k j).length := by
  induction n with
  | zero => rw [show i = 0 by omega]; exact Nat.le_refl _
  | succ n ih =>
    rcases Nat.lt_or_ge n i with h1 | h1
    · rw [show i = n + 1 by omega]; exact Nat.le_refl _
    · have := ih h1
      rw [stageL_succ, List.length_append]; omega
theorem stage_room {k j i n N : Nat} {r pre : List (Place n)} (hr : r.map val = pre.map val ++ stageL i k j) (hN : pre.length + (stageL n k j).length ≤ N) (hi : i < n) (hl : lowB j i = true) : r.length < N := by
  have h1 := congrArg List.length hr
  have h2 := stageL_mono k j (i := i + 1) (n := n) hi
  rw [stageL_succ, hl] at h2
  simp at h1 h2
  omega
set_option maxHeartbeats 2000000 in
theorem stage_in (m l n q p N : Nat) (hn : n ≤ 1024) (hdv : 2 * 2 ^ q ∣ n) (hq : 2 ^ q < 2048) (hp : 2 ^ p < 4096) (J Jx : List (Place n) → World → Prop) (Kp : World → World → Prop) (hKr : ∀ W, Kp W W) (hKt : ∀ {A B C : World}, Kp A B → Kp B C → Kp A C)
    (hY : ∀ m pre x W, J pre W → pre.length < N → YieldAt Fence.wide m Tryz.prog l (encP x) W fun e W' =>
      (e = .returned (.bool true) ∧ J (pre ++ [x]) W' ∧ Kp W W') ∨ (e = .returned (.bool false) ∧ Jx (pre ++ [x]) W'))
    (pre : List (Place n)) (W : World) (h0 : J pre W) (hN : pre.length + (stageL n (2 ^ p) (2 ^ q)).length ≤ N) :
    CallsIn Fence.wide m Tryz.prog 92 #[.int .i64 n, .int .i64 (2 ^ p : Nat), .int .i64 (2 ^ q : Nat), .func (.yield l) #[] #[]] W fun e W' =>
      (e = .returned (.bool true) ∧ StAt (2 ^ p) (2 ^ q) pre J Kp W n W') ∨ (e = .returned (.bool false) ∧ ∃ r, Jx r W') := by
  refine callsIn_of_wp Tryz.func92 rfl trivial ?_ rfl
  simp only [Tryz.ntmps92, List.size_toArray, List.length_cons, List.length_nil, Nat.reduceAdd, Nat.reduceSub, Array.replicate_succ, Array.replicate_zero, List.push_toArray, List.append_toArray, List.nil_append, List.cons_append]
  have hst := StAt.start (k := 2 ^ p) (j := 2 ^ q) hKr h0
  generalize hj : 2 ^ q = j at *
  generalize hk : 2 ^ p = k at *
  gi_wp2
  gi_loopw [11] (fun v wr => ∃ i : Nat, v = .int .i64 i ∧ StAt k j pre J Kp W i wr) (fun v _ => n - (intOf v).toNat)
  case atStart => exact ⟨0, rfl, hst⟩
  case round =>
    obtain ⟨i, rfl, hS⟩ := hrel
    have hle := hS.1
    by_cases hlt : i < n
    · have hL := low_bit i q (by omega) (by rw [hj]; omega)
      have hU := up_bit i p (by omega) (by rw [hk]; omega)
      rw [hj] at hL
      rw [hk] at hU
      cases hb : lowB j i
      · rw [hb] at hL
        gi_wp2
        refine ⟨fun _ h => (by cases h), ?_⟩
        gi_wp2
        go_roundw
        case rel => exact ⟨i + 1, by go_num, hS.skip hlt hb⟩
        case measure => simp [intOf]; omega
      · rw [hb] at hL
        obtain ⟨_, r, hr, hJ, hK⟩ := hS
        have hw : (mkP k j i).1 < (mkP k j i).2.1 ∧ (mkP k j i).2.1 < n := pair_in hj hdv hlt hb
        have hlen : r.length < N := stage_room hr hN hlt hb
        obtain ⟨fn, tmps, assign, body, hy, hR⟩ := hY (m - 1) r ⟨mkP k j i, hw⟩ wr hJ hlen
        simp only [encP, pairV, val, mkP, Int.natCast_add] at hy
        gi_wp2
        refine ⟨no_depth _, hR.mono ?_⟩
        rintro e W3 (⟨rfl, hJ3, hk3⟩ | ⟨rfl, hJx3⟩)
        · gi_wp2
          go_roundw
          case rel => exact ⟨i + 1, by go_num, hlt, r ++ [⟨mkP k j i, hw⟩], by rw [List.map_append, hr, stageL_succ, hb, List.append_assoc]; rfl, hJ3, hKt hK hk3⟩
          case measure => simp [intOf]; omega
        · gi_wp2
          go_ret
          exact .inr ⟨rfl, _, hJx3⟩
    · gi_wp2
      go_ret
      exact .inl ⟨rfl, by rwa [show i = n by omega] at hS⟩
def isNet (n : Int) : Bool := (List.range 11).any fun p => n == ((2 ^ p : Nat) : Int)
theorem isNet_iff (n : Int) : isNet n = true ↔ ∃ p, p ≤ 10 ∧ n = ((2 ^ p : Nat) : Int) := by
  unfold isNet
  rw [List.any_eq_true]
  constructor
  · rintro ⟨p, hp, h⟩
    exact ⟨p, by have := List.mem_range.1 hp; omega, by simpa using h⟩
  · rintro ⟨p, hp, h⟩
    exact ⟨p, List.mem_range.2 (by omega), by simpa using h⟩
theorem two_le (p : Nat) (h : p ≤ 10) : 2 ^ p ≤ 1024 := Nat.pow_le_pow_right (by decide) h
theorem isNet_rng {n : Int} (h : isNet n = true) : 1 ≤ n ∧ n ≤ 1024 := by
  obtain ⟨p, hp, rfl⟩ := (isNet_iff n).1 h
  have := two_le p hp
  have := two_pos p
  omega
theorem net_and : ∀ k : Nat, k < 1025 → 1 ≤ k → ((k &&& (k - 1)) == 0) = isNet (k : Int) := by decide +kernel
theorem right_bits (n : Int) (h0 : 1 ≤ n) (h1 : n ≤ 1024) : (bits .and .i64 n (n - 1) == 0) = isNet n := by
  obtain ⟨k, rfl⟩ := Int.eq_ofNat_of_zero_le (a := n) (by omega)
  rw [show ((k : Int) - 1) = ((k - 1 : Nat) : Int) by omega, and_i64 _ _ (by omega) (by omega), ← net_and k (by omega) (by omega)]
  show decide (_ = _) = decide (_ = _)
  rw [decide_eq_decide]
  constructor <;> (intro h; omega)
theorem right_any (n : Int) (w : World) :
    Calls Tryz.prog 91 #[.int .i64 n] w fun e w' => e = .returned (.bool (isNet n)) ∧ w' = w := by
  by_cases h0 : 1 ≤ n
  · by_cases h1 : n ≤ 1024
    · have hb := right_bits n h0 h1
      go_enter Tryz.func91, Tryz.ntmps91
      go_wp2
      go_ret
      exact ⟨rfl, rfl⟩
    · have hf : isNet n = false := by
        cases h : isNet n
        · rfl
        · have := isNet_rng h; omega
      rw [hf]
      go_enter Tryz.func91, Tryz.ntmps91
      go_wp2
      go_ret
      exact ⟨rfl, rfl⟩
  · have hf : isNet n = false := by
      cases h : isNet n
      · rfl
      · have := isNet_rng h; omega
    rw [hf]
    go_enter Tryz.func91, Tryz.ntmps91
    go_wp2
    go_ret
    exact ⟨rfl, rfl⟩

def KB (b : Nat) (n : Int) (W W' : World) : Prop := Boxed W b 3 (.int .i64 n) → Boxed W' b 3 (.int .i64 n)
theorem KB.refl (b : Nat) (n : Int) (W : World) : KB b n W W := id
theorem KB.trans {b : Nat} {n : Int} {A B C : World} (h : KB b n A B) (k : KB b n B C) : KB b n A C := fun x => k (h x)
theorem KB.book {b : Nat} {n : Int} {w : World} (W : World) (l : Nat) (o o' : Obj) (_ : w.heap.size ≤ l) (h : W.heap[l]? = some o) (hc : o.isCells = false) (_ : o.isWalk = false) : KB b n W (W.putObj l o') := fun hb =>
  hb.kept (grownBy_putObj' W l o') (fun e => by
    cases e
    have := (show W.heap[b]? = _ from hb).symm.trans h
    cases this
    cases hc)
def PhAt {n : Nat} (b : Nat) (J : List (Place n) → World → Prop) (c : Nat) (wr : World) : Prop :=
  Boxed wr b 3 (.int .i64 n) ∧ ∃ r : List (Place n), r.map val = phasesL n c ∧ J r wr
def MgAt {n : Nat} (b : Nat) (J : List (Place n) → World → Prop) (c d : Nat) (wr : World) : Prop :=
  d ≤ c + 1 ∧ Boxed wr b 3 (.int .i64 n) ∧ ∃ r : List (Place n), r.map val ++ mergeL n (2 ^ (c + 1)) d = phasesL n (c + 1) ∧ J r wr
theorem MgAt.start {n : Nat} {b : Nat} {J : List (Place n) → World → Prop} {c : Nat} {wr : World} (h : PhAt b J c wr) : MgAt b J c (c + 1) wr := by
  obtain ⟨hb, r, hr, hJ⟩ := h
  exact ⟨Nat.le_refl _, hb, r, by rw [hr]; rfl, hJ⟩
theorem MgAt.done {n : Nat} {b : Nat} {J : List (Place n) → World → Prop} {c : Nat} {wr : World} (h : MgAt b J c 0 wr) : PhAt b J (c + 1) wr := by
  obtain ⟨_, hb, r, hr, hJ⟩ := h
  exact ⟨hb, r, by rw [← hr]; simp [mergeL], hJ⟩
theorem MgAt.next {n : Nat} {b : Nat} {J : List (Place n) → World → Prop} {c d : Nat} {wr W' : World} {r : List (Place n)} (hd : d + 1 ≤ c + 1) (hb : Boxed wr b 3 (.int .i64 n))
    (hr : r.map val ++ mergeL n (2 ^ (c + 1)) (d + 1) = phasesL n (c + 1)) (h : StAt (2 ^ (c + 1)) (2 ^ d) r J (KB b n) wr n W') : MgAt b J c d W' := by
  obtain ⟨_, r', h1, h2, h3⟩ := h
  refine ⟨by omega, h3 hb, r', ?_, h2⟩
  rw [h1, ← hr, List.append_assoc]; rfl
theorem merge_room {n c d P : Nat} {r : List (Place n)} (hr : r.map val ++ mergeL n (2 ^ (c + 1)) (d + 1) = phasesL n (c + 1)) (hc : c < P) (hl : ∀ x y, x ≤ y → (phasesL n x).length ≤ (phasesL n y).length) :
    r.length + (stageL n (2 ^ (c + 1)) (2 ^ d)).length ≤ (phasesL n P).length := by
  have h1 := congrArg List.length hr
  have h2 := hl (c + 1) P (by omega)
  rw [List.length_append, mergeL, List.length_append] at h1
  simp at h1
  omega
theorem phasesL_mono (n : Nat) : ∀ x y, x ≤ y → (phasesL n x).length ≤ (phasesL n y).length := by
  intro x y h
  induction y with
  | zero => rw [show x = 0 by omega]; exact Nat.le_refl _
  | succ y ih =>
    rcases Nat.lt_or_ge y x with h1 | h1
    · rw [show x = y + 1 by omega]; exact Nat.le_refl _
    · have := ih h1
      rw [phasesL, List.length_append]; omega
def hf (d : Nat) : Nat := 2 ^ d / 2
theorem half_two (d : Nat) : 2 ^ (d + 1) / 2 = 2 ^ d := by rw [Nat.pow_succ, Nat.mul_div_cancel _ (by decide)]
set_option maxHeartbeats 4000000 in
theorem iter_in (m l P n b : Nat) (hP : P ≤ 10) (hn : 2 ^ P = n) (J Jx : List (Place n) → World → Prop)
    (hY : ∀ m pre x W, J pre W → pre.length < (phasesL n P).length → YieldAt Fence.wide m Tryz.prog l (encP x) W fun e W' =>
      (e = .returned (.bool true) ∧ J (pre ++ [x]) W' ∧ KB b n W W') ∨ (e = .returned (.bool false) ∧ Jx (pre ++ [x]) W'))
    (W : World) (hb : Boxed W b 3 (.int .i64 n)) (h0 : J [] W) :
    CallsIn Fence.wide m Tryz.prog 90 #[.func (.yield l) #[] #[], .pointer (some ⟨b, 0, none⟩)] W fun e W' =>
      (∃ v, e = .returned v) ∧ ((∃ ys : List (Place n), ys.map val = phasesL n P ∧ J ys W') ∨ (∃ pre : List (Place n), True ∧ Jx pre W')) := by
  have hn1 : n ≤ 1024 := by rw [← hn]; exact two_le P hP
  have hRn : isNet (n : Int) = true := (isNet_iff _).2 ⟨P, hP, by rw [hn]⟩
  have hst : PhAt b J 0 W := ⟨hb, [], rfl, h0⟩
  have hc := hb.cell
  refine callsIn_of_wp Tryz.func90 rfl trivial ?_ rfl
  simp only [Tryz.ntmps90, List.size_toArray, List.length_cons, List.length_nil, Nat.reduceAdd, Nat.reduceSub, Array.replicate_succ, Array.replicate_zero, List.push_toArray, List.append_toArray, List.nil_append, List.cons_append]
  gi_wp2_with (refine ⟨trivial, no_depth _, ?_⟩; gi_at_call 91; refine (callsIn_wide.2 (right_any (n : Int) _)).mono ?_; rintro e w1 ⟨rfl, rfl⟩; rw [hRn])
  gi_loopw [3] (fun v wr => ∃ c : Nat, v = .int .i64 (2 ^ (c + 1) : Nat) ∧ c ≤ P ∧ PhAt b J c wr) (fun v _ => 4096 - (intOf v).toNat)
  case atStart => exact ⟨0, rfl, by omega, hst⟩
  case round =>
    obtain ⟨c, rfl, hcP, hS⟩ := hrel
    have hcw := hS.1.cell
    obtain ⟨w9, h9⟩ : ∃ x, x = wr := ⟨_, rfl⟩
    subst h9
    have hk2 : 2 ^ (c + 1) ≤ 2048 := Nat.pow_le_pow_right (by decide) (show c + 1 ≤ 11 by omega)
    have hkh := half_two c
    have hks : 2 ^ (c + 1 + 1) = 2 ^ (c + 1) * 2 := Nat.pow_succ ..
    have hkp := two_pos (c + 1)
    by_cases hcl : c < P
    · have hkn : 2 ^ (c + 1) ≤ n := by rw [← hn]; exact Nat.pow_le_pow_right (by decide) hcl
      have hMs := MgAt.start hS
      have hMd : ∀ W', MgAt b J c 0 W' → PhAt b J (c + 1) W' := fun _ h => h.done
      have hMr : ∀ d (r : List (Place n)), r.map val ++ mergeL n (2 ^ (c + 1)) (d + 1) = phasesL n (c + 1) → r.length + (stageL n (2 ^ (c + 1)) (2 ^ d)).length ≤ (phasesL n P).length := fun d r hr => merge_room hr hcl (phasesL_mono n)
      have hMx : ∀ d wr (r : List (Place n)) W', d + 1 ≤ c + 1 → Boxed wr b 3 (.int .i64 n) → r.map val ++ mergeL n (2 ^ (c + 1)) (d + 1) = phasesL n (c + 1) → StAt (2 ^ (c + 1)) (2 ^ d) r J (KB b n) wr n W' → MgAt b J c d W' := fun d wr r W' h1 h2 h3 h4 => MgAt.next h1 h2 h3 h4
      have hSt : ∀ d (r : List (Place n)) wr, d ≤ c → J r wr → r.length + (stageL n (2 ^ (c + 1)) (2 ^ d)).length ≤ (phasesL n P).length → CallsIn Fence.wide (m - 1) Tryz.prog 92 #[.int .i64 n, .int .i64 (2 ^ (c + 1) : Nat), .int .i64 (2 ^ d : Nat), .func (.yield l) #[] #[]] wr fun e W' =>
          (e = .returned (.bool true) ∧ StAt (2 ^ (c + 1)) (2 ^ d) r J (KB b n) wr n W') ∨ (e = .returned (.bool false) ∧ ∃ r, Jx r W') := fun d r wr hd hj hN => by
        have hd1 : 2 * 2 ^ d ∣ n := by
          rw [← hn, Nat.mul_comm, ← Nat.pow_succ]; exact Nat.pow_dvd_pow 2 (by omega)
        have hd2 : 2 ^ d ≤ 1024 := two_le d (by omega)
        exact stage_in (m - 1) l n d (c + 1) _ hn1 hd1 (by omega) (by omega) J Jx (KB b n) (KB.refl b n) (fun h k => h.trans k) hY r wr hj hN
      generalize hkc : 2 ^ (c + 1) = k at *
      gi_wp2
      gi_loopw [4] (fun v wr => ∃ d : Nat, v = .int .i64 (hf d : Nat) ∧ MgAt b J c d wr) (fun v _ => (intOf v).toNat)
      case atStart => exact ⟨c + 1, by rw [show hf (c + 1) = k / 2 by unfold hf; rw [hkc]]; go_num, hMs⟩
      case round =>
        obtain ⟨d, rfl, hM⟩ := hrel
        cases d with
        | zero =>
          have hP1 := hMd _ hM
          rw [show hf 0 = 0 from rfl]
          gi_wp2
          go_roundw
          case rel => exact ⟨c + 1, by rw [hks]; go_num, by omega, hP1⟩
          case measure => simp [intOf]; omega
        | succ e =>
          obtain ⟨hd, hbx, r, hr, hj⟩ := hM
          rw [hkc] at hr
          have hcx := hbx.cell
          have hcall := hSt e r wr (by omega) hj (hMr e r hr)
          have hnx := hMx e wr r
          have hje : hf (e + 1) = 2 ^ e := half_two e
          have hjh : hf e = 2 ^ e / 2 := rfl
          have hj1 := two_pos e
          have hj2 : 2 ^ e ≤ 1024 := two_le e (by omega)
          rw [hje]
          generalize 2 ^ e = j at *
          gi_wp2_with (refine ⟨trivial, no_depth _, ?_⟩; gi_at_call 92; refine hcall.mono ?_; clear hcall; rintro e1 w2 (⟨rfl, hst2⟩ | ⟨rfl, r2, hx2⟩))
          · go_roundw
            case rel => exact ⟨e, by rw [hjh]; go_num, hnx w2 hd hbx hr hst2⟩
            case measure => simp [intOf]; omega
          · refine bodyPost_ret (results_none rfl _ _ _) rfl ?_
            exact ⟨⟨_, rfl⟩, .inr ⟨r2, trivial, hx2⟩⟩
    · have hkn : ¬ 2 ^ (c + 1) ≤ n := by
        have : 2 ^ (c + 1) = n * 2 := by rw [← hn, show c = P by omega, Nat.pow_succ]
        omega
      have hend : PhAt b J P w9 := by rwa [show c = P by omega] at hS
      generalize 2 ^ (c + 1) = k at *
      gi_wp2
      go_end0
      obtain ⟨_, r, hr, hj⟩ := hend
      exact ⟨⟨_, rfl⟩, .inl ⟨r, hr, hj⟩⟩
set_option maxHeartbeats 1000000 in
theorem iter_none (m l b : Nat) (n : Int) (hR : isNet n = false) (W : World) (hb : Boxed W b 3 (.int .i64 n)) :
    CallsIn Fence.wide m Tryz.prog 90 #[.func (.yield l) #[] #[], .pointer (some ⟨b, 0, none⟩)] W fun e W' => (∃ v, e = .returned v) ∧ W' = W := by
  have hc := hb.cell
  refine callsIn_of_wp Tryz.func90 rfl trivial ?_ rfl
  simp only [Tryz.ntmps90, List.size_toArray, List.length_cons, List.length_nil, Nat.reduceAdd, Nat.reduceSub, Array.replicate_succ, Array.replicate_zero, List.push_toArray, List.append_toArray, List.nil_append, List.cons_append]
  gi_wp2_with (refine ⟨trivial, no_depth _, ?_⟩; gi_at_call 91; refine (callsIn_wide.2 (right_any n _)).mono ?_; rintro e w1 ⟨rfl, rfl⟩; rw [hR])
  refine bodyPost_ret (results_none rfl _ _ _) rfl ?_
  exact ⟨⟨_, rfl⟩, rfl⟩
theorem network_any (n : Int) (w : World) : Calls Tryz.prog 79 #[.int .i64 n] w fun e w' =>
    e = .returned (.func (.func 90) #[] #[.pointer (some ⟨w.heap.size, 0, none⟩)]) ∧ w' = w.alloc (.cells #[.int .i64 n] 3) := by
  go_enter Tryz.func79, Tryz.ntmps79
  go_wp2
  go_ret
  exact ⟨rfl, rfl⟩
structure Net (n : Int) (k : Nat) (ps : List Pr) : Prop where
  is : (∃ P, P ≤ 10 ∧ n = ((2 ^ P : Nat) : Int) ∧ k = 2 ^ P ∧ ps = netL P) ∨ (isNet n = false ∧ k = 0 ∧ ps = [])
theorem net_stops (m b k : Nat) (n : Int) (ps : List Pr) (hN : Net n k ps) (w : World) (hb : Boxed w b 3 (.int .i64 n)) :
    SeqStopsK Fence.wide m Tryz.prog 90 #[.pointer (some ⟨b, 0, none⟩)] (fun x : Place k => encP x) (KB b n) (fun ys => ys.map val = ps) (fun _ => True) ps.length w := by
  intro l J Jx W hW _ _ hY h0
  have hbW : Boxed W b 3 (.int .i64 n) := (hW.block b hb.lt).trans hb
  rcases hN.is with ⟨P, hP, rfl, rfl, rfl⟩ | ⟨hf, rfl, rfl⟩
  · exact iter_in m l P (2 ^ P) b hP rfl J Jx (fun m' pre x W1 hj hl => YieldAt.free m' (hY pre x W1 hj hl)) W hbW h0
  · exact (iter_none m l b n hf W hbW).mono fun e W' ⟨he, hw⟩ => ⟨he, .inl ⟨[], rfl, by rw [hw]; exact h0⟩⟩
end Go.Proofs.YtmageeohnfomnaaGreat


namespace Go.Proofs.YtmageeohnfomnaaGreat
set_option maxRecDepth 100000
open Go.RowKit Go.Shelf

theorem zip_one (t : Tmp) (v : Value) (l : List Value) : ((#[t] : Array Tmp).zip #[v]).foldl (fun t (p, v) => t.setIfInBounds p v) l.toArray = (l.set t v).toArray := by
  simp
theorem Net.len {n : Int} {k : Nat} {ps : List Pr} (h : Net n k ps) : ps.length ≤ 28160 := by
  rcases h.is with ⟨P, hP, _, _, rfl⟩ | ⟨_, _, rfl⟩
  · have h1 := netL_len P
    have h2 := two_le P hP
    have h3 : P * (P + 1) ≤ 10 * 11 := Nat.mul_le_mul hP (by omega)
    have h4 : P * (P + 1) * 2 ^ P ≤ 10 * 11 * 1024 := Nat.mul_le_mul h3 h2
    omega
  · simp
end Go.Proofs.YtmageeohnfomnaaGreat

