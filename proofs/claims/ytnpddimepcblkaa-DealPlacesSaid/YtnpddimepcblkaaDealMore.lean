/- Plain facts on dealing: how many are left over, the places that are left for the others, items that stand otherwise. No function is called here. -/
import Derived.Test.YtnpddimepcblkaaDealMath
namespace Go.Proofs.Ytnpddimepcblkaa

/-- By how many those that may lie on the first levels alone are more than there is room for, the levels below k. -/
def msd (S D : Nat) (ds : List Nat) : Nat → Nat
  | 0 => 0
  | k + 1 => max (msd S D ds k) (ds.countP (fun x => decide (min x D ≤ k)) - S * (k + 1))
theorem msd_ge (S D : Nat) (ds : List Nat) : ∀ k d, d < k → ds.countP (fun x => decide (min x D ≤ d)) - S * (d + 1) ≤ msd S D ds k
  | 0, d, h => absurd h (Nat.not_lt_zero _)
  | k + 1, d, h => by
    unfold msd
    by_cases e : d = k
    · subst e; omega
    · have := msd_ge S D ds k d (by omega); omega
theorem msd_le (S D : Nat) (ds : List Nat) (m : Nat) : ∀ k, (∀ d, d < k → ds.countP (fun x => decide (min x D ≤ d)) - S * (d + 1) ≤ m) → msd S D ds k ≤ m
  | 0, _ => Nat.zero_le _
  | k + 1, h => by
    have h1 := msd_le S D ds m k (fun d hd => h d (by omega))
    have h2 := h k (by omega)
    unfold msd
    omega
theorem count_mono {α : Type} (p q : α → Bool) (l : List α) (h : ∀ x ∈ l, p x = true → q x = true) : l.countP p ≤ l.countP q := List.countP_mono_left h
/-- As few as can be are left over. -/
theorem lo_msd (S D : Nat) (hS : 0 < S) (ds : List Nat) (h : ds.Pairwise (fun a b => b ≤ a)) : lo S ((D + 1) * S) ds = msd S D ds (D + 1) := by
  have hall : ds.countP (fun x => decide (min x D ≤ D)) = ds.length := by
    rw [List.countP_eq_length]
    intro x _
    simp
    omega
  have hD := msd_ge S D ds (D + 1) D (by omega)
  rw [hall, Nat.mul_comm] at hD
  rw [lo_is S hS]
  apply Nat.le_antisymm
  · have hm : mxs S ds ≤ msd S D ds (D + 1) := by
      rcases mxs_one S ds h with h1 | ⟨d, hd, h1⟩
      · omega
      · by_cases hdD : d ≤ D
        · have h2 := msd_ge S D ds (D + 1) d (by omega)
          have h3 : ds.countP (fun x => decide (x ≤ d)) ≤ ds.countP (fun x => decide (min x D ≤ d)) := count_mono _ _ _ fun x _ hx => by
            simp at hx ⊢; omega
          rw [Nat.mul_comm] at h2
          omega
        · have h3 : ds.countP (fun x => decide (x ≤ d)) ≤ ds.length := List.countP_le_length
          have h4 : (D + 1) * S ≤ (d + 1) * S := Nat.mul_le_mul_right _ (by omega)
          omega
    omega
  · refine msd_le S D ds _ (D + 1) fun d hd => ?_
    by_cases e : d = D
    · subst e
      rw [hall, Nat.mul_comm]
      omega
    · have h1 := mxs_ge S ds d h
      have h3 : ds.countP (fun x => decide (min x D ≤ d)) ≤ ds.countP (fun x => decide (x ≤ d)) := count_mono _ _ _ fun x _ hx => by
        simp at hx ⊢; omega
      rw [Nat.mul_comm S]
      omega

/-- Which item has which place, of those that were dealt. -/
def asg : List Nat → List (Option Nat) → Nat → Option Nat
  | x :: R, p :: P, i => if x = i then p else asg R P i
  | _, _, _ => none
theorem asg_at : ∀ (R : List Nat) (P : List (Option Nat)) (k : Nat), R.Nodup → (hR : k < R.length) → (hP : k < P.length) → asg R P R[k] = P[k]
  | [], _, _, _, hR, _ => absurd hR (by simp)
  | _ :: _, [], _, _, _, hP => absurd hP (by simp)
  | x :: R, p :: P, 0, _, _, _ => by unfold asg; simp
  | x :: R, p :: P, k + 1, hn, hR, hP => by
    obtain ⟨h1, h2⟩ := List.nodup_cons.1 hn
    unfold asg
    simp only [List.getElem_cons_succ]
    rw [if_neg (fun e => h1 (by rw [e]; exact List.getElem_mem _))]
    exact asg_at R P k h2 _ _
theorem asg_out : ∀ (R : List Nat) (P : List (Option Nat)) (i : Nat), i ∉ R → asg R P i = none
  | [], _, _, _ => by unfold asg; rfl
  | _ :: _, [], _, _ => by unfold asg; rfl
  | x :: R, p :: P, i, h => by
    unfold asg
    rw [if_neg (fun e => h (by rw [e]; exact List.mem_cons_self))]
    exact asg_out R P i (fun e => h (List.mem_cons_of_mem _ e))
theorem asg_some {R : List Nat} {P : List (Option Nat)} (hn : R.Nodup) (hl : P.length = R.length) {i p : Nat} (h : asg R P i = some p) : ∃ k, ∃ hk : k < R.length, R[k] = i ∧ P[k]'(by omega) = some p := by
  by_cases hi : i ∈ R
  · obtain ⟨k, hk, rfl⟩ := List.mem_iff_getElem.1 hi
    rw [asg_at R P k hn hk (by omega)] at h
    exact ⟨k, hk, rfl, h⟩
  · rw [asg_out R P i hi] at h
    cases h
/-- Dealt places are unlike. -/
theorem asg_inj {R : List Nat} {P : List (Option Nat)} (hn : R.Nodup) (hl : P.length = R.length) (ho : P.Pairwise fun a b => ∀ y, a = some y → b ≠ some y) {i j p : Nat} (hi : asg R P i = some p) (hj : asg R P j = some p) : i = j := by
  obtain ⟨a, ha, rfl, e1⟩ := asg_some hn hl hi
  obtain ⟨b, hb, rfl, e2⟩ := asg_some hn hl hj
  have hp := List.pairwise_iff_getElem.1 ho
  rcases Nat.lt_trichotomy a b with h | h | h
  · exact absurd e2 (hp a b (by omega) (by omega) h p e1)
  · subst h; rfl
  · exact absurd e1 (hp b a (by omega) (by omega) h p e2)

/-- Numbers below n of which something holds: which one is the k-th. -/
theorem rank_at (p : Nat → Bool) : ∀ (n k : Nat) (hk : k < ((List.range n).filter p).length), (List.range ((List.range n).filter p)[k]).countP p = k
  | 0, k, hk => absurd hk (by simp)
  | n + 1, k, hk => by
    have e : (List.range (n + 1)).filter p = (List.range n).filter p ++ (if p n then [n] else []) := by
      rw [List.range_succ, List.filter_append]
      congr 1
      cases h : p n <;> simp [h]
    by_cases h : k < ((List.range n).filter p).length
    · have : ((List.range (n + 1)).filter p)[k] = ((List.range n).filter p)[k] := by
        simp only [e]
        rw [List.getElem_append_left h]
      rw [this]
      exact rank_at p n k h
    · have hp : p n = true := by
        cases hp : p n
        · rw [e, hp] at hk; simp at hk; simp at h; omega
        · rfl
      have hk2 : k = ((List.range n).filter p).length := by
        rw [e, hp] at hk
        simp at hk h
        omega
      have : ((List.range (n + 1)).filter p)[k] = n := by
        simp only [e, hp]
        rw [List.getElem_append_right (by omega)]
        simp
      rw [this, hk2, List.countP_eq_length_filter]
theorem filter_up (p : Nat → Bool) (n : Nat) : ((List.range n).filter p).Pairwise (· < ·) := List.pairwise_lt_range.filter p
theorem nodup_up {l : List Nat} (h : l.Pairwise (· < ·)) : l.Nodup := h.imp fun h => Nat.ne_of_lt h
section
variable (A : Nat → Option Nat) (n : Nat)
/-- Is a place dealt to one of the first n items? The places that are left; the items that have none. -/
def isAt (p : Nat) : Bool := (List.range n).any fun i => A i == some p
def fre : List Nat := (List.range n).filter fun p => !isAt A n p
def wants : List Nat := (List.range n).filter fun i => (A i).isNone
/-- Where an item goes, all told. -/
def outP (i : Nat) : Nat := match A i with
  | some p => p
  | none => (fre A n)[(List.range i).countP fun j => (A j).isNone]?.getD 0
theorem isAt_iff (p : Nat) : isAt A n p = true ↔ ∃ i, i < n ∧ A i = some p := by
  unfold isAt
  rw [List.any_eq_true]
  constructor
  · rintro ⟨i, hi, h⟩; exact ⟨i, List.mem_range.1 hi, by simpa using h⟩
  · rintro ⟨i, hi, h⟩; exact ⟨i, List.mem_range.2 hi, by simpa using h⟩
end
section
variable {A : Nat → Option Nat} {n : Nat}
/-- The places that are dealt, in the order of the items. -/
theorem some_perm (hlt : ∀ i p, i < n → A i = some p → p < n) (hinj : ∀ i j p, i < n → j < n → A i = some p → A j = some p → i = j) :
    (((List.range n).filter fun i => !(A i).isNone).map (outP A n)).Perm ((List.range n).filter (isAt A n)) := by
  refine (List.perm_ext_iff_of_nodup ?_ (nodup_up (filter_up _ n))).2 fun p => ?_
  · unfold List.Nodup
    rw [List.pairwise_map]
    refine List.Pairwise.imp_of_mem ?_ (filter_up (fun i => !(A i).isNone) n)
    intro a b ha hb hab e
    obtain ⟨ha1, ha2⟩ := List.mem_filter.1 ha
    obtain ⟨hb1, hb2⟩ := List.mem_filter.1 hb
    cases hA : A a with
    | none => rw [hA] at ha2; cases ha2
    | some x =>
      cases hB : A b with
      | none => rw [hB] at hb2; cases hb2
      | some y =>
        unfold outP at e
        rw [hA, hB] at e
        have e : x = y := e
        subst e
        have := hinj a b x (List.mem_range.1 ha1) (List.mem_range.1 hb1) hA hB
        omega
  · rw [List.mem_map, List.mem_filter, isAt_iff, List.mem_range]
    constructor
    · rintro ⟨i, hi, rfl⟩
      obtain ⟨hi1, hi2⟩ := List.mem_filter.1 hi
      cases hA : A i with
      | none => rw [hA] at hi2; cases hi2
      | some x =>
        have e : outP A n i = x := by unfold outP; rw [hA]
        rw [e]
        exact ⟨hlt i x (List.mem_range.1 hi1) hA, i, List.mem_range.1 hi1, hA⟩
    · rintro ⟨_, i, hi, hA⟩
      refine ⟨i, List.mem_filter.2 ⟨List.mem_range.2 hi, by rw [hA]; rfl⟩, ?_⟩
      unfold outP; rw [hA]
/-- As many places are left as items that have none. -/
theorem fre_len (hlt : ∀ i p, i < n → A i = some p → p < n) (hinj : ∀ i j p, i < n → j < n → A i = some p → A j = some p → i = j) : (fre A n).length = (wants A n).length := by
  have h1 := (some_perm hlt hinj).length_eq
  have h2 := (List.filter_append_perm (fun i => (A i).isNone) (List.range n)).length_eq
  have h3 := (List.filter_append_perm (isAt A n) (List.range n)).length_eq
  rw [List.length_append, List.length_range] at h2 h3
  rw [List.length_map] at h1
  unfold fre wants
  omega
theorem wants_out (hlt : ∀ i p, i < n → A i = some p → p < n) (hinj : ∀ i j p, i < n → j < n → A i = some p → A j = some p → i = j) : (wants A n).map (outP A n) = fre A n := by
  have hl := fre_len hlt hinj
  apply List.ext_getElem
  · rw [List.length_map, hl]
  · intro k h1 h2
    rw [List.getElem_map]
    have hk : k < (wants A n).length := by omega
    have hr := rank_at (fun i => (A i).isNone) n k hk
    have hm : (wants A n)[k] ∈ wants A n := List.getElem_mem hk
    have hw : (A (wants A n)[k]).isNone = true := (List.mem_filter.1 hm).2
    cases hA : A (wants A n)[k] with
    | some x => rw [hA] at hw; cases hw
    | none =>
      unfold outP
      rw [hA]
      show (fre A n)[_]?.getD 0 = _
      have hr' : (List.range (wants A n)[k]).countP (fun j => (A j).isNone) = k := hr
      rw [hr', List.getElem?_eq_getElem h2]
      rfl
/-- Each place is dealt once. -/
theorem out_perm (hlt : ∀ i p, i < n → A i = some p → p < n) (hinj : ∀ i j p, i < n → j < n → A i = some p → A j = some p → i = j) : ((List.range n).map (outP A n)).Perm (List.range n) := by
  have h1 := (List.filter_append_perm (fun i => (A i).isNone) (List.range n)).symm.map (outP A n)
  refine h1.trans ?_
  rw [List.map_append]
  have h2 : List.map (outP A n) (List.filter (fun i => (A i).isNone) (List.range n)) = fre A n := wants_out hlt hinj
  rw [h2]
  refine ((List.Perm.refl _).append (some_perm hlt hinj)).trans ?_
  exact List.perm_append_comm.trans (List.filter_append_perm (isAt A n) (List.range n))
end
end Go.Proofs.Ytnpddimepcblkaa
