/- Texts of ours put together: DealLast. -/
import Derived.Test.YteiilfdbddpodaaDoorG1
/- Plain facts on dealing: a level and its slots against the places that are left, items that all may lie deepest, items that stand otherwise, and what is counted of all. No function is called here. -/
namespace Go.Proofs.YteiilfdbddpodaaDoor
set_option maxRecDepth 100000

/-- A level, and how many of its slots are taken, told by how many places are left. -/
def LvAt (S r : Nat) (lv : Int) (on : Nat) : Prop := (lv = -1 ∧ on = 0 ∧ r = 0) ∨ ∃ l : Nat, lv = l ∧ on < S ∧ r = (l + 1) * S - on
theorem LvAt.start (S D : Nat) (hS : 0 < S) : LvAt S ((D + 1) * S) (D : Int) 0 := .inr ⟨D, rfl, hS, by omega⟩
theorem LvAt.drop {S r : Nat} {lv : Int} {on d : Nat} (h : LvAt S r lv on) (hd : (d : Int) < lv) : LvAt S (min r ((d + 1) * S)) (d : Int) 0 := by
  rcases h with ⟨rfl, _, _⟩ | ⟨l, rfl, hon, rfl⟩
  · omega
  · refine .inr ⟨d, rfl, by omega, ?_⟩
    have h1 : (d + 1) * S ≤ l * S := Nat.mul_le_mul_right _ (by omega)
    have h2 : (l + 1) * S = l * S + S := by rw [Nat.add_mul, Nat.one_mul]
    omega
theorem LvAt.keep {S r : Nat} {lv : Int} {on d : Nat} (h : LvAt S r lv on) (hd : ¬ (d : Int) < lv) : min r ((d + 1) * S) = r := by
  rcases h with ⟨rfl, _, rfl⟩ | ⟨l, rfl, hon, rfl⟩
  · omega
  · have h1 : (l + 1) * S ≤ (d + 1) * S := Nat.mul_le_mul_right _ (by omega)
    omega
theorem LvAt.none {S r : Nat} {lv : Int} {on : Nat} (h : LvAt S r lv on) (hl : lv < 0) : r = 0 ∧ lv = -1 ∧ on = 0 := by
  rcases h with ⟨rfl, rfl, rfl⟩ | ⟨l, rfl, _, _⟩
  · exact ⟨rfl, rfl, rfl⟩
  · omega
theorem LvAt.put {S r l on : Nat} (h : LvAt S r (l : Int) on) : r ≠ 0 ∧ on < S ∧ rv S (r - 1) = l * S + on ∧ (on + 1 = S → LvAt S (r - 1) ((l : Int) - 1) 0) ∧ (on + 1 ≠ S → LvAt S (r - 1) (l : Int) (on + 1)) := by
  rcases h with ⟨h, _, _⟩ | ⟨l', e, hon, rfl⟩
  · omega
  · have : l' = l := by omega
    subst this
    have h2 : (l' + 1) * S = l' * S + S := by rw [Nat.add_mul, Nat.one_mul]
    refine ⟨by omega, hon, rv_level S l' on hon, fun h => ?_, fun h => ?_⟩
    · cases l' with
      | zero => exact .inl ⟨rfl, rfl, by omega⟩
      | succ m => exact .inr ⟨m, by omega, by omega, by omega⟩
    · exact .inr ⟨l', rfl, by omega, by omega⟩
theorem LvAt.le {S r l on D : Nat} (h : LvAt S r (l : Int) on) (hr : r ≤ (D + 1) * S) : l ≤ D := by
  rcases h with ⟨h, _, _⟩ | ⟨l', e, hon, rfl⟩
  · omega
  · have : l' = l := by omega
    subst this
    have h2 : (l' + 1) * S = l' * S + S := by rw [Nat.add_mul, Nat.one_mul]
    apply Nat.le_of_not_lt
    intro h3
    have h4 : (D + 1) * S ≤ l' * S := Nat.mul_le_mul_right _ h3
    omega

/-- Items that all may lie deepest. -/
theorem dl_full (S D T : Nat) (hS : 0 < S) : ∀ (m r st k : Nat), r ≤ (D + 1) * S → k < m → (dl S ((D + 1) * S) T r st (List.replicate m D))[k]? =
    some (if k < r then some (rv S (r - k - 1)) else if st + (k - r) < T then some ((D + 1) * S + (st + (k - r))) else none)
  | 0, _, _, _, _, hk => absurd hk (Nat.not_lt_zero _)
  | m + 1, r, st, k, hr, hk => by
    rw [List.replicate_succ]
    unfold dl
    rw [Nat.min_eq_left hr]
    by_cases h0 : r = 0
    · subst h0
      rw [if_pos rfl]
      cases k with
      | zero =>
        by_cases hst : st < T
        · rw [if_pos hst]; simp [hst]
        · rw [if_neg hst]; simp [hst]
      | succ k =>
        by_cases hst : st < T
        · rw [if_pos hst, List.getElem?_cons_succ, dl_full S D T hS m 0 (st + 1) k (by omega) (by omega)]
          simp only [Nat.not_lt_zero, if_false, Nat.sub_zero]
          rw [show st + 1 + k = st + (k + 1) by omega]
        · rw [if_neg hst, List.getElem?_cons_succ, dl_full S D T hS m 0 st k (by omega) (by omega)]
          simp only [Nat.not_lt_zero, if_false, Nat.sub_zero]
          rw [if_neg (by omega), if_neg (by omega)]
    · rw [if_neg h0]
      cases k with
      | zero =>
        rw [List.getElem?_cons_zero, if_pos (by omega)]
        simp
      | succ k =>
        rw [List.getElem?_cons_succ, dl_full S D T hS m (r - 1) st k (by omega) (by omega)]
        by_cases hkr : k + 1 < r
        · rw [if_pos (by omega), if_pos hkr, show r - 1 - k - 1 = r - (k + 1) - 1 by omega]
        · rw [if_neg (by omega), if_neg hkr, show k - (r - 1) = k + 1 - r by omega]
theorem rv_full (S D k : Nat) (hS : 0 < S) (hk : k < (D + 1) * S) : rv S ((D + 1) * S - k - 1) = (D - k / S) * S + k % S := by
  have h1 : k / S < D + 1 := (Nat.div_lt_iff_lt_mul hS).2 hk
  have h2 := Nat.mod_lt k hS
  have h3 := Nat.div_add_mod k S
  have e : (D + 1) * S = (D - k / S + 1) * S + k / S * S := by rw [← Nat.add_mul]; congr 1; omega
  have e2 : k / S * S = S * (k / S) := Nat.mul_comm _ _
  rw [show (D + 1) * S - k - 1 = (D - k / S + 1) * S - k % S - 1 by omega]
  exact rv_level S _ _ h2

/-- Turned by t. -/
theorem turn_is {n t j : Nat} (hj : j < n) (ht : t ≤ n) : (j + t) % n = if j + t < n then j + t else j + t - n := by
  by_cases h : j + t < n
  · rw [if_pos h, Nat.mod_eq_of_lt h]
  · rw [if_neg h, Nat.mod_eq_sub_mod (by omega), Nat.mod_eq_of_lt (by omega)]
theorem turn_lt {n t j : Nat} (hj : j < n) : (j + t) % n < n := Nat.mod_lt _ (by omega)
theorem turn_inj {n t i j : Nat} (hi : i < n) (hj : j < n) (ht : t ≤ n) (h : (i + t) % n = (j + t) % n) : i = j := by
  rw [turn_is hi ht, turn_is hj ht] at h
  split at h <;> split at h <;> omega
theorem turn_back {n t i : Nat} (hi : i < n) (ht : t ≤ n) : ((i + n - t) % n + t) % n = i := by
  have e : (i + n - t) % n = if i < t then i + n - t else i - t := by
    by_cases h : i < t
    · rw [if_pos h, Nat.mod_eq_of_lt (by omega)]
    · rw [if_neg h, Nat.mod_eq_sub_mod (by omega), Nat.mod_eq_of_lt (by omega)]; omega
  rw [e]
  have hj : (if i < t then i + n - t else i - t) < n := by split <;> omega
  rw [turn_is hj ht]
  split <;> split <;> omega
theorem reals_mem {f : Nat → It} {n : Nat} {o : List Nat} (h : IsOrd f n o) (i : Nat) : i ∈ reals f o ↔ i < n ∧ 0 ≤ (f i).2 := by
  unfold reals
  rw [List.mem_filter, h.mem]
  simp
theorem reals_srt {f : Nat → It} {n : Nat} {o : List Nat} (h : IsOrd f n o) : (reals f o).Pairwise (bef f) := h.srt.filter _
theorem reals_nodup {f : Nat → It} {n : Nat} {o : List Nat} (h : IsOrd f n o) : (reals f o).Nodup := (reals_srt h).imp fun h e => by subst e; exact bef_irrefl _ _ h
/-- Items that are unlike are dealt in the same order, wherever they stand. -/
theorem reals_turn {f g : Nat → It} {n t : Nat} {o o' : List Nat} (ht : t ≤ n) (hg : ∀ j, j < n → g j = f ((j + t) % n))
    (hd : ∀ i j, i < n → j < n → 0 ≤ (f i).2 → 0 ≤ (f j).2 → (f i).1 = (f j).1 → i = j) (h : IsOrd f n o) (h' : IsOrd g n o') : (reals g o').map (fun j => (j + t) % n) = reals f o := by
  have hs : ((reals g o').map (fun j => (j + t) % n)).Pairwise (bef f) := by
    rw [List.pairwise_map]
    refine List.Pairwise.imp_of_mem ?_ (reals_srt h')
    intro a b ha hb hab
    obtain ⟨ha1, ha2⟩ := (reals_mem h' a).1 ha
    obtain ⟨hb1, hb2⟩ := (reals_mem h' b).1 hb
    rw [bef_real ha2 hb2, hg a ha1, hg b hb1] at hab
    rw [hg a ha1] at ha2
    rw [hg b hb1] at hb2
    rw [bef_real ha2 hb2]
    rcases hab with h1 | ⟨h1, h2 | ⟨h2, h3⟩⟩
    · exact .inl h1
    · exact .inr ⟨h1, .inl h2⟩
    · have e := hd _ _ (turn_lt ha1) (turn_lt hb1) ha2 hb2 h2
      have := turn_inj ha1 hb1 ht e
      omega
  refine List.Perm.eq_of_pairwise (fun _ _ _ _ h1 h2 => (bef_asymm h1 h2).elim) hs (reals_srt h) ?_
  refine (List.perm_ext_iff_of_nodup (hs.imp fun h e => by subst e; exact bef_irrefl _ _ h) (reals_nodup h)).2 fun i => ?_
  rw [List.mem_map, reals_mem h]
  constructor
  · rintro ⟨j, hj, rfl⟩
    obtain ⟨h1, h2⟩ := (reals_mem h' j).1 hj
    rw [hg j h1] at h2
    exact ⟨turn_lt h1, h2⟩
  · rintro ⟨hi, h2⟩
    have hb := turn_back hi ht
    have hj : (i + n - t) % n < n := Nat.mod_lt _ (by omega)
    refine ⟨(i + n - t) % n, (reals_mem h' _).2 ⟨hj, ?_⟩, hb⟩
    rw [hg _ hj, hb]
    exact h2

/-- How deep the items may lie that are dealt, in their order. -/
def deeps (f : Nat → It) (R : List Nat) : List Nat := R.map fun i => (f i).2.toNat
theorem deeps_down {f : Nat → It} {n : Nat} {o : List Nat} (h : IsOrd f n o) : (deeps f (reals f o)).Pairwise (fun a b => b ≤ a) := by
  unfold deeps
  rw [List.pairwise_map]
  refine List.Pairwise.imp_of_mem ?_ (reals_srt h)
  intro a b ha hb hab
  obtain ⟨_, ha2⟩ := (reals_mem h a).1 ha
  obtain ⟨_, hb2⟩ := (reals_mem h b).1 hb
  rw [bef_real ha2 hb2] at hab
  omega
/-- What is counted of the items that are dealt is counted of all. -/
theorem deeps_count {f : Nat → It} {n : Nat} {o : List Nat} (h : IsOrd f n o) (p : Nat → Bool) : (deeps f (reals f o)).countP p = (List.range n).countP (fun i => decide (0 ≤ (f i).2) && p (f i).2.toNat) := by
  unfold deeps reals
  rw [List.countP_map, List.countP_filter, h.perm.countP_eq]
  apply List.countP_congr
  intro i _
  simp [Bool.and_comm]
/-- The items that are lost, in the order in which they were dealt. -/
def lostL : List Nat → List (Option Nat) → List Nat
  | x :: R, p :: P => if p.isNone then x :: lostL R P else lostL R P
  | _, _ => []
theorem lostL_len : ∀ (R : List Nat) (P : List (Option Nat)), P.length = R.length → (lostL R P).length = P.countP (fun x => x.isNone)
  | [], [], _ => rfl
  | [], _ :: _, h => by simp at h
  | _ :: _, [], h => by simp at h
  | x :: R, p :: P, h => by
    have ih := lostL_len R P (by simpa using h)
    unfold lostL
    rw [List.countP_cons]
    by_cases hp : p.isNone = true
    · rw [if_pos hp, if_pos hp, List.length_cons, ih]
    · rw [if_neg hp, if_neg hp, ih]; rfl
theorem lostL_map (g : Nat → Nat) : ∀ (R : List Nat) (P : List (Option Nat)), lostL (R.map g) P = (lostL R P).map g
  | [], _ => by unfold lostL; rfl
  | _ :: _, [] => by unfold lostL; rfl
  | x :: R, p :: P => by
    rw [List.map_cons]
    unfold lostL
    rw [lostL_map g R P]
    split <;> rfl
theorem lostL_mem : ∀ (R : List Nat) (P : List (Option Nat)) (i : Nat), P.length = R.length → R.Nodup → (i ∈ lostL R P ↔ i ∈ R ∧ asg R P i = none)
  | [], [], i, _, _ => by unfold lostL; simp
  | [], _ :: _, _, h, _ => by simp at h
  | _ :: _, [], _, h, _ => by simp at h
  | x :: R, p :: P, i, h, hn => by
    obtain ⟨h1, h2⟩ := List.nodup_cons.1 hn
    have ih := lostL_mem R P i (by simpa using h) h2
    unfold lostL asg
    by_cases hp : p.isNone = true
    · rw [if_pos hp, List.mem_cons, List.mem_cons, ih]
      by_cases e : x = i
      · subst e; rw [if_pos rfl]; simp; cases p <;> simp_all
      · rw [if_neg e]
        constructor
        · rintro (h | h)
          · exact absurd h.symm e
          · exact ⟨.inr h.1, h.2⟩
        · rintro ⟨h | h, h3⟩
          · exact absurd h.symm e
          · exact .inr ⟨h, h3⟩
    · rw [if_neg hp, ih, List.mem_cons]
      by_cases e : x = i
      · subst e; rw [if_pos rfl]
        constructor
        · rintro ⟨h, _⟩; exact absurd h h1
        · rintro ⟨_, h⟩; rw [h] at hp; exact absurd rfl hp
      · rw [if_neg e]
        constructor
        · rintro ⟨h, h3⟩; exact ⟨.inr h, h3⟩
        · rintro ⟨h | h, h3⟩
          · exact absurd h.symm e
          · exact ⟨h, h3⟩
theorem asg_map {g : Nat → Nat} : ∀ (R : List Nat) (P : List (Option Nat)) (i : Nat), (∀ x ∈ R, g x = g i → x = i) → asg (R.map g) P (g i) = asg R P i
  | [], _, _, _ => by unfold asg; rfl
  | _ :: _, [], _, _ => by unfold asg; rfl
  | x :: R, p :: P, i, h => by
    rw [List.map_cons]
    unfold asg
    rw [asg_map R P i (fun y hy => h y (List.mem_cons_of_mem _ hy))]
    by_cases e : x = i
    · subst e; rw [if_pos rfl, if_pos rfl]
    · rw [if_neg e, if_neg (fun e2 => e (h x List.mem_cons_self e2))]

/-- Where the items that are dealt go. -/
def plc (f : Nat → It) (S D T : Nat) (o : List Nat) : List (Option Nat) := dl S ((D + 1) * S) T ((D + 1) * S) 0 (deeps f (reals f o))
def goes (f : Nat → It) (S D T : Nat) (o : List Nat) : Nat → Option Nat := asg (reals f o) (plc f S D T o)
def lostO (f : Nat → It) (S D T : Nat) (o : List Nat) : List Nat := lostL (reals f o) (plc f S D T o)
section
variable {f : Nat → It} {n S D T : Nat} {o : List Nat}
theorem plc_len : (plc f S D T o).length = (reals f o).length := by unfold plc; rw [dl_len]; simp [deeps]
theorem goes_real (h : IsOrd f n o) {i p : Nat} (hi : goes f S D T o i = some p) : i < n ∧ 0 ≤ (f i).2 := by
  obtain ⟨k, hk, rfl, _⟩ := asg_some (reals_nodup h) plc_len hi
  exact (reals_mem h _).1 (List.getElem_mem hk)
theorem goes_mem (h : IsOrd f n o) {i p : Nat} (hi : goes f S D T o i = some p) : ∃ k, ∃ hk : k < (reals f o).length, (reals f o)[k] = i ∧ (plc f S D T o)[k]? = some (some p) := by
  obtain ⟨k, hk, e, e2⟩ := asg_some (reals_nodup h) plc_len hi
  exact ⟨k, hk, e, by rw [List.getElem?_eq_getElem (by rw [plc_len]; exact hk), e2]⟩
/-- All that is dealt is kept. -/
theorem goes_lt (hS : 0 < S) (h : IsOrd f n o) {i p : Nat} (hi : goes f S D T o i = some p) : p < (D + 1) * S + T := by
  obtain ⟨k, hk, _, e⟩ := goes_mem h hi
  have hm : some p ∈ plc f S D T o := List.mem_of_getElem? e
  rcases dl_mem S _ T hS _ _ _ (Nat.le_refl _) p hm with h1 | h1
  · have := rv_lt hS h1
    rw [rv_rv S p hS] at this
    omega
  · omega
theorem goes_inj (hS : 0 < S) (h : IsOrd f n o) {i j p : Nat} (hi : goes f S D T o i = some p) (hj : goes f S D T o j = some p) : i = j :=
  asg_inj (reals_nodup h) plc_len (dl_once S _ T hS (D + 1) rfl _ _ _ (Nat.le_refl _)) hi hj
theorem goes_deep (hS : 0 < S) (h : IsOrd f n o) {i p : Nat} (hi : goes f S D T o i = some p) (hp : p < (D + 1) * S) : ((p / S : Nat) : Int) ≤ (f i).2 := by
  obtain ⟨k, hk, e1, e⟩ := goes_mem h hi
  have hk2 : k < (deeps f (reals f o)).length := by simpa [deeps] using hk
  have h1 := dl_deep S _ T hS _ _ _ k p hk2 e hp
  have h2 : (deeps f (reals f o))[k] = (f i).2.toNat := by simp [deeps, e1]
  rw [h2] at h1
  have := (goes_real h hi).2
  omega
theorem lost_mem (h : IsOrd f n o) (i : Nat) : i ∈ lostO f S D T o ↔ (i < n ∧ 0 ≤ (f i).2) ∧ goes f S D T o i = none := by
  unfold lostO goes
  rw [lostL_mem _ _ i plc_len (reals_nodup h), reals_mem h]
theorem lost_len (hS : 0 < S) (h : IsOrd f n o) : (lostO f S D T o).length = msd S D (deeps f (reals f o)) (D + 1) - T := by
  unfold lostO
  rw [lostL_len _ _ plc_len]
  unfold plc
  rw [dl_none, lo_msd S D hS _ (deeps_down h), Nat.sub_zero]
theorem lost_few (hS : 0 < S) (h : IsOrd f n o) : (lostO f S D T o).length ≤ (List.range n).countP (fun i => decide (0 ≤ (f i).2)) - T := by
  rw [lost_len hS h, ← lo_msd S D hS _ (deeps_down h), lo_is S hS]
  have h1 := mxs_le S (deeps f (reals f o))
  have h2 := deeps_count h (fun _ => true)
  have h3 : (deeps f (reals f o)).countP (fun _ => true) = (deeps f (reals f o)).length := by simp
  simp only [Bool.and_true] at h2
  omega
theorem lostL_sub : ∀ (R : List Nat) (P : List (Option Nat)), (lostL R P).Sublist R
  | [], _ => by unfold lostL; exact List.Sublist.refl _
  | _ :: _, [] => by unfold lostL; exact List.nil_sublist _
  | x :: R, p :: P => by
    unfold lostL
    split
    · exact (lostL_sub R P).cons_cons x
    · exact (lostL_sub R P).cons x
theorem lost_nodup (h : IsOrd f n o) : (lostO f S D T o).Nodup := (reals_nodup h).sublist (lostL_sub _ _)
/-- Of what is counted, if it is lost ones alone, there is no more than is lost. -/
theorem count_lost (h : IsOrd f n o) (q : Nat → Bool) (hq : ∀ i, i < n → q i = true → 0 ≤ (f i).2 ∧ goes f S D T o i = none) : (List.range n).countP q ≤ (lostO f S D T o).length := by
  rw [List.countP_eq_length_filter]
  refine List.Nodup.length_le_of_subset (nodup_up (filter_up q n)) fun i hi => ?_
  obtain ⟨h1, h2⟩ := List.mem_filter.1 hi
  have h1 := List.mem_range.1 h1
  obtain ⟨h3, h4⟩ := hq i h1 h2
  exact (lost_mem h i).2 ⟨⟨h1, h3⟩, h4⟩
/-- All of them: each place is dealt once. -/
theorem goes_perm (hS : 0 < S) (hn : (D + 1) * S + T < n) (h : IsOrd f n o) : ((List.range n).map (outP (goes f S D T o) n)).Perm (List.range n) :=
  out_perm (fun _ _ _ hi => by have := goes_lt hS h hi; omega) (fun _ _ _ _ _ hi hj => goes_inj hS h hi hj)
theorem out_some {A : Nat → Option Nat} {n i p : Nat} (h : A i = some p) : outP A n i = p := by unfold outP; rw [h]
end
/-- The places that are left, from one on: the first one is the least. -/
theorem drop_mem {l : List Nat} (h : l.Pairwise (· < ·)) (k : Nat) (hk : k < l.length) (p : Nat) : (p ∈ l.drop (k + 1) ↔ p ∈ l.drop k ∧ p ≠ l[k]) ∧ (p ∈ l.drop k → l[k] ≤ p) ∧ l[k] ∈ l.drop k := by
  have e : l.drop k = l[k] :: l.drop (k + 1) := List.drop_eq_getElem_cons hk
  have hp : (l.drop k).Pairwise (· < ·) := h.sublist (List.drop_sublist k l)
  rw [e] at hp
  obtain ⟨h1, _⟩ := List.pairwise_cons.1 hp
  rw [e]
  refine ⟨⟨fun h2 => ⟨List.mem_cons_of_mem _ h2, fun e2 => ?_⟩, fun h2 => ?_⟩, fun h2 => ?_, List.mem_cons_self⟩
  · have := h1 p h2; omega
  · rcases List.mem_cons.1 h2.1 with h3 | h3
    · exact absurd h3 h2.2
    · exact h3
  · rcases List.mem_cons.1 h2 with h3 | h3
    · omega
    · have := h1 p h3; omega
theorem fre_up (A : Nat → Option Nat) (n : Nat) : (fre A n).Pairwise (· < ·) := filter_up _ n
theorem rank_lt {A : Nat → Option Nat} {n i : Nat} (hi : i < n) (hA : A i = none) : (List.range i).countP (fun j => (A j).isNone) < (wants A n).length := by
  unfold wants
  rw [← List.countP_eq_length_filter]
  have h1 : (List.range (i + 1)).countP (fun j => (A j).isNone) ≤ (List.range n).countP (fun j => (A j).isNone) := (List.range_sublist.2 hi).countP_le
  rw [List.range_succ, List.countP_append] at h1
  have h2 : [i].countP (fun j => (A j).isNone) = 1 := by simp [hA]
  omega
theorem asg_count (q : Option Nat → Bool) : ∀ (R : List Nat) (P : List (Option Nat)), R.Nodup → P.length = R.length → R.countP (fun i => q (asg R P i)) = P.countP q
  | [], [], _, _ => rfl
  | [], _ :: _, _, h => by simp at h
  | _ :: _, [], _, h => by simp at h
  | x :: R, p :: P, hn, h => by
    obtain ⟨h1, h2⟩ := List.nodup_cons.1 hn
    have ih := asg_count q R P h2 (by simpa using h)
    rw [List.countP_cons, List.countP_cons, ← ih]
    have e1 : asg (x :: R) (p :: P) x = p := by unfold asg; rw [if_pos rfl]
    rw [e1]
    congr 1
    apply List.countP_congr
    intro i hi
    have : asg (x :: R) (p :: P) i = asg R P i := by
      conv => lhs; unfold asg
      rw [if_neg (fun e => h1 (by rw [e]; exact hi))]
    rw [this]
section
variable {f : Nat → It} {n S D T : Nat} {o : List Nat}
/-- What is counted of the places that were dealt is counted of all items. -/
theorem goes_count (h : IsOrd f n o) (q : Option Nat → Bool) (hq : q none = false) : (List.range n).countP (fun i => q (goes f S D T o i)) = (plc f S D T o).countP q := by
  rw [← asg_count q (reals f o) _ (reals_nodup h) plc_len, ← h.perm.countP_eq, ord_split h.srt, List.countP_append]
  have e : (blanks f o).countP (fun i => q (goes f S D T (reals f o ++ blanks f o) i)) = 0 := by
    rw [← ord_split h.srt, List.countP_eq_zero]
    intro i hi
    have hno : i ∉ reals f o := fun h2 => by
      have h3 := ((reals_mem h i).1 h2).2
      have h4 := (List.mem_filter.1 hi).2
      simp at h4
      omega
    have : goes f S D T o i = none := asg_out _ _ i hno
    rw [this, hq]
    simp
  rw [e, Nat.add_zero, ← ord_split h.srt]
  rfl
/-- If none is lost, as many lie in the stash as must. -/
theorem over_is (hS : 0 < S) (h : IsOrd f n o) (hl : (lostO f S D T o).length = 0) : (List.range n).countP (fun i => inSt ((D + 1) * S) (goes f S D T o i)) = msd S D (deeps f (reals f o)) (D + 1) := by
  rw [goes_count h _ rfl]
  unfold plc
  rw [dl_stash S _ T hS (D + 1) rfl _ _ _ (Nat.le_refl _), lo_msd S D hS _ (deeps_down h)]
  rw [lost_len hS h] at hl
  omega
/-- With none lost: whose place is in the stash, all told. -/
theorem over_at (hS : 0 < S) (hn : n = (D + 1) * S + T + 1) (h : IsOrd f n o) (hl : (lostO f S D T o).length = 0) (i : Nat) (hi : i < n) :
    (decide (0 ≤ (f i).2) && (decide ((D + 1) * S ≤ outP (goes f S D T o) n i) && decide (outP (goes f S D T o) n i < n - 1))) = inSt ((D + 1) * S) (goes f S D T o i) := by
  cases hg : goes f S D T o i with
  | some p =>
    have h1 := goes_lt hS h hg
    have h2 := (goes_real h hg).2
    rw [out_some hg]
    unfold inSt
    have h3 : decide (0 ≤ (f i).2) = true := by simp [h2]
    have h4 : decide (p < n - 1) = true := by simp; omega
    rw [h3, h4]
    simp
  | none =>
    have h3 : decide (0 ≤ (f i).2) = false := by
      cases hr : decide (0 ≤ (f i).2)
      · rfl
      · have : i ∈ lostO f S D T o := (lost_mem h i).2 ⟨⟨hi, by simpa using hr⟩, hg⟩
        rw [List.eq_nil_of_length_eq_zero hl] at this
        cases this
    rw [h3]
    rfl
end
/-- Items that are unlike, turned: who goes where, and who is lost. -/
theorem goes_turn {f g : Nat → It} {n t S D T : Nat} {o o' : List Nat} (ht : t ≤ n) (hg : ∀ j, j < n → g j = f ((j + t) % n))
    (hd : ∀ i j, i < n → j < n → 0 ≤ (f i).2 → 0 ≤ (f j).2 → (f i).1 = (f j).1 → i = j) (h : IsOrd f n o) (h' : IsOrd g n o') :
    lostO f S D T o = (lostO g S D T o').map (fun j => (j + t) % n) ∧ ∀ j, j < n → goes g S D T o' j = goes f S D T o ((j + t) % n) := by
  have hr := reals_turn ht hg hd h h'
  have hdp : deeps g (reals g o') = deeps f (reals f o) := by
    unfold deeps
    rw [← hr, List.map_map]
    apply List.map_congr_left
    intro j hj
    rw [hg j ((reals_mem h' j).1 hj).1]
    rfl
  have hp : plc g S D T o' = plc f S D T o := by unfold plc; rw [hdp]
  refine ⟨?_, fun j hj => ?_⟩
  · unfold lostO
    rw [hp, ← lostL_map, hr]
  · unfold goes
    rw [hp, ← hr]
    exact (asg_map (g := fun j => (j + t) % n) (reals g o') _ j (fun x hx e => turn_inj ((reals_mem h' x).1 hx).1 hj ht e)).symm
end Go.Proofs.YteiilfdbddpodaaDoor
