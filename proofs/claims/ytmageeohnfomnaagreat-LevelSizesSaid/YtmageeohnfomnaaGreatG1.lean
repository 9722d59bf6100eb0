/- Texts of ours put together: DealMath, DealMore, DealLast, PathMath, DealSel. -/
import Derived.Test.YtmageeohnfomnaaGreatProg
namespace Go.Proofs.YtmageeohnfomnaaGreat
set_option maxRecDepth 100000

abbrev It := Int × Int
def dk0 (x : It) : Int := if 0 ≤ x.2 then 0 else 1
def dk1 (x : It) : Int := if 0 ≤ x.2 then -x.2 else 0
def dk2 (x : It) : Int := if 0 ≤ x.2 then x.1 else 0
def bef (f : Nat → It) (i j : Nat) : Prop :=
  dk0 (f i) < dk0 (f j) ∨ dk0 (f i) = dk0 (f j) ∧ (dk1 (f i) < dk1 (f j) ∨ dk1 (f i) = dk1 (f j) ∧ (dk2 (f i) < dk2 (f j) ∨ dk2 (f i) = dk2 (f j) ∧ i < j))
theorem bef_irrefl (f : Nat → It) (i : Nat) : ¬ bef f i i := by unfold bef; omega
theorem bef_trans {f : Nat → It} {i j k : Nat} (h1 : bef f i j) (h2 : bef f j k) : bef f i k := by unfold bef at *; omega
theorem bef_asymm {f : Nat → It} {i j : Nat} (h1 : bef f i j) (h2 : bef f j i) : False := bef_irrefl f i (bef_trans h1 h2)
theorem bef_total (f : Nat → It) {i j : Nat} (h : i ≠ j) : bef f i j ∨ bef f j i := by unfold bef; omega
theorem bef_not (f : Nat → It) {i j : Nat} (h : i ≠ j) : ¬ bef f i j ↔ bef f j i :=
  ⟨fun h1 => (bef_total f h).resolve_left h1, fun h1 h2 => bef_asymm h1 h2⟩
theorem bef_real {f : Nat → It} {i j : Nat} (hi : 0 ≤ (f i).2) (hj : 0 ≤ (f j).2) : bef f i j ↔ (f j).2 < (f i).2 ∨ (f i).2 = (f j).2 ∧ ((f i).1 < (f j).1 ∨ (f i).1 = (f j).1 ∧ i < j) := by
  unfold bef dk0 dk1 dk2
  rw [if_pos hi, if_pos hj, if_pos hi, if_pos hj, if_pos hi, if_pos hj]
  omega
theorem bef_mix {f : Nat → It} {i j : Nat} (hi : 0 ≤ (f i).2) (hj : (f j).2 < 0) : bef f i j := by
  unfold bef dk0
  rw [if_pos hi, if_neg (by omega)]
  omega
theorem bef_none {f : Nat → It} {i j : Nat} (hi : (f i).2 < 0) (hj : (f j).2 < 0) : bef f i j ↔ i < j := by
  unfold bef dk0 dk1 dk2
  rw [if_neg (by omega), if_neg (by omega), if_neg (by omega), if_neg (by omega), if_neg (by omega), if_neg (by omega)]
  omega
structure IsOrd (f : Nat → It) (n : Nat) (o : List Nat) : Prop where
  perm : o.Perm (List.range n)
  srt : o.Pairwise (bef f)
section
variable {f : Nat → It} {n : Nat} {o o' : List Nat}
theorem IsOrd.len (h : IsOrd f n o) : o.length = n := by rw [h.perm.length_eq, List.length_range]
theorem IsOrd.mem (h : IsOrd f n o) (i : Nat) : i ∈ o ↔ i < n := by rw [h.perm.mem_iff, List.mem_range]
theorem IsOrd.lt (h : IsOrd f n o) (k : Nat) (hk : k < o.length) : o[k] < n := (h.mem _).1 (List.getElem_mem hk)
end
def reals (f : Nat → It) (o : List Nat) : List Nat := o.filter fun i => decide (0 ≤ (f i).2)
def blanks (f : Nat → It) (o : List Nat) : List Nat := o.filter fun i => !decide (0 ≤ (f i).2)
theorem ord_split {f : Nat → It} : ∀ {o : List Nat}, o.Pairwise (bef f) → o = reals f o ++ blanks f o
  | [], _ => rfl
  | i :: o, h => by
    obtain ⟨h1, h2⟩ := List.pairwise_cons.1 h
    have ih := ord_split h2
    unfold reals blanks at *
    by_cases hi : 0 ≤ (f i).2
    · rw [List.filter_cons_of_pos (by simp [hi]), List.filter_cons_of_neg (by simp [hi]), List.cons_append, ← ih]
    · rw [List.filter_cons_of_neg (by simp [hi]), List.filter_cons_of_pos (by simp [hi])]
      have hno : ∀ j ∈ o, ¬ 0 ≤ (f j).2 := fun j hj h0 => bef_asymm (h1 j hj) (bef_mix h0 (by omega))
      have e : o.filter (fun i => decide (0 ≤ (f i).2)) = [] := by
        rw [List.filter_eq_nil_iff]
        intro j hj
        simpa using hno j hj
      rw [e] at ih ⊢
      rw [List.nil_append] at ih ⊢
      rw [← ih]

def rv (S x : Nat) : Nat := x / S * S + (S - 1 - x % S)
theorem rv_div (S x : Nat) (hS : 0 < S) : rv S x / S = x / S := by
  unfold rv
  have := Nat.mod_lt x hS
  have e : (S - 1 - x % S) / S = 0 := Nat.div_eq_of_lt (by omega)
  rw [Nat.mul_comm, Nat.mul_add_div hS, e, Nat.add_zero]
theorem rv_mod (S x : Nat) (hS : 0 < S) : rv S x % S = S - 1 - x % S := by
  unfold rv
  have := Nat.mod_lt x hS
  rw [Nat.mul_comm, Nat.mul_add_mod, Nat.mod_eq_of_lt (by omega)]
theorem rv_rv (S x : Nat) (hS : 0 < S) : rv S (rv S x) = x := by
  have h1 := rv_div S x hS
  have h2 := rv_mod S x hS
  have h3 := Nat.mod_lt x hS
  have h4 := Nat.div_add_mod x S
  unfold rv at h1 h2 ⊢
  rw [h1, h2, Nat.mul_comm]
  omega
theorem rv_lt {S x d : Nat} (hS : 0 < S) (h : x < d * S) : rv S x < d * S := by
  have h1 := rv_div S x hS
  have h2 : x / S < d := (Nat.div_lt_iff_lt_mul hS).2 h
  exact (Nat.div_lt_iff_lt_mul hS).1 (by omega)
theorem rv_level (S lv on : Nat) (hon : on < S) : rv S ((lv + 1) * S - on - 1) = lv * S + on := by
  have hS : 0 < S := by omega
  have e : (lv + 1) * S - on - 1 = S * lv + (S - 1 - on) := by rw [Nat.add_mul, Nat.one_mul, Nat.mul_comm]; omega
  unfold rv
  rw [e, Nat.mul_add_div hS, Nat.mul_add_mod, Nat.div_eq_of_lt (by omega), Nat.mod_eq_of_lt (by omega)]
  rw [Nat.add_zero]
  omega

def dl (S L T : Nat) : Nat → Nat → List Nat → List (Option Nat)
  | _, _, [] => []
  | r, st, d :: ds =>
    if min r ((d + 1) * S) = 0 then (if st < T then some (L + st) :: dl S L T 0 (st + 1) ds else none :: dl S L T 0 st ds)
    else some (rv S (min r ((d + 1) * S) - 1)) :: dl S L T (min r ((d + 1) * S) - 1) st ds
def lo (S : Nat) : Nat → List Nat → Nat
  | _, [] => 0
  | r, d :: ds => if min r ((d + 1) * S) = 0 then lo S 0 ds + 1 else lo S (min r ((d + 1) * S) - 1) ds
def mxs (S : Nat) : List Nat → Nat
  | [] => 0
  | d :: ds => max (ds.length + 1 - (d + 1) * S) (mxs S ds)
theorem dl_len (S L T : Nat) : ∀ (ds : List Nat) (r st : Nat), (dl S L T r st ds).length = ds.length
  | [], _, _ => rfl
  | d :: ds, r, st => by
    unfold dl
    split
    · split <;> simp [dl_len S L T ds]
    · simp [dl_len S L T ds]
theorem mxs_le (S : Nat) : ∀ ds : List Nat, mxs S ds ≤ ds.length
  | [] => Nat.le_refl _
  | d :: ds => by
    have := mxs_le S ds
    unfold mxs
    simp
    omega
theorem lo_is (S : Nat) (hS : 0 < S) : ∀ (ds : List Nat) (r : Nat), lo S r ds = max (ds.length - r) (mxs S ds)
  | [], r => by unfold lo mxs; simp
  | d :: ds, r => by
    have hp : 0 < (d + 1) * S := Nat.mul_pos (by omega) hS
    have hm := mxs_le S ds
    unfold lo mxs
    rw [lo_is S hS ds, lo_is S hS ds]
    rw [List.length_cons]
    split <;> omega
theorem dl_none (S L T : Nat) : ∀ (ds : List Nat) (r st : Nat), (dl S L T r st ds).countP (fun x => x.isNone) = lo S r ds - (T - st)
  | [], _, _ => by simp [dl, lo]
  | d :: ds, r, st => by
    unfold dl lo
    split
    · split
      · rw [List.countP_cons, dl_none S L T ds]; simp; omega
      · rw [List.countP_cons, dl_none S L T ds]; simp; omega
    · rw [List.countP_cons, dl_none S L T ds]; simp
theorem dl_mem (S L T : Nat) (hS : 0 < S) : ∀ (ds : List Nat) (r st : Nat), r ≤ L → ∀ y, some y ∈ dl S L T r st ds → (rv S y < r) ∨ (L + st ≤ y ∧ y < L + T)
  | [], _, _, _, y, h => by simp [dl] at h
  | d :: ds, r, st, hr, y, h => by
    unfold dl at h
    split at h
    · split at h
      · rcases List.mem_cons.1 h with h | h
        · injection h with h; subst h; right; omega
        · rcases dl_mem S L T hS ds 0 (st + 1) (by omega) y h with h | h
          · omega
          · right; omega
      · rcases List.mem_cons.1 h with h | h
        · cases h
        · rcases dl_mem S L T hS ds 0 st (by omega) y h with h | h
          · omega
          · right; omega
    · rcases List.mem_cons.1 h with h | h
      · injection h with h; subst h; left; rw [rv_rv S _ hS]; omega
      · rcases dl_mem S L T hS ds _ st (by omega) y h with h | h
        · left; omega
        · right; omega
theorem dl_once (S L T : Nat) (hS : 0 < S) (d0 : Nat) (hL : L = d0 * S) : ∀ (ds : List Nat) (r st : Nat), r ≤ L → (dl S L T r st ds).Pairwise fun a b => ∀ y, a = some y → b ≠ some y
  | [], _, _, _ => by unfold dl; exact List.Pairwise.nil
  | d :: ds, r, st, hr => by
    unfold dl
    split
    · split
      · refine List.pairwise_cons.2 ⟨fun b hb y hy e => ?_, dl_once S L T hS d0 hL ds 0 (st + 1) (by omega)⟩
        subst e
        injection hy with hy
        rcases dl_mem S L T hS ds 0 (st + 1) (by omega) y hb with h | h <;> omega
      · exact List.pairwise_cons.2 ⟨fun b _ y hy => (by cases hy), dl_once S L T hS d0 hL ds 0 st (by omega)⟩
    · refine List.pairwise_cons.2 ⟨fun b hb y hy e => ?_, dl_once S L T hS d0 hL ds _ st (by omega)⟩
      subst e
      injection hy with hy
      rcases dl_mem S L T hS ds _ st (by omega) y hb with h | h
      · rw [← hy, rv_rv S _ hS] at h; omega
      · have : rv S (min r ((d + 1) * S) - 1) < d0 * S := rv_lt hS (by omega)
        omega
theorem dl_deep (S L T : Nat) (hS : 0 < S) : ∀ (ds : List Nat) (r st k y : Nat) (hk : k < ds.length), (dl S L T r st ds)[k]? = some (some y) → y < L → y / S ≤ ds[k]
  | [], _, _, k, _, hk, _, _ => absurd hk (by simp)
  | d :: ds, r, st, 0, y, hk, h, hy => by
    unfold dl at h
    split at h
    · split at h
      · simp at h; omega
      · simp at h
    · simp at h
      subst h
      rw [rv_div S _ hS, List.getElem_cons_zero]
      have hp : 0 < (d + 1) * S := Nat.mul_pos (by omega) hS
      have : (min r ((d + 1) * S) - 1) / S < d + 1 := (Nat.div_lt_iff_lt_mul hS).2 (by omega)
      omega
  | d :: ds, r, st, k + 1, y, hk, h, hy => by
    unfold dl at h
    rw [List.getElem_cons_succ]
    split at h
    · split at h
      · rw [List.getElem?_cons_succ] at h
        exact dl_deep S L T hS ds _ _ k y _ h hy
      · rw [List.getElem?_cons_succ] at h
        exact dl_deep S L T hS ds _ _ k y _ h hy
    · rw [List.getElem?_cons_succ] at h
      exact dl_deep S L T hS ds _ _ k y _ h hy
theorem mxs_ge (S : Nat) : ∀ (ds : List Nat) (d : Nat), ds.Pairwise (fun a b => b ≤ a) → ds.countP (fun x => decide (x ≤ d)) - (d + 1) * S ≤ mxs S ds
  | [], d, _ => by simp
  | x :: ds, d, h => by
    obtain ⟨h1, h2⟩ := List.pairwise_cons.1 h
    have ih := mxs_ge S ds d h2
    unfold mxs
    rw [List.countP_cons]
    by_cases hx : x ≤ d
    · have hle : ds.countP (fun x => decide (x ≤ d)) ≤ ds.length := List.countP_le_length
      have hm : (x + 1) * S ≤ (d + 1) * S := Nat.mul_le_mul_right _ (by omega)
      rw [if_pos (by simp [hx])]
      omega
    · rw [if_neg (by simp [hx])]
      omega
theorem mxs_one (S : Nat) : ∀ (ds : List Nat), ds.Pairwise (fun a b => b ≤ a) → mxs S ds = 0 ∨ ∃ d ∈ ds, mxs S ds ≤ ds.countP (fun x => decide (x ≤ d)) - (d + 1) * S
  | [], _ => .inl rfl
  | x :: ds, h => by
    obtain ⟨h1, h2⟩ := List.pairwise_cons.1 h
    unfold mxs
    by_cases hc : ds.length + 1 - (x + 1) * S ≤ mxs S ds
    · rcases mxs_one S ds h2 with h3 | ⟨d, hd, h3⟩
      · left; omega
      · right
        refine ⟨d, List.mem_cons_of_mem _ hd, ?_⟩
        rw [List.countP_cons]
        omega
    · right
      refine ⟨x, List.mem_cons_self, ?_⟩
      have : ds.countP (fun y => decide (y ≤ x)) = ds.length := by
        rw [List.countP_eq_length]
        intro y hy
        simpa using h1 y hy
      rw [List.countP_cons, this]
      simp
      omega
end Go.Proofs.YtmageeohnfomnaaGreat


namespace Go.Proofs.YtmageeohnfomnaaGreat
set_option maxRecDepth 100000

def msd (S D : Nat) (ds : List Nat) : Nat → Nat
  | 0 => 0
  | k + 1 => max (msd S D ds k) (ds.countP (fun x => decide (min x D ≤ k)) - S * (k + 1))
theorem msd_ge (S D : Nat) (ds : List Nat) : ∀ k d, d < k → ds.countP (fun x => decide (min x D ≤ d)) - S * (d + 1) ≤ msd S D ds k
  | 0, d, h => absurd h (Nat.not_lt_zero _)
  | k + 1, d, h => by
    unfold msd
    by_cases e : d = k
    · subst e; omega
    · have := msd_ge S D ds k d (by omega); omega
theorem msd_le (S D : Nat) (ds : List Nat) (m : Nat) : ∀ k, (∀ d, d < k → ds.countP (fun x => decide (min x D ≤ d)) - S * (d + 1) ≤ m) → msd S D ds k ≤ m
  | 0, _ => Nat.zero_le _
  | k + 1, h => by
    have h1 := msd_le S D ds m k (fun d hd => h d (by omega))
    have h2 := h k (by omega)
    unfold msd
    omega
theorem count_mono {α : Type} (p q : α → Bool) (l : List α) (h : ∀ x ∈ l, p x = true → q x = true) : l.countP p ≤ l.countP q := List.countP_mono_left h
theorem lo_msd (S D : Nat) (hS : 0 < S) (ds : List Nat) (h : ds.Pairwise (fun a b => b ≤ a)) : lo S ((D + 1) * S) ds = msd S D ds (D + 1) := by
  have hall : ds.countP (fun x => decide (min x D ≤ D)) = ds.length := by
    rw [List.countP_eq_length]
    intro x _
    simp
    omega
  have hD := msd_ge S D ds (D + 1) D (by omega)
  rw [hall, Nat.mul_comm] at hD
  rw [lo_is S hS]
  apply Nat.le_antisymm
  · have hm : mxs S ds ≤ msd S D ds (D + 1) := by
      rcases mxs_one S ds h with h1 | ⟨d, hd, h1⟩
      · omega
      · by_cases hdD : d ≤ D
        · have h2 := msd_ge S D ds (D + 1) d (by omega)
          have h3 : ds.countP (fun x => decide (x ≤ d)) ≤ ds.countP (fun x => decide (min x D ≤ d)) := count_mono _ _ _ fun x _ hx => by
            simp at hx ⊢; omega
          rw [Nat.mul_comm] at h2
          omega
        · have h3 : ds.countP (fun x => decide (x ≤ d)) ≤ ds.length := List.countP_le_length
          have h4 : (D + 1) * S ≤ (d + 1) * S := Nat.mul_le_mul_right _ (by omega)
          omega
    omega
  · refine msd_le S D ds _ (D + 1) fun d hd => ?_
    by_cases e : d = D
    · subst e
      rw [hall, Nat.mul_comm]
      omega
    · have h1 := mxs_ge S ds d h
      have h3 : ds.countP (fun x => decide (min x D ≤ d)) ≤ ds.countP (fun x => decide (x ≤ d)) := count_mono _ _ _ fun x _ hx => by
        simp at hx ⊢; omega
      rw [Nat.mul_comm S]
      omega

def asg : List Nat → List (Option Nat) → Nat → Option Nat
  | x :: R, p :: P, i => if x = i then p else asg R P i
  | _, _, _ => none
theorem asg_at : ∀ (R : List Nat) (P : List (Option Nat)) (k : Nat), R.Nodup → (hR : k < R.length) → (hP : k < P.length) → asg R P R[k] = P[k]
  | [], _, _, _, hR, _ => absurd hR (by simp)
  | _ :: _, [], _, _, _, hP => absurd hP (by simp)
  | x :: R, p :: P, 0, _, _, _ => by unfold asg; simp
  | x :: R, p :: P, k + 1, hn, hR, hP => by
    obtain ⟨h1, h2⟩ := List.nodup_cons.1 hn
    unfold asg
    simp only [List.getElem_cons_succ]
    rw [if_neg (fun e => h1 (by rw [e]; exact List.getElem_mem _))]
    exact asg_at R P k h2 _ _
theorem asg_out : ∀ (R : List Nat) (P : List (Option Nat)) (i : Nat), i ∉ R → asg R P i = none
  | [], _, _, _ => by unfold asg; rfl
  | _ :: _, [], _, _ => by unfold asg; rfl
  | x :: R, p :: P, i, h => by
    unfold asg
    rw [if_neg (fun e => h (by rw [e]; exact List.mem_cons_self))]
    exact asg_out R P i (fun e => h (List.mem_cons_of_mem _ e))
theorem asg_some {R : List Nat} {P : List (Option Nat)} (hn : R.Nodup) (hl : P.length = R.length) {i p : Nat} (h : asg R P i = some p) : ∃ k, ∃ hk : k < R.length, R[k] = i ∧ P[k]'(by omega) = some p := by
  by_cases hi : i ∈ R
  · obtain ⟨k, hk, rfl⟩ := List.mem_iff_getElem.1 hi
    rw [asg_at R P k hn hk (by omega)] at h
    exact ⟨k, hk, rfl, h⟩
  · rw [asg_out R P i hi] at h
    cases h
theorem asg_inj {R : List Nat} {P : List (Option Nat)} (hn : R.Nodup) (hl : P.length = R.length) (ho : P.Pairwise fun a b => ∀ y, a = some y → b ≠ some y) {i j p : Nat} (hi : asg R P i = some p) (hj : asg R P j = some p) : i = j := by
  obtain ⟨a, ha, rfl, e1⟩ := asg_some hn hl hi
  obtain ⟨b, hb, rfl, e2⟩ := asg_some hn hl hj
  have hp := List.pairwise_iff_getElem.1 ho
  rcases Nat.lt_trichotomy a b with h | h | h
  · exact absurd e2 (hp a b (by omega) (by omega) h p e1)
  · subst h; rfl
  · exact absurd e1 (hp b a (by omega) (by omega) h p e2)

theorem rank_at (p : Nat → Bool) : ∀ (n k : Nat) (hk : k < ((List.range n).filter p).length), (List.range ((List.range n).filter p)[k]).countP p = k
  | 0, k, hk => absurd hk (by simp)
  | n + 1, k, hk => by
    have e : (List.range (n + 1)).filter p = (List.range n).filter p ++ (if p n then [n] else []) := by
      rw [List.range_succ, List.filter_append]
      congr 1
      cases h : p n <;> simp [h]
    by_cases h : k < ((List.range n).filter p).length
    · have : ((List.range (n + 1)).filter p)[k] = ((List.range n).filter p)[k] := by
        simp only [e]
        rw [List.getElem_append_left h]
      rw [this]
      exact rank_at p n k h
    · have hp : p n = true := by
        cases hp : p n
        · rw [e, hp] at hk; simp at hk; simp at h; omega
        · rfl
      have hk2 : k = ((List.range n).filter p).length := by
        rw [e, hp] at hk
        simp at hk h
        omega
      have : ((List.range (n + 1)).filter p)[k] = n := by
        simp only [e, hp]
        rw [List.getElem_append_right (by omega)]
        simp
      rw [this, hk2, List.countP_eq_length_filter]
theorem filter_up (p : Nat → Bool) (n : Nat) : ((List.range n).filter p).Pairwise (· < ·) := List.pairwise_lt_range.filter p
theorem nodup_up {l : List Nat} (h : l.Pairwise (· < ·)) : l.Nodup := h.imp fun h => Nat.ne_of_lt h
section
variable (A : Nat → Option Nat) (n : Nat)
def isAt (p : Nat) : Bool := (List.range n).any fun i => A i == some p
def fre : List Nat := (List.range n).filter fun p => !isAt A n p
def wants : List Nat := (List.range n).filter fun i => (A i).isNone
def outP (i : Nat) : Nat := match A i with
  | some p => p
  | none => (fre A n)[(List.range i).countP fun j => (A j).isNone]?.getD 0
theorem isAt_iff (p : Nat) : isAt A n p = true ↔ ∃ i, i < n ∧ A i = some p := by
  unfold isAt
  rw [List.any_eq_true]
  constructor
  · rintro ⟨i, hi, h⟩; exact ⟨i, List.mem_range.1 hi, by simpa using h⟩
  · rintro ⟨i, hi, h⟩; exact ⟨i, List.mem_range.2 hi, by simpa using h⟩
end
section
variable {A : Nat → Option Nat} {n : Nat}
theorem some_perm (hlt : ∀ i p, i < n → A i = some p → p < n) (hinj : ∀ i j p, i < n → j < n → A i = some p → A j = some p → i = j) :
    (((List.range n).filter fun i => !(A i).isNone).map (outP A n)).Perm ((List.range n).filter (isAt A n)) := by
  refine (List.perm_ext_iff_of_nodup ?_ (nodup_up (filter_up _ n))).2 fun p => ?_
  · unfold List.Nodup
    rw [List.pairwise_map]
    refine List.Pairwise.imp_of_mem ?_ (filter_up (fun i => !(A i).isNone) n)
    intro a b ha hb hab e
    obtain ⟨ha1, ha2⟩ := List.mem_filter.1 ha
    obtain ⟨hb1, hb2⟩ := List.mem_filter.1 hb
    cases hA : A a with
    | none => rw [hA] at ha2; cases ha2
    | some x =>
      cases hB : A b with
      | none => rw [hB] at hb2; cases hb2
      | some y =>
        unfold outP at e
        rw [hA, hB] at e
        have e : x = y := e
        subst e
        have := hinj a b x (List.mem_range.1 ha1) (List.mem_range.1 hb1) hA hB
        omega
  · rw [List.mem_map, List.mem_filter, isAt_iff, List.mem_range]
    constructor
    · rintro ⟨i, hi, rfl⟩
      obtain ⟨hi1, hi2⟩ := List.mem_filter.1 hi
      cases hA : A i with
      | none => rw [hA] at hi2; cases hi2
      | some x =>
        have e : outP A n i = x := by unfold outP; rw [hA]
        rw [e]
        exact ⟨hlt i x (List.mem_range.1 hi1) hA, i, List.mem_range.1 hi1, hA⟩
    · rintro ⟨_, i, hi, hA⟩
      refine ⟨i, List.mem_filter.2 ⟨List.mem_range.2 hi, by rw [hA]; rfl⟩, ?_⟩
      unfold outP; rw [hA]
theorem fre_len (hlt : ∀ i p, i < n → A i = some p → p < n) (hinj : ∀ i j p, i < n → j < n → A i = some p → A j = some p → i = j) : (fre A n).length = (wants A n).length := by
  have h1 := (some_perm hlt hinj).length_eq
  have h2 := (List.filter_append_perm (fun i => (A i).isNone) (List.range n)).length_eq
  have h3 := (List.filter_append_perm (isAt A n) (List.range n)).length_eq
  rw [List.length_append, List.length_range] at h2 h3
  rw [List.length_map] at h1
  unfold fre wants
  omega
theorem wants_out (hlt : ∀ i p, i < n → A i = some p → p < n) (hinj : ∀ i j p, i < n → j < n → A i = some p → A j = some p → i = j) : (wants A n).map (outP A n) = fre A n := by
  have hl := fre_len hlt hinj
  apply List.ext_getElem
  · rw [List.length_map, hl]
  · intro k h1 h2
    rw [List.getElem_map]
    have hk : k < (wants A n).length := by omega
    have hr := rank_at (fun i => (A i).isNone) n k hk
    have hm : (wants A n)[k] ∈ wants A n := List.getElem_mem hk
    have hw : (A (wants A n)[k]).isNone = true := (List.mem_filter.1 hm).2
    cases hA : A (wants A n)[k] with
    | some x => rw [hA] at hw; cases hw
    | none =>
      unfold outP
      rw [hA]
      show (fre A n)[_]?.getD 0 = _
      have hr' : (List.range (wants A n)[k]).countP (fun j => (A j).isNone) = k := hr
      rw [hr', List.getElem?_eq_getElem h2]
      rfl
theorem out_perm (hlt : ∀ i p, i < n → A i = some p → p < n) (hinj : ∀ i j p, i < n → j < n → A i = some p → A j = some p → i = j) : ((List.range n).map (outP A n)).Perm (List.range n) := by
  have h1 := (List.filter_append_perm (fun i => (A i).isNone) (List.range n)).symm.map (outP A n)
  refine h1.trans ?_
  rw [List.map_append]
  have h2 : List.map (outP A n) (List.filter (fun i => (A i).isNone) (List.range n)) = fre A n := wants_out hlt hinj
  rw [h2]
  refine ((List.Perm.refl _).append (some_perm hlt hinj)).trans ?_
  exact List.perm_append_comm.trans (List.filter_append_perm (isAt A n) (List.range n))
end
end Go.Proofs.YtmageeohnfomnaaGreat


namespace Go.Proofs.YtmageeohnfomnaaGreat
set_option maxRecDepth 100000

def LvAt (S r : Nat) (lv : Int) (on : Nat) : Prop := (lv = -1 ∧ on = 0 ∧ r = 0) ∨ ∃ l : Nat, lv = l ∧ on < S ∧ r = (l + 1) * S - on
theorem LvAt.start (S D : Nat) (hS : 0 < S) : LvAt S ((D + 1) * S) (D : Int) 0 := .inr ⟨D, rfl, hS, by omega⟩
theorem LvAt.drop {S r : Nat} {lv : Int} {on d : Nat} (h : LvAt S r lv on) (hd : (d : Int) < lv) : LvAt S (min r ((d + 1) * S)) (d : Int) 0 := by
  rcases h with ⟨rfl, _, _⟩ | ⟨l, rfl, hon, rfl⟩
  · omega
  · refine .inr ⟨d, rfl, by omega, ?_⟩
    have h1 : (d + 1) * S ≤ l * S := Nat.mul_le_mul_right _ (by omega)
    have h2 : (l + 1) * S = l * S + S := by rw [Nat.add_mul, Nat.one_mul]
    omega
theorem LvAt.keep {S r : Nat} {lv : Int} {on d : Nat} (h : LvAt S r lv on) (hd : ¬ (d : Int) < lv) : min r ((d + 1) * S) = r := by
  rcases h with ⟨rfl, _, rfl⟩ | ⟨l, rfl, hon, rfl⟩
  · omega
  · have h1 : (l + 1) * S ≤ (d + 1) * S := Nat.mul_le_mul_right _ (by omega)
    omega
theorem LvAt.none {S r : Nat} {lv : Int} {on : Nat} (h : LvAt S r lv on) (hl : lv < 0) : r = 0 ∧ lv = -1 ∧ on = 0 := by
  rcases h with ⟨rfl, rfl, rfl⟩ | ⟨l, rfl, _, _⟩
  · exact ⟨rfl, rfl, rfl⟩
  · omega
theorem LvAt.put {S r l on : Nat} (h : LvAt S r (l : Int) on) : r ≠ 0 ∧ on < S ∧ rv S (r - 1) = l * S + on ∧ (on + 1 = S → LvAt S (r - 1) ((l : Int) - 1) 0) ∧ (on + 1 ≠ S → LvAt S (r - 1) (l : Int) (on + 1)) := by
  rcases h with ⟨h, _, _⟩ | ⟨l', e, hon, rfl⟩
  · omega
  · have : l' = l := by omega
    subst this
    have h2 : (l' + 1) * S = l' * S + S := by rw [Nat.add_mul, Nat.one_mul]
    refine ⟨by omega, hon, rv_level S l' on hon, fun h => ?_, fun h => ?_⟩
    · cases l' with
      | zero => exact .inl ⟨rfl, rfl, by omega⟩
      | succ m => exact .inr ⟨m, by omega, by omega, by omega⟩
    · exact .inr ⟨l', rfl, by omega, by omega⟩
theorem LvAt.le {S r l on D : Nat} (h : LvAt S r (l : Int) on) (hr : r ≤ (D + 1) * S) : l ≤ D := by
  rcases h with ⟨h, _, _⟩ | ⟨l', e, hon, rfl⟩
  · omega
  · have : l' = l := by omega
    subst this
    have h2 : (l' + 1) * S = l' * S + S := by rw [Nat.add_mul, Nat.one_mul]
    apply Nat.le_of_not_lt
    intro h3
    have h4 : (D + 1) * S ≤ l' * S := Nat.mul_le_mul_right _ h3
    omega

theorem reals_mem {f : Nat → It} {n : Nat} {o : List Nat} (h : IsOrd f n o) (i : Nat) : i ∈ reals f o ↔ i < n ∧ 0 ≤ (f i).2 := by
  unfold reals
  rw [List.mem_filter, h.mem]
  simp
theorem reals_srt {f : Nat → It} {n : Nat} {o : List Nat} (h : IsOrd f n o) : (reals f o).Pairwise (bef f) := h.srt.filter _
theorem reals_nodup {f : Nat → It} {n : Nat} {o : List Nat} (h : IsOrd f n o) : (reals f o).Nodup := (reals_srt h).imp fun h e => by subst e; exact bef_irrefl _ _ h
def deeps (f : Nat → It) (R : List Nat) : List Nat := R.map fun i => (f i).2.toNat
theorem deeps_down {f : Nat → It} {n : Nat} {o : List Nat} (h : IsOrd f n o) : (deeps f (reals f o)).Pairwise (fun a b => b ≤ a) := by
  unfold deeps
  rw [List.pairwise_map]
  refine List.Pairwise.imp_of_mem ?_ (reals_srt h)
  intro a b ha hb hab
  obtain ⟨_, ha2⟩ := (reals_mem h a).1 ha
  obtain ⟨_, hb2⟩ := (reals_mem h b).1 hb
  rw [bef_real ha2 hb2] at hab
  omega
theorem deeps_count {f : Nat → It} {n : Nat} {o : List Nat} (h : IsOrd f n o) (p : Nat → Bool) : (deeps f (reals f o)).countP p = (List.range n).countP (fun i => decide (0 ≤ (f i).2) && p (f i).2.toNat) := by
  unfold deeps reals
  rw [List.countP_map, List.countP_filter, h.perm.countP_eq]
  apply List.countP_congr
  intro i _
  simp [Bool.and_comm]
def lostL : List Nat → List (Option Nat) → List Nat
  | x :: R, p :: P => if p.isNone then x :: lostL R P else lostL R P
  | _, _ => []
theorem lostL_len : ∀ (R : List Nat) (P : List (Option Nat)), P.length = R.length → (lostL R P).length = P.countP (fun x => x.isNone)
  | [], [], _ => rfl
  | [], _ :: _, h => by simp at h
  | _ :: _, [], h => by simp at h
  | x :: R, p :: P, h => by
    have ih := lostL_len R P (by simpa using h)
    unfold lostL
    rw [List.countP_cons]
    by_cases hp : p.isNone = true
    · rw [if_pos hp, if_pos hp, List.length_cons, ih]
    · rw [if_neg hp, if_neg hp, ih]; rfl
theorem lostL_map (g : Nat → Nat) : ∀ (R : List Nat) (P : List (Option Nat)), lostL (R.map g) P = (lostL R P).map g
  | [], _ => by unfold lostL; rfl
  | _ :: _, [] => by unfold lostL; rfl
  | x :: R, p :: P => by
    rw [List.map_cons]
    unfold lostL
    rw [lostL_map g R P]
    split <;> rfl
theorem lostL_mem : ∀ (R : List Nat) (P : List (Option Nat)) (i : Nat), P.length = R.length → R.Nodup → (i ∈ lostL R P ↔ i ∈ R ∧ asg R P i = none)
  | [], [], i, _, _ => by unfold lostL; simp
  | [], _ :: _, _, h, _ => by simp at h
  | _ :: _, [], _, h, _ => by simp at h
  | x :: R, p :: P, i, h, hn => by
    obtain ⟨h1, h2⟩ := List.nodup_cons.1 hn
    have ih := lostL_mem R P i (by simpa using h) h2
    unfold lostL asg
    by_cases hp : p.isNone = true
    · rw [if_pos hp, List.mem_cons, List.mem_cons, ih]
      by_cases e : x = i
      · subst e; rw [if_pos rfl]; simp; cases p <;> simp_all
      · rw [if_neg e]
        constructor
        · rintro (h | h)
          · exact absurd h.symm e
          · exact ⟨.inr h.1, h.2⟩
        · rintro ⟨h | h, h3⟩
          · exact absurd h.symm e
          · exact .inr ⟨h, h3⟩
    · rw [if_neg hp, ih, List.mem_cons]
      by_cases e : x = i
      · subst e; rw [if_pos rfl]
        constructor
        · rintro ⟨h, _⟩; exact absurd h h1
        · rintro ⟨_, h⟩; rw [h] at hp; exact absurd rfl hp
      · rw [if_neg e]
        constructor
        · rintro ⟨h, h3⟩; exact ⟨.inr h, h3⟩
        · rintro ⟨h | h, h3⟩
          · exact absurd h.symm e
          · exact ⟨h, h3⟩
def plc (f : Nat → It) (S D T : Nat) (o : List Nat) : List (Option Nat) := dl S ((D + 1) * S) T ((D + 1) * S) 0 (deeps f (reals f o))
def goes (f : Nat → It) (S D T : Nat) (o : List Nat) : Nat → Option Nat := asg (reals f o) (plc f S D T o)
def lostO (f : Nat → It) (S D T : Nat) (o : List Nat) : List Nat := lostL (reals f o) (plc f S D T o)
section
variable {f : Nat → It} {n S D T : Nat} {o : List Nat}
theorem plc_len : (plc f S D T o).length = (reals f o).length := by unfold plc; rw [dl_len]; simp [deeps]
theorem goes_real (h : IsOrd f n o) {i p : Nat} (hi : goes f S D T o i = some p) : i < n ∧ 0 ≤ (f i).2 := by
  obtain ⟨k, hk, rfl, _⟩ := asg_some (reals_nodup h) plc_len hi
  exact (reals_mem h _).1 (List.getElem_mem hk)
theorem goes_mem (h : IsOrd f n o) {i p : Nat} (hi : goes f S D T o i = some p) : ∃ k, ∃ hk : k < (reals f o).length, (reals f o)[k] = i ∧ (plc f S D T o)[k]? = some (some p) := by
  obtain ⟨k, hk, e, e2⟩ := asg_some (reals_nodup h) plc_len hi
  exact ⟨k, hk, e, by rw [List.getElem?_eq_getElem (by rw [plc_len]; exact hk), e2]⟩
theorem goes_lt (hS : 0 < S) (h : IsOrd f n o) {i p : Nat} (hi : goes f S D T o i = some p) : p < (D + 1) * S + T := by
  obtain ⟨k, hk, _, e⟩ := goes_mem h hi
  have hm : some p ∈ plc f S D T o := List.mem_of_getElem? e
  rcases dl_mem S _ T hS _ _ _ (Nat.le_refl _) p hm with h1 | h1
  · have := rv_lt hS h1
    rw [rv_rv S p hS] at this
    omega
  · omega
theorem goes_inj (hS : 0 < S) (h : IsOrd f n o) {i j p : Nat} (hi : goes f S D T o i = some p) (hj : goes f S D T o j = some p) : i = j :=
  asg_inj (reals_nodup h) plc_len (dl_once S _ T hS (D + 1) rfl _ _ _ (Nat.le_refl _)) hi hj
theorem goes_deep (hS : 0 < S) (h : IsOrd f n o) {i p : Nat} (hi : goes f S D T o i = some p) (hp : p < (D + 1) * S) : ((p / S : Nat) : Int) ≤ (f i).2 := by
  obtain ⟨k, hk, e1, e⟩ := goes_mem h hi
  have hk2 : k < (deeps f (reals f o)).length := by simpa [deeps] using hk
  have h1 := dl_deep S _ T hS _ _ _ k p hk2 e hp
  have h2 : (deeps f (reals f o))[k] = (f i).2.toNat := by simp [deeps, e1]
  rw [h2] at h1
  have := (goes_real h hi).2
  omega
theorem lost_mem (h : IsOrd f n o) (i : Nat) : i ∈ lostO f S D T o ↔ (i < n ∧ 0 ≤ (f i).2) ∧ goes f S D T o i = none := by
  unfold lostO goes
  rw [lostL_mem _ _ i plc_len (reals_nodup h), reals_mem h]
theorem lost_len (hS : 0 < S) (h : IsOrd f n o) : (lostO f S D T o).length = msd S D (deeps f (reals f o)) (D + 1) - T := by
  unfold lostO
  rw [lostL_len _ _ plc_len]
  unfold plc
  rw [dl_none, lo_msd S D hS _ (deeps_down h), Nat.sub_zero]
theorem lost_few (hS : 0 < S) (h : IsOrd f n o) : (lostO f S D T o).length ≤ (List.range n).countP (fun i => decide (0 ≤ (f i).2)) - T := by
  rw [lost_len hS h, ← lo_msd S D hS _ (deeps_down h), lo_is S hS]
  have h1 := mxs_le S (deeps f (reals f o))
  have h2 := deeps_count h (fun _ => true)
  have h3 : (deeps f (reals f o)).countP (fun _ => true) = (deeps f (reals f o)).length := by simp
  simp only [Bool.and_true] at h2
  omega
theorem lostL_sub : ∀ (R : List Nat) (P : List (Option Nat)), (lostL R P).Sublist R
  | [], _ => by unfold lostL; exact List.Sublist.refl _
  | _ :: _, [] => by unfold lostL; exact List.nil_sublist _
  | x :: R, p :: P => by
    unfold lostL
    split
    · exact (lostL_sub R P).cons_cons x
    · exact (lostL_sub R P).cons x
theorem goes_perm (hS : 0 < S) (hn : (D + 1) * S + T < n) (h : IsOrd f n o) : ((List.range n).map (outP (goes f S D T o) n)).Perm (List.range n) :=
  out_perm (fun _ _ _ hi => by have := goes_lt hS h hi; omega) (fun _ _ _ _ _ hi hj => goes_inj hS h hi hj)
theorem out_some {A : Nat → Option Nat} {n i p : Nat} (h : A i = some p) : outP A n i = p := by unfold outP; rw [h]
end
theorem fre_up (A : Nat → Option Nat) (n : Nat) : (fre A n).Pairwise (· < ·) := filter_up _ n
theorem rank_lt {A : Nat → Option Nat} {n i : Nat} (hi : i < n) (hA : A i = none) : (List.range i).countP (fun j => (A j).isNone) < (wants A n).length := by
  unfold wants
  rw [← List.countP_eq_length_filter]
  have h1 : (List.range (i + 1)).countP (fun j => (A j).isNone) ≤ (List.range n).countP (fun j => (A j).isNone) := (List.range_sublist.2 hi).countP_le
  rw [List.range_succ, List.countP_append] at h1
  have h2 : [i].countP (fun j => (A j).isNone) = 1 := by simp [hA]
  omega
section
variable {f : Nat → It} {n S D T : Nat} {o : List Nat}
end
end Go.Proofs.YtmageeohnfomnaaGreat


namespace Go.Proofs.YtmageeohnfomnaaGreat
set_option maxRecDepth 100000

def nd (d l k : Nat) : Nat := 2 ^ k - 1 + l / 2 ^ (d - k)
def way (d l : Nat) : List Nat := (List.range (d + 1)).map (nd d l)
theorem two_pow_pos (k : Nat) : 0 < 2 ^ k := Nat.two_pow_pos k
theorem nd_zero (d l : Nat) (h : l < 2 ^ d) : nd d l 0 = 0 := by
  unfold nd
  rw [Nat.sub_zero, Nat.div_eq_of_lt h]
theorem nd_last (d l : Nat) : nd d l d = 2 ^ d - 1 + l := by unfold nd; rw [Nat.sub_self]; simp
theorem part_lt (d l k : Nat) (hk : k ≤ d) (h : l < 2 ^ d) : l / 2 ^ (d - k) < 2 ^ k := by
  rw [Nat.div_lt_iff_lt_mul (two_pow_pos _), ← Nat.pow_add, show k + (d - k) = d by omega]
  exact h
theorem part_half (d l k : Nat) (hk : k < d) : l / 2 ^ (d - (k + 1)) / 2 = l / 2 ^ (d - k) := by
  rw [Nat.div_div_eq_div_mul, ← Nat.pow_succ, show (d - (k + 1)).succ = d - k by omega]
theorem nd_lt (d l k : Nat) (hk : k ≤ d) (h : l < 2 ^ d) : nd d l k < 2 ^ (k + 1) - 1 := by
  have h1 := part_lt d l k hk h
  have h2 := two_pow_pos k
  unfold nd
  rw [Nat.pow_succ]
  omega
theorem nd_ge (d l k : Nat) : 2 ^ k - 1 ≤ nd d l k := Nat.le_add_right _ _
theorem pow_le (a b : Nat) (h : a ≤ b) : 2 ^ a ≤ 2 ^ b := Nat.pow_le_pow_right (by decide) h
theorem nd_in (d l k : Nat) (hk : k ≤ d) (h : l < 2 ^ d) : nd d l k < 2 * 2 ^ d - 1 := by
  have h1 := nd_lt d l k hk h
  have h2 := pow_le (k + 1) (d + 1) (by omega)
  rw [Nat.pow_succ 2 d] at h2
  omega
theorem nd_down (d l k : Nat) (hk : k < d) : nd d l (k + 1) = 2 * nd d l k + 1 + l / 2 ^ (d - (k + 1)) % 2 := by
  have h1 := part_half d l k hk
  have h2 := two_pow_pos k
  unfold nd
  rw [Nat.pow_succ, ← h1]
  omega
theorem nd_up (d l k : Nat) (hk : k < d) : (nd d l (k + 1) - 1) / 2 = nd d l k := by
  rw [nd_down d l k hk]; omega
theorem nd_eq (d a b k : Nat) : nd d a k = nd d b k ↔ a / 2 ^ (d - k) = b / 2 ^ (d - k) := by unfold nd; omega
theorem nd_depth (d a b j k : Nat) (hj : j ≤ d) (hk : k ≤ d) (ha : a < 2 ^ d) (hb : b < 2 ^ d) (h : nd d a j = nd d b k) : j = k := by
  have h1 := nd_lt d a j hj ha
  have h2 := nd_lt d b k hk hb
  have h3 := nd_ge d a j
  have h4 := nd_ge d b k
  rcases Nat.lt_trichotomy j k with h5 | h5 | h5
  · have := pow_le (j + 1) k h5; have := two_pow_pos (j + 1); omega
  · exact h5
  · have := pow_le (k + 1) j h5; have := two_pow_pos (k + 1); omega
theorem part_up (d a b : Nat) : ∀ m k, k + m ≤ d → a / 2 ^ (d - (k + m)) = b / 2 ^ (d - (k + m)) → a / 2 ^ (d - k) = b / 2 ^ (d - k)
  | 0, _, _, h => h
  | m + 1, k, hd, h => by
    refine part_up d a b m k (by omega) ?_
    rw [← part_half d a (k + m) (by omega), ← part_half d b (k + m) (by omega)]
    rw [show k + m + 1 = k + (m + 1) by omega, h]
theorem nd_above (d a b j k : Nat) (hjk : j ≤ k) (hk : k ≤ d) (h : nd d a k = nd d b k) : nd d a j = nd d b j := by
  rw [nd_eq] at h ⊢
  obtain ⟨m, rfl⟩ : ∃ m, k = j + m := ⟨k - j, by omega⟩
  exact part_up d a b m j hk h
def deep (d a b : Nat) : Nat → Nat
  | 0 => 0
  | n + 1 => if deep d a b n = n ∧ nd d a (n + 1) = nd d b (n + 1) then n + 1 else deep d a b n
theorem deep_le (d a b : Nat) : ∀ n, deep d a b n ≤ n
  | 0 => Nat.le_refl _
  | n + 1 => by
    have := deep_le d a b n
    unfold deep
    split <;> omega
theorem deep_one (d a b : Nat) (ha : a < 2 ^ d) (hb : b < 2 ^ d) : ∀ n, n ≤ d → nd d a (deep d a b n) = nd d b (deep d a b n) ∧ (deep d a b n < n → nd d a (deep d a b n + 1) ≠ nd d b (deep d a b n + 1))
  | 0, _ => ⟨by show nd d a 0 = nd d b 0; rw [nd_zero d a ha, nd_zero d b hb], fun h => absurd h (Nat.not_lt_zero _)⟩
  | n + 1, hn => by
    obtain ⟨h1, h2⟩ := deep_one d a b ha hb n (by omega)
    have hl := deep_le d a b n
    unfold deep
    by_cases hc : deep d a b n = n ∧ nd d a (n + 1) = nd d b (n + 1)
    · rw [if_pos hc]; exact ⟨hc.2, fun h => absurd h (Nat.lt_irrefl _)⟩
    · rw [if_neg hc]
      refine ⟨h1, fun _ => ?_⟩
      by_cases he : deep d a b n = n
      · rw [he]; exact fun h => hc ⟨he, h⟩
      · exact h2 (by omega)
theorem deep_iff (d a b : Nat) (ha : a < 2 ^ d) (hb : b < 2 ^ d) (k : Nat) (hk : k ≤ d) : nd d a k = nd d b k ↔ k ≤ deep d a b d := by
  obtain ⟨h1, h2⟩ := deep_one d a b ha hb d (Nat.le_refl _)
  have hl := deep_le d a b d
  constructor
  · intro h
    apply Nat.le_of_not_lt
    intro hlt
    exact h2 (by omega) (nd_above d a b _ k (by omega) hk h)
  · intro h
    exact nd_above d a b k _ h hl h1
theorem deep_only (d a b : Nat) (ha : a < 2 ^ d) (hb : b < 2 ^ d) (m : Nat) (hm : m ≤ d) (h1 : nd d a m = nd d b m) (h2 : m < d → nd d a (m + 1) ≠ nd d b (m + 1)) : deep d a b d = m := by
  have h3 := (deep_iff d a b ha hb m hm).1 h1
  have hl := deep_le d a b d
  by_cases h4 : m = deep d a b d
  · exact h4.symm
  · exact absurd ((deep_iff d a b ha hb (m + 1) (by omega)).2 (by omega)) (h2 (by omega))
theorem deep_self (d a : Nat) (ha : a < 2 ^ d) : deep d a a d = d := deep_only d a a ha ha d (Nat.le_refl _) rfl (fun h => absurd h (Nat.lt_irrefl _))
theorem deep_turn (d a b : Nat) (ha : a < 2 ^ d) (hb : b < 2 ^ d) : deep d b a d = deep d a b d := by
  obtain ⟨h1, h2⟩ := deep_one d a b ha hb d (Nat.le_refl _)
  exact deep_only d b a hb ha _ (deep_le d a b d) h1.symm (fun h e => h2 h e.symm)
def dep : Nat → Nat → Nat
  | 0, _ => 0
  | f + 1, n => if n ≤ 1 then 0 else dep f (n / 2) + 1
end Go.Proofs.YtmageeohnfomnaaGreat


namespace Go.Proofs.YtmageeohnfomnaaGreat
set_option maxRecDepth 100000

structure SelAt (f : Nat → It) (n : Nat) (out : List Nat) : Prop where
  srt : out.Pairwise (bef f)
  real : ∀ x ∈ out, x < n ∧ 0 ≤ (f x).2
  rest : ∀ x ∈ out, ∀ j, j < n → j ∉ out → 0 ≤ (f j).2 → bef f x j
theorem ord_at {f : Nat → It} {n : Nat} {o : List Nat} (h : IsOrd f n o) (k : Nat) (hk : k < o.length) : (0 ≤ (f o[k]).2 ↔ k < (reals f o).length) ∧ ∀ hr : k < (reals f o).length, o[k] = (reals f o)[k] := by
  have e := ord_split h.srt
  have h1 : ∀ hr : k < (reals f o).length, o[k] = (reals f o)[k] := fun hr => by
    have : o[k]? = (reals f o ++ blanks f o)[k]? := by rw [← e]
    rw [List.getElem?_append_left hr, List.getElem?_eq_getElem hk, List.getElem?_eq_getElem hr] at this
    injection this
  refine ⟨⟨fun h0 => ?_, fun hr => ?_⟩, h1⟩
  · apply Nat.lt_of_not_le
    intro hle
    have hl : o.length = (reals f o).length + (blanks f o).length := by rw [← List.length_append, ← e]
    have h2 : o[k]? = (reals f o ++ blanks f o)[k]? := by rw [← e]
    rw [List.getElem?_append_right hle, List.getElem?_eq_getElem hk, List.getElem?_eq_getElem (by omega)] at h2
    injection h2 with h2
    have hm : o[k] ∈ blanks f o := by rw [h2]; exact List.getElem_mem _
    have := (List.mem_filter.1 hm).2
    simp at this
    omega
  · have hm : o[k] ∈ reals f o := by rw [h1 hr]; exact List.getElem_mem hr
    exact ((reals_mem h _).1 hm).2
end Go.Proofs.YtmageeohnfomnaaGreat

