/- Plain facts on dealing: the order in which items are dealt, and where each one goes. No function is called here. -/
namespace Go.Proofs.Ytnpddimepcblkaa

/-- An item: its Id, and how deep it may lie (below 0: empty). -/
abbrev It := Int × Int
/-- What items are put in order by: the empty ones last, the deepest first, the lesser Id first. -/
def dk0 (x : It) : Int := if 0 ≤ x.2 then 0 else 1
def dk1 (x : It) : Int := if 0 ≤ x.2 then -x.2 else 0
def dk2 (x : It) : Int := if 0 ≤ x.2 then x.1 else 0
/-- Item i is dealt ahead of item j. -/
def bef (f : Nat → It) (i j : Nat) : Prop :=
  dk0 (f i) < dk0 (f j) ∨ dk0 (f i) = dk0 (f j) ∧ (dk1 (f i) < dk1 (f j) ∨ dk1 (f i) = dk1 (f j) ∧ (dk2 (f i) < dk2 (f j) ∨ dk2 (f i) = dk2 (f j) ∧ i < j))
theorem bef_irrefl (f : Nat → It) (i : Nat) : ¬ bef f i i := by unfold bef; omega
theorem bef_trans {f : Nat → It} {i j k : Nat} (h1 : bef f i j) (h2 : bef f j k) : bef f i k := by unfold bef at *; omega
theorem bef_asymm {f : Nat → It} {i j : Nat} (h1 : bef f i j) (h2 : bef f j i) : False := bef_irrefl f i (bef_trans h1 h2)
theorem bef_total (f : Nat → It) {i j : Nat} (h : i ≠ j) : bef f i j ∨ bef f j i := by unfold bef; omega
theorem bef_not (f : Nat → It) {i j : Nat} (h : i ≠ j) : ¬ bef f i j ↔ bef f j i :=
  ⟨fun h1 => (bef_total f h).resolve_left h1, fun h1 h2 => bef_asymm h1 h2⟩
/-- Of two items that are not empty: by Deep, by Id, by place. -/
theorem bef_real {f : Nat → It} {i j : Nat} (hi : 0 ≤ (f i).2) (hj : 0 ≤ (f j).2) : bef f i j ↔ (f j).2 < (f i).2 ∨ (f i).2 = (f j).2 ∧ ((f i).1 < (f j).1 ∨ (f i).1 = (f j).1 ∧ i < j) := by
  unfold bef dk0 dk1 dk2
  rw [if_pos hi, if_pos hj, if_pos hi, if_pos hj, if_pos hi, if_pos hj]
  omega
theorem bef_mix {f : Nat → It} {i j : Nat} (hi : 0 ≤ (f i).2) (hj : (f j).2 < 0) : bef f i j := by
  unfold bef dk0
  rw [if_pos hi, if_neg (by omega)]
  omega
theorem bef_none {f : Nat → It} {i j : Nat} (hi : (f i).2 < 0) (hj : (f j).2 < 0) : bef f i j ↔ i < j := by
  unfold bef dk0 dk1 dk2
  rw [if_neg (by omega), if_neg (by omega), if_neg (by omega), if_neg (by omega), if_neg (by omega), if_neg (by omega)]
  omega
/-- A list of places is the order of n items. -/
structure IsOrd (f : Nat → It) (n : Nat) (o : List Nat) : Prop where
  perm : o.Perm (List.range n)
  srt : o.Pairwise (bef f)
section
variable {f : Nat → It} {n : Nat} {o o' : List Nat}
/-- There is no more than one. -/
theorem IsOrd.only (h : IsOrd f n o) (h' : IsOrd f n o') : o = o' :=
  List.Perm.eq_of_pairwise (fun _ _ _ _ h1 h2 => (bef_asymm h1 h2).elim) h.srt h'.srt (h.perm.trans h'.perm.symm)
theorem IsOrd.len (h : IsOrd f n o) : o.length = n := by rw [h.perm.length_eq, List.length_range]
theorem IsOrd.mem (h : IsOrd f n o) (i : Nat) : i ∈ o ↔ i < n := by rw [h.perm.mem_iff, List.mem_range]
theorem IsOrd.nodup (h : IsOrd f n o) : o.Nodup := h.perm.nodup_iff.2 List.nodup_range
theorem IsOrd.lt (h : IsOrd f n o) (k : Nat) (hk : k < o.length) : o[k] < n := (h.mem _).1 (List.getElem_mem hk)
/-- What is sorted, has no place twice, and has just the places below n, is the order. -/
theorem IsOrd.of (hs : o.Pairwise (bef f)) (hm : ∀ i, i ∈ o ↔ i < n) : IsOrd f n o :=
  ⟨(List.perm_ext_iff_of_nodup (hs.imp fun h e => by subst e; exact bef_irrefl _ _ h) List.nodup_range).2 fun i => by rw [hm, List.mem_range], hs⟩
end
/-- The order's places of items that are not empty, and those of the empty ones. -/
def reals (f : Nat → It) (o : List Nat) : List Nat := o.filter fun i => decide (0 ≤ (f i).2)
def blanks (f : Nat → It) (o : List Nat) : List Nat := o.filter fun i => !decide (0 ≤ (f i).2)
theorem ord_split {f : Nat → It} : ∀ {o : List Nat}, o.Pairwise (bef f) → o = reals f o ++ blanks f o
  | [], _ => rfl
  | i :: o, h => by
    obtain ⟨h1, h2⟩ := List.pairwise_cons.1 h
    have ih := ord_split h2
    unfold reals blanks at *
    by_cases hi : 0 ≤ (f i).2
    · rw [List.filter_cons_of_pos (by simp [hi]), List.filter_cons_of_neg (by simp [hi]), List.cons_append, ← ih]
    · rw [List.filter_cons_of_neg (by simp [hi]), List.filter_cons_of_pos (by simp [hi])]
      have hno : ∀ j ∈ o, ¬ 0 ≤ (f j).2 := fun j hj h0 => bef_asymm (h1 j hj) (bef_mix h0 (by omega))
      have e : o.filter (fun i => decide (0 ≤ (f i).2)) = [] := by
        rw [List.filter_eq_nil_iff]
        intro j hj
        simpa using hno j hj
      rw [e] at ih ⊢
      rw [List.nil_append] at ih ⊢
      rw [← ih]

/-- Of a row of S slots the last one first. -/
def rv (S x : Nat) : Nat := x / S * S + (S - 1 - x % S)
theorem rv_div (S x : Nat) (hS : 0 < S) : rv S x / S = x / S := by
  unfold rv
  have := Nat.mod_lt x hS
  have e : (S - 1 - x % S) / S = 0 := Nat.div_eq_of_lt (by omega)
  rw [Nat.mul_comm, Nat.mul_add_div hS, e, Nat.add_zero]
theorem rv_mod (S x : Nat) (hS : 0 < S) : rv S x % S = S - 1 - x % S := by
  unfold rv
  have := Nat.mod_lt x hS
  rw [Nat.mul_comm, Nat.mul_add_mod, Nat.mod_eq_of_lt (by omega)]
theorem rv_rv (S x : Nat) (hS : 0 < S) : rv S (rv S x) = x := by
  have h1 := rv_div S x hS
  have h2 := rv_mod S x hS
  have h3 := Nat.mod_lt x hS
  have h4 := Nat.div_add_mod x S
  unfold rv at h1 h2 ⊢
  rw [h1, h2, Nat.mul_comm]
  omega
theorem rv_inj {S x y : Nat} (hS : 0 < S) (h : rv S x = rv S y) : x = y := by rw [← rv_rv S x hS, ← rv_rv S y hS, h]
theorem rv_lt {S x d : Nat} (hS : 0 < S) (h : x < d * S) : rv S x < d * S := by
  have h1 := rv_div S x hS
  have h2 : x / S < d := (Nat.div_lt_iff_lt_mul hS).2 h
  exact (Nat.div_lt_iff_lt_mul hS).1 (by omega)
/-- By level and slot: what is left is a level's places and those above, less the slots that are taken. -/
theorem rv_level (S lv on : Nat) (hon : on < S) : rv S ((lv + 1) * S - on - 1) = lv * S + on := by
  have hS : 0 < S := by omega
  have e : (lv + 1) * S - on - 1 = S * lv + (S - 1 - on) := by rw [Nat.add_mul, Nat.one_mul, Nat.mul_comm]; omega
  unfold rv
  rw [e, Nat.mul_add_div hS, Nat.mul_add_mod, Nat.div_eq_of_lt (by omega), Nat.mod_eq_of_lt (by omega)]
  rw [Nat.add_zero]
  omega

/-- Where items go, one behind the other, by how deep each may lie: r places of the levels are left, st of the stash's T are taken; L is how many places all levels have. -/
def dl (S L T : Nat) : Nat → Nat → List Nat → List (Option Nat)
  | _, _, [] => []
  | r, st, d :: ds =>
    if min r ((d + 1) * S) = 0 then (if st < T then some (L + st) :: dl S L T 0 (st + 1) ds else none :: dl S L T 0 st ds)
    else some (rv S (min r ((d + 1) * S) - 1)) :: dl S L T (min r ((d + 1) * S) - 1) st ds
/-- How many find no place on a level. -/
def lo (S : Nat) : Nat → List Nat → Nat
  | _, [] => 0
  | r, d :: ds => if min r ((d + 1) * S) = 0 then lo S 0 ds + 1 else lo S (min r ((d + 1) * S) - 1) ds
/-- By how many the items from one on are more than there is room for, at most. -/
def mxs (S : Nat) : List Nat → Nat
  | [] => 0
  | d :: ds => max (ds.length + 1 - (d + 1) * S) (mxs S ds)
theorem dl_len (S L T : Nat) : ∀ (ds : List Nat) (r st : Nat), (dl S L T r st ds).length = ds.length
  | [], _, _ => rfl
  | d :: ds, r, st => by
    unfold dl
    split
    · split <;> simp [dl_len S L T ds]
    · simp [dl_len S L T ds]
theorem mxs_le (S : Nat) : ∀ ds : List Nat, mxs S ds ≤ ds.length
  | [] => Nat.le_refl _
  | d :: ds => by
    have := mxs_le S ds
    unfold mxs
    simp
    omega
theorem lo_is (S : Nat) (hS : 0 < S) : ∀ (ds : List Nat) (r : Nat), lo S r ds = max (ds.length - r) (mxs S ds)
  | [], r => by unfold lo mxs; simp
  | d :: ds, r => by
    have hp : 0 < (d + 1) * S := Nat.mul_pos (by omega) hS
    have hm := mxs_le S ds
    unfold lo mxs
    rw [lo_is S hS ds, lo_is S hS ds]
    rw [List.length_cons]
    split <;> omega
theorem dl_none (S L T : Nat) : ∀ (ds : List Nat) (r st : Nat), (dl S L T r st ds).countP (fun x => x.isNone) = lo S r ds - (T - st)
  | [], _, _ => by simp [dl, lo]
  | d :: ds, r, st => by
    unfold dl lo
    split
    · split
      · rw [List.countP_cons, dl_none S L T ds]; simp; omega
      · rw [List.countP_cons, dl_none S L T ds]; simp; omega
    · rw [List.countP_cons, dl_none S L T ds]; simp
/-- What is dealt lies on a level, of the places that are left, or in the stash, behind those that are taken. -/
theorem dl_mem (S L T : Nat) (hS : 0 < S) : ∀ (ds : List Nat) (r st : Nat), r ≤ L → ∀ y, some y ∈ dl S L T r st ds → (rv S y < r) ∨ (L + st ≤ y ∧ y < L + T)
  | [], _, _, _, y, h => by simp [dl] at h
  | d :: ds, r, st, hr, y, h => by
    unfold dl at h
    split at h
    · split at h
      · rcases List.mem_cons.1 h with h | h
        · injection h with h; subst h; right; omega
        · rcases dl_mem S L T hS ds 0 (st + 1) (by omega) y h with h | h
          · omega
          · right; omega
      · rcases List.mem_cons.1 h with h | h
        · cases h
        · rcases dl_mem S L T hS ds 0 st (by omega) y h with h | h
          · omega
          · right; omega
    · rcases List.mem_cons.1 h with h | h
      · injection h with h; subst h; left; rw [rv_rv S _ hS]; omega
      · rcases dl_mem S L T hS ds _ st (by omega) y h with h | h
        · left; omega
        · right; omega
/-- No place is dealt twice. -/
theorem dl_once (S L T : Nat) (hS : 0 < S) (d0 : Nat) (hL : L = d0 * S) : ∀ (ds : List Nat) (r st : Nat), r ≤ L → (dl S L T r st ds).Pairwise fun a b => ∀ y, a = some y → b ≠ some y
  | [], _, _, _ => by unfold dl; exact List.Pairwise.nil
  | d :: ds, r, st, hr => by
    unfold dl
    split
    · split
      · refine List.pairwise_cons.2 ⟨fun b hb y hy e => ?_, dl_once S L T hS d0 hL ds 0 (st + 1) (by omega)⟩
        subst e
        injection hy with hy
        rcases dl_mem S L T hS ds 0 (st + 1) (by omega) y hb with h | h <;> omega
      · exact List.pairwise_cons.2 ⟨fun b _ y hy => (by cases hy), dl_once S L T hS d0 hL ds 0 st (by omega)⟩
    · refine List.pairwise_cons.2 ⟨fun b hb y hy e => ?_, dl_once S L T hS d0 hL ds _ st (by omega)⟩
      subst e
      injection hy with hy
      rcases dl_mem S L T hS ds _ st (by omega) y hb with h | h
      · rw [← hy, rv_rv S _ hS] at h; omega
      · have : rv S (min r ((d + 1) * S) - 1) < d0 * S := rv_lt hS (by omega)
        omega
/-- None lies deeper than it may. -/
theorem dl_deep (S L T : Nat) (hS : 0 < S) : ∀ (ds : List Nat) (r st k y : Nat) (hk : k < ds.length), (dl S L T r st ds)[k]? = some (some y) → y < L → y / S ≤ ds[k]
  | [], _, _, k, _, hk, _, _ => absurd hk (by simp)
  | d :: ds, r, st, 0, y, hk, h, hy => by
    unfold dl at h
    split at h
    · split at h
      · simp at h; omega
      · simp at h
    · simp at h
      subst h
      rw [rv_div S _ hS, List.getElem_cons_zero]
      have hp : 0 < (d + 1) * S := Nat.mul_pos (by omega) hS
      have : (min r ((d + 1) * S) - 1) / S < d + 1 := (Nat.div_lt_iff_lt_mul hS).2 (by omega)
      omega
  | d :: ds, r, st, k + 1, y, hk, h, hy => by
    unfold dl at h
    rw [List.getElem_cons_succ]
    split at h
    · split at h
      · rw [List.getElem?_cons_succ] at h
        exact dl_deep S L T hS ds _ _ k y _ h hy
      · rw [List.getElem?_cons_succ] at h
        exact dl_deep S L T hS ds _ _ k y _ h hy
    · rw [List.getElem?_cons_succ] at h
      exact dl_deep S L T hS ds _ _ k y _ h hy
/-- How many lie in the stash. -/
def inSt (L : Nat) (x : Option Nat) : Bool := match x with | some y => decide (L ≤ y) | none => false
theorem dl_stash (S L T : Nat) (hS : 0 < S) (d0 : Nat) (hL : L = d0 * S) : ∀ (ds : List Nat) (r st : Nat), r ≤ L → (dl S L T r st ds).countP (inSt L) = min (lo S r ds) (T - st)
  | [], _, _, _ => by simp [dl, lo]
  | d :: ds, r, st, hr => by
    unfold dl lo
    split
    · split
      · rw [List.countP_cons, dl_stash S L T hS d0 hL ds _ _ (by omega)]
        have : inSt L (some (L + st)) = true := by simp [inSt]
        rw [if_pos this]; omega
      · rw [List.countP_cons, dl_stash S L T hS d0 hL ds _ _ (by omega)]
        have : inSt L none = false := rfl
        rw [this]; simp; omega
    · rw [List.countP_cons, dl_stash S L T hS d0 hL ds _ _ (by omega)]
      have h1 : rv S (min r ((d + 1) * S) - 1) < d0 * S := rv_lt hS (by omega)
      have : inSt L (some (rv S (min r ((d + 1) * S) - 1))) = false := by simp [inSt]; omega
      rw [this]; simp
/-- Of items in order, those that may lie no deeper than d. -/
theorem mxs_ge (S : Nat) : ∀ (ds : List Nat) (d : Nat), ds.Pairwise (fun a b => b ≤ a) → ds.countP (fun x => decide (x ≤ d)) - (d + 1) * S ≤ mxs S ds
  | [], d, _ => by simp
  | x :: ds, d, h => by
    obtain ⟨h1, h2⟩ := List.pairwise_cons.1 h
    have ih := mxs_ge S ds d h2
    unfold mxs
    rw [List.countP_cons]
    by_cases hx : x ≤ d
    · have hle : ds.countP (fun x => decide (x ≤ d)) ≤ ds.length := List.countP_le_length
      have hm : (x + 1) * S ≤ (d + 1) * S := Nat.mul_le_mul_right _ (by omega)
      rw [if_pos (by simp [hx])]
      omega
    · rw [if_neg (by simp [hx])]
      omega
theorem mxs_one (S : Nat) : ∀ (ds : List Nat), ds.Pairwise (fun a b => b ≤ a) → mxs S ds = 0 ∨ ∃ d ∈ ds, mxs S ds ≤ ds.countP (fun x => decide (x ≤ d)) - (d + 1) * S
  | [], _ => .inl rfl
  | x :: ds, h => by
    obtain ⟨h1, h2⟩ := List.pairwise_cons.1 h
    unfold mxs
    by_cases hc : ds.length + 1 - (x + 1) * S ≤ mxs S ds
    · rcases mxs_one S ds h2 with h3 | ⟨d, hd, h3⟩
      · left; omega
      · right
        refine ⟨d, List.mem_cons_of_mem _ hd, ?_⟩
        rw [List.countP_cons]
        omega
    · right
      refine ⟨x, List.mem_cons_self, ?_⟩
      have : ds.countP (fun y => decide (y ≤ x)) = ds.length := by
        rw [List.countP_eq_length]
        intro y hy
        simpa using h1 y hy
      rw [List.countP_cons, this]
      simp
      omega
end Go.Proofs.Ytnpddimepcblkaa
