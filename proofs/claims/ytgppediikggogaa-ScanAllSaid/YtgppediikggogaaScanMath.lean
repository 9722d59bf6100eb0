/- Plain facts on scans of a region: what is found first, how many there are, what a scan that writes makes of a memory. No function is called here. -/
import Derived.Test.YtgppediikggogaaMemMore
namespace Go.Proofs.Ytgppediikggogaa

/-- What was found among the first i cells: its place, the cell, whether there is one. -/
def fnd (P : Nat → Bool) (C : Nat → Nat → Int) : Nat → Nat × (Nat → Int) × Bool
  | 0 => (0, fun _ => 0, false)
  | i + 1 => if (fnd P C i).2.2 = false ∧ P i = true then (i, C i, true) else fnd P C i
theorem fnd_succ (P : Nat → Bool) (C : Nat → Nat → Int) (i : Nat) : fnd P C (i + 1) = if (fnd P C i).2.2 = false ∧ P i = true then (i, C i, true) else fnd P C i := rfl
theorem fnd_none (P : Nat → Bool) (C : Nat → Nat → Int) : ∀ i, (fnd P C i).2.2 = false → fnd P C i = (0, fun _ => 0, false) ∧ ∀ j, j < i → P j = false
  | 0, _ => ⟨rfl, fun j hj => by omega⟩
  | i + 1, h => by
    rw [fnd_succ] at h ⊢
    by_cases hc : (fnd P C i).2.2 = false ∧ P i = true
    · rw [if_pos hc] at h; cases h
    · rw [if_neg hc] at h ⊢
      obtain ⟨h1, h2⟩ := fnd_none P C i h
      refine ⟨h1, fun j hj => ?_⟩
      by_cases e : j = i
      · subst e; exact Bool.eq_false_iff.2 fun e => hc ⟨h, e⟩
      · exact h2 j (by omega)
theorem fnd_some (P : Nat → Bool) (C : Nat → Nat → Int) : ∀ i, (fnd P C i).2.2 = true → (fnd P C i).1 < i ∧ (fnd P C i).2.1 = C (fnd P C i).1 ∧ P (fnd P C i).1 = true ∧ ∀ j, j < (fnd P C i).1 → P j = false
  | 0, h => by cases h
  | i + 1, h => by
    rw [fnd_succ] at h ⊢
    by_cases hc : (fnd P C i).2.2 = false ∧ P i = true
    · rw [if_pos hc]
      exact ⟨by dsimp only; omega, rfl, hc.2, (fnd_none P C i hc.1).2⟩
    · rw [if_neg hc] at h ⊢
      obtain ⟨h1, h2, h3, h4⟩ := fnd_some P C i h
      exact ⟨by omega, h2, h3, h4⟩
theorem fnd_lt (P : Nat → Bool) (C : Nat → Nat → Int) (i : Nat) : (fnd P C i).1 ≤ i := by
  cases h : (fnd P C i).2.2
  · rw [(fnd_none P C i h).1]; exact Nat.zero_le _
  · exact Nat.le_of_lt (fnd_some P C i h).1
theorem fnd_wd (P : Nat → Bool) (C : Nat → Nat → Int) (hC : ∀ j, Wd (C j)) (i : Nat) : Wd (fnd P C i).2.1 := by
  cases h : (fnd P C i).2.2
  · rw [(fnd_none P C i h).1]; exact wd_zero
  · rw [(fnd_some P C i h).2.1]; exact hC _
/-- One cell more, as the program reckons it. -/
theorem fnd_step (P : Nat → Bool) (C : Nat → Nat → Int) (i : Nat) : (fnd P C (i + 1)).1 = (if (P i && !(fnd P C i).2.2) = true then i else (fnd P C i).1) ∧ (fnd P C (i + 1)).2.1 = (if (P i && !(fnd P C i).2.2) = true then C i else (fnd P C i).2.1) ∧
    (fnd P C (i + 1)).2.2 = ((fnd P C i).2.2 || (P i && !(fnd P C i).2.2)) := by
  rw [fnd_succ]
  cases h1 : (fnd P C i).2.2 <;> cases h2 : P i <;> simp [h1]
/-- In how many of the first i cells a word is n. -/
def cnt (P : Nat → Bool) : Nat → Nat
  | 0 => 0
  | i + 1 => cnt P i + if P i = true then 1 else 0
theorem cnt_succ (P : Nat → Bool) (i : Nat) : cnt P (i + 1) = cnt P i + if P i = true then 1 else 0 := rfl
theorem cnt_le (P : Nat → Bool) : ∀ i, cnt P i ≤ i
  | 0 => Nat.le_refl _
  | i + 1 => by have := cnt_le P i; unfold cnt; split <;> omega
theorem cnt_zero (P : Nat → Bool) (C : Nat → Nat → Int) : ∀ i, cnt P i = 0 ↔ (fnd P C i).2.2 = false
  | 0 => ⟨fun _ => rfl, fun _ => rfl⟩
  | i + 1 => by
    have ih := cnt_zero P C i
    rw [fnd_succ]
    unfold cnt
    by_cases hc : P i = true
    · rw [if_pos hc]
      constructor
      · intro h; omega
      · intro h
        by_cases hf : (fnd P C i).2.2 = false
        · rw [if_pos ⟨hf, hc⟩] at h; cases h
        · rw [if_neg (fun k => hf k.1)] at h; exact absurd h hf
    · rw [if_neg hc, if_neg (fun k => hc k.2)]
      simpa using ih
/-- Events of a scan that writes. -/
def scanW (r i : Nat) : List Ev := (List.range i).flatMap fun a => [(r, a, false), (r, a, true)]
theorem scanW_succ (r i : Nat) : scanW r (i + 1) = scanW r i ++ [(r, i, false), (r, i, true)] := by unfold scanW; rw [List.range_succ, List.flatMap_append]; rfl
theorem scanW_len (r i : Nat) : (scanW r i).length = i * 2 := by
  induction i with
  | zero => rfl
  | succ i ih => rw [scanW_succ, List.length_append, ih]; simp; omega
/-- The first i cells of a region were written anew, the one at place b as f, where it is put. -/
def MS.anew (M : MS) (r b : Nat) (f : Nat → Int) (on : Bool) (i : Nat) : MS := { M with c := fun r' a => if r' = r ∧ a < i ∧ a = b ∧ on = true then f else M.c r' a, es := M.es ++ scanW r i }
theorem anew_zero (M : MS) (r b : Nat) (f : Nat → Int) (on : Bool) : M.anew r b f on 0 = M := by
  unfold MS.anew
  have h : (fun r' a => if r' = r ∧ a < 0 ∧ a = b ∧ on = true then f else M.c r' a) = M.c := by
    funext r' a
    rw [if_neg (fun h => by omega)]
  rw [h]
  simp [scanW]
theorem anew_len (M : MS) (r b : Nat) (f : Nat → Int) (on : Bool) (i : Nat) : (M.anew r b f on i).es.length = M.es.length + i * 2 := by
  show (M.es ++ scanW r i).length = _
  rw [List.length_append, scanW_len]
theorem anew_cell (M : MS) (r b : Nat) (f : Nat → Int) (on : Bool) (i : Nat) (hr : r < M.k) (hi : i < M.sz r) : (M.anew r b f on i).cell (r : Int) (i : Int) = M.c r i := by
  unfold MS.cell
  rw [if_pos (MS.hit_of (M := M.anew r b f on i) hr hi)]
  simp only [Int.toNat_natCast]
  show (if r = r ∧ i < i ∧ i = b ∧ on = true then f else M.c r i) = _
  rw [if_neg (fun h => by omega)]
theorem anew_step (M : MS) (r b : Nat) (f : Nat → Int) (on : Bool) (i : Nat) (hr : r < M.k) (hi : i < M.sz r) :
    ((M.anew r b f on i).read (r : Int) (i : Int)).write (r : Int) (i : Int) (if i = b ∧ on = true then f else M.c r i) = M.anew r b f on (i + 1) := by
  have h1 : (M.anew r b f on i).read (r : Int) (i : Int) = (M.anew r b f on i).see r i false := by
    unfold MS.read; rw [if_pos (MS.hit_of (M := M.anew r b f on i) hr hi)]; simp
  rw [h1]
  have h2 : ∀ g, ((M.anew r b f on i).see r i false).write (r : Int) (i : Int) g = (((M.anew r b f on i).see r i false).see r i true).put r i g := fun g => by
    unfold MS.write; rw [if_pos (MS.hit_of (M := (M.anew r b f on i).see r i false) hr hi)]; simp
  rw [h2]
  unfold MS.anew MS.see MS.put
  dsimp only
  rw [scanW_succ]
  congr 1
  · funext r' a
    by_cases e1 : r' = r ∧ a = i
    · rw [if_pos e1]
      obtain ⟨rfl, rfl⟩ := e1
      by_cases e2 : a = b ∧ on = true
      · rw [if_pos e2, if_pos ⟨rfl, by omega, e2.1, e2.2⟩]
      · rw [if_neg e2, if_neg (fun h => e2 h.2.2)]
    · rw [if_neg e1]
      by_cases e2 : r' = r ∧ a < i ∧ a = b ∧ on = true
      · rw [if_pos e2, if_pos ⟨e2.1, by omega, e2.2.2⟩]
      · rw [if_neg e2, if_neg (fun h => by
          by_cases e3 : a = i
          · exact e1 ⟨h.1, e3⟩
          · exact e2 ⟨h.1, by omega, h.2.2⟩)]
  · simp
end Go.Proofs.Ytgppediikggogaa
