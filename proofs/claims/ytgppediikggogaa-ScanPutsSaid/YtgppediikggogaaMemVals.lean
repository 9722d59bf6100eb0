/- What looks make of a memory's cells: plain facts. -/
import Derived.Test.YtgppediikggogaaMemNew
namespace Go.Proofs.Ytgppediikggogaa

theorem MS.size_read (M : MS) (r a x : Int) : (M.read r a).size x = M.size x := by
  unfold MS.read; split <;> rfl
theorem MS.size_write (M : MS) (r a : Int) (f : Nat → Int) (x : Int) : (M.write r a f).size x = M.size x := by
  unfold MS.write; split <;> rfl
theorem MS.hit_read (M : MS) (r a x y : Int) : (M.read r a).hit x y = M.hit x y := by unfold MS.hit; rw [MS.size_read]
theorem MS.hit_write (M : MS) (r a : Int) (f : Nat → Int) (x y : Int) : (M.write r a f).hit x y = M.hit x y := by unfold MS.hit; rw [MS.size_write]
theorem MS.cell_read (M : MS) (r a x y : Int) : (M.read r a).cell x y = M.cell x y := by
  unfold MS.cell
  rw [MS.hit_read]
  unfold MS.read
  split
  · split <;> rfl
  · rfl
theorem MS.cell_write (M : MS) (r a : Int) (f : Nat → Int) (x y : Int) : (M.write r a f).cell x y = if M.hit x y = true ∧ r = x ∧ a = y then f else M.cell x y := by
  unfold MS.cell
  rw [MS.hit_write]
  cases hh : M.hit x y
  · simp
  · by_cases e : r = x ∧ a = y
    · obtain ⟨rfl, rfl⟩ := e
      rw [if_pos rfl, if_pos ⟨rfl, rfl, rfl⟩]
      unfold MS.write
      rw [if_pos hh]
      simp [MS.put]
    · rw [if_pos rfl, if_neg (by rintro ⟨_, h⟩; exact e h), if_pos rfl]
      unfold MS.write
      split
      · rename_i h2
        obtain ⟨x', y', rfl, rfl, _, _⟩ := MS.hit_nat hh
        obtain ⟨r', a', rfl, rfl, _, _⟩ := MS.hit_nat h2
        simp only [MS.put, MS.see, Int.toNat_natCast]
        rw [if_neg (by omega)]
      · rfl
theorem MS.new_cell (n : Nat) (sz : Nat → Nat) (x y : Int) : (MS.new n sz).cell x y = fun _ => 0 := by
  unfold MS.cell
  split <;> rfl
theorem len_read (M : MS) (r a : Int) : (M.read r a).es.length ≤ M.es.length + 1 := by
  unfold MS.read
  split <;> simp [MS.see, MS.bad]
theorem len_write (M : MS) (r a : Int) (f : Nat → Int) : (M.write r a f).es.length ≤ M.es.length + 1 := by
  unfold MS.write
  split <;> simp [MS.see, MS.put, MS.bad]

/-- Its sizes. -/
def Sized (M : MS) (L : List Nat) : Prop := M.k = L.length ∧ M.sz = fun i => L.getD i 0
theorem Sized.read {M : MS} {L : List Nat} (h : Sized M L) (r a : Int) : Sized (M.read r a) L := by
  unfold MS.read
  split <;> exact h
theorem Sized.write {M : MS} {L : List Nat} (h : Sized M L) (r a : Int) (f : Nat → Int) : Sized (M.write r a f) L := by
  unfold MS.write
  split <;> exact h
theorem Sized.size {M : MS} {L : List Nat} (h : Sized M L) (r : Nat) : M.size r = L.getD r 0 := by
  obtain ⟨h1, h2⟩ := h
  unfold MS.size
  rw [h1, h2]
  by_cases hr : r < L.length
  · rw [if_pos (by omega), Int.toNat_natCast]
  · rw [if_neg (by omega)]
    simp [List.getElem?_eq_none (Nat.le_of_not_lt hr)]
end Go.Proofs.Ytgppediikggogaa
