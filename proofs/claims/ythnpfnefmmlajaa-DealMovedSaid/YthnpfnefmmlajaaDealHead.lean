/- What DealOnce, DealFew and DealMoved begin with: items filled up, dealt. -/
import Derived.Test.YthnpfnefmmlajaaDealShown
namespace Go.Proofs.Ythnpfnefmmlajaa
open Go.RowKit Go.ChangeShapes Go.WideShapes Go.ChangeAt

/-- Items whose Deep is an int. -/
def DpOk (n : Nat) (y : Nat → It) : Prop := ∀ j, j < n → (y j).2 ≤ 9223372036854775807
theorem fl_ok {m n : Nat} {y : Nat → It} (h : ∀ j, j < m → ItOk (y j)) : DpOk n (fl m y) := fun j _ => by
  unfold fl
  split
  · rename_i hj
    exact (i64_rng (h j hj).2).2
  · show (-1 : Int) ≤ _; decide
theorem goes_n {D S T L n i p : Nat} {y : Nat → It} {o : List Nat} (h2 : 1 ≤ S) (hL : (D + 1) * S = L) (hn : L + T + 1 = n) (ho : IsOrd y n o) (h : goes y S D T o i = some p) : p < L + T ∧ p < n := by
  have := goes_lt (by omega) ho h
  omega
/-- Each place has one item. -/
theorem out_lt {D S T L n : Nat} {y : Nat → It} {o : List Nat} (h2 : 1 ≤ S) (hL : (D + 1) * S = L) (hn : L + T + 1 = n) (ho : IsOrd y n o) (i : Nat) (hi : i < n) : outP (goes y S D T o) n i < n := by
  have hp := goes_perm (T := T) (D := D) (S := S) (by omega) (by rw [hL]; omega) ho
  have : outP (goes y S D T o) n i ∈ (List.range n).map (outP (goes y S D T o) n) := List.mem_map.2 ⟨i, List.mem_range.2 hi, rfl⟩
  exact List.mem_range.1 (hp.mem_iff.1 this)
end Go.Proofs.Ythnpfnefmmlajaa
