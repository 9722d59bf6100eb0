/- What the callers of the network share: how many pairs there are at most, and that each number is one of a network or of none. -/
import Derived.Test.YtojdefaplekieaaNetIter
namespace Go.Proofs.Ytojdefaplekieaa
open Go.RowKit Go.Shelf

theorem zip_one (t : Tmp) (v : Value) (l : List Value) : ((#[t] : Array Tmp).zip #[v]).foldl (fun t (p, v) => t.setIfInBounds p v) l.toArray = (l.set t v).toArray := by
  simp
theorem Net.len {n : Int} {k : Nat} {ps : List Pr} (h : Net n k ps) : ps.length ≤ 28160 := by
  rcases h.is with ⟨P, hP, _, _, rfl⟩ | ⟨_, _, rfl⟩
  · have h1 := netL_len P
    have h2 := two_le P hP
    have h3 : P * (P + 1) ≤ 10 * 11 := Nat.mul_le_mul hP (by omega)
    have h4 : P * (P + 1) * 2 ^ P ≤ 10 * 11 * 1024 := Nat.mul_le_mul h3 h2
    omega
  · simp
theorem Net.of (n : Int) : ∃ k ps, Net n k ps := by
  cases h : isNet n
  · exact ⟨0, [], ⟨.inr ⟨h, rfl, rfl⟩⟩⟩
  · obtain ⟨p, hp, e⟩ := (isNet_iff n).1 h
    exact ⟨_, _, ⟨.inl ⟨p, hp, e, rfl, rfl⟩⟩⟩
end Go.Proofs.Ytojdefaplekieaa
