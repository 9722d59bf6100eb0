/- Texts of ours put together: WordRow. -/
import Derived.Test.YtfonieemodbikaaGreatProg
import Derived.Laws.CopyOwn
import Derived.Laws.AppendOwnNone
import Derived.OwnWalk
import Derived.Test.YtfonieemodbikaaGreatG2
namespace Go.Proofs.YtfonieemodbikaaGreat
set_option maxRecDepth 100000
open Go.RowKit Go.ChangeShapes Go.WideShapes Go.ChangeAt

theorem infoWord : (Tryz.prog.info? 43).map (fun i => (i.zero, i.size, i.bytes)) = some (some (.int .u64 0), 1, 8) := by kernel_rfl
theorem sizeWord : (Tryz.prog.info? 43).map (·.size) = some 1 := by kernel_rfl

def wordsOf (n : Nat) (z : Nat → Int) : List Value := (List.range n).map fun i => .int .u64 (z i)
theorem wordsOf_len (n : Nat) (z : Nat → Int) : (wordsOf n z).length = n := by simp [wordsOf]
theorem wordsOf_at (n : Nat) (z : Nat → Int) (j : Nat) (h : j < n) : (wordsOf n z)[j]? = some (.int .u64 (z j)) := by simp [wordsOf, h]
theorem wordsOf_one (n : Nat) (z : Nat → Int) : ∀ v ∈ wordsOf n z, v.oneCell' = true := by
  intro v hv
  simp only [wordsOf, List.mem_map] at hv
  obtain ⟨i, _, rfl⟩ := hv; rfl

end Go.Proofs.YtfonieemodbikaaGreat

