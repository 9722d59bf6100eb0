/- Texts of ours put together: Way. -/
import Derived.Test.YteiilfdbddpodaaDoorG8
import Derived.Test.YteiilfdbddpodaaDoorG3
/- The contracts of Node (whatever is asked), Path and Deep of package path: a node, how far two ways are one, and a way in a new slice; of what was in memory nothing changes. Conditions: each argument is an int. -/
namespace Go.Proofs.YteiilfdbddpodaaDoor
set_option maxRecDepth 100000
open Go.RowKit Go.Shelf Go.ChangeShapes Go.WideShapes Go.ChangeAt
/-- The nodes of the first depths. -/
def wayI (D l i : Nat) : List Int := (List.range i).map fun k => (nd D l k : Int)
theorem wayI_succ (D l i : Nat) : wayI D l (i + 1) = wayI D l i ++ [(nd D l i : Int)] := by unfold wayI; rw [List.range_succ, List.map_append]; rfl
theorem wayI_len (D l i : Nat) : (wayI D l i).length = i := by simp [wayI]
/-- Behind Path: a way lies in a new slice. -/
def WayPost (w : World) (D l : Nat) (e : Ending) (w' : World) : Prop :=
  ∃ g cap, e = .returned (.slice (some ⟨g, 0, none⟩) (D + 1) cap) ∧ D + 1 ≤ cap ∧ Ir w' w.heap.size g (D + 1) (fun k => (nd D l k : Int)) ∧ Below w.heap.size w w'
theorem way_done {w wr : World} {v : Value} {D l : Nat} (h : IrAt w v (wayI D l (D + 1)) wr) : WayPost w D l (.returned v) wr := by
  obtain ⟨g, cap, rfl, hc, hi⟩ := h.out (by rw [wayI_len]; omega) (fun k => (nd D l k : Int)) (fun j hj => by simp [wayI])
  rw [wayI_len] at hc hi
  refine ⟨g, cap, by rw [wayI_len], hc, hi, h.below⟩
end Go.Proofs.YteiilfdbddpodaaDoor
