/- Texts of ours put together: NetList. -/
import Derived.Maps.AppendAt
import Derived.Test.YteiilfdbddpodaaDoorG18
/- Pairs: the pairs of the network, in their order, in a new slice; of what was in memory nothing changes. No conditions. -/
namespace Go.Proofs.YteiilfdbddpodaaDoor
set_option maxRecDepth 100000
open Go.RowKit Go.Shelf Go.ChangeShapes Go.WideShapes Go.ChangeAt
attribute [local go_sem] Oper.semAt_some

/-- A pair's cells; a list's. -/
def cells3 (p : Pr) : List Value := [.int .i64 (p.1 : Nat), .int .i64 (p.2.1 : Nat), .bool p.2.2]
def cellsL (ps : List Pr) : List Value := ps.flatMap cells3
theorem cellsL_len (ps : List Pr) : (cellsL ps).length = ps.length * 3 := by
  induction ps with
  | nil => rfl
  | cons p ps ih => rw [cellsL, List.flatMap_cons, List.length_append, ← cellsL, ih]; simp [cells3]; omega
theorem cellsL_snoc (ps : List Pr) (p : Pr) : cellsL (ps ++ [p]) = cellsL ps ++ cells3 p := by simp [cellsL]
theorem cells_new (W : World) (t : TypeId) (p : Pr) : ∀ j u, (cells3 p)[j]? = some u → (W.alloc (.cells #[.int .i64 (p.1 : Nat), .int .i64 (p.2.1 : Nat), .bool p.2.2] t)).cell? ((⟨W.heap.size, 0, none⟩ : Addr).add j) = some u := by
  intro j u h
  have hb := Box.new W t #[.int .i64 (p.1 : Nat), .int .i64 (p.2.1 : Nat), .bool p.2.2]
  have := hb.cell j
  rw [add_plain, Nat.zero_add, this]
  simpa [cells3] using h
/-- A block of cells that is known whole stays where blocks that are no cells turn. -/
theorem Box.kept {X Y : World} {row : Option Nat} {b : Nat} {t : TypeId} {cs : Array Value} (h : Box X b t cs) (hg : X.grownBy Y row) (hr : ∀ r, row = some r → ∃ o : Obj, X.heap[r]? = some o ∧ o.isCells = false) : Box Y b t cs :=
  h.of (hg.block b h.lt (fun e => by
    obtain ⟨o, ho, hc⟩ := hr b e.symm
    have := (show X.heap[b]? = _ from h).symm.trans ho
    cases this
    cases hc))
end Go.Proofs.YteiilfdbddpodaaDoor
