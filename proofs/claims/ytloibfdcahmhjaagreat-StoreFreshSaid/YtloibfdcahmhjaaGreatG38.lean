/- Texts of ours put together: LevelTw. -/
import Derived.Test.YtloibfdcahmhjaaGreatG34
import Derived.Test.YtloibfdcahmhjaaGreatG37
namespace Go.Proofs.YtloibfdcahmhjaaGreat
set_option maxRecDepth 100000
open Go.RowKit Go.ChangeShapes Go.WideShapes Go.ChangeAt Go.Maps

def eqE (f f2 : Nat) (c c2 : Nat → Nat → Cl) : Prop := ∀ q : Pl, q.1 ≤ 1 → cellsE f c q = cellsE f2 c2 q
section
variable {N S D T n P f f2 : Nat} {M M2 : MS} {a : Ask} {o : List Nat}
theorem ac_far {r : Nat} (h : r < f ∨ f + 2 < r) (b : Nat) : (acM N S D T f P a M o).c r b = M.c r b := by
  unfold acM
  split
  · refine acc_far (by omega) fun i _ k => ?_
    have := wayQ_two (S := S) (D := D) (lf := a.lf.toNat) i
    unfold spot at k
    injection k with k1 _
    omega
  · rfl
theorem ac_k : (acM N S D T f P a M o).k = M.k := by unfold acM; split <;> rfl
theorem ac_sz : (acM N S D T f P a M o).sz = M.sz := by unfold acM; split <;> rfl
theorem ac_eq (h : f2 + 1 < f ∨ f + 2 < f2) : eqE f2 f2 (acM N S D T f P a M o).c M.c := fun q hq => ac_far (by omega) _
end
theorem eqE.wk {S D T f f2 : Nat} {c c2 : Nat → Nat → Cl} (e : eqE f f2 c c2) (h : Wk S D T (cellsE f2 c2)) : Wk S D T (cellsE f c) := fun q hq => by
  rw [e q (by unfold isPl at hq; omega)]
  exact h q hq
structure Tw (H : Type) (N S T D Q N' S' T' D' Q' : Nat) (X : Nat → Prop) (mp np lx bx ly yb lz bz : Nat) (ox oy oz : Bool) (Ix Iy Iz : List Int) (M M2 : MS) (k : Nat) (w : World) : Prop where
  duo : Duo w X mp M np M2
  x1 : X lx
  x2 : X bx
  y1 : X ly
  y2 : X yb
  z1 : X lz
  z2 : X bz
  xy : (ly ≠ lx ∧ ly ≠ bx) ∧ yb ≠ lx ∧ yb ≠ bx
  xz : (lz ≠ lx ∧ lz ≠ bx) ∧ bz ≠ lx ∧ bz ≠ bx
  yz : (lz ≠ ly ∧ lz ≠ yb) ∧ bz ≠ ly ∧ bz ≠ yb
  bX : Box w lx 133 (LvA mp 0 N S T ox (some bx))
  bY : Box w ly 133 (LvA mp 3 N' S' T' oy (some yb))
  bZ : Box w lz 133 (LvA np 1 N S T oz (some bz))
  mX : ∃ nm, nm ≤ k ∧ w.ownsMap Tryz.prog 43 unitElem bx nm (ids Ix : DataW H)
  mY : ∃ nm, nm ≤ k ∧ w.ownsMap Tryz.prog 43 unitElem yb nm (ids Iy : DataW H)
  mZ : ∃ nm, nm ≤ k ∧ w.ownsMap Tryz.prog 43 unitElem bz nm (ids Iz : DataW H)
  vX : LvM M 0 S D T Q
  vY : LvM M 3 S' D' T' Q'
  vZ : LvM M2 1 S D T Q
  eM : M.es.length ≤ 40000 * k
  eZ : M2.es.length ≤ 40000 * k
  wX : Wk S D T (cellsE 0 M.c)
  wY : Wk S' D' T' (cellsE 3 M.c)
  wZ : Wk S D T (cellsE 1 M2.c)
section
variable {H : Type} {N S T D L n Q P N' S' T' D' L' n' Q' P' : Nat} {X : Nat → Prop} {mp np lx bx ly yb lz bz : Nat} {ox oy oz : Bool} {Ix Iy Iz : List Int} {M M2 : MS} {k : Nat} {w w' : World}
end
end Go.Proofs.YtloibfdcahmhjaaGreat

