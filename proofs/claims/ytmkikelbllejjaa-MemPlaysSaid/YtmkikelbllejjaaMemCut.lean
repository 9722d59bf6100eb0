/- A slice of events cut: from a place on; and the comparison of events whose numbers are said otherwise. -/
import Derived.Test.YtmkikelbllejjaaMemBlind
namespace Go.Proofs.Ytmkikelbllejjaa
open Go.RowKit Go.ChangeShapes Go.WideShapes Go.ChangeAt

theorem sizeEvent : (Try.prog.info? 53).map (·.size) = some 3 := by kernel_rfl
theorem run_slice_from (A A2 : Option Addr) (n cap k : Nat) (hk : k ≤ n) (hA : (if cap = k then A else A.map (·.add (k * 3))) = A2) (w : World) :
    (Instr.sliceAt 41 (.slice A n cap) (some (.int .i64 (k : Int))) none none).run Try.prog w = .ok (.slice A2 (n - k) (cap - k)) w := by
  obtain ⟨i, hi, hs⟩ := Option.map_eq_some_iff.1 sizeEvent
  have h1 : (0 : Int) ≤ k ∧ (k : Int) ≤ n := by omega
  simp [Instr.sliceAt, Instr.slice, run_underlying Try.underlying41, Instr.sliceBounds, Instr.sliceBound, asIntOf, sizeOf, typeInfo, hi, hs, hk, hA]
theorem wpList_slice_from {ops : Array Oper} {rest : List Oper} {op : Oper} {a : Act} {w : World} {Q : Exit → Act → World → Prop} (hgd : op.guard = none) (x lo : Operand) (ho : op.op = .slice 41 x (some lo) none none)
    (A A2 : Option Addr) (n cap k : Nat) (hx : a.eval x = .slice A n cap) (hlo : a.eval lo = .int .i64 (k : Int)) (hk : k ≤ n) (hA : (if cap = k then A else A.map (·.add (k * 3))) = A2)
    (h : wpList Try.prog ops Q rest (a.put op.dst (.slice A2 (n - k) (cap - k))) w) : wpList Try.prog ops Q (op :: rest) a w := by
  refine wpList_plain hgd fun K hK => ?_
  have hr := run_slice_from A A2 n cap k hk hA w
  unfold Oper.wp execOp
  simp only [ho, hx, hlo, Option.map_some, Option.map_none, Sem.run_bind, hr, Result.andThen_ok, Sem.run_pure]
  exact hK _ _ h
theorem view_from {w : World} {A A2 : Option Addr} {n cap k : Nat} {l : List Ev} (h : View w A l) (hn : l.length = n) (hc : n ≤ cap) (hA : (if cap = k then A else A.map (·.add (k * 3))) = A2) : View w A2 (l.drop k) := by
  intro hl
  have hk : k < n := by
    rw [← hn]
    refine Nat.lt_of_not_le (fun h => hl ?_)
    exact List.drop_eq_nil_of_le h
  obtain ⟨b, off, rfl, hr⟩ := h (by rintro rfl; simp at hl)
  rw [if_neg (by omega)] at hA
  refine ⟨b, off + k * 3, by rw [← hA, Option.map_some, add_plain], fun j v hv => ?_⟩
  rw [evs_drop, List.getElem?_drop] at hv
  rw [Nat.add_assoc]
  exact hr _ _ hv
theorem same_len (A A' : Option Addr) (n n' cap cap' : Nat) (l l' : List Ev) (w : World) (e : l.length = n) (e' : l'.length = n') (h : View w A l) (h' : View w A' l') (hn : n ≤ 1000000000) :
    Calls Try.prog 20 #[.slice A n cap, .slice A' n' cap'] w fun e w' => e = .returned (.bool (decide (l = l'))) ∧ ∃ n, w' = w.drewN n := by
  subst e e'
  exact same_any A A' cap cap' l l' w h h' hn
/-- A cell held against noughts, as the walk spells them. -/
theorem neq_nought (f : Nat → Int) (b : Bool) (h : ceq f (fun _ => 0) = b) (w : World) : (binOp .neq 37 (.agg (CA f)) (.agg #[.int .u64 0, .int .u64 0, .int .u64 0, .int .u64 0, .int .u64 0, .int .u64 0, .int .u64 0, .int .u64 0, .int .u64 0, .int .u64 0, .int .u64 0, .int .u64 0])).run Try.prog w = .ok (.bool (!b)) w := by
  have := neq_cell f (fun _ => 0) w
  rw [h] at this
  exact this
theorem eql_nought (f : Nat → Int) (b : Bool) (h : ceq f (fun _ => 0) = b) (w : World) : (binOp .eql 37 (.agg (CA f)) (.agg #[.int .u64 0, .int .u64 0, .int .u64 0, .int .u64 0, .int .u64 0, .int .u64 0, .int .u64 0, .int .u64 0, .int .u64 0, .int .u64 0, .int .u64 0, .int .u64 0])).run Try.prog w = .ok (.bool b) w := by
  have := eql_cell f (fun _ => 0) w
  rw [h] at this
  exact this
end Go.Proofs.Ytmkikelbllejjaa
