/- Cells of a memory looked at one behind the other; cells that are a number's, or none; how the model compares a cell that was loaded word by word. -/
import Derived.Test.YtojdefaplekieaaSortLaw
import Derived.Test.YtojdefaplekieaaGrow
namespace Go.Proofs.Ytojdefaplekieaa
open Go.RowKit Go.ChangeShapes Go.WideShapes Go.ChangeAt

/-- The first cells of a region were looked at. -/
def MS.looked (M : MS) (r i : Nat) : MS := { M with es := M.es ++ (List.range i).map (fun a => (r, a, false)) }
theorem looked_zero (M : MS) (r : Nat) : M.looked r 0 = M := by unfold MS.looked; simp
theorem looked_len (M : MS) (r i : Nat) : (M.looked r i).es.length = M.es.length + i := by unfold MS.looked; simp
theorem looked_hit (M : MS) (r i : Nat) (hr : r < M.k) (hi : i < M.sz r) : (M.looked r i).hit (r : Int) (i : Int) = true := MS.hit_of (M := M.looked r i) hr hi
theorem looked_step (M : MS) (r i : Nat) (hr : r < M.k) (hi : i < M.sz r) : (M.looked r i).read (r : Int) (i : Int) = M.looked r (i + 1) := by
  unfold MS.read
  rw [if_pos (looked_hit M r i hr hi)]
  unfold MS.see MS.looked
  simp only [Int.toNat_natCast]
  rw [List.range_succ, List.map_append, List.append_assoc]; rfl
theorem looked_cell (M : MS) (r i : Nat) (hr : r < M.k) (hi : i < M.sz r) : (M.looked r i).cell (r : Int) (i : Int) = M.c r i := by
  unfold MS.cell
  rw [if_pos (looked_hit M r i hr hi)]
  simp only [Int.toNat_natCast]
  rfl
/-- A cell that is a number's, or none. -/
def Good (c : Nat → Int) : Prop := c = (fun _ => 0) ∨ c = cw (c 0)
theorem good_cw (x : Int) (h0 : 0 ≤ x) (h1 : x ≤ 18446744073709551615) : Good (cw x) := .inr (by rw [cw_zero x h0 h1])
theorem laid_good (k s : Nat) (z : Nat → Int) (i : Nat) (hz : ∀ j, j < i → 0 ≤ z j ∧ z j ≤ 18446744073709551615) (a : Nat) : Good ((laidM k s z i).c 0 a) := by
  show Good (if 0 = 0 ∧ a < i then cw (z a) else fun _ => 0)
  split
  · rename_i h
    exact good_cw _ (hz a h.2).1 (hz a h.2).2
  · exact .inl rfl
theorem Good.eq {c : Nat → Int} (h : Good c) (hn : ceq c (fun _ => 0) = false) : ceq c (cw (c 0)) = true := by
  rcases h with h | h
  · rw [h, ceq_self] at hn; cases hn
  · exact ceq_of _ _ (fun i _ => congrFun h i)
theorem eql_nul (f : Nat → Int) (b : Bool) (h : ceq f (fun _ => 0) = b) (w : World) : (binOp .eql 40 (.agg #[.int .u64 (f 0), .int .u64 (f 1), .int .u64 (f 2), .int .u64 (f 3), .int .u64 (f 4), .int .u64 (f 5), .int .u64 (f 6), .int .u64 (f 7), .int .u64 (f 8), .int .u64 (f 9), .int .u64 (f 10), .int .u64 (f 11)]) (.agg #[.int .u64 0, .int .u64 0, .int .u64 0, .int .u64 0, .int .u64 0, .int .u64 0, .int .u64 0, .int .u64 0, .int .u64 0, .int .u64 0, .int .u64 0, .int .u64 0])).run Try.prog w = .ok (.bool b) w := by
  have := eql_cell f (fun _ => 0) w
  rw [h] at this
  exact this
theorem eql_own (f g : Nat → Int) (b : Bool) (h : ceq f g = b) (w : World) : (binOp .eql 40 (.agg #[.int .u64 (f 0), .int .u64 (f 1), .int .u64 (f 2), .int .u64 (f 3), .int .u64 (f 4), .int .u64 (f 5), .int .u64 (f 6), .int .u64 (f 7), .int .u64 (f 8), .int .u64 (f 9), .int .u64 (f 10), .int .u64 (f 11)]) (.agg (CA g))).run Try.prog w = .ok (.bool b) w := by
  have := eql_cell f g w
  rw [h] at this
  exact this
theorem neq_nul (f : Nat → Int) (b : Bool) (h : ceq f (fun _ => 0) = b) (w : World) : (binOp .neq 40 (.agg #[.int .u64 (f 0), .int .u64 (f 1), .int .u64 (f 2), .int .u64 (f 3), .int .u64 (f 4), .int .u64 (f 5), .int .u64 (f 6), .int .u64 (f 7), .int .u64 (f 8), .int .u64 (f 9), .int .u64 (f 10), .int .u64 (f 11)]) (.agg #[.int .u64 0, .int .u64 0, .int .u64 0, .int .u64 0, .int .u64 0, .int .u64 0, .int .u64 0, .int .u64 0, .int .u64 0, .int .u64 0, .int .u64 0, .int .u64 0])).run Try.prog w = .ok (.bool (!b)) w := by
  have := neq_cell f (fun _ => 0) w
  rw [h] at this
  exact this
theorem neq_own (f g : Nat → Int) (b : Bool) (h : ceq f g = b) (w : World) : (binOp .neq 40 (.agg #[.int .u64 (f 0), .int .u64 (f 1), .int .u64 (f 2), .int .u64 (f 3), .int .u64 (f 4), .int .u64 (f 5), .int .u64 (f 6), .int .u64 (f 7), .int .u64 (f 8), .int .u64 (f 9), .int .u64 (f 10), .int .u64 (f 11)]) (.agg (CA g))).run Try.prog w = .ok (.bool (!b)) w := by
  have := neq_cell f g w
  rw [h] at this
  exact this
theorem cell_in_range {w : World} {b κ : Nat} {f : Nat → Int} (h : w.rangeAt b 0 (CA f).toList) (hκ : κ < 12) : w.cell? ⟨b, κ, none⟩ = some (.int .u64 (f κ)) := by
  have := h κ (.int .u64 (f κ)) (by rw [Array.getElem?_toList, CA_at f κ hκ]); rwa [Nat.zero_add] at this
/-- A cell that lies whole, in each world that has only grown. -/
theorem grow_cells {w : World} {b : Nat} {f : Nat → Int} (h : w.rangeAt b 0 (CA f).toList) : (∀ g : Gr w, g.w'.cell? ⟨b, 0, none⟩ = some (.int .u64 (f 0))) ∧ (∀ g : Gr w, g.w'.cell? ⟨b, 1, none⟩ = some (.int .u64 (f 1))) ∧ (∀ g : Gr w, g.w'.cell? ⟨b, 2, none⟩ = some (.int .u64 (f 2))) ∧ (∀ g : Gr w, g.w'.cell? ⟨b, 3, none⟩ = some (.int .u64 (f 3))) ∧ (∀ g : Gr w, g.w'.cell? ⟨b, 4, none⟩ = some (.int .u64 (f 4))) ∧ (∀ g : Gr w, g.w'.cell? ⟨b, 5, none⟩ = some (.int .u64 (f 5))) ∧ (∀ g : Gr w, g.w'.cell? ⟨b, 6, none⟩ = some (.int .u64 (f 6))) ∧ (∀ g : Gr w, g.w'.cell? ⟨b, 7, none⟩ = some (.int .u64 (f 7))) ∧ (∀ g : Gr w, g.w'.cell? ⟨b, 8, none⟩ = some (.int .u64 (f 8))) ∧ (∀ g : Gr w, g.w'.cell? ⟨b, 9, none⟩ = some (.int .u64 (f 9))) ∧ (∀ g : Gr w, g.w'.cell? ⟨b, 10, none⟩ = some (.int .u64 (f 10))) ∧ (∀ g : Gr w, g.w'.cell? ⟨b, 11, none⟩ = some (.int .u64 (f 11))) :=
  ⟨Gr.cell (cell_in_range h (by decide : 0 < 12)), Gr.cell (cell_in_range h (by decide : 1 < 12)), Gr.cell (cell_in_range h (by decide : 2 < 12)), Gr.cell (cell_in_range h (by decide : 3 < 12)), Gr.cell (cell_in_range h (by decide : 4 < 12)), Gr.cell (cell_in_range h (by decide : 5 < 12)), Gr.cell (cell_in_range h (by decide : 6 < 12)), Gr.cell (cell_in_range h (by decide : 7 < 12)), Gr.cell (cell_in_range h (by decide : 8 < 12)), Gr.cell (cell_in_range h (by decide : 9 < 12)), Gr.cell (cell_in_range h (by decide : 10 < 12)), Gr.cell (cell_in_range h (by decide : 11 < 12))⟩
end Go.Proofs.Ytojdefaplekieaa
