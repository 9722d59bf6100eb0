/- Texts of ours put together: MemMore. -/
import Derived.Test.YtdbjaaalngbpgaaGreatG20
import Derived.Test.YtdbjaaalngbpgaaGreatG19
import Derived.Test.YtdbjaaalngbpgaaGreatG15
import Derived.Test.YtdbjaaalngbpgaaGreatG12
/- More on memories: words of 64 bits, blocks that are kept beside one, cells looked at one behind the other, cells loaded word by word. -/
namespace Go.Proofs.YtdbjaaalngbpgaaGreat
set_option maxRecDepth 100000
open Go.RowKit Go.ChangeShapes Go.WideShapes Go.ChangeAt

/-- All words of a memory are words of 64 bits. -/
def MS.wd (M : MS) : Prop := ∀ r a, Wd (M.c r a)
theorem wd_zero : Wd (fun _ => 0) := fun _ => ⟨Int.le_refl 0, by show (0 : Int) ≤ 18446744073709551615; omega⟩
theorem wd_cell {M : MS} (h : M.wd) (r a : Int) : Wd (M.cell r a) := by
  unfold MS.cell
  split
  · exact h _ _
  · exact wd_zero
theorem wd_read {M : MS} (h : M.wd) (r a : Int) : (M.read r a).wd := by
  unfold MS.read
  split
  · exact h
  · exact h
theorem wd_write {M : MS} (h : M.wd) (r a : Int) (f : Nat → Int) (hf : Wd f) : (M.write r a f).wd := by
  unfold MS.write
  split
  · intro r' a'
    show Wd (if r' = r.toNat ∧ a' = a.toNat then f else M.c r' a')
    split
    · exact hf
    · exact h r' a'
  · exact h
theorem take_snoc {α : Type} (l : List α) (i : Nat) (hi : i < l.length) : l.take (i + 1) = l.take i ++ [l[i]] := by
  rw [List.take_add_one, List.getElem?_eq_getElem hi]; rfl
theorem range_alloc_new (w : World) (f : Nat → Int) (t : TypeId) : (w.alloc (.cells (CA f) t)).rangeAt w.heap.size 0 (CA f).toList := rg_new w f t _ rfl
theorem none_of_ext {w w' : World} (h : Ext w w') : Only nobody w w' := Only.of_below h.below
/-- A store to a block of X. -/
theorem Kept.setCells {X : Nat → Prop} {w w' : World} (h : Kept X w w') (b : Nat) (vs : List Value) (hb : w.heap.size ≤ b) : Kept X w (w'.setCells b 0 vs) := only_setCells vs 0 w' h (.inr hb)
theorem Own.setCells {X : Nat → Prop} {w : World} {p : Nat} {M : MS} (h : Own w X p M) (b : Nat) (vs : List Value) (hb : X b) : Own (w.setCells b 0 vs) X p M :=
  h.only (only_setCells (S := just b) vs 0 w (Only.refl _ _) (.inl (just_self b))) (fun i hi => by rw [hi]; exact hb)
theorem Kept.there {X : Nat → Prop} {w w' : World} (h : Kept X w w') {b : Nat} {n : Nat} (ht : w.there b 0 n) (hb : X b) (hlt : b < w.heap.size) : w'.there b 0 n := fun j hj => by
  have e := h.block b hlt (fun k => k hb)
  obtain ⟨h1, h2⟩ := ht j hj
  exact ⟨by rw [World.cell?_of_block (w := w) e]; exact h1, by rw [World.frozen?_of_block e]; exact h2⟩
theorem Box.alloc_lt {w : World} {p : Nat} {t : TypeId} {cs cs' : Array Value} {t' : TypeId} (h : Box (w.alloc (.cells cs' t')) p t cs) (hne : t ≠ t' := by decide) : p < w.heap.size := by
  have h1 := h.lt
  have h2 : p ≠ w.heap.size := Box.ne h (Box.new w t' cs') hne
  simp at h1
  omega
/-- What turns blocks of X alone leaves the memory; what is new is none of its own. -/
theorem Own.grow_only {w w' : World} {X S : Nat → Prop} {p : Nat} {M : MS} (h : Own w X p M) (ho : Only S w w') (hs : ∀ i, S i → X i) : Own w' (fun i => X i ∨ (w.heap.size ≤ i ∧ i < w'.heap.size)) p M := by
  obtain ⟨F, hm, hF, hX⟩ := h
  refine ⟨F, hm.only ho (fun i hi k => hF i hi (hs i k)), fun i hi k => ?_, fun i hi => ?_⟩
  · rcases k with k | k
    · exact hF i hi k
    · have := hm.lt i hi; omega
  · rcases hi with hi | hi
    · exact Nat.lt_of_lt_of_le (hX i hi) ho.size
    · exact hi.2
/-- The first cells of a region were looked at. -/
def MS.looked (M : MS) (r i : Nat) : MS := { M with es := M.es ++ (List.range i).map (fun a => (r, a, false)) }
theorem looked_zero (M : MS) (r : Nat) : M.looked r 0 = M := by unfold MS.looked; simp
theorem looked_len (M : MS) (r i : Nat) : (M.looked r i).es.length = M.es.length + i := by unfold MS.looked; simp
theorem looked_hit (M : MS) (r i : Nat) (hr : r < M.k) (hi : i < M.sz r) : (M.looked r i).hit (r : Int) (i : Int) = true := MS.hit_of (M := M.looked r i) hr hi
theorem looked_step (M : MS) (r i : Nat) (hr : r < M.k) (hi : i < M.sz r) : (M.looked r i).read (r : Int) (i : Int) = M.looked r (i + 1) := by
  unfold MS.read
  rw [if_pos (looked_hit M r i hr hi)]
  unfold MS.see MS.looked
  simp only [Int.toNat_natCast]
  rw [List.range_succ, List.map_append, List.append_assoc]; rfl
theorem looked_cell (M : MS) (r i : Nat) (hr : r < M.k) (hi : i < M.sz r) : (M.looked r i).cell (r : Int) (i : Int) = M.c r i := by
  unfold MS.cell
  rw [if_pos (looked_hit M r i hr hi)]
  simp only [Int.toNat_natCast]
  rfl
theorem eql_nul (f : Nat → Int) (b : Bool) (h : ceq f (fun _ => 0) = b) (w : World) : (binOp .eql 64 (.agg #[.int .u64 (f 0), .int .u64 (f 1), .int .u64 (f 2), .int .u64 (f 3), .int .u64 (f 4), .int .u64 (f 5), .int .u64 (f 6), .int .u64 (f 7), .int .u64 (f 8), .int .u64 (f 9), .int .u64 (f 10), .int .u64 (f 11)]) (.agg #[.int .u64 0, .int .u64 0, .int .u64 0, .int .u64 0, .int .u64 0, .int .u64 0, .int .u64 0, .int .u64 0, .int .u64 0, .int .u64 0, .int .u64 0, .int .u64 0])).run Tryz.prog w = .ok (.bool b) w := by
  have := eql_cell f (fun _ => 0) w
  rw [h] at this
  exact this
theorem eql_own (f g : Nat → Int) (b : Bool) (h : ceq f g = b) (w : World) : (binOp .eql 64 (.agg #[.int .u64 (f 0), .int .u64 (f 1), .int .u64 (f 2), .int .u64 (f 3), .int .u64 (f 4), .int .u64 (f 5), .int .u64 (f 6), .int .u64 (f 7), .int .u64 (f 8), .int .u64 (f 9), .int .u64 (f 10), .int .u64 (f 11)]) (.agg (CA g))).run Tryz.prog w = .ok (.bool b) w := by
  have := eql_cell f g w
  rw [h] at this
  exact this
theorem neq_nul (f : Nat → Int) (b : Bool) (h : ceq f (fun _ => 0) = b) (w : World) : (binOp .neq 64 (.agg #[.int .u64 (f 0), .int .u64 (f 1), .int .u64 (f 2), .int .u64 (f 3), .int .u64 (f 4), .int .u64 (f 5), .int .u64 (f 6), .int .u64 (f 7), .int .u64 (f 8), .int .u64 (f 9), .int .u64 (f 10), .int .u64 (f 11)]) (.agg #[.int .u64 0, .int .u64 0, .int .u64 0, .int .u64 0, .int .u64 0, .int .u64 0, .int .u64 0, .int .u64 0, .int .u64 0, .int .u64 0, .int .u64 0, .int .u64 0])).run Tryz.prog w = .ok (.bool (!b)) w := by
  have := neq_cell f (fun _ => 0) w
  rw [h] at this
  exact this
theorem neq_own (f g : Nat → Int) (b : Bool) (h : ceq f g = b) (w : World) : (binOp .neq 64 (.agg #[.int .u64 (f 0), .int .u64 (f 1), .int .u64 (f 2), .int .u64 (f 3), .int .u64 (f 4), .int .u64 (f 5), .int .u64 (f 6), .int .u64 (f 7), .int .u64 (f 8), .int .u64 (f 9), .int .u64 (f 10), .int .u64 (f 11)]) (.agg (CA g))).run Tryz.prog w = .ok (.bool (!b)) w := by
  have := neq_cell f g w
  rw [h] at this
  exact this
theorem cell_in_range {w : World} {b κ : Nat} {f : Nat → Int} (h : w.rangeAt b 0 (CA f).toList) (hκ : κ < 12) : w.cell? ⟨b, κ, none⟩ = some (.int .u64 (f κ)) := by
  have := h κ (.int .u64 (f κ)) (by rw [Array.getElem?_toList, CA_at f κ hκ]); rwa [Nat.zero_add] at this
/-- A cell that lies whole, in each world that has only grown. -/
theorem grow_cells {w : World} {b : Nat} {f : Nat → Int} (h : w.rangeAt b 0 (CA f).toList) : (∀ g : Gr w, g.w'.cell? ⟨b, 0, none⟩ = some (.int .u64 (f 0))) ∧ (∀ g : Gr w, g.w'.cell? ⟨b, 1, none⟩ = some (.int .u64 (f 1))) ∧ (∀ g : Gr w, g.w'.cell? ⟨b, 2, none⟩ = some (.int .u64 (f 2))) ∧ (∀ g : Gr w, g.w'.cell? ⟨b, 3, none⟩ = some (.int .u64 (f 3))) ∧ (∀ g : Gr w, g.w'.cell? ⟨b, 4, none⟩ = some (.int .u64 (f 4))) ∧ (∀ g : Gr w, g.w'.cell? ⟨b, 5, none⟩ = some (.int .u64 (f 5))) ∧ (∀ g : Gr w, g.w'.cell? ⟨b, 6, none⟩ = some (.int .u64 (f 6))) ∧ (∀ g : Gr w, g.w'.cell? ⟨b, 7, none⟩ = some (.int .u64 (f 7))) ∧ (∀ g : Gr w, g.w'.cell? ⟨b, 8, none⟩ = some (.int .u64 (f 8))) ∧ (∀ g : Gr w, g.w'.cell? ⟨b, 9, none⟩ = some (.int .u64 (f 9))) ∧ (∀ g : Gr w, g.w'.cell? ⟨b, 10, none⟩ = some (.int .u64 (f 10))) ∧ (∀ g : Gr w, g.w'.cell? ⟨b, 11, none⟩ = some (.int .u64 (f 11))) :=
  ⟨Gr.cell (cell_in_range h (by decide : 0 < 12)), Gr.cell (cell_in_range h (by decide : 1 < 12)), Gr.cell (cell_in_range h (by decide : 2 < 12)), Gr.cell (cell_in_range h (by decide : 3 < 12)), Gr.cell (cell_in_range h (by decide : 4 < 12)), Gr.cell (cell_in_range h (by decide : 5 < 12)), Gr.cell (cell_in_range h (by decide : 6 < 12)), Gr.cell (cell_in_range h (by decide : 7 < 12)), Gr.cell (cell_in_range h (by decide : 8 < 12)), Gr.cell (cell_in_range h (by decide : 9 < 12)), Gr.cell (cell_in_range h (by decide : 10 < 12)), Gr.cell (cell_in_range h (by decide : 11 < 12))⟩
end Go.Proofs.YtdbjaaalngbpgaaGreat
