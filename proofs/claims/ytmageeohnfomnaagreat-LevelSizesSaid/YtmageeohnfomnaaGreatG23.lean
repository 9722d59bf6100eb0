/- Texts of ours put together: MemOwn. -/
import Derived.Below
import Derived.BigQuiet
import Derived.BigRegion
import Derived.ChangeKeysEq
import Derived.ChangeSlices
import Derived.Deep.Draws
import Derived.Deep.MidRow
import Derived.Deep.OwnRows
import Derived.Deep.QuietTactic
import Derived.Deep.RegionHeld
import Derived.Deep.WholeRow
import Derived.Laws.AppendOwn
import Derived.Laws.StructEq
import Derived.Lib.Hide
import Derived.OpenShut
import Derived.OwnWalk
import Derived.ProofKit
import Derived.RegionTactic
import Derived.RowKit3
import Derived.SizedLaws
import Derived.StillTailTactics
import Derived.WalkKit
import Derived.Test.YtmageeohnfomnaaGreatProg
import Derived.Test.YtmageeohnfomnaaGreatG0
import Derived.Test.YtmageeohnfomnaaGreatG21
import Derived.Test.YtmageeohnfomnaaGreatG2
import Derived.Test.YtmageeohnfomnaaGreatG10
import Derived.Test.YtmageeohnfomnaaGreatG22
import Derived.Test.YtmageeohnfomnaaGreatG11
namespace Go.Proofs.YtmageeohnfomnaaGreat
set_option maxRecDepth 100000
open Go.RowKit Go.ChangeShapes Go.WideShapes Go.ChangeAt

def Own (w : World) (X : Nat → Prop) (p : Nat) (M : MS) : Prop := ∃ F, Mm w p F M ∧ (∀ i, F i → ¬ X i) ∧ ∀ i, X i → i < w.heap.size
def Kept (X : Nat → Prop) (w w' : World) : Prop := Only (fun i => ¬ X i) w w'
section
variable {w w' w'' : World} {X Y : Nat → Prop} {p : Nat} {M : MS}
theorem Kept.refl (X : Nat → Prop) (w : World) : Kept X w w := Only.refl _ _
theorem Kept.trans (h : Kept X w w') (k : Kept X w' w'') : Kept X w w'' := Only.trans h k
theorem Kept.mono (h : Kept X w w') (hs : ∀ i, Y i → X i) : Kept Y w w' := Only.mono h (fun _ _ h k => h (hs _ k))
theorem Kept.of_none (h : Only nobody w w') : Kept X w w' := Only.mono h (fun _ _ h => absurd h (not_nobody _))
theorem Kept.drewN (h : Kept X w w') (n : Nat) : Kept X w (w'.drewN n) := Only.drewN h n
theorem Kept.alloc (h : Kept X w w') (o : Obj) : Kept X w (w'.alloc o) := Only.alloc h o
theorem Kept.box {b : Nat} {t : TypeId} {cs : Array Value} (h : Kept X w w') (hb : Box w b t cs) (hx : X b) : Box w' b t cs := hb.only h (fun k => k hx)
theorem Kept.cell {b o : Nat} {v : Value} (h : Kept X w w') (hc : w.cell? ⟨b, o, none⟩ = some v) (hx : X b) : w'.cell? ⟨b, o, none⟩ = some v :=
  (World.cell?_of_block (w := w) (h.block b (World.block_lt_of_cell? w ⟨b, o, none⟩ hc) (fun k => k hx))).trans hc
theorem Kept.range {b o : Nat} {cs : List Value} (h : Kept X w w') (hr : w.rangeAt b o cs) (hx : X b) : w'.rangeAt b o cs := fun j v hv => h.cell (hr j v hv) hx
theorem Kept.below {B : Nat} (h : Kept X w w') (hB : B ≤ w.heap.size) (hx : ∀ i, i < B → X i) : Below B w w' := Only.below h hB (fun i hi k => k (hx i hi))

theorem Own.weak (h : Own w X p M) (hs : ∀ i, Y i → X i) : Own w Y p M := by
  obtain ⟨F, hm, hF, hX⟩ := h
  exact ⟨F, hm, fun i hi k => hF i hi (hs i k), fun i hi => hX i (hs i hi)⟩
theorem Own.grow (h : Own w X p M) (ho : Only nobody w w') : Own w' (fun i => X i ∨ (w.heap.size ≤ i ∧ i < w'.heap.size)) p M := by
  obtain ⟨F, hm, hF, hX⟩ := h
  refine ⟨F, hm.only ho (fun _ _ => not_nobody _), fun i hi k => ?_, fun i hi => ?_⟩
  · rcases k with k | k
    · exact hF i hi k
    · have := hm.lt i hi; omega
  · rcases hi with hi | hi
    · exact Nat.lt_of_lt_of_le (hX i hi) ho.size
    · exact hi.2
theorem Own.none (h : Own w X p M) (ho : Only nobody w w') : Own w' X p M := (h.grow ho).weak (fun _ h => .inl h)
theorem Own.drewN (h : Own w X p M) (n : Nat) : Own (w.drewN n) X p M := h.none ((Only.refl _ w).drewN n)
theorem Own.alloc (h : Own w X p M) (o : Obj) : Own (w.alloc o) (fun i => X i ∨ i = w.heap.size) p M := (h.grow ((Only.refl _ w).alloc o)).weak (fun i h => h.imp id (fun h => by subst h; simp))
theorem Own.only {S : Nat → Prop} (h : Own w X p M) (ho : Only S w w') (hs : ∀ i, S i → X i) : Own w' X p M := by
  obtain ⟨F, hm, hF, hX⟩ := h
  exact ⟨F, hm.only ho (fun i hi k => hF i hi (hs i k)), hF, fun i hi => Nat.lt_of_lt_of_le (hX i hi) ho.size⟩
theorem own_done {F : Nat → Prop} {e e' : Ending} {M' : MS} (hF : ∀ i, F i → ¬ X i) (hX : ∀ i, X i → i < w.heap.size) (h : DonePost w p F M' e e' w') : e' = e ∧ Own w' X p M' ∧ Kept X w w' := by
  obtain ⟨he, F', hm, ho, hF'⟩ := h
  refine ⟨he, ⟨F', hm, fun i hi k => ?_, fun i hi => Nat.lt_of_lt_of_le (hX i hi) ho.size⟩, ho.mono (fun i _ hi => hF i hi)⟩
  rcases hF' i hi with h | h
  · exact hF i h k
  · have := hX i k; omega
end

def OwnPost (w : World) (X : Nat → Prop) (p : Nat) (M : MS) (v : Value) (e : Ending) (w' : World) : Prop := e = .returned v ∧ Own w' X p M ∧ Kept X w w'
section
variable (X : Nat → Prop) (p : Nat) (M : MS) (w : World)
theorem own_read (r a : Int) (h : Own w X p M) (hl : M.es.length < 1000000000) :
    Calls Tryz.prog 67 #[.pointer (some ⟨p, 0, none⟩), .int .i64 r, .int .i64 a] w (OwnPost w X p (M.read r a) (.agg (CA (M.cell r a)))) := by
  obtain ⟨F, hm, hF, hX⟩ := h
  exact (read_any p F M r a w hm hl).mono fun e w' h => own_done hF hX h
theorem own_write (r a : Int) (f : Nat → Int) (h : Own w X p M) (hl : M.es.length < 1000000000) :
    Calls Tryz.prog 69 #[.pointer (some ⟨p, 0, none⟩), .int .i64 r, .int .i64 a, .agg (CA f)] w (OwnPost w X p (M.write r a f) (.tuple #[])) := by
  obtain ⟨F, hm, hF, hX⟩ := h
  exact (write_any p F M r a f w hm hl).mono fun e w' h => own_done hF hX h
theorem own_size (r : Int) (h : Own w X p M) : Calls Tryz.prog 35 #[.pointer (some ⟨p, 0, none⟩), .int .i64 r] w fun e w' => e = .returned (.int .i64 (M.size r : Nat)) ∧ w = w' := by
  obtain ⟨F, hm, _⟩ := h
  exact size_any p F M r w hm
end
theorem own_new {w w' : World} {X : Nat → Prop} {n p : Nat} {sz : Nat → Nat} {F : Nat → Prop} (hX : ∀ i, X i → i < w.heap.size) (hm : Mm w' p F (MS.new n sz)) (ho : Only nobody w w') (hF : ∀ i, F i → w.heap.size ≤ i) : Own w' X p (MS.new n sz) :=
  ⟨F, hm, fun i hi k => by have := hF i hi; have := hX i k; omega, fun i hi => Nat.lt_of_lt_of_le (hX i hi) ho.size⟩

theorem wpList_store_new {ops : Array Oper} {rest : List Oper} {op : Oper} {a : Act} {w : World} {Q : Exit → Act → World → Prop} (hgd : op.guard = none) (x y : Operand) (ho : op.op = .store 103 x y)
    (hx : a.eval x = .pointer (some ⟨w.heap.size, 0, none⟩)) (f : Nat → Int) (hy : a.eval y = .agg (CA f)) {c : Array Value} (hc : c.size = 12)
    (h : wpList Tryz.prog ops Q rest (a.put op.dst undef) (w.alloc (.cells (CA f) 103))) : wpList Tryz.prog ops Q (op :: rest) a (w.alloc (.cells c 103)) := by
  refine wpList_plain hgd fun K hK => ?_
  have hr := run_storeAt_new (P := Tryz.prog) w 103 c (CA f) infoCell (by rw [hc]; rfl) (CA_one f)
  unfold Oper.wp execOp
  simp only [ho, hx, hy, Sem.run_bind, Result.andThen_ok, hr, Sem.run_pure]
  exact hK _ _ h
def old (w : World) : Nat → Prop := fun i => i < w.heap.size

theorem new_list (L : List Nat) (hL : (decide (1 ≤ L.length) && decide (L.length ≤ 16) && L.all fun s => decide (1 ≤ s) && decide (s ≤ 4096)) = true) (w : World) (cs : Array Value) (t : TypeId) (hcs : cs = (L.map fun (s : Nat) => Value.int .i64 (s : Int)).toArray) :
    Calls Tryz.prog 10 #[.slice (some ⟨w.heap.size, 0, none⟩) L.length L.length] (w.alloc (.cells cs t)) fun e w' => ∃ p, e = .returned (.tuple #[.pointer (some ⟨p, 0, none⟩), .int .i64 0]) ∧
      Own w' (old (w.alloc (.cells cs t))) p (MS.new L.length (fun i => L.getD i 0)) ∧ Only nobody (w.alloc (.cells cs t)) w' := by
  simp only [Bool.and_eq_true, decide_eq_true_eq, List.all_eq_true] at hL
  obtain ⟨⟨h1, h2⟩, h3⟩ := hL
  have hz : Nums .i64 (w.alloc (.cells cs t)) (w.heap.size + 1) (some ⟨w.heap.size, 0, none⟩) L.length (fun i => ((L.getD i 0 : Nat) : Int)) := by
    intro _
    refine ⟨_, 0, rfl, by omega, fun j hj => ?_⟩
    subst hcs
    rw [Nat.zero_add, (Box.new w t _).cell j]
    simp [hj]
  refine (new_yes _ L.length L.length (w.heap.size + 1) _ (fun i => L.getD i 0) _ hz (by simp) ⟨h1, h2, fun i hi => ?_⟩ (fun i _ => rfl)).mono ?_
  · have := h3 (L[i]) (List.getElem_mem hi)
    simp [hi]; omega
  · rintro e w1 ⟨p, F, rfl, hm, ho, hF⟩
    exact ⟨p, rfl, own_new (fun i hi => hi) hm ho hF, ho⟩
end Go.Proofs.YtmageeohnfomnaaGreat

