import Derived.Deep.WholeRow
import Derived.Test.YtknnebhjldfkhaaGreatG16
import Derived.Test.YtknnebhjldfkhaaGreatG11
import Derived.Test.YtknnebhjldfkhaaGreatG8
import Derived.Test.YtknnebhjldfkhaaGreatG2
namespace Go.Proofs.YtknnebhjldfkhaaGreat
set_option maxRecDepth 100000
open Go.RowKit Go.ChangeShapes Go.WideShapes Go.ChangeAt

def Own (w : World) (X : Nat → Prop) (p : Nat) (M : MS) : Prop := ∃ F, Mm w p F M ∧ (∀ i, F i → ¬ X i) ∧ ∀ i, X i → i < w.heap.size
def Kept (X : Nat → Prop) (w w' : World) : Prop := Only (fun i => ¬ X i) w w'
section
variable {w w' w'' : World} {X Y : Nat → Prop} {p : Nat} {M : MS}
theorem Kept.refl (X : Nat → Prop) (w : World) : Kept X w w := Only.refl _ _
theorem Kept.trans (h : Kept X w w') (k : Kept X w' w'') : Kept X w w'' := Only.trans h k
theorem Kept.mono (h : Kept X w w') (hs : ∀ i, Y i → X i) : Kept Y w w' := Only.mono h (fun _ _ h k => h (hs _ k))
theorem Kept.of_none (h : Only nobody w w') : Kept X w w' := Only.mono h (fun _ _ h => absurd h (not_nobody _))
theorem Kept.drewN (h : Kept X w w') (n : Nat) : Kept X w (w'.drewN n) := Only.drewN h n
theorem Kept.alloc (h : Kept X w w') (o : Obj) : Kept X w (w'.alloc o) := Only.alloc h o
theorem Kept.box {b : Nat} {t : TypeId} {cs : Array Value} (h : Kept X w w') (hb : Box w b t cs) (hx : X b) : Box w' b t cs := hb.only h (fun k => k hx)
theorem Kept.row {b : Nat} {t : TypeId} {n : Nat} {f : Nat → Value} (h : Kept X w w') (hb : w.rowIs b t n f) (hx : X b) : w'.rowIs b t n f := Only.row h hb (fun k => k hx)
theorem Kept.cell {b o : Nat} {v : Value} (h : Kept X w w') (hc : w.cell? ⟨b, o, none⟩ = some v) (hx : X b) : w'.cell? ⟨b, o, none⟩ = some v :=
 (World.cell?_of_block (w := w) (h.block b (World.block_lt_of_cell? w ⟨b, o, none⟩ hc) (fun k => k hx))).trans hc
theorem Kept.range {b o : Nat} {cs : List Value} (h : Kept X w w') (hr : w.rangeAt b o cs) (hx : X b) : w'.rangeAt b o cs := fun j v hv => h.cell (hr j v hv) hx
theorem Kept.below {B : Nat} (h : Kept X w w') (hB : B ≤ w.heap.size) (hx : ∀ i, i < B → X i) : Below B w w' := Only.below h hB (fun i hi k => k (hx i hi))

theorem Own.weak (h : Own w X p M) (hs : ∀ i, Y i → X i) : Own w Y p M := by
 obtain ⟨F, hm, hF, hX⟩ := h
 exact ⟨F, hm, fun i hi k => hF i hi (hs i k), fun i hi => hX i (hs i hi)⟩
theorem Own.grow (h : Own w X p M) (ho : Only nobody w w') : Own w' (fun i => X i ∨ (w.heap.size ≤ i ∧ i < w'.heap.size)) p M := by
 obtain ⟨F, hm, hF, hX⟩ := h
 refine ⟨F, hm.only ho (fun _ _ => not_nobody _), fun i hi k => ?_, fun i hi => ?_⟩
 ·rcases k with k | k
  ·exact hF i hi k
  ·have := hm.lt i hi; omega
 ·rcases hi with hi | hi
  ·exact Nat.lt_of_lt_of_le (hX i hi) ho.size
  ·exact hi.2
theorem Own.none (h : Own w X p M) (ho : Only nobody w w') : Own w' X p M := (h.grow ho).weak (fun _ h => .inl h)
theorem Own.drewN (h : Own w X p M) (n : Nat) : Own (w.drewN n) X p M := h.none ((Only.refl _ w).drewN n)
theorem Own.alloc (h : Own w X p M) (o : Obj) : Own (w.alloc o) (fun i => X i ∨ i = w.heap.size) p M := (h.grow ((Only.refl _ w).alloc o)).weak (fun i h => h.imp id (fun h => by subst h; simp))
theorem Own.only {S : Nat → Prop} (h : Own w X p M) (ho : Only S w w') (hs : ∀ i, S i → X i) : Own w' X p M := by
 obtain ⟨F, hm, hF, hX⟩ := h
 exact ⟨F, hm.only ho (fun i hi k => hF i hi (hs i k)), hF, fun i hi => Nat.lt_of_lt_of_le (hX i hi) ho.size⟩
theorem own_done {F : Nat → Prop} {e e' : Ending} {M' : MS} (hF : ∀ i, F i → ¬ X i) (hX : ∀ i, X i → i < w.heap.size) (h : DonePost w p F M' e e' w') : e' = e ∧ Own w' X p M' ∧ Kept X w w' := by
 obtain ⟨he, F', hm, ho, hF'⟩ := h
 refine ⟨he, ⟨F', hm, fun i hi k => ?_, fun i hi => Nat.lt_of_lt_of_le (hX i hi) ho.size⟩, ho.mono (fun i _ hi => hF i hi)⟩
 rcases hF' i hi with h | h
 ·exact hF i h k
 ·have := hX i k; omega
end

def OwnPost (w : World) (X : Nat → Prop) (p : Nat) (M : MS) (v : Value) (e : Ending) (w' : World) : Prop := e = .returned v ∧ Own w' X p M ∧ Kept X w w'
section
variable (X : Nat → Prop) (p : Nat) (M : MS) (w : World)
theorem own_read (r a : Int) (h : Own w X p M) (hl : M.es.length < 1000000000) :
  Calls Tryz.prog 25 #[.pointer (some ⟨p, 0, none⟩), .int .i64 r, .int .i64 a] w (OwnPost w X p (M.read r a) (.agg (CA (M.cell r a)))) := by
 obtain ⟨F, hm, hF, hX⟩ := h
 exact (read_any p F M r a w hm hl).mono fun e w' h => own_done hF hX h
theorem own_write (r a : Int) (f : Nat → Int) (h : Own w X p M) (hl : M.es.length < 1000000000) :
  Calls Tryz.prog 135 #[.pointer (some ⟨p, 0, none⟩), .int .i64 r, .int .i64 a, .agg (CA f)] w (OwnPost w X p (M.write r a f) (.tuple #[])) := by
 obtain ⟨F, hm, hF, hX⟩ := h
 exact (write_any p F M r a f w hm hl).mono fun e w' h => own_done hF hX h
theorem own_size (r : Int) (h : Own w X p M) : Calls Tryz.prog 104 #[.pointer (some ⟨p, 0, none⟩), .int .i64 r] w fun e w' => e = .returned (.int .i64 (M.size r : Nat)) ∧ w = w' := by
 obtain ⟨F, hm, _⟩ := h
 exact size_any p F M r w hm
theorem own_trace (h : Own w X p M) (hl : M.es.length < 1000000000) : Calls Tryz.prog 53 #[.pointer (some ⟨p, 0, none⟩)] w (SincePost w M.es) := by
 obtain ⟨F, hm, _⟩ := h
 exact trace_any p F M w hm hl
end
theorem wpList_store_new {ops : Array Oper} {rest : List Oper} {op : Oper} {a : Act} {w : World} {Q : Exit → Act → World → Prop} (hgd : op.guard = none) (x y : Operand) (ho : op.op = .store 64 x y)
  (hx : a.eval x = .pointer (some ⟨w.heap.size, 0, none⟩)) (f : Nat → Int) (hy : a.eval y = .agg (CA f)) {c : Array Value} (hc : c.size = 12)
  (h : wpList Tryz.prog ops Q rest (a.put op.dst undef) (w.alloc (.cells (CA f) 64))) : wpList Tryz.prog ops Q (op :: rest) a (w.alloc (.cells c 64)) := by
 refine wpList_plain hgd fun K hK => ?_
 have hr := run_storeAt_new (P := Tryz.prog) w 64 c (CA f) infoCell (by rw [hc]; rfl) (CA_one f)
 unfold Oper.wp execOp
 simp only [ho, hx, hy, Sem.run_bind, Result.andThen_ok, hr, Sem.run_pure]
 exact hK _ _ h
def old (w : World) : Nat → Prop := fun i => i < w.heap.size

end Go.Proofs.YtknnebhjldfkhaaGreat


namespace Go.Proofs.YtknnebhjldfkhaaGreat
set_option maxRecDepth 100000
open Go.RowKit Go.ChangeShapes Go.WideShapes Go.ChangeAt

def MS.wd (M : MS) : Prop := ∀ r a, Wd (M.c r a)
theorem wd_zero : Wd (fun _ => 0) := fun _ => ⟨Int.le_refl 0, by show (0 : Int) ≤ 18446744073709551615; omega⟩
theorem wd_cell {M : MS} (h : M.wd) (r a : Int) : Wd (M.cell r a) := by
 unfold MS.cell
 split
 ·exact h _ _
 ·exact wd_zero
theorem wd_read {M : MS} (h : M.wd) (r a : Int) : (M.read r a).wd := by
 unfold MS.read
 split
 ·exact h
 ·exact h
theorem take_snoc {α : Type} (l : List α) (i : Nat) (hi : i < l.length) : l.take (i + 1) = l.take i ++ [l[i]] := by
 rw [List.take_add_one, List.getElem?_eq_getElem hi]; rfl
theorem range_alloc_new (w : World) (f : Nat → Int) (t : TypeId) : (w.alloc (.cells (CA f) t)).rangeAt w.heap.size 0 (CA f).toList := rg_new w f t _ rfl
theorem none_of_ext {w w' : World} (h : Ext w w') : Only nobody w w' := Only.of_below h.below
theorem Kept.setCells {X : Nat → Prop} {w w' : World} (h : Kept X w w') (b : Nat) (vs : List Value) (hb : w.heap.size ≤ b) : Kept X w (w'.setCells b 0 vs) := only_setCells vs 0 w' h (.inr hb)
theorem Own.setCells {X : Nat → Prop} {w : World} {p : Nat} {M : MS} (h : Own w X p M) (b : Nat) (vs : List Value) (hb : X b) : Own (w.setCells b 0 vs) X p M :=
 h.only (only_setCells (S := just b) vs 0 w (Only.refl _ _) (.inl (just_self b))) (fun i hi => by rw [hi]; exact hb)
theorem Kept.there {X : Nat → Prop} {w w' : World} (h : Kept X w w') {b : Nat} {n : Nat} (ht : w.there b 0 n) (hb : X b) (hlt : b < w.heap.size) : w'.there b 0 n := fun j hj => by
 have e := h.block b hlt (fun k => k hb)
 obtain ⟨h1, h2⟩ := ht j hj
 exact ⟨by rw [World.cell?_of_block (w := w) e]; exact h1, by rw [World.frozen?_of_block e]; exact h2⟩
theorem Box.alloc_lt {w : World} {p : Nat} {t : TypeId} {cs cs' : Array Value} {t' : TypeId} (h : Box (w.alloc (.cells cs' t')) p t cs) (hne : t ≠ t' := by decide) : p < w.heap.size := by
 have h1 := h.lt
 have h2 : p ≠ w.heap.size := Box.ne h (Box.new w t' cs') hne
 simp at h1
 omega
theorem Own.grow_only {w w' : World} {X S : Nat → Prop} {p : Nat} {M : MS} (h : Own w X p M) (ho : Only S w w') (hs : ∀ i, S i → X i) : Own w' (fun i => X i ∨ (w.heap.size ≤ i ∧ i < w'.heap.size)) p M := by
 obtain ⟨F, hm, hF, hX⟩ := h
 refine ⟨F, hm.only ho (fun i hi k => hF i hi (hs i k)), fun i hi k => ?_, fun i hi => ?_⟩
 ·rcases k with k | k
  ·exact hF i hi k
  ·have := hm.lt i hi; omega
 ·rcases hi with hi | hi
  ·exact Nat.lt_of_lt_of_le (hX i hi) ho.size
  ·exact hi.2
def MS.looked (M : MS) (r i : Nat) : MS := { M with es := M.es ++ (List.range i).map (fun a => (r, a, false)) }
theorem looked_zero (M : MS) (r : Nat) : M.looked r 0 = M := by unfold MS.looked; simp
theorem looked_len (M : MS) (r i : Nat) : (M.looked r i).es.length = M.es.length + i := by unfold MS.looked; simp
theorem looked_hit (M : MS) (r i : Nat) (hr : r < M.k) (hi : i < M.sz r) : (M.looked r i).hit (r : Int) (i : Int) = true := MS.hit_of (M := M.looked r i) hr hi
theorem looked_step (M : MS) (r i : Nat) (hr : r < M.k) (hi : i < M.sz r) : (M.looked r i).read (r : Int) (i : Int) = M.looked r (i + 1) := by
 unfold MS.read
 rw [if_pos (looked_hit M r i hr hi)]
 unfold MS.see MS.looked
 simp only [Int.toNat_natCast]
 rw [List.range_succ, List.map_append, List.append_assoc]; rfl
theorem looked_cell (M : MS) (r i : Nat) (hr : r < M.k) (hi : i < M.sz r) : (M.looked r i).cell (r : Int) (i : Int) = M.c r i := by
 unfold MS.cell
 rw [if_pos (looked_hit M r i hr hi)]
 simp only [Int.toNat_natCast]
 rfl
theorem cell_in_range {w : World} {b κ : Nat} {f : Nat → Int} (h : w.rangeAt b 0 (CA f).toList) (hκ : κ < 12) : w.cell? ⟨b, κ, none⟩ = some (.int .u64 (f κ)) := by
 have := h κ (.int .u64 (f κ)) (by rw [Array.getElem?_toList, CA_at f κ hκ]); rwa [Nat.zero_add] at this
end Go.Proofs.YtknnebhjldfkhaaGreat


namespace Go.Proofs.YtknnebhjldfkhaaGreat
set_option maxRecDepth 100000

def scanW (r i : Nat) : List Ev := (List.range i).flatMap fun a => [(r, a, false), (r, a, true)]
theorem scanW_succ (r i : Nat) : scanW r (i + 1) = scanW r i ++ [(r, i, false), (r, i, true)] := by unfold scanW; rw [List.range_succ, List.flatMap_append]; rfl
theorem scanW_len (r i : Nat) : (scanW r i).length = i * 2 := by
 induction i with
 | zero => rfl
 | succ i ih => rw [scanW_succ, List.length_append, ih]; simp; omega
def MS.anew (M : MS) (r b : Nat) (f : Nat → Int) (on : Bool) (i : Nat) : MS := { M with c := fun r' a => if r' = r ∧ a < i ∧ a = b ∧ on = true then f else M.c r' a, es := M.es ++ scanW r i }
theorem anew_zero (M : MS) (r b : Nat) (f : Nat → Int) (on : Bool) : M.anew r b f on 0 = M := by
 unfold MS.anew
 have h : (fun r' a => if r' = r ∧ a < 0 ∧ a = b ∧ on = true then f else M.c r' a) = M.c := by
  funext r' a
  rw [if_neg (fun h => by omega)]
 rw [h]
 simp [scanW]
theorem anew_len (M : MS) (r b : Nat) (f : Nat → Int) (on : Bool) (i : Nat) : (M.anew r b f on i).es.length = M.es.length + i * 2 := by
 show (M.es ++ scanW r i).length = _
 rw [List.length_append, scanW_len]
theorem anew_cell (M : MS) (r b : Nat) (f : Nat → Int) (on : Bool) (i : Nat) (hr : r < M.k) (hi : i < M.sz r) : (M.anew r b f on i).cell (r : Int) (i : Int) = M.c r i := by
 unfold MS.cell
 rw [if_pos (MS.hit_of (M := M.anew r b f on i) hr hi)]
 simp only [Int.toNat_natCast]
 show (if r = r ∧ i < i ∧ i = b ∧ on = true then f else M.c r i) = _
 rw [if_neg (fun h => by omega)]
theorem anew_step (M : MS) (r b : Nat) (f : Nat → Int) (on : Bool) (i : Nat) (hr : r < M.k) (hi : i < M.sz r) :
  ((M.anew r b f on i).read (r : Int) (i : Int)).write (r : Int) (i : Int) (if i = b ∧ on = true then f else M.c r i) = M.anew r b f on (i + 1) := by
 have h1 : (M.anew r b f on i).read (r : Int) (i : Int) = (M.anew r b f on i).see r i false := by
  unfold MS.read; rw [if_pos (MS.hit_of (M := M.anew r b f on i) hr hi)]; simp
 rw [h1]
 have h2 : ∀ g, ((M.anew r b f on i).see r i false).write (r : Int) (i : Int) g = (((M.anew r b f on i).see r i false).see r i true).put r i g := fun g => by
  unfold MS.write; rw [if_pos (MS.hit_of (M := (M.anew r b f on i).see r i false) hr hi)]; simp
 rw [h2]
 unfold MS.anew MS.see MS.put
 dsimp only
 rw [scanW_succ]
 congr 1
 ·funext r' a
  by_cases e1 : r' = r ∧ a = i
  ·rw [if_pos e1]
   obtain ⟨rfl, rfl⟩ := e1
   by_cases e2 : a = b ∧ on = true
   ·rw [if_pos e2, if_pos ⟨rfl, by omega, e2.1, e2.2⟩]
   ·rw [if_neg e2, if_neg (fun h => e2 h.2.2)]
  ·rw [if_neg e1]
   by_cases e2 : r' = r ∧ a < i ∧ a = b ∧ on = true
   ·rw [if_pos e2, if_pos ⟨e2.1, by omega, e2.2.2⟩]
   ·rw [if_neg e2, if_neg (fun h => by
     by_cases e3 : a = i
     ·exact e1 ⟨h.1, e3⟩
     ·exact e2 ⟨h.1, by omega, h.2.2⟩)]
 ·simp
end Go.Proofs.YtknnebhjldfkhaaGreat


namespace Go.Proofs.YtknnebhjldfkhaaGreat
set_option maxRecDepth 100000
open Go.RowKit Go.ChangeShapes Go.WideShapes Go.ChangeAt

def cw (n : Int) (j : Nat) : Int := IntKind.u64.wrap (IntKind.u64.wrap (n * (2 * (j : Int) + 1)) + j)
abbrev IEv := Int × Int × Bool
def ievc (e : IEv) : List Value := [.int .i64 e.1, .int .i64 e.2.1, .bool e.2.2]
def ievs (l : List IEv) : List Value := l.flatMap ievc
def evI (e : Ev) : IEv := ((e.1 : Int), (e.2.1 : Int), e.2.2)
theorem ievs_len (l : List IEv) : (ievs l).length = l.length * 3 := by
 induction l with
 | nil => rfl
 | cons e l ih => rw [ievs, List.flatMap_cons, List.length_append, ← ievs, ih]; simp [ievc]; omega
theorem ievs_append (l m : List IEv) : ievs (l ++ m) = ievs l ++ ievs m := by simp [ievs]
theorem evs_map : ∀ l : List Ev, evs l = ievs (l.map evI)
 | [] => rfl
 | e :: l => by rw [evs, evs_map l, List.map_cons, ievs, ievs, List.flatMap_cons]; rfl
theorem ievs_at : ∀ (l : List IEv) (i : Nat) (h : i < l.length), (ievs l)[i * 3]? = some (.int .i64 l[i].1) ∧ (ievs l)[i * 3 + 1]? = some (.int .i64 l[i].2.1) ∧ (ievs l)[i * 3 + 2]? = some (.bool l[i].2.2)
 | [], i, h => by simp at h
 | e :: l, 0, _ => by simp [ievs, ievc]
 | e :: l, i + 1, h => by
  have ih := ievs_at l i (by simpa using h)
  have q : ∀ k, (ievs (e :: l))[(i + 1) * 3 + k]? = (ievs l)[i * 3 + k]? := fun k => by
   rw [show ievs (e :: l) = ievc e ++ ievs l by simp [ievs], List.getElem?_append_right (by simp [ievc]; omega)]
   congr 1
   simp [ievc]; omega
  exact ⟨(q 0).trans ih.1, (q 1).trans ih.2.1, (q 2).trans ih.2.2⟩
def IView (w : World) (A : Option Addr) (l : List IEv) : Prop := l ≠ [] → ∃ b off, A = some ⟨b, off, none⟩ ∧ w.rangeAt b off (ievs l)
theorem View.i {w : World} {A : Option Addr} {l : List Ev} (h : View w A l) : IView w A (l.map evI) := fun hl => by
 obtain ⟨b, off, e, hr⟩ := h (by rintro rfl; exact hl rfl)
 exact ⟨b, off, e, by rw [← evs_map]; exact hr⟩
theorem IView.at {w : World} {A : Option Addr} {l : List IEv} (h : IView w A l) {k : Nat} (hk : k < l.length) : ∃ b off, A = some ⟨b, off, none⟩ ∧ w.cell? ⟨b, off + k * 3, none⟩ = some (.int .i64 l[k].1) ∧ w.cell? ⟨b, off + k * 3 + 1, none⟩ = some (.int .i64 l[k].2.1) ∧ w.cell? ⟨b, off + k * 3 + 2, none⟩ = some (.bool l[k].2.2) := by
 obtain ⟨b, off, e, hr⟩ := h (by rintro rfl; simp at hk)
 obtain ⟨h0, h1, h2⟩ := ievs_at l k hk
 exact ⟨b, off, e, hr _ _ h0, hr _ _ h1, hr _ _ h2⟩
theorem IView.only {w w' : World} {A : Option Addr} {l : List IEv} (h : IView w A l) (ho : Only nobody w w') : IView w' A l := fun hl => by
 obtain ⟨b, off, e, hr⟩ := h hl
 exact ⟨b, off, e, fun j v hv => (World.cell?_of_block (w := w) (ho.block b (World.block_lt_of_cell? w ⟨b, off + j, none⟩ (hr j v hv)) (not_nobody _))).trans (hr j v hv)⟩
theorem iequal_event (e f : IEv) (w : World) : (Op.equalIn 10000 149 (.agg #[.int .i64 e.1, .int .i64 e.2.1, .bool e.2.2]) (.agg #[.int .i64 f.1, .int .i64 f.2.1, .bool f.2.2])).run Tryz.prog w = .ok (decide (e = f)) w := by
 obtain ⟨e0, e1, e2⟩ := e
 obtain ⟨f0, f1, f2⟩ := f
 rw [run_equalIn_struct w 9999 149 _ _ (by kernel_rfl) (by kernel_rfl)]
 simp [Program.fieldsOf, Tryz.underlying149, Op.eqFields, Go.part, isAgg, run_underlying Tryz.underlying3, run_underlying Tryz.underlying4, run_equalIn_int w 9998 3 .i64 .i64 _ _ Tryz.underlying3, run_equalIn_bool' w 9998 4 _ _ Tryz.underlying4]
 by_cases h0 : e0 = f0 <;> by_cases h1 : e1 = f1 <;> by_cases h2 : e2 = f2 <;> simp [h0, h1, h2]
theorem ineq_event (e0 e1 f0 f1 : Int) (e2 f2 : Bool) (b : Bool) (h : decide (((e0, e1, e2) : IEv) = (f0, f1, f2)) = b) (w : World) : (binOp .neq 149 (.agg #[.int .i64 e0, .int .i64 e1, .bool e2]) (.agg #[.int .i64 f0, .int .i64 f1, .bool f2])).run Tryz.prog w = .ok (.bool (!b)) w := by
 rw [run_neq_struct, iequal_event (e0, e1, e2) (f0, f1, f2), h]; rfl
end Go.Proofs.YtknnebhjldfkhaaGreat


namespace Go.Proofs.YtknnebhjldfkhaaGreat
set_option maxRecDepth 100000
open Go.RowKit Go.ChangeShapes Go.WideShapes Go.ChangeAt

theorem ievs_one (l : List IEv) : ∀ u ∈ ievs l, u.oneCell' = true := by
 intro u hu
 obtain ⟨e, _, he⟩ := List.mem_flatMap.1 hu
 simp only [ievc, List.mem_cons, List.not_mem_nil, or_false] at he
 rcases he with rfl | rfl | rfl <;> rfl
theorem ievs_new (W : World) (t : TypeId) (l : List IEv) {b : Nat} (hb : b = W.heap.size) : ∀ j u, (ievs l)[j]? = some u → (W.alloc (.cells (ievs l).toArray t)).cell? ((⟨b, 0, none⟩ : Addr).add j) = some u := by
 subst hb
 intro j u h
 have hb := Box.new W t (ievs l).toArray
 have := hb.cell j
 rw [add_plain, Nat.zero_add, this, List.getElem?_toArray]
 exact h
structure EvAt (w1 : World) (v : Value) (l : List IEv) (wr : World) : Prop where
 own : wr.ownsRow w1.heap.size 149 3 v l.length (ievs l)
 below : Below w1.heap.size w1 wr
theorem EvAt.nil (w : World) : EvAt w (.slice none 0 0) [] w := ⟨World.ownsRow_nil _ _ _ _, Below.refl _ _⟩
theorem EvAt.next {w1 : World} {v : Value} {l m : List IEv} {A : Option Addr} {cap : Nat} {t : TypeId} {wr wx w7 : World} (h : EvAt w1 v l wr) (hx : Below wr.heap.size wr wx)
  (ho : w7.ownsRow w1.heap.size 149 3 (.slice A (l.length + m.length) cap) (l.length + m.length) (ievs l ++ ievs m)) (hg : (wx.alloc (.cells (ievs m).toArray t)).grownBy w7 v.ownBlock) :
  EvAt w1 (.slice A (l.length + m.length) cap) (l ++ m) w7 := by
 constructor
 ·rw [List.length_append, ievs_append]
  exact ho
 ·have hb : Below w1.heap.size w1 wx := h.below.trans (hx.mono h.below.size)
  refine (hb.alloc hb.size _).grown hg (by have := hb.size; simp; omega) (fun b e => ?_)
  rcases h.own.2 with ⟨rfl, _⟩ | ⟨g, cap, cur, rfl, hb, _⟩
  ·simp [Value.ownBlock] at e
  ·obtain rfl : g = b := by simpa [Value.ownBlock] using e
   exact hb
def EvPost (w : World) (l : List IEv) (e : Ending) (w' : World) : Prop := ∃ A cap, e = .returned (.slice A l.length cap) ∧ IView w' A l ∧ Only nobody w w'
theorem ev_done {w w1 wr : World} {v : Value} {l : List IEv} (h : EvAt w1 v l wr) (hb : Below w.heap.size w w1) : EvPost w l (.returned v) wr := by
 have ho : Only nobody w wr := Only.of_below (hb.trans (h.below.mono hb.size))
 have h' := h.own
 rcases h.own.2 with ⟨rfl, h0⟩ | ⟨g, cap, cur, rfl, _, hg, _⟩
 ·exact ⟨none, 0, by rw [h0], fun hl => absurd (List.eq_nil_of_length_eq_zero h0) hl, ho⟩
 ·refine ⟨_, cap, rfl, fun _ => ⟨g, 0, rfl, fun j u hu => ?_⟩, ho⟩
  have := h'.cells (g := g) rfl j u hu
  rwa [add_plain] at this
end Go.Proofs.YtknnebhjldfkhaaGreat


namespace Go.Proofs.YtknnebhjldfkhaaGreat
set_option maxRecDepth 100000
open Go.RowKit Go.ChangeShapes Go.WideShapes Go.ChangeAt

def ireads (r : Int) (i : Nat) : List IEv := (List.range i).map fun (a : Nat) => (r, (a : Int), false)
def iwrites (r : Int) (i : Nat) : List IEv := (List.range i).flatMap fun (a : Nat) => [(r, (a : Int), false), (r, (a : Int), true)]
theorem ireads_succ (r : Int) (i : Nat) : ireads r (i + 1) = ireads r i ++ [(r, (i : Int), false)] := by unfold ireads; rw [List.range_succ, List.map_append]; rfl
theorem iwrites_succ (r : Int) (i : Nat) : iwrites r (i + 1) = iwrites r i ++ [(r, (i : Int), false), (r, (i : Int), true)] := by unfold iwrites; rw [List.range_succ, List.flatMap_append]; rfl
theorem ireads_len (r : Int) (i : Nat) : (ireads r i).length = i := by simp [ireads]
theorem iwrites_len (r : Int) (i : Nat) : (iwrites r i).length = i * 2 := by
 induction i with
 | zero => rfl
 | succ i ih => rw [iwrites_succ, List.length_append, ih]; simp; omega
theorem ireads_nat (r i : Nat) : ireads (r : Int) i = ((List.range i).map fun a => (r, a, false)).map evI := by
 unfold ireads; rw [List.map_map]; rfl
theorem iwrites_nat (r i : Nat) : iwrites (r : Int) i = (scanW r i).map evI := by
 induction i with
 | zero => rfl
 | succ i ih => rw [iwrites_succ, scanW_succ, List.map_append, ih]; rfl
set_option linter.unusedSimpArgs false in
set_option maxRecDepth 100000 in
set_option maxHeartbeats 1000000 in
theorem sc_reads_any (r : Int) (n : Nat) (hn : n ≤ 100000) (w : World) : Calls Tryz.prog 126 #[.int .i64 r, .int .i64 (n : Int)] w (EvPost w (ireads r n)) := by
 go_enter Tryz.func126, Tryz.ntmps126
 go_wp2_with fail
 go_loopw [5, 8] (fun v5 v wr => ∃ i : Nat, v = .int .i64 i ∧ i ≤ n ∧ EvAt w v5 (ireads r i) wr) (fun _ v _ => n - (intOf v).toNat)
 case atStart => exact ⟨0, rfl, Nat.zero_le _, EvAt.nil w⟩
 case round =>
  obtain ⟨i, rfl, hi, hE⟩ := hrel
  have HE := Lib.hid hE
  clear hE
  by_cases hlt : i < n
  ·have hsz := HE.out.below.size
   have HLE := Lib.hid (ireads_len r i)
   have HOW : Hid (wr.ownsRow w.heap.size 149 3 u5 i (ievs (ireads r i))) := by
    have := HE.out.own
    rwa [HLE.out] at this
   go_wp2_with (with_reducible refine wpList_append_where _ rfl (.tmp 11) (.tmp 15) 52 rfl w.heap.size 149 (.agg #[.int .i64 0, .int .i64 0, .bool false]) 3 24 Tryz.underlying52 infoEvent rfl (by decide) u5 i (ievs (ireads r i)) rfl (HOW.out.alloc _) ⟨wr.heap.size, 0, none⟩ 1 1 (ievs [(r, (i : Int), false)]) rfl rfl ?c0 (ievs_one _) ?c2 ?c3 ?c4 ?_)
   case c0 => exact ievs_new wr _ [(r, (i : Int), false)] rfl
   case c2 => simp only [maxLen]; omega
   case c3 => omega
   case c4 => simp; omega
   intro A2 cap2 w7 hown hgr _
   have HN2 : Hid (EvAt w (.slice A2 (i + 1) cap2) (ireads r (i + 1)) w7) := by
    have h := HE.out.next (m := [(r, (i : Int), false)]) (Below.refl _ wr) (by rw [HLE.out]; exact hown) hgr
    rw [HLE.out] at h
    rw [ireads_succ]
    exact h
   clear hown hgr
   go_wp2_with fail
   go_roundw
   case rel => exact ⟨i + 1, by go_num, by omega, HN2.out⟩
   case measure => simp [intOf]; omega
  ·obtain rfl : i = n := by omega
   have HD : Hid (EvPost w (ireads r i) (.returned u5) wr) := ev_done HE.out (Below.refl _ _)
   clear HE
   go_wp2_with fail
   go_ret
   exact HD.out
set_option linter.unusedSimpArgs false in
set_option maxRecDepth 100000 in
set_option maxHeartbeats 1000000 in
theorem sc_writes_any (r : Int) (n : Nat) (hn : n ≤ 100000) (w : World) : Calls Tryz.prog 128 #[.int .i64 r, .int .i64 (n : Int)] w (EvPost w (iwrites r n)) := by
 go_enter Tryz.func128, Tryz.ntmps128
 go_wp2_with fail
 go_loopw [5, 8] (fun v5 v wr => ∃ i : Nat, v = .int .i64 i ∧ i ≤ n ∧ EvAt w v5 (iwrites r i) wr) (fun _ v _ => n - (intOf v).toNat)
 case atStart => exact ⟨0, rfl, Nat.zero_le _, EvAt.nil w⟩
 case round =>
  obtain ⟨i, rfl, hi, hE⟩ := hrel
  have HE := Lib.hid hE
  clear hE
  by_cases hlt : i < n
  ·have hsz := HE.out.below.size
   have HLE := Lib.hid (iwrites_len r i)
   have HOW : Hid (wr.ownsRow w.heap.size 149 3 u5 (i * 2) (ievs (iwrites r i))) := by
    have := HE.out.own
    rwa [HLE.out] at this
   go_wp2_with (with_reducible refine wpList_append_where _ rfl (.tmp 11) (.tmp 18) 52 rfl w.heap.size 149 (.agg #[.int .i64 0, .int .i64 0, .bool false]) 3 24 Tryz.underlying52 infoEvent rfl (by decide) u5 (i * 2) (ievs (iwrites r i)) rfl (HOW.out.alloc _) ⟨wr.heap.size, 0, none⟩ 2 2 (ievs [(r, (i : Int), false), (r, (i : Int), true)]) rfl rfl ?c0 (ievs_one _) ?c2 ?c3 ?c4 ?_)
   case c0 => exact ievs_new wr _ [(r, (i : Int), false), (r, (i : Int), true)] rfl
   case c2 => simp only [maxLen]; omega
   case c3 => omega
   case c4 => simp; omega
   intro A2 cap2 w7 hown hgr _
   have HN2 : Hid (EvAt w (.slice A2 (i * 2 + 2) cap2) (iwrites r (i + 1)) w7) := by
    have h := HE.out.next (m := [(r, (i : Int), false), (r, (i : Int), true)]) (Below.refl _ wr) (by rw [HLE.out]; exact hown) hgr
    rw [HLE.out] at h
    rw [iwrites_succ]
    exact h
   clear hown hgr
   go_wp2_with fail
   go_roundw
   case rel => exact ⟨i + 1, by go_num, by omega, HN2.out⟩
   case measure => simp [intOf]; omega
  ·obtain rfl : i = n := by omega
   have HD : Hid (EvPost w (iwrites r i) (.returned u5) wr) := ev_done HE.out (Below.refl _ _)
   clear HE
   go_wp2_with fail
   go_ret
   exact HD.out
end Go.Proofs.YtknnebhjldfkhaaGreat


namespace Go.Proofs.YtknnebhjldfkhaaGreat
set_option maxRecDepth 100000
open Go.RowKit Go.ChangeShapes Go.WideShapes Go.ChangeAt

set_option maxHeartbeats 1000000 in
theorem isame_any (A A' : Option Addr) (cap cap' : Nat) (l l' : List IEv) (w : World) (h : IView w A l) (h' : IView w A' l') (hn : l.length ≤ 1000000000) :
  Calls Tryz.prog 52 #[.slice A l.length cap, .slice A' l'.length cap'] w fun e w' => e = .returned (.bool (decide (l = l'))) ∧ ∃ n, w' = w.drewN n := by
 have HV := Lib.hid h
 have HV' := Lib.hid h'
 clear h h'
 obtain ⟨n, hl⟩ : ∃ n, l.length = n := ⟨_, rfl⟩
 have HL := Lib.hid hl
 obtain ⟨B, hB⟩ : ∃ B, decide (l = l') = B := ⟨_, rfl⟩
 have HB := Lib.hid hB
 rw [hB]
 clear hB
 by_cases hlen : l.length = l'.length
 ·have HL' := Lib.hid hlen
  rw [← hlen, hl]
  rw [hl] at hn
  clear hl hlen
  go_enter Tryz.func52, Tryz.ntmps52
  go_wp2
  go_loopw [5] (fun i wr => ∃ k m : Nat, i = .int .i64 k ∧ k ≤ n ∧ wr = w.drewN m ∧ Hid (∀ j, j < k → l[j]? = l'[j]?)) (fun i _ => n - (intOf i).toNat)
  case atStart => exact ⟨0, 0, rfl, Nat.zero_le _, rfl, fun j hj => absurd hj (by omega)⟩
  case round =>
   obtain ⟨k, m, rfl, hk, rfl, HJ⟩ := hrel
   by_cases hlt : k < n
   ·have q1 : k < l.length := by rw [HL.out]; exact hlt
    have q2 : k < l'.length := by rw [← HL'.out]; exact q1
    obtain ⟨b, off, rfl, x0, x1, x2⟩ := HV.out.at q1
    obtain ⟨b', off', rfl, y0, y1, y2⟩ := HV'.out.at q2
    obtain ⟨⟨e0, e1, e2⟩, he⟩ : ∃ e, l[k] = e := ⟨_, rfl⟩
    obtain ⟨⟨f0, f1, f2⟩, hf⟩ : ∃ e, l'[k] = e := ⟨_, rfl⟩
    rw [he] at x0 x1 x2
    rw [hf] at y0 y1 y2
    have HE := Lib.hid (List.getElem?_eq_some_iff.2 ⟨q1, he⟩)
    have HF := Lib.hid (List.getElem?_eq_some_iff.2 ⟨q2, hf⟩)
    clear he hf
    have HQ1 := Lib.hid q1
    clear q1 q2
    cases hd : decide (((e0, e1, e2) : IEv) = (f0, f1, f2))
    ·have hq := ineq_event e0 e1 f0 f1 e2 f2 false hd
     rw [Bool.not_false] at hq
     have hB : B = false := by
      rw [← HB.out]
      refine decide_eq_false (fun e => ?_)
      have := HE.out
      rw [e, HF.out] at this
      injection this with this
      exact absurd this.symm (of_decide_eq_false hd)
     have HBF := Lib.hid hB
     clear hd hB
     go_wp2
     go_quiet (fail)
     go_wp2
     go_ret
     exact ⟨by rw [HBF.out]; rfl, _, World.drewN_drewN ..⟩
    ·have hq := ineq_event e0 e1 f0 f1 e2 f2 true hd
     rw [Bool.not_true] at hq
     have HD := Lib.hid hd
     clear hd
     go_wp2
     go_quiet (fail)
     go_wp2
     go_roundw
     case rel =>
      refine ⟨k + 1, _, by go_num, by omega, rfl, fun j hj => ?_⟩
      by_cases e : j = k
      ·subst e
       rw [HE.out, HF.out, of_decide_eq_true HD.out]
      ·exact HJ.out j (by omega)
     case measure => simp [intOf]; omega
   ·have hB : B = true := by
     rw [← HB.out]
     refine decide_eq_true (List.ext_getElem? (fun j => ?_))
     by_cases hj : j < k
     ·exact HJ.out j hj
     ·rw [List.getElem?_eq_none (by rw [HL.out]; omega), List.getElem?_eq_none (by rw [← HL'.out, HL.out]; omega)]
    have HBF := Lib.hid hB
    clear hB
    go_wp2
    go_ret
    exact ⟨by rw [HBF.out]; rfl, _, rfl⟩
 ·obtain ⟨n', hl'⟩ : ∃ n, l'.length = n := ⟨_, rfl⟩
  have HBF : Hid (B = false) := by
   have := HB.out
   rw [← this]
   exact decide_eq_false (fun e => hlen (by rw [e]))
  rw [hl, hl'] at hlen ⊢
  rw [hl] at hn
  clear hl hl'
  go_enter Tryz.func52, Tryz.ntmps52
  go_wp2
  go_ret
  exact ⟨by rw [HBF.out]; rfl, 0, rfl⟩

theorem isame_len (A A' : Option Addr) (n n' cap cap' : Nat) (l l' : List IEv) (w : World) (e : l.length = n) (e' : l'.length = n') (h : IView w A l) (h' : IView w A' l') (hn : n ≤ 1000000000) :
  Calls Tryz.prog 52 #[.slice A n cap, .slice A' n' cap'] w fun e w' => e = .returned (.bool (decide (l = l'))) ∧ ∃ n, w' = w.drewN n := by
 subst e e'
 exact isame_any A A' cap cap' l l' w h h' hn
theorem same_told (A A' : Option Addr) (n cap cap' : Nat) (l l' : List IEv) (w : World) (e : l.length = n) (hl : l = l') (h : IView w A l) (h' : IView w A' l') (hn : n ≤ 1000000000) :
  Calls Tryz.prog 52 #[.slice A n cap, .slice A' n cap'] w fun e w' => e = .returned (.bool true) ∧ Only nobody w w' := by
 subst hl
 have := isame_len A A' n n cap cap' l l w e e h h' hn
 rw [decide_eq_true rfl] at this
 refine this.mono ?_
 rintro e w' ⟨rfl, k, rfl⟩
 exact ⟨rfl, (Only.refl nobody w).drewN k⟩
end Go.Proofs.YtknnebhjldfkhaaGreat

