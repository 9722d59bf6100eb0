/- Texts of ours put together: MemOwn, MemMore, ScanMath. -/
import Derived.Deep.WholeRow
import Derived.Test.YtfonieemodbikaaGreatG17
import Derived.Test.YtfonieemodbikaaGreatG12
import Derived.Test.YtfonieemodbikaaGreatG9
namespace Go.Proofs.YtfonieemodbikaaGreat
set_option maxRecDepth 100000
open Go.RowKit Go.ChangeShapes Go.WideShapes Go.ChangeAt

def Own (w : World) (X : Nat → Prop) (p : Nat) (M : MS) : Prop := ∃ F, Mm w p F M ∧ (∀ i, F i → ¬ X i) ∧ ∀ i, X i → i < w.heap.size
def Kept (X : Nat → Prop) (w w' : World) : Prop := Only (fun i => ¬ X i) w w'
section
variable {w w' w'' : World} {X Y : Nat → Prop} {p : Nat} {M : MS}
theorem Kept.refl (X : Nat → Prop) (w : World) : Kept X w w := Only.refl _ _
theorem Kept.trans (h : Kept X w w') (k : Kept X w' w'') : Kept X w w'' := Only.trans h k
theorem Kept.mono (h : Kept X w w') (hs : ∀ i, Y i → X i) : Kept Y w w' := Only.mono h (fun _ _ h k => h (hs _ k))
theorem Kept.of_none (h : Only nobody w w') : Kept X w w' := Only.mono h (fun _ _ h => absurd h (not_nobody _))
theorem Kept.drewN (h : Kept X w w') (n : Nat) : Kept X w (w'.drewN n) := Only.drewN h n
theorem Kept.alloc (h : Kept X w w') (o : Obj) : Kept X w (w'.alloc o) := Only.alloc h o
theorem Kept.box {b : Nat} {t : TypeId} {cs : Array Value} (h : Kept X w w') (hb : Box w b t cs) (hx : X b) : Box w' b t cs := hb.only h (fun k => k hx)
theorem Kept.row {b : Nat} {t : TypeId} {n : Nat} {f : Nat → Value} (h : Kept X w w') (hb : w.rowIs b t n f) (hx : X b) : w'.rowIs b t n f := Only.row h hb (fun k => k hx)
theorem Kept.cell {b o : Nat} {v : Value} (h : Kept X w w') (hc : w.cell? ⟨b, o, none⟩ = some v) (hx : X b) : w'.cell? ⟨b, o, none⟩ = some v :=
  (World.cell?_of_block (w := w) (h.block b (World.block_lt_of_cell? w ⟨b, o, none⟩ hc) (fun k => k hx))).trans hc
theorem Kept.range {b o : Nat} {cs : List Value} (h : Kept X w w') (hr : w.rangeAt b o cs) (hx : X b) : w'.rangeAt b o cs := fun j v hv => h.cell (hr j v hv) hx
theorem Kept.below {B : Nat} (h : Kept X w w') (hB : B ≤ w.heap.size) (hx : ∀ i, i < B → X i) : Below B w w' := Only.below h hB (fun i hi k => k (hx i hi))

theorem Own.weak (h : Own w X p M) (hs : ∀ i, Y i → X i) : Own w Y p M := by
  obtain ⟨F, hm, hF, hX⟩ := h
  exact ⟨F, hm, fun i hi k => hF i hi (hs i k), fun i hi => hX i (hs i hi)⟩
theorem Own.grow (h : Own w X p M) (ho : Only nobody w w') : Own w' (fun i => X i ∨ (w.heap.size ≤ i ∧ i < w'.heap.size)) p M := by
  obtain ⟨F, hm, hF, hX⟩ := h
  refine ⟨F, hm.only ho (fun _ _ => not_nobody _), fun i hi k => ?_, fun i hi => ?_⟩
  · rcases k with k | k
    · exact hF i hi k
    · have := hm.lt i hi; omega
  · rcases hi with hi | hi
    · exact Nat.lt_of_lt_of_le (hX i hi) ho.size
    · exact hi.2
theorem Own.none (h : Own w X p M) (ho : Only nobody w w') : Own w' X p M := (h.grow ho).weak (fun _ h => .inl h)
theorem Own.drewN (h : Own w X p M) (n : Nat) : Own (w.drewN n) X p M := h.none ((Only.refl _ w).drewN n)
theorem Own.alloc (h : Own w X p M) (o : Obj) : Own (w.alloc o) (fun i => X i ∨ i = w.heap.size) p M := (h.grow ((Only.refl _ w).alloc o)).weak (fun i h => h.imp id (fun h => by subst h; simp))
theorem Own.only {S : Nat → Prop} (h : Own w X p M) (ho : Only S w w') (hs : ∀ i, S i → X i) : Own w' X p M := by
  obtain ⟨F, hm, hF, hX⟩ := h
  exact ⟨F, hm.only ho (fun i hi k => hF i hi (hs i k)), hF, fun i hi => Nat.lt_of_lt_of_le (hX i hi) ho.size⟩
theorem own_done {F : Nat → Prop} {e e' : Ending} {M' : MS} (hF : ∀ i, F i → ¬ X i) (hX : ∀ i, X i → i < w.heap.size) (h : DonePost w p F M' e e' w') : e' = e ∧ Own w' X p M' ∧ Kept X w w' := by
  obtain ⟨he, F', hm, ho, hF'⟩ := h
  refine ⟨he, ⟨F', hm, fun i hi k => ?_, fun i hi => Nat.lt_of_lt_of_le (hX i hi) ho.size⟩, ho.mono (fun i _ hi => hF i hi)⟩
  rcases hF' i hi with h | h
  · exact hF i h k
  · have := hX i k; omega
end

def OwnPost (w : World) (X : Nat → Prop) (p : Nat) (M : MS) (v : Value) (e : Ending) (w' : World) : Prop := e = .returned v ∧ Own w' X p M ∧ Kept X w w'
section
variable (X : Nat → Prop) (p : Nat) (M : MS) (w : World)
theorem own_read (r a : Int) (h : Own w X p M) (hl : M.es.length < 1000000000) :
    Calls Tryz.prog 26 #[.pointer (some ⟨p, 0, none⟩), .int .i64 r, .int .i64 a] w (OwnPost w X p (M.read r a) (.agg (CA (M.cell r a)))) := by
  obtain ⟨F, hm, hF, hX⟩ := h
  exact (read_any p F M r a w hm hl).mono fun e w' h => own_done hF hX h
theorem own_write (r a : Int) (f : Nat → Int) (h : Own w X p M) (hl : M.es.length < 1000000000) :
    Calls Tryz.prog 136 #[.pointer (some ⟨p, 0, none⟩), .int .i64 r, .int .i64 a, .agg (CA f)] w (OwnPost w X p (M.write r a f) (.tuple #[])) := by
  obtain ⟨F, hm, hF, hX⟩ := h
  exact (write_any p F M r a f w hm hl).mono fun e w' h => own_done hF hX h
theorem own_size (r : Int) (h : Own w X p M) : Calls Tryz.prog 106 #[.pointer (some ⟨p, 0, none⟩), .int .i64 r] w fun e w' => e = .returned (.int .i64 (M.size r : Nat)) ∧ w = w' := by
  obtain ⟨F, hm, _⟩ := h
  exact size_any p F M r w hm
end
theorem wpList_store_new {ops : Array Oper} {rest : List Oper} {op : Oper} {a : Act} {w : World} {Q : Exit → Act → World → Prop} (hgd : op.guard = none) (x y : Operand) (ho : op.op = .store 64 x y)
    (hx : a.eval x = .pointer (some ⟨w.heap.size, 0, none⟩)) (f : Nat → Int) (hy : a.eval y = .agg (CA f)) {c : Array Value} (hc : c.size = 12)
    (h : wpList Tryz.prog ops Q rest (a.put op.dst undef) (w.alloc (.cells (CA f) 64))) : wpList Tryz.prog ops Q (op :: rest) a (w.alloc (.cells c 64)) := by
  refine wpList_plain hgd fun K hK => ?_
  have hr := run_storeAt_new (P := Tryz.prog) w 64 c (CA f) infoCell (by rw [hc]; rfl) (CA_one f)
  unfold Oper.wp execOp
  simp only [ho, hx, hy, Sem.run_bind, Result.andThen_ok, hr, Sem.run_pure]
  exact hK _ _ h
def old (w : World) : Nat → Prop := fun i => i < w.heap.size

end Go.Proofs.YtfonieemodbikaaGreat


namespace Go.Proofs.YtfonieemodbikaaGreat
set_option maxRecDepth 100000
open Go.RowKit Go.ChangeShapes Go.WideShapes Go.ChangeAt

def MS.wd (M : MS) : Prop := ∀ r a, Wd (M.c r a)
theorem wd_zero : Wd (fun _ => 0) := fun _ => ⟨Int.le_refl 0, by show (0 : Int) ≤ 18446744073709551615; omega⟩
theorem wd_cell {M : MS} (h : M.wd) (r a : Int) : Wd (M.cell r a) := by
  unfold MS.cell
  split
  · exact h _ _
  · exact wd_zero
theorem wd_read {M : MS} (h : M.wd) (r a : Int) : (M.read r a).wd := by
  unfold MS.read
  split
  · exact h
  · exact h
theorem take_snoc {α : Type} (l : List α) (i : Nat) (hi : i < l.length) : l.take (i + 1) = l.take i ++ [l[i]] := by
  rw [List.take_add_one, List.getElem?_eq_getElem hi]; rfl
theorem range_alloc_new (w : World) (f : Nat → Int) (t : TypeId) : (w.alloc (.cells (CA f) t)).rangeAt w.heap.size 0 (CA f).toList := rg_new w f t _ rfl
theorem none_of_ext {w w' : World} (h : Ext w w') : Only nobody w w' := Only.of_below h.below
theorem Kept.setCells {X : Nat → Prop} {w w' : World} (h : Kept X w w') (b : Nat) (vs : List Value) (hb : w.heap.size ≤ b) : Kept X w (w'.setCells b 0 vs) := only_setCells vs 0 w' h (.inr hb)
theorem Own.setCells {X : Nat → Prop} {w : World} {p : Nat} {M : MS} (h : Own w X p M) (b : Nat) (vs : List Value) (hb : X b) : Own (w.setCells b 0 vs) X p M :=
  h.only (only_setCells (S := just b) vs 0 w (Only.refl _ _) (.inl (just_self b))) (fun i hi => by rw [hi]; exact hb)
theorem Kept.there {X : Nat → Prop} {w w' : World} (h : Kept X w w') {b : Nat} {n : Nat} (ht : w.there b 0 n) (hb : X b) (hlt : b < w.heap.size) : w'.there b 0 n := fun j hj => by
  have e := h.block b hlt (fun k => k hb)
  obtain ⟨h1, h2⟩ := ht j hj
  exact ⟨by rw [World.cell?_of_block (w := w) e]; exact h1, by rw [World.frozen?_of_block e]; exact h2⟩
theorem Box.alloc_lt {w : World} {p : Nat} {t : TypeId} {cs cs' : Array Value} {t' : TypeId} (h : Box (w.alloc (.cells cs' t')) p t cs) (hne : t ≠ t' := by decide) : p < w.heap.size := by
  have h1 := h.lt
  have h2 : p ≠ w.heap.size := Box.ne h (Box.new w t' cs') hne
  simp at h1
  omega
theorem Own.grow_only {w w' : World} {X S : Nat → Prop} {p : Nat} {M : MS} (h : Own w X p M) (ho : Only S w w') (hs : ∀ i, S i → X i) : Own w' (fun i => X i ∨ (w.heap.size ≤ i ∧ i < w'.heap.size)) p M := by
  obtain ⟨F, hm, hF, hX⟩ := h
  refine ⟨F, hm.only ho (fun i hi k => hF i hi (hs i k)), fun i hi k => ?_, fun i hi => ?_⟩
  · rcases k with k | k
    · exact hF i hi k
    · have := hm.lt i hi; omega
  · rcases hi with hi | hi
    · exact Nat.lt_of_lt_of_le (hX i hi) ho.size
    · exact hi.2
def MS.looked (M : MS) (r i : Nat) : MS := { M with es := M.es ++ (List.range i).map (fun a => (r, a, false)) }
theorem looked_zero (M : MS) (r : Nat) : M.looked r 0 = M := by unfold MS.looked; simp
theorem looked_len (M : MS) (r i : Nat) : (M.looked r i).es.length = M.es.length + i := by unfold MS.looked; simp
theorem looked_hit (M : MS) (r i : Nat) (hr : r < M.k) (hi : i < M.sz r) : (M.looked r i).hit (r : Int) (i : Int) = true := MS.hit_of (M := M.looked r i) hr hi
theorem looked_step (M : MS) (r i : Nat) (hr : r < M.k) (hi : i < M.sz r) : (M.looked r i).read (r : Int) (i : Int) = M.looked r (i + 1) := by
  unfold MS.read
  rw [if_pos (looked_hit M r i hr hi)]
  unfold MS.see MS.looked
  simp only [Int.toNat_natCast]
  rw [List.range_succ, List.map_append, List.append_assoc]; rfl
theorem looked_cell (M : MS) (r i : Nat) (hr : r < M.k) (hi : i < M.sz r) : (M.looked r i).cell (r : Int) (i : Int) = M.c r i := by
  unfold MS.cell
  rw [if_pos (looked_hit M r i hr hi)]
  simp only [Int.toNat_natCast]
  rfl
theorem cell_in_range {w : World} {b κ : Nat} {f : Nat → Int} (h : w.rangeAt b 0 (CA f).toList) (hκ : κ < 12) : w.cell? ⟨b, κ, none⟩ = some (.int .u64 (f κ)) := by
  have := h κ (.int .u64 (f κ)) (by rw [Array.getElem?_toList, CA_at f κ hκ]); rwa [Nat.zero_add] at this
end Go.Proofs.YtfonieemodbikaaGreat


namespace Go.Proofs.YtfonieemodbikaaGreat
set_option maxRecDepth 100000

def scanW (r i : Nat) : List Ev := (List.range i).flatMap fun a => [(r, a, false), (r, a, true)]
theorem scanW_succ (r i : Nat) : scanW r (i + 1) = scanW r i ++ [(r, i, false), (r, i, true)] := by unfold scanW; rw [List.range_succ, List.flatMap_append]; rfl
theorem scanW_len (r i : Nat) : (scanW r i).length = i * 2 := by
  induction i with
  | zero => rfl
  | succ i ih => rw [scanW_succ, List.length_append, ih]; simp; omega
def MS.anew (M : MS) (r b : Nat) (f : Nat → Int) (on : Bool) (i : Nat) : MS := { M with c := fun r' a => if r' = r ∧ a < i ∧ a = b ∧ on = true then f else M.c r' a, es := M.es ++ scanW r i }
theorem anew_zero (M : MS) (r b : Nat) (f : Nat → Int) (on : Bool) : M.anew r b f on 0 = M := by
  unfold MS.anew
  have h : (fun r' a => if r' = r ∧ a < 0 ∧ a = b ∧ on = true then f else M.c r' a) = M.c := by
    funext r' a
    rw [if_neg (fun h => by omega)]
  rw [h]
  simp [scanW]
theorem anew_len (M : MS) (r b : Nat) (f : Nat → Int) (on : Bool) (i : Nat) : (M.anew r b f on i).es.length = M.es.length + i * 2 := by
  show (M.es ++ scanW r i).length = _
  rw [List.length_append, scanW_len]
theorem anew_cell (M : MS) (r b : Nat) (f : Nat → Int) (on : Bool) (i : Nat) (hr : r < M.k) (hi : i < M.sz r) : (M.anew r b f on i).cell (r : Int) (i : Int) = M.c r i := by
  unfold MS.cell
  rw [if_pos (MS.hit_of (M := M.anew r b f on i) hr hi)]
  simp only [Int.toNat_natCast]
  show (if r = r ∧ i < i ∧ i = b ∧ on = true then f else M.c r i) = _
  rw [if_neg (fun h => by omega)]
theorem anew_step (M : MS) (r b : Nat) (f : Nat → Int) (on : Bool) (i : Nat) (hr : r < M.k) (hi : i < M.sz r) :
    ((M.anew r b f on i).read (r : Int) (i : Int)).write (r : Int) (i : Int) (if i = b ∧ on = true then f else M.c r i) = M.anew r b f on (i + 1) := by
  have h1 : (M.anew r b f on i).read (r : Int) (i : Int) = (M.anew r b f on i).see r i false := by
    unfold MS.read; rw [if_pos (MS.hit_of (M := M.anew r b f on i) hr hi)]; simp
  rw [h1]
  have h2 : ∀ g, ((M.anew r b f on i).see r i false).write (r : Int) (i : Int) g = (((M.anew r b f on i).see r i false).see r i true).put r i g := fun g => by
    unfold MS.write; rw [if_pos (MS.hit_of (M := (M.anew r b f on i).see r i false) hr hi)]; simp
  rw [h2]
  unfold MS.anew MS.see MS.put
  dsimp only
  rw [scanW_succ]
  congr 1
  · funext r' a
    by_cases e1 : r' = r ∧ a = i
    · rw [if_pos e1]
      obtain ⟨rfl, rfl⟩ := e1
      by_cases e2 : a = b ∧ on = true
      · rw [if_pos e2, if_pos ⟨rfl, by omega, e2.1, e2.2⟩]
      · rw [if_neg e2, if_neg (fun h => e2 h.2.2)]
    · rw [if_neg e1]
      by_cases e2 : r' = r ∧ a < i ∧ a = b ∧ on = true
      · rw [if_pos e2, if_pos ⟨e2.1, by omega, e2.2.2⟩]
      · rw [if_neg e2, if_neg (fun h => by
          by_cases e3 : a = i
          · exact e1 ⟨h.1, e3⟩
          · exact e2 ⟨h.1, by omega, h.2.2⟩)]
  · simp
end Go.Proofs.YtfonieemodbikaaGreat

