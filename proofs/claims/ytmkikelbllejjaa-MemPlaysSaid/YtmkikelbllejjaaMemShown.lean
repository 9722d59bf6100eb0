/- The third chapter's example, as the law texts ask it first: it returns true; nothing that was there turns. -/
import Derived.Test.YtmkikelbllejjaaMemOwn
import Derived.Deep.RegionHeld3
import Derived.Deep.WholeRow
namespace Go.Proofs.Ytmkikelbllejjaa
open Go.RowKit Go.ChangeShapes Go.WideShapes Go.ChangeAt

def Yes (w : World) (e : Ending) (w' : World) : Prop := e = .returned (.bool true) ∧ Below w.heap.size w w'
/-- A whole cell is stored to a block that was made just now. -/
theorem wpList_store_new {ops : Array Oper} {rest : List Oper} {op : Oper} {a : Act} {w : World} {Q : Exit → Act → World → Prop} (hgd : op.guard = none) (x y : Operand) (ho : op.op = .store 37 x y)
    (hx : a.eval x = .pointer (some ⟨w.heap.size, 0, none⟩)) (f : Nat → Int) (hy : a.eval y = .agg (CA f)) {c : Array Value} (hc : c.size = 12)
    (h : wpList Try.prog ops Q rest (a.put op.dst undef) (w.alloc (.cells (CA f) 37))) : wpList Try.prog ops Q (op :: rest) a (w.alloc (.cells c 37)) := by
  refine wpList_plain hgd fun K hK => ?_
  have hr := run_storeAt_new (P := Try.prog) w 37 c (CA f) infoCell (by rw [hc]; rfl) (CA_one f)
  unfold Oper.wp execOp
  simp only [ho, hx, hy, Sem.run_bind, Result.andThen_ok, hr, Sem.run_pure]
  exact hK _ _ h
/-- All blocks that there were. -/
def old (w : World) : Nat → Prop := fun i => i < w.heap.size

/-- New, of sizes that are written out. -/
theorem new_list (L : List Nat) (hL : (decide (1 ≤ L.length) && decide (L.length ≤ 16) && L.all fun s => decide (1 ≤ s) && decide (s ≤ 4096)) = true) (w : World) (cs : Array Value) (t : TypeId) (hcs : cs = (L.map fun (s : Nat) => Value.int .i64 (s : Int)).toArray) :
    Calls Try.prog 9 #[.slice (some ⟨w.heap.size, 0, none⟩) L.length L.length] (w.alloc (.cells cs t)) fun e w' => ∃ p, e = .returned (.tuple #[.pointer (some ⟨p, 0, none⟩), .int .i64 0]) ∧
      Own w' (old (w.alloc (.cells cs t))) p (MS.new L.length (fun i => L.getD i 0)) ∧ Only nobody (w.alloc (.cells cs t)) w' := by
  simp only [Bool.and_eq_true, decide_eq_true_eq, List.all_eq_true] at hL
  obtain ⟨⟨h1, h2⟩, h3⟩ := hL
  have hz : Nums .i64 (w.alloc (.cells cs t)) (w.heap.size + 1) (some ⟨w.heap.size, 0, none⟩) L.length (fun i => ((L.getD i 0 : Nat) : Int)) := by
    intro _
    refine ⟨_, 0, rfl, by omega, fun j hj => ?_⟩
    subst hcs
    rw [Nat.zero_add, (Box.new w t _).cell j]
    simp [hj]
  refine (new_yes _ L.length L.length (w.heap.size + 1) _ (fun i => L.getD i 0) _ hz (by simp) ⟨h1, h2, fun i hi => ?_⟩ (fun i _ => rfl)).mono ?_
  · have := h3 (L[i]) (List.getElem_mem hi)
    simp [hi]; omega
  · rintro e w1 ⟨p, F, rfl, hm, ho, hF⟩
    exact ⟨p, rfl, own_new (fun i hi => hi) hm ho hF, ho⟩

/-- The example's events. -/
def shownEs : List Ev := [(0, 1, true), (0, 1, false)]
theorem shown_eq : decide (shownEs = shownEs) = true := rfl
/-- What the example makes of a memory. -/
theorem shown_mem : ∃ M1 M2 M3 : MS, (MS.new [3].length fun i => [3].getD i 0).write 0 1 (cw 5) = M1 ∧ M1.read 0 1 = M2 ∧ M2.read 0 9 = M3 ∧ M1.cell 0 1 = cw 5 ∧ M1.es.length = 1 ∧ M2.es.length = 2 ∧ M2.ft = false ∧ M3.ft = true ∧ M3.es = shownEs := ⟨_, _, _, rfl, rfl, rfl, rfl, rfl, rfl, rfl, rfl, rfl⟩
/-- The slice that the example's events are written out in. -/
def shownCells : Array Value := #[.int .i64 0, .int .i64 1, .bool true, .int .i64 0, .int .i64 1, .bool false]
theorem view_new (w : World) : View (w.alloc (.cells shownCells 53)) (some ⟨w.heap.size, 0, none⟩) shownEs := fun _ => ⟨_, 0, rfl, fun j v hv => by
  rw [Nat.zero_add, (Box.new w _ _).cell j, ← hv]
  rw [show shownCells = (evs shownEs).toArray from rfl, List.getElem?_toArray]⟩
theorem view_new_drew (w : World) {b : Nat} (h : w.heap.size = b) : View (w.alloc (.cells shownCells 53)).drew (some ⟨b, 0, none⟩) shownEs := by
  subst h; exact view_new w
theorem View.only {w w' : World} {A : Option Addr} {l : List Ev} (h : View w A l) (ho : Only nobody w w') : View w' A l := fun hl => by
  obtain ⟨b, off, e, hr⟩ := h hl
  exact ⟨b, off, e, fun j v hv => (World.cell?_of_block (w := w) (ho.block b (World.block_lt_of_cell? w ⟨b, off + j, none⟩ (hr j v hv)) (not_nobody _))).trans (hr j v hv)⟩
theorem View.alloc {w : World} {A : Option Addr} {l : List Ev} (h : View w A l) (o : Obj) : View (w.alloc o) A l := h.only ((Only.refl _ w).alloc o)

/-- What stands while the example's last line is reckoned. -/
def Three (w : World) (X : Nat → Prop) (p : Nat) (M : MS) (cb : Nat) (f : Nat → Int) (w' : World) : Prop := Own w' X p M ∧ w'.rangeAt cb 0 (CA f).toList ∧ Kept (old w) w w'
theorem Three.none {w w1 w2 : World} {X : Nat → Prop} {p : Nat} {M : MS} {cb : Nat} {f : Nat → Int} (h : Three w X p M cb f w1) (ho : Only nobody w1 w2) : Three w X p M cb f w2 :=
  ⟨h.1.none ho, fun j v hv => (World.cell?_of_block (w := w1) (ho.block cb (World.block_lt_of_cell? w1 ⟨cb, 0 + j, Option.none⟩ (h.2.1 j v hv)) (not_nobody _))).trans (h.2.1 j v hv), h.2.2.trans (Kept.of_none ho)⟩
theorem Three.own {w w1 : World} {X : Nat → Prop} {p : Nat} {M : MS} {cb : Nat} {f : Nat → Int} (h : Three w X p M cb f w1) : Own w1 X p M := h.1

set_option maxRecDepth 100000 in
set_option maxHeartbeats 2000000 in
theorem shown_any (w : World) : Calls Try.prog 8 #[] w (Yes w) := by
  obtain ⟨M1, M2, M3, e1, e2, e3, hc, l1, l2, ft2, ft3, es3⟩ := shown_mem
  have E1 := Lib.hid e1
  have E2 := Lib.hid e2
  have E3 := Lib.hid e3
  have HC := Lib.hid hc
  have HL := Lib.hid (And.intro l1 (And.intro l2 es3))
  clear e1 e2 e3 hc l1 l2 es3
  go_enter Try.func8, Try.ntmps8
  go_wp2_with fail
  refine (new_list [3] (by decide) w _ _ rfl).mono ?_
  rintro e w1 ⟨p, rfl, ho, hn⟩
  have O1 := Lib.hid (ho.weak (Y := old w) (fun i (hi : i < w.heap.size) => by show i < _; simp; omega))
  have K1 : Hid (Kept (old w) w w1) := (Kept.alloc (Kept.refl _ w) _).trans (Kept.of_none hn)
  clear ho hn
  go_wp2_with fail
  refine (cell_any 5 _).mono ?_
  rintro e w2 ⟨rfl, rfl⟩
  have O2 := Lib.hid ((O1.out.none (((Only.refl nobody w1).alloc (.cells (CA (cw 5)) 37)).alloc (.cells (CA (cw 5)) 37))))
  have K2 : Hid (Kept (old w) w _) := (K1.out.alloc (.cells (CA (cw 5)) 37)).alloc (.cells (CA (cw 5)) 37)
  go_wp2_with fail
  refine (own_write _ p _ _ 0 1 (cw 5) O2.out (by decide)).mono ?_
  rintro e w3 ⟨rfl, ho, hk⟩
  have O3 := Lib.hid ho
  have K3 := Lib.hid (K2.out.trans hk)
  rw [E1.out] at O3
  clear ho hk O1 K1 O2 K2
  go_wp2_with fail
  refine (own_read _ p _ _ 0 1 O3.out (by rw [HL.out.1]; decide)).mono ?_
  rw [E2.out, HC.out]
  rintro e w4 ⟨rfl, ho, hk⟩
  have O4 := Lib.hid (ho.alloc (.cells (CA (cw 5)) 37))
  have K4 := Lib.hid ((K3.out.trans hk).alloc (.cells (CA (cw 5)) 37))
  have R4 := Lib.hid (rg_new w4 (cw 5) 37 _ rfl)
  clear ho hk O3 K3
  go_wp2_with (refine wpList_store_new rfl (.tmp 3) (.tmp 20) rfl rfl _ rfl rfl ?_)
  refine (own_fault _ p _ _ O4.out).mono ?_
  rintro e w' ⟨rfl, rfl⟩
  rw [ft2]
  go_wp2_with fail
  refine (own_read _ p _ _ 0 9 O4.out (by rw [HL.out.2.1]; decide)).mono ?_
  rw [E3.out]
  rintro e w5 ⟨rfl, ho, hk⟩
  have O5 := Lib.hid ho
  have R5 := Lib.hid (hk.range R4.out (.inr rfl))
  have K5 := Lib.hid (K4.out.trans (hk.mono (fun i h => .inl h)))
  clear ho hk O4 K4 R4
  obtain ⟨cb, hcb⟩ : ∃ cb, w4.heap.size = cb := ⟨_, rfl⟩
  rw [hcb] at O5 R5 ⊢
  clear hcb
  have hu := Try.underlying37
  have hq := eql_cell (cw 5) (cw 5)
  rw [ceq_self] at hq
  go_wp2_with fail
  have HS : Three w (fun i => old w i ∨ i = cb) p M3 cb (cw 5) w5 := ⟨O5.out, R5.out, K5.out⟩
  have hi : (Try.prog.info? 37).map (·.size) = some (CA (cw 5)).toList.length := infoCell
  clear O5 R5 K5 E1 E2 E3 HC ft2
  have L3 : Hid (M3.es.length < 1000000000) := by show M3.es.length < 1000000000; rw [HL.out.2.2]; decide
  have ES := Lib.hid HL.out.2.2
  clear HL
  go_region_held3 (fun w' => Own w' (fun i => old w i ∨ i = cb) p M3 ∧ w'.rangeAt cb 0 (CA (cw 5)).toList ∧ Kept (old w) w w') (first | assumption | (exact Three.none (by assumption) (Only.refl _ _).drew) | (exact Three.none (by assumption) ((Only.refl _ _).drewN _)) | (exact Three.none (by assumption) (((Only.refl _ _).alloc _).alloc _)) | (exact Three.none (by assumption) ((Only.refl _ _).alloc _)))
    (first | (go_at_call 12; refine (cell_any 5 _).mono ?_; rintro e w' ⟨rfl, rfl⟩) | (go_at_call 16; refine (own_fault _ p M3 _ (Three.own (by assumption))).mono ?_; rintro e w' ⟨rfl, rfl⟩; rw [ft3]) | (go_at_call 21; refine (own_trace _ p M3 _ (Three.own (by assumption)) L3.out).mono ?_; rw [ES.out]; rintro e w6 ⟨A, cap, rfl, ht, ho, _⟩; have HT := Lib.hid ht.view; have HO := Lib.hid ho; have h6 := Three.none (by assumption) ho; clear ht ho) | (go_at_call 20; refine (same_any _ _ _ _ shownEs shownEs _ (by first | exact HT.out | exact HT.out.alloc _) (by first | exact view_new _ | exact (view_new _).only HO.out | exact (view_new_drew _ (by simp)).only HO.out) (by decide)).mono ?_; rw [shown_eq]; rintro e w7 ⟨rfl, n7, rfl⟩))
  all_goals
    go_wp2
    go_ret
    exact ⟨rfl, Kept.below (And.right (And.right (by assumption))) (Nat.le_refl _) (fun i hi => hi)⟩
end Go.Proofs.Ytmkikelbllejjaa
