/- Contracts of package mem: look, Read and Write at a cell that there is, or not. Conditions as before. -/
import Derived.Test.YtgppediikggogaaMemCalls
import Derived.RegionTactic
import Derived.BigRegion
namespace Go.Proofs.Ytgppediikggogaa
open Go.RowKit Go.ChangeShapes Go.WideShapes Go.ChangeAt

set_option maxHeartbeats 1000000 in
theorem look_hit (p : Nat) (F : Nat → Prop) (M : MS) (r a : Nat) (wr : Bool) (w : World) (h : Mm w p F M) (hr : r < M.k) (ha : a < M.sz r) (hl : M.es.length < 1000000000) :
    Calls Try.prog 41 #[.pointer (some ⟨p, 0, none⟩), .int .i64 r, .int .i64 a, .bool wr] w (LookPost w p F (M.see r a wr) (.bool true)) := by
  have HM := Lib.hid h
  obtain ⟨g, bl, A, cap, h⟩ := h
  have HA := Lib.hid h
  have c1 : w.cell? ⟨p, 1, none⟩ = some (.slice A M.es.length cap) := h.box.cell 1
  have HS := Lib.hid (M.size_nat hr)
  obtain ⟨s, hs⟩ : ∃ s, M.sz r = s := ⟨_, rfl⟩
  have HS2 := Lib.hid hs
  rw [hs] at ha
  have hp := h.lt p h.fp
  clear h hs
  go_enter Try.func41, Try.ntmps41
  go_wp2_with fail
  refine (size_any p F M r _ HM.out).mono ?_
  rintro e w' ⟨rfl, rfl⟩
  rw [HS.out, HS2.out]
  go_wp2_with (with_reducible refine wpList_append_where _ rfl (.tmp 25) (.tmp 30) 43 rfl 0 54 (.agg #[.int .i64 0, .int .i64 0, .bool false]) 3 24 Try.underlying43 infoEvent rfl (by decide) (.slice A M.es.length cap) M.es.length (evs M.es) rfl (HA.out.ev.alloc _) ⟨w.heap.size, 0, none⟩ 1 1 (evs [(r, a, wr)]) rfl rfl ?c1 (evs_one _) ?c2 ?c3 (Nat.zero_le _) ?_)
  case c1 =>
    intro j u hu
    have hj : j < 3 := (List.getElem?_eq_some_iff.1 hu).1
    rw [add_plain]
    match j, hj with
    | 0, _ => simpa [evs, evc, go_sem] using hu
    | 1, _ => simpa [evs, evc, go_sem] using hu
    | 2, _ => simpa [evs, evc, go_sem] using hu
  case c2 => unfold maxLen; omega
  case c3 => omega
  intro A' cap' w1 hown hg hwh
  have hne : ¬ (Value.slice A M.es.length cap).ownBlock = some p := by
    intro e
    rcases HA.out.ev.2 with ⟨h0, _⟩ | ⟨g', cap', cur, h0, _, hg', _⟩
    · rw [h0] at e; simp [Value.ownBlock] at e
    · rw [h0] at e
      simp only [Value.ownBlock, Option.some.injEq] at e
      subst e
      exact (Box.ne HA.out.box (show Box w g' _ cur from hg') (by decide)) rfl
  have o0 : Only (fun b => (Value.slice A M.es.length cap).ownBlock = some b) w w1 := ((Only.refl _ w).alloc _).grown hg (fun k hk => .inl hk)
  have bp := HA.out.box.only o0 hne
  have d1 : w1.cell? ⟨p, 1, none⟩ = some (.slice A M.es.length cap) := bp.cell 1
  have f1 : w1.frozen? ⟨p, 1, none⟩ = false := bp.frozen 1
  have R := Lib.hid (look_saw (v := .bool true) r a wr HA.out hown hg hwh)
  clear hown hg hwh o0 bp hne
  go_wp2
  go_ret
  exact R.out

/-- Behind Read and Write. -/
def DonePost (w : World) (p : Nat) (F : Nat → Prop) (M : MS) (e' : Ending) (e : Ending) (w' : World) : Prop :=
  e = e' ∧ ∃ F', Mm w' p F' M ∧ Only F w w' ∧ ∀ i, F' i → F i ∨ w.heap.size ≤ i

theorem infoCell : (Try.prog.info? 30).map (·.size) = some 12 := by kernel_rfl
theorem CA_one (f : Nat → Int) : (CA f).all (·.oneCell') = true := by simp [CA, Value.oneCell']
/-- A whole cell is loaded from, or stored to, the middle of a block. -/
theorem wpList_load_cell {ops : Array Oper} {rest : List Oper} {op : Oper} {a : Act} {w : World} {Q : Exit → Act → World → Prop} (hgd : op.guard = none) (x : Operand) (ho : op.op = .load 30 x)
    (b o : Nat) (hx : a.eval x = .pointer (some ⟨b, o, none⟩)) (f : Nat → Int) (hc : w.rangeAt b o (CA f).toList)
    (h : wpList Try.prog ops Q rest (a.put op.dst (.agg (CA f))) w) : wpList Try.prog ops Q (op :: rest) a w :=
  wpList_load_mid hgd 30 x ho b o hx (CA f).toList _ hc Try.underlying30 rfl infoCell h
theorem wpList_store_cell {ops : Array Oper} {rest : List Oper} {op : Oper} {a : Act} {w : World} {Q : Exit → Act → World → Prop} (hgd : op.guard = none) (x y : Operand) (ho : op.op = .store 30 x y)
    (b o : Nat) (hx : a.eval x = .pointer (some ⟨b, o, none⟩)) (f : Nat → Int) (hy : a.eval y = .agg (CA f)) (ht : w.there b o 12)
    (h : wpList Try.prog ops Q rest (a.put op.dst undef) (w.setCells b o (CA f).toList)) : wpList Try.prog ops Q (op :: rest) a w :=
  wpList_store_mid hgd 30 x y ho b o (CA f) hx hy ht infoCell (CA_one f) h

/-- One result that lies in memory. -/
theorem results_one {fn : Func} {p : Tmp} {ty : TypeId} (h : fn.results = #[.cell p ty]) {tmps : Array Value} {P : Program} {w : World} {ad : Addr} {v : Value} (hp : tmps.getD p undef = .pointer (some ad)) (hl : (loadVar ty ad).run P w = .ok v w) :
    (results fn tmps).run P w = .ok v w := by
  have hp' : tmps[p]?.getD undef = .pointer (some ad) := by simpa using hp
  simp only [results, h]
  simp [asAddr, hp', hl]
/-- The result's own block, behind a look. -/
theorem there_result {w w1 : World} {S : Nat → Prop} (h : Only S (w.alloc (.cells (CA fun _ => 0) 30)) w1) (hs : ¬ S w.heap.size) : w1.there w.heap.size 0 12 := by
  have b : Box w1 w.heap.size 30 (CA fun _ => 0) := (Box.new w _ _).only h hs
  intro j hj
  rw [Nat.zero_add]
  exact ⟨by rw [b.cell j, CA_at _ j hj]; rfl, b.frozen j⟩
theorem load_result {w1 : World} {b : Nat} {f : Nat → Int} (h : w1.there b 0 12) : (loadVar 30 ⟨b, 0, none⟩).run Try.prog (w1.setCells b 0 (CA f).toList) = .ok (.agg (CA f)) (w1.setCells b 0 (CA f).toList) :=
  run_loadVar_mid _ b 0 30 (CA f).toList _ (World.rangeAt_setCells_same w1 b 0 _ h) Try.underlying30 rfl infoCell
theorem read_done {w w1 : World} {p : Nat} {F F' : Nat → Prop} {M : MS} {f : Nat → Int} {e : Ending} {o : Obj} (hlt : ∀ i, F i → i < w.heap.size) (h : Mm w1 p F' M) (ho : Only F (w.alloc o) w1) (hF : ∀ i, F' i → F i ∨ (w.alloc o).heap.size ≤ i) :
    DonePost w p F M e e (w1.setCells w.heap.size 0 (CA f).toList) := by
  have nF : ¬ F' w.heap.size := fun h => by
    rcases hF _ h with h | h
    · have := hlt _ h; omega
    · simp at h; omega
  have o1 : Only (just w.heap.size) w1 (w1.setCells w.heap.size 0 (CA f).toList) := only_setCells _ _ _ (Only.refl _ _) (.inl (just_self _))
  refine ⟨rfl, F', h.only o1 (fun i hi e => nF (by rw [← e]; exact hi)), ?_, fun i hi => (hF i hi).imp id (fun h => by simp at h; omega)⟩
  have o2 : Only F w w1 := ((Only.refl F w).alloc o).then ho (fun i hi => .inl hi)
  exact o2.then o1 (fun i hi => .inr (by rw [hi]; exact Nat.le_refl _))

set_option maxHeartbeats 1000000 in
theorem read_hit (p : Nat) (F : Nat → Prop) (M : MS) (r a : Nat) (w : World) (h : Mm w p F M) (hr : r < M.k) (ha : a < M.sz r) (hl : M.es.length < 1000000000) :
    Calls Try.prog 26 #[.pointer (some ⟨p, 0, none⟩), .int .i64 r, .int .i64 a] w (DonePost w p F (M.see r a false) (.returned (.agg (CA (M.c r a))))) := by
  have HM := Lib.hid h
  have hp := h.lt p h.fp
  clear h
  go_enter Try.func26, Try.ntmps26
  go_wp2_with fail
  refine (look_hit p F M r a false _ (HM.out.alloc _) hr ha hl).mono ?_
  rintro e w1 ⟨rfl, F', h1, ho, hF⟩
  obtain ⟨g, bl, A, cap, h1⟩ := h1
  have HA := Lib.hid h1
  have c0 : w1.cell? ⟨p, 0, none⟩ = some (.slice (some ⟨g, 0, none⟩) M.k M.k) := h1.box.cell 0
  have cr : w1.cell? ⟨g, r, none⟩ = some (.slice (some ⟨bl r, 0, none⟩) (M.sz r) (M.sz r)) := h1.row.cell hr
  have HO := Lib.hid ho
  have HF := Lib.hid hF
  clear h1 ho hF
  have HR : Hid (w1.rangeAt (bl r) (a * 12) (CA (M.c r a)).toList) := HA.out.range hr ha
  have HT : Hid (w1.there w.heap.size 0 12) := there_result HO.out (fun h => by have := HM.out.lt _ h; omega)
  go_wp2_with (first | with_reducible refine wpList_load_cell rfl (.tmp 21) rfl (bl r) (a * 12) rfl (M.c r a) HR.out ?_ | with_reducible refine wpList_store_cell rfl (.tmp 6) (.tmp 22) rfl w.heap.size 0 rfl (M.c r a) rfl HT.out ?_)
  have hld := load_result (f := M.c r a) HT.out
  refine bodyPost_ret (v := .agg (CA (M.c r a))) (results_one Try.results26 rfl hld) rfl ?_
  exact read_done HM.out.lt ⟨g, bl, A, cap, HA.out⟩ HO.out HF.out

set_option maxHeartbeats 1000000 in
theorem read_miss (p : Nat) (F : Nat → Prop) (M : MS) (r a : Int) (w : World) (h : Mm w p F M) (hh : M.hit r a = false) :
    Calls Try.prog 26 #[.pointer (some ⟨p, 0, none⟩), .int .i64 r, .int .i64 a] w (DonePost w p F M.bad (.returned (.agg (CA fun _ => 0)))) := by
  have HM := Lib.hid h
  have hp := h.lt p h.fp
  clear h
  go_enter Try.func26, Try.ntmps26
  go_wp2_with fail
  refine (look_miss p F M r a false _ (HM.out.alloc _) hh).mono ?_
  rintro e w1 ⟨rfl, F', h1, ho, hF⟩
  have HA := Lib.hid h1
  have HO := Lib.hid ho
  have HF := Lib.hid hF
  clear h1 ho hF
  have HT : Hid (w1.there w.heap.size 0 12) := there_result HO.out (fun h => by have := HM.out.lt _ h; omega)
  go_wp2_with (with_reducible refine wpList_store_cell rfl (.tmp 6) (.tmp 12) rfl w.heap.size 0 rfl (fun _ => 0) rfl HT.out ?_)
  have hld := load_result (f := fun _ => 0) HT.out
  refine bodyPost_ret (v := .agg (CA fun _ => 0)) (results_one Try.results26 rfl hld) rfl ?_
  exact read_done HM.out.lt HA.out HO.out HF.out
end Go.Proofs.Ytgppediikggogaa
