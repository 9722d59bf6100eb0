/- Texts of ours put together: MemCalls, MemLook. -/
import Derived.Below
import Derived.BigQuiet
import Derived.ChangeSlices
import Derived.Deep.Draws
import Derived.Deep.MidRow
import Derived.Deep.OwnRows
import Derived.Deep.QuietTactic
import Derived.Deep.RegionHeld
import Derived.Laws.AppendOwn
import Derived.Lib.Hide
import Derived.OpenShut
import Derived.OwnWalk
import Derived.ProofKit
import Derived.RowKit3
import Derived.SizedLaws
import Derived.WalkKit
import Derived.Test.YtmageeohnfomnaaGreatProg
import Derived.BigRegion
import Derived.RegionTactic
import Derived.Test.YtmageeohnfomnaaGreatG0
import Derived.Test.YtmageeohnfomnaaGreatG2
import Derived.Test.YtmageeohnfomnaaGreatG10
import Derived.Test.YtmageeohnfomnaaGreatG11
namespace Go.Proofs.YtmageeohnfomnaaGreat
set_option maxRecDepth 100000
open Go.RowKit Go.ChangeShapes Go.WideShapes Go.ChangeAt

theorem size_any (p : Nat) (F : Nat → Prop) (M : MS) (r : Int) (w : World) (h : Mm w p F M) :
    Calls Tryz.prog 35 #[.pointer (some ⟨p, 0, none⟩), .int .i64 r] w fun e w' => e = .returned (.int .i64 (M.size r : Nat)) ∧ w = w' := by
  obtain ⟨g, bl, A, cap, h⟩ := h
  have c0 : w.cell? ⟨p, 0, none⟩ = some (.slice (some ⟨g, 0, none⟩) M.k M.k) := h.box.cell 0
  by_cases h0 : r < 0
  · have HE : Hid (M.size r = 0) := if_neg (by omega)
    clear h
    go_enter Tryz.func35, Tryz.ntmps35
    go_wp2
    go_ret
    exact ⟨by rw [HE.out]; rfl, rfl⟩
  · obtain ⟨r, rfl⟩ := Int.eq_ofNat_of_zero_le (show 0 ≤ r by omega)
    by_cases h1 : r < M.k
    · have HE := Lib.hid (M.size_nat h1)
      have cr := h.row.cell h1
      clear h
      go_enter Tryz.func35, Tryz.ntmps35
      go_wp2
      go_ret
      exact ⟨by rw [HE.out]; rfl, rfl⟩
    · have HE : Hid (M.size r = 0) := if_neg (by omega)
      clear h
      go_enter Tryz.func35, Tryz.ntmps35
      go_wp2
      go_ret
      exact ⟨by rw [HE.out]; rfl, rfl⟩

def LookPost (w : World) (p : Nat) (F : Nat → Prop) (M : MS) (v : Value) (e : Ending) (w' : World) : Prop :=
  e = .returned v ∧ ∃ F', Mm w' p F' M ∧ Only F w w' ∧ ∀ i, F' i → F i ∨ w.heap.size ≤ i

theorem look_bad {w : World} {p : Nat} {F : Nat → Prop} {M : MS} {v : Value} (h : Mm w p F M) : LookPost w p F M.bad v (.returned v) (w.setCell ⟨p, 2, none⟩ (.bool true)) := by
  obtain ⟨g, bl, A, cap, h⟩ := h
  have o : Only (just p) w (w.setCell ⟨p, 2, none⟩ (.bool true)) := (Only.refl _ _).setCell (.inl (just_self p)) _
  have ng : g ≠ p := fun e => (h.box.row_ne h.row (by decide)) e.symm
  have nb : ∀ i, i < M.k → bl i ≠ p := fun i hi e => (h.box.row_ne (h.reg i hi) (by decide)) e.symm
  refine ⟨rfl, F, ⟨g, bl, A, cap, ?_, o.row h.row (just_ne ng), fun i hi => o.row (h.reg i hi) (just_ne (nb i hi)), h.inj, own_block h.ev (fun b hb => o.block b (h.lt b (h.fv b hb)) (just_ne ?_)), h.fp, h.fg, h.fb, h.fv, fun i hi => Nat.lt_of_lt_of_le (h.lt i hi) o.size, h.few, h.small⟩,
    o.mono (fun k _ hk => by rw [hk]; exact h.fp), fun i hi => .inl hi⟩
  · have := h.box.put 2 (.bool true)
    simpa [MS.bad] using this
  · replace hb : (Value.slice A M.es.length cap).ownBlock = some b := hb
    rcases h.ev.2 with ⟨h0, _⟩ | ⟨g', cap', cur, h0, _, hg', _⟩
    · rw [h0] at hb; simp [Value.ownBlock] at hb
    · rw [h0] at hb
      simp only [Value.ownBlock, Option.some.injEq] at hb
      subst hb
      exact fun e => (Box.ne h.box (show Box w g' _ cur from hg') (by decide)) e.symm

set_option maxHeartbeats 1000000 in
theorem look_miss (p : Nat) (F : Nat → Prop) (M : MS) (r a : Int) (wr : Bool) (w : World) (h : Mm w p F M) (hh : M.hit r a = false) :
    Calls Tryz.prog 81 #[.pointer (some ⟨p, 0, none⟩), .int .i64 r, .int .i64 a, .bool wr] w (LookPost w p F M.bad (.bool false)) := by
  have HM := Lib.hid h
  have hn := of_decide_eq_false hh
  have f2 : w.frozen? ⟨p, 2, none⟩ = false := by obtain ⟨g, bl, A, cap, h⟩ := h; exact h.box.frozen 2
  have c2 : w.cell? ⟨p, 2, none⟩ = some (.bool M.ft) := by obtain ⟨g, bl, A, cap, h⟩ := h; exact h.box.cell 2
  clear h hh
  by_cases h0 : a < 0
  · clear hn
    go_enter Tryz.func81, Tryz.ntmps81
    go_wp2
    go_ret
    exact look_bad HM.out
  · have h1 : (M.size r : Int) ≤ a := by omega
    obtain ⟨s, hs⟩ : ∃ s, M.size r = s := ⟨_, rfl⟩
    have HS := Lib.hid hs
    rw [hs] at h1
    clear hn hs
    go_enter Tryz.func81, Tryz.ntmps81
    go_wp2_with fail
    refine (size_any p F M r _ HM.out).mono ?_
    rintro e w' ⟨rfl, rfl⟩
    rw [HS.out]
    go_wp2
    go_ret
    exact look_bad HM.out

theorem infoEvent : (Tryz.prog.info? 87).map (fun i => (i.zero, i.size, i.bytes)) = some (some (.agg #[.int .i64 0, .int .i64 0, .bool false]), 3, 24) := by kernel_rfl

theorem look_saw {w w1 : World} {p g cap A' cap'} {F : Nat → Prop} {M : MS} {bl : Nat → Nat} {A : Option Addr} {v : Value} (r a : Nat) (wr : Bool) (h : MmAt w p F M g bl A cap)
    (hown : w1.ownsRow 0 87 3 (.slice A' (M.es.length + 1) cap') (M.es.length + 1) (evs M.es ++ evs [(r, a, wr)])) (hg : (w.alloc (.cells #[.int .i64 r, .int .i64 a, .bool wr] 87)).grownBy w1 (Value.slice A M.es.length cap).ownBlock)
    (hwhere : (Value.slice A' (M.es.length + 1) cap').ownBlock = (Value.slice A M.es.length cap).ownBlock ∨ (Value.slice A' (M.es.length + 1) cap').ownBlock = some (w.heap.size + 1)) :
    LookPost w p F (M.see r a wr) v (.returned v) (w1.setCell ⟨p, 1, none⟩ (.slice A' (M.es.length + 1) cap')) := by
  have o1 : Only F w w1 := ((Only.refl F w).alloc _).grown hg (fun k hk => .inl (h.fv k hk))
  have nv : ∀ b, (Value.slice A M.es.length cap).ownBlock = some b → ∃ cur, Box w b 87 cur := by
    intro b hb
    rcases h.ev.2 with ⟨h0, _⟩ | ⟨g', cap', cur, h0, _, hg', _⟩
    · rw [h0] at hb; simp [Value.ownBlock] at hb
    · rw [h0] at hb
      simp only [Value.ownBlock, Option.some.injEq] at hb
      subst hb
      exact ⟨cur, hg'⟩
  have o0 : Only (fun b => (Value.slice A M.es.length cap).ownBlock = some b) w w1 := ((Only.refl _ w).alloc _).grown hg (fun k hk => .inl hk)
  have bp : Box w1 p 74 #[.slice (some ⟨g, 0, none⟩) M.k M.k, .slice A M.es.length cap, .bool M.ft] := h.box.only o0 (fun e => by
    obtain ⟨cur, hc⟩ := nv _ e
    exact (Box.ne h.box hc (by decide)) rfl)
  have rg := o0.row h.row (fun e => by
    obtain ⟨cur, hc⟩ := nv _ e
    exact (Box.row_ne hc h.row (by decide)) rfl)
  have rb : ∀ i, i < M.k → w1.rowIs (bl i) 103 (M.sz i * 12) (fun j => .int .u64 (M.c i (j / 12) (j % 12))) := fun i hi => o0.row (h.reg i hi) (fun e => by
    obtain ⟨cur, hc⟩ := nv _ e
    exact (Box.row_ne hc (h.reg i hi) (by decide)) rfl)
  have nv' : ∀ b, (Value.slice A' (M.es.length + 1) cap').ownBlock = some b → b < w1.heap.size ∧ b ≠ p := by
    intro b hb
    rcases hown.2 with ⟨h0, _⟩ | ⟨g', cap', cur, h0, _, hg', _⟩
    · rw [h0] at hb; simp [Value.ownBlock] at hb
    · rw [h0] at hb
      simp only [Value.ownBlock, Option.some.injEq] at hb
      subst hb
      exact ⟨Box.lt (show Box w1 g' _ cur from hg'), (Box.ne (show Box w1 g' _ cur from hg') bp (by decide))⟩
  have hp := h.lt p h.fp
  have o2 : Only (just p) w1 (w1.setCell ⟨p, 1, none⟩ (.slice A' (M.es.length + 1) cap')) := (Only.refl _ _).setCell (.inl (just_self p)) _
  have ng : g ≠ p := fun e => (h.box.row_ne h.row (by decide)) e.symm
  have nb : ∀ i, i < M.k → bl i ≠ p := fun i hi e => (h.box.row_ne (h.reg i hi) (by decide)) e.symm
  refine ⟨rfl, fun i => F i ∨ (w.heap.size ≤ i ∧ i < w1.heap.size), ⟨g, bl, A', cap', ?_, o2.row rg (just_ne ng), fun i hi => o2.row (rb i hi) (just_ne (nb i hi)), h.inj, ?_, .inl h.fp, .inl h.fg, fun i hi => .inl (h.fb i hi), ?_, ?_, h.few, h.small⟩,
    o1.setCell (.inl h.fp) _, fun i hi => hi.imp id (fun h => h.1)⟩
  · have := bp.put 1 (.slice A' (M.es.length + 1) cap')
    simpa [MS.see] using this
  · have e : (M.see r a wr).es.length = M.es.length + 1 := by simp [MS.see]
    rw [e]
    have e2 : evs (M.see r a wr).es = evs M.es ++ evs [(r, a, wr)] := by rw [← evs_append]; rfl
    rw [e2]
    exact own_block hown (fun b hb => o2.block b (nv' b hb).1 (just_ne (nv' b hb).2))
  · intro b hb
    have e : (M.see r a wr).es.length = M.es.length + 1 := by simp [MS.see]
    rw [e] at hb
    rcases hwhere with e' | e'
    · rw [e'] at hb; exact .inl (h.fv b hb)
    · rw [e'] at hb
      injection hb with hb
      right
      refine ⟨by omega, ?_⟩
      exact (nv' b (by rw [e', hb])).1
  · intro i hi
    have := o1.size
    have hz : (w1.setCell ⟨p, 1, none⟩ (.slice A' (M.es.length + 1) cap')).heap.size = w1.heap.size := by simp [World.setCell]
    rw [hz]
    rcases hi with hi | hi
    · have := h.lt i hi; omega
    · exact hi.2
end Go.Proofs.YtmageeohnfomnaaGreat


namespace Go.Proofs.YtmageeohnfomnaaGreat
set_option maxRecDepth 100000
open Go.RowKit Go.ChangeShapes Go.WideShapes Go.ChangeAt

set_option maxHeartbeats 1000000 in
theorem look_hit (p : Nat) (F : Nat → Prop) (M : MS) (r a : Nat) (wr : Bool) (w : World) (h : Mm w p F M) (hr : r < M.k) (ha : a < M.sz r) (hl : M.es.length < 1000000000) :
    Calls Tryz.prog 81 #[.pointer (some ⟨p, 0, none⟩), .int .i64 r, .int .i64 a, .bool wr] w (LookPost w p F (M.see r a wr) (.bool true)) := by
  have HM := Lib.hid h
  obtain ⟨g, bl, A, cap, h⟩ := h
  have HA := Lib.hid h
  have c1 : w.cell? ⟨p, 1, none⟩ = some (.slice A M.es.length cap) := h.box.cell 1
  have HS := Lib.hid (M.size_nat hr)
  obtain ⟨s, hs⟩ : ∃ s, M.sz r = s := ⟨_, rfl⟩
  have HS2 := Lib.hid hs
  rw [hs] at ha
  have hp := h.lt p h.fp
  clear h hs
  go_enter Tryz.func81, Tryz.ntmps81
  go_wp2_with fail
  refine (size_any p F M r _ HM.out).mono ?_
  rintro e w' ⟨rfl, rfl⟩
  rw [HS.out, HS2.out]
  go_wp2_with (with_reducible refine wpList_append_where _ rfl (.tmp 25) (.tmp 30) 48 rfl 0 87 (.agg #[.int .i64 0, .int .i64 0, .bool false]) 3 24 Tryz.underlying48 infoEvent rfl (by decide) (.slice A M.es.length cap) M.es.length (evs M.es) rfl (HA.out.ev.alloc _) ⟨w.heap.size, 0, none⟩ 1 1 (evs [(r, a, wr)]) rfl rfl ?c1 (evs_one _) ?c2 ?c3 (Nat.zero_le _) ?_)
  case c1 =>
    intro j u hu
    have hj : j < 3 := (List.getElem?_eq_some_iff.1 hu).1
    rw [add_plain]
    match j, hj with
    | 0, _ => simpa [evs, evc, go_sem] using hu
    | 1, _ => simpa [evs, evc, go_sem] using hu
    | 2, _ => simpa [evs, evc, go_sem] using hu
  case c2 => unfold maxLen; omega
  case c3 => omega
  intro A' cap' w1 hown hg hwh
  have hne : ¬ (Value.slice A M.es.length cap).ownBlock = some p := by
    intro e
    rcases HA.out.ev.2 with ⟨h0, _⟩ | ⟨g', cap', cur, h0, _, hg', _⟩
    · rw [h0] at e; simp [Value.ownBlock] at e
    · rw [h0] at e
      simp only [Value.ownBlock, Option.some.injEq] at e
      subst e
      exact (Box.ne HA.out.box (show Box w g' _ cur from hg') (by decide)) rfl
  have o0 : Only (fun b => (Value.slice A M.es.length cap).ownBlock = some b) w w1 := ((Only.refl _ w).alloc _).grown hg (fun k hk => .inl hk)
  have bp := HA.out.box.only o0 hne
  have d1 : w1.cell? ⟨p, 1, none⟩ = some (.slice A M.es.length cap) := bp.cell 1
  have f1 : w1.frozen? ⟨p, 1, none⟩ = false := bp.frozen 1
  have R := Lib.hid (look_saw (v := .bool true) r a wr HA.out hown hg hwh)
  clear hown hg hwh o0 bp hne
  go_wp2
  go_ret
  exact R.out

def DonePost (w : World) (p : Nat) (F : Nat → Prop) (M : MS) (e' : Ending) (e : Ending) (w' : World) : Prop :=
  e = e' ∧ ∃ F', Mm w' p F' M ∧ Only F w w' ∧ ∀ i, F' i → F i ∨ w.heap.size ≤ i

theorem infoCell : (Tryz.prog.info? 103).map (·.size) = some 12 := by kernel_rfl
theorem CA_one (f : Nat → Int) : (CA f).all (·.oneCell') = true := by simp [CA, Value.oneCell']
theorem wpList_load_cell {ops : Array Oper} {rest : List Oper} {op : Oper} {a : Act} {w : World} {Q : Exit → Act → World → Prop} (hgd : op.guard = none) (x : Operand) (ho : op.op = .load 103 x)
    (b o : Nat) (hx : a.eval x = .pointer (some ⟨b, o, none⟩)) (f : Nat → Int) (hc : w.rangeAt b o (CA f).toList)
    (h : wpList Tryz.prog ops Q rest (a.put op.dst (.agg (CA f))) w) : wpList Tryz.prog ops Q (op :: rest) a w :=
  wpList_load_mid hgd 103 x ho b o hx (CA f).toList _ hc Tryz.underlying103 rfl infoCell h
theorem wpList_store_cell {ops : Array Oper} {rest : List Oper} {op : Oper} {a : Act} {w : World} {Q : Exit → Act → World → Prop} (hgd : op.guard = none) (x y : Operand) (ho : op.op = .store 103 x y)
    (b o : Nat) (hx : a.eval x = .pointer (some ⟨b, o, none⟩)) (f : Nat → Int) (hy : a.eval y = .agg (CA f)) (ht : w.there b o 12)
    (h : wpList Tryz.prog ops Q rest (a.put op.dst undef) (w.setCells b o (CA f).toList)) : wpList Tryz.prog ops Q (op :: rest) a w :=
  wpList_store_mid hgd 103 x y ho b o (CA f) hx hy ht infoCell (CA_one f) h

theorem there_result {w w1 : World} {S : Nat → Prop} (h : Only S (w.alloc (.cells (CA fun _ => 0) 103)) w1) (hs : ¬ S w.heap.size) : w1.there w.heap.size 0 12 := by
  have b : Box w1 w.heap.size 103 (CA fun _ => 0) := (Box.new w _ _).only h hs
  intro j hj
  rw [Nat.zero_add]
  exact ⟨by rw [b.cell j, CA_at _ j hj]; rfl, b.frozen j⟩
theorem load_result {w1 : World} {b : Nat} {f : Nat → Int} (h : w1.there b 0 12) : (loadVar 103 ⟨b, 0, none⟩).run Tryz.prog (w1.setCells b 0 (CA f).toList) = .ok (.agg (CA f)) (w1.setCells b 0 (CA f).toList) :=
  run_loadVar_mid _ b 0 103 (CA f).toList _ (World.rangeAt_setCells_same w1 b 0 _ h) Tryz.underlying103 rfl infoCell
theorem read_done {w w1 : World} {p : Nat} {F F' : Nat → Prop} {M : MS} {f : Nat → Int} {e : Ending} {o : Obj} (hlt : ∀ i, F i → i < w.heap.size) (h : Mm w1 p F' M) (ho : Only F (w.alloc o) w1) (hF : ∀ i, F' i → F i ∨ (w.alloc o).heap.size ≤ i) :
    DonePost w p F M e e (w1.setCells w.heap.size 0 (CA f).toList) := by
  have nF : ¬ F' w.heap.size := fun h => by
    rcases hF _ h with h | h
    · have := hlt _ h; omega
    · simp at h; omega
  have o1 : Only (just w.heap.size) w1 (w1.setCells w.heap.size 0 (CA f).toList) := only_setCells _ _ _ (Only.refl _ _) (.inl (just_self _))
  refine ⟨rfl, F', h.only o1 (fun i hi e => nF (by rw [← e]; exact hi)), ?_, fun i hi => (hF i hi).imp id (fun h => by simp at h; omega)⟩
  have o2 : Only F w w1 := ((Only.refl F w).alloc o).then ho (fun i hi => .inl hi)
  exact o2.then o1 (fun i hi => .inr (by rw [hi]; exact Nat.le_refl _))

set_option maxHeartbeats 1000000 in
theorem read_hit (p : Nat) (F : Nat → Prop) (M : MS) (r a : Nat) (w : World) (h : Mm w p F M) (hr : r < M.k) (ha : a < M.sz r) (hl : M.es.length < 1000000000) :
    Calls Tryz.prog 67 #[.pointer (some ⟨p, 0, none⟩), .int .i64 r, .int .i64 a] w (DonePost w p F (M.see r a false) (.returned (.agg (CA (M.c r a))))) := by
  have HM := Lib.hid h
  have hp := h.lt p h.fp
  clear h
  go_enter Tryz.func67, Tryz.ntmps67
  go_wp2_with fail
  refine (look_hit p F M r a false _ (HM.out.alloc _) hr ha hl).mono ?_
  rintro e w1 ⟨rfl, F', h1, ho, hF⟩
  obtain ⟨g, bl, A, cap, h1⟩ := h1
  have HA := Lib.hid h1
  have c0 : w1.cell? ⟨p, 0, none⟩ = some (.slice (some ⟨g, 0, none⟩) M.k M.k) := h1.box.cell 0
  have cr : w1.cell? ⟨g, r, none⟩ = some (.slice (some ⟨bl r, 0, none⟩) (M.sz r) (M.sz r)) := h1.row.cell hr
  have HO := Lib.hid ho
  have HF := Lib.hid hF
  clear h1 ho hF
  have HR : Hid (w1.rangeAt (bl r) (a * 12) (CA (M.c r a)).toList) := HA.out.range hr ha
  have HT : Hid (w1.there w.heap.size 0 12) := there_result HO.out (fun h => by have := HM.out.lt _ h; omega)
  go_wp2_with (first | with_reducible refine wpList_load_cell rfl (.tmp 21) rfl (bl r) (a * 12) rfl (M.c r a) HR.out ?_ | with_reducible refine wpList_store_cell rfl (.tmp 6) (.tmp 22) rfl w.heap.size 0 rfl (M.c r a) rfl HT.out ?_)
  have hld := load_result (f := M.c r a) HT.out
  refine bodyPost_ret (v := .agg (CA (M.c r a))) (results_one Tryz.results67 rfl hld) rfl ?_
  exact read_done HM.out.lt ⟨g, bl, A, cap, HA.out⟩ HO.out HF.out

set_option maxHeartbeats 1000000 in
theorem read_miss (p : Nat) (F : Nat → Prop) (M : MS) (r a : Int) (w : World) (h : Mm w p F M) (hh : M.hit r a = false) :
    Calls Tryz.prog 67 #[.pointer (some ⟨p, 0, none⟩), .int .i64 r, .int .i64 a] w (DonePost w p F M.bad (.returned (.agg (CA fun _ => 0)))) := by
  have HM := Lib.hid h
  have hp := h.lt p h.fp
  clear h
  go_enter Tryz.func67, Tryz.ntmps67
  go_wp2_with fail
  refine (look_miss p F M r a false _ (HM.out.alloc _) hh).mono ?_
  rintro e w1 ⟨rfl, F', h1, ho, hF⟩
  have HA := Lib.hid h1
  have HO := Lib.hid ho
  have HF := Lib.hid hF
  clear h1 ho hF
  have HT : Hid (w1.there w.heap.size 0 12) := there_result HO.out (fun h => by have := HM.out.lt _ h; omega)
  go_wp2_with (with_reducible refine wpList_store_cell rfl (.tmp 6) (.tmp 12) rfl w.heap.size 0 rfl (fun _ => 0) rfl HT.out ?_)
  have hld := load_result (f := fun _ => 0) HT.out
  refine bodyPost_ret (v := .agg (CA fun _ => 0)) (results_one Tryz.results67 rfl hld) rfl ?_
  exact read_done HM.out.lt HA.out HO.out HF.out
end Go.Proofs.YtmageeohnfomnaaGreat

