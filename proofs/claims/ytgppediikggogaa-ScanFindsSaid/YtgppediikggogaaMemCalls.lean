/- Contracts of package mem, one look at a memory: Size, Fault, Many, look, Read, Write: what each returns, and what it makes of the memory; nothing else turns. Conditions: the memory lies as New made it; there are fewer events than memory can hold. -/
import Derived.Test.YtgppediikggogaaMemAbs
import Derived.Test.YtgppediikggogaaAppend
import Derived.Deep.QuietTactic
import Derived.BigQuiet
import Derived.OwnWalk
namespace Go.Proofs.Ytgppediikggogaa
open Go.RowKit Go.ChangeShapes Go.WideShapes Go.ChangeAt

theorem size_any (p : Nat) (F : Nat → Prop) (M : MS) (r : Int) (w : World) (h : Mm w p F M) :
    Calls Try.prog 29 #[.pointer (some ⟨p, 0, none⟩), .int .i64 r] w fun e w' => e = .returned (.int .i64 (M.size r : Nat)) ∧ w = w' := by
  obtain ⟨g, bl, A, cap, h⟩ := h
  have c0 : w.cell? ⟨p, 0, none⟩ = some (.slice (some ⟨g, 0, none⟩) M.k M.k) := h.box.cell 0
  by_cases h0 : r < 0
  · have HE : Hid (M.size r = 0) := if_neg (by omega)
    clear h
    go_enter Try.func29, Try.ntmps29
    go_wp2
    go_ret
    exact ⟨by rw [HE.out]; rfl, rfl⟩
  · obtain ⟨r, rfl⟩ := Int.eq_ofNat_of_zero_le (show 0 ≤ r by omega)
    by_cases h1 : r < M.k
    · have HE := Lib.hid (M.size_nat h1)
      have cr := h.row.cell h1
      clear h
      go_enter Try.func29, Try.ntmps29
      go_wp2
      go_ret
      exact ⟨by rw [HE.out]; rfl, rfl⟩
    · have HE : Hid (M.size r = 0) := if_neg (by omega)
      clear h
      go_enter Try.func29, Try.ntmps29
      go_wp2
      go_ret
      exact ⟨by rw [HE.out]; rfl, rfl⟩

theorem fault_any (p : Nat) (F : Nat → Prop) (M : MS) (w : World) (h : Mm w p F M) :
    Calls Try.prog 30 #[.pointer (some ⟨p, 0, none⟩)] w fun e w' => e = .returned (.bool M.ft) ∧ w = w' := by
  obtain ⟨g, bl, A, cap, h⟩ := h
  have c2 : w.cell? ⟨p, 2, none⟩ = some (.bool M.ft) := h.box.cell 2
  clear h
  go_enter Try.func30, Try.ntmps30
  go_wp2
  go_ret
  exact ⟨rfl, rfl⟩

theorem many_any (p : Nat) (F : Nat → Prop) (M : MS) (w : World) (h : Mm w p F M) :
    Calls Try.prog 27 #[.pointer (some ⟨p, 0, none⟩)] w fun e w' => e = .returned (.int .i64 (M.es.length : Nat)) ∧ w = w' := by
  obtain ⟨g, bl, A, cap, h⟩ := h
  have c1 : w.cell? ⟨p, 1, none⟩ = some (.slice A M.es.length cap) := h.box.cell 1
  clear h
  go_enter Try.func27, Try.ntmps27
  go_wp2
  go_ret
  exact ⟨rfl, rfl⟩

/-- Behind a look: what the memory is then; only its own blocks have turned, and only new ones have come to it. -/
def LookPost (w : World) (p : Nat) (F : Nat → Prop) (M : MS) (v : Value) (e : Ending) (w' : World) : Prop :=
  e = .returned v ∧ ∃ F', Mm w' p F' M ∧ Only F w w' ∧ ∀ i, F' i → F i ∨ w.heap.size ≤ i

theorem look_bad {w : World} {p : Nat} {F : Nat → Prop} {M : MS} {v : Value} (h : Mm w p F M) : LookPost w p F M.bad v (.returned v) (w.setCell ⟨p, 2, none⟩ (.bool true)) := by
  obtain ⟨g, bl, A, cap, h⟩ := h
  have o : Only (just p) w (w.setCell ⟨p, 2, none⟩ (.bool true)) := (Only.refl _ _).setCell (.inl (just_self p)) _
  have ng : g ≠ p := fun e => (h.box.row_ne h.row (by decide)) e.symm
  have nb : ∀ i, i < M.k → bl i ≠ p := fun i hi e => (h.box.row_ne (h.reg i hi) (by decide)) e.symm
  refine ⟨rfl, F, ⟨g, bl, A, cap, ?_, o.row h.row (just_ne ng), fun i hi => o.row (h.reg i hi) (just_ne (nb i hi)), h.inj, own_block h.ev (fun b hb => o.block b (h.lt b (h.fv b hb)) (just_ne ?_)), h.fp, h.fg, h.fb, h.fv, fun i hi => Nat.lt_of_lt_of_le (h.lt i hi) o.size, h.few, h.small⟩,
    o.mono (fun k _ hk => by rw [hk]; exact h.fp), fun i hi => .inl hi⟩
  · have := h.box.put 2 (.bool true)
    simpa [MS.bad] using this
  · replace hb : (Value.slice A M.es.length cap).ownBlock = some b := hb
    rcases h.ev.2 with ⟨h0, _⟩ | ⟨g', cap', cur, h0, _, hg', _⟩
    · rw [h0] at hb; simp [Value.ownBlock] at hb
    · rw [h0] at hb
      simp only [Value.ownBlock, Option.some.injEq] at hb
      subst hb
      exact fun e => (Box.ne h.box (show Box w g' _ cur from hg') (by decide)) e.symm

set_option maxHeartbeats 1000000 in
theorem look_miss (p : Nat) (F : Nat → Prop) (M : MS) (r a : Int) (wr : Bool) (w : World) (h : Mm w p F M) (hh : M.hit r a = false) :
    Calls Try.prog 41 #[.pointer (some ⟨p, 0, none⟩), .int .i64 r, .int .i64 a, .bool wr] w (LookPost w p F M.bad (.bool false)) := by
  have HM := Lib.hid h
  have hn := of_decide_eq_false hh
  have f2 : w.frozen? ⟨p, 2, none⟩ = false := by obtain ⟨g, bl, A, cap, h⟩ := h; exact h.box.frozen 2
  have c2 : w.cell? ⟨p, 2, none⟩ = some (.bool M.ft) := by obtain ⟨g, bl, A, cap, h⟩ := h; exact h.box.cell 2
  clear h hh
  by_cases h0 : a < 0
  · clear hn
    go_enter Try.func41, Try.ntmps41
    go_wp2
    go_ret
    exact look_bad HM.out
  · have h1 : (M.size r : Int) ≤ a := by omega
    obtain ⟨s, hs⟩ : ∃ s, M.size r = s := ⟨_, rfl⟩
    have HS := Lib.hid hs
    rw [hs] at h1
    clear hn hs
    go_enter Try.func41, Try.ntmps41
    go_wp2_with fail
    refine (size_any p F M r _ HM.out).mono ?_
    rintro e w' ⟨rfl, rfl⟩
    rw [HS.out]
    go_wp2
    go_ret
    exact look_bad HM.out

theorem infoEvent : (Try.prog.info? 54).map (fun i => (i.zero, i.size, i.bytes)) = some (some (.agg #[.int .i64 0, .int .i64 0, .bool false]), 3, 24) := by kernel_rfl

/-- The events' row has one more, and the struct says so. -/
theorem look_saw {w w1 : World} {p g cap A' cap'} {F : Nat → Prop} {M : MS} {bl : Nat → Nat} {A : Option Addr} {v : Value} (r a : Nat) (wr : Bool) (h : MmAt w p F M g bl A cap)
    (hown : w1.ownsRow 0 54 3 (.slice A' (M.es.length + 1) cap') (M.es.length + 1) (evs M.es ++ evs [(r, a, wr)])) (hg : (w.alloc (.cells #[.int .i64 r, .int .i64 a, .bool wr] 54)).grownBy w1 (Value.slice A M.es.length cap).ownBlock)
    (hwhere : (Value.slice A' (M.es.length + 1) cap').ownBlock = (Value.slice A M.es.length cap).ownBlock ∨ (Value.slice A' (M.es.length + 1) cap').ownBlock = some (w.heap.size + 1)) :
    LookPost w p F (M.see r a wr) v (.returned v) (w1.setCell ⟨p, 1, none⟩ (.slice A' (M.es.length + 1) cap')) := by
  have o1 : Only F w w1 := ((Only.refl F w).alloc _).grown hg (fun k hk => .inl (h.fv k hk))
  have nv : ∀ b, (Value.slice A M.es.length cap).ownBlock = some b → ∃ cur, Box w b 54 cur := by
    intro b hb
    rcases h.ev.2 with ⟨h0, _⟩ | ⟨g', cap', cur, h0, _, hg', _⟩
    · rw [h0] at hb; simp [Value.ownBlock] at hb
    · rw [h0] at hb
      simp only [Value.ownBlock, Option.some.injEq] at hb
      subst hb
      exact ⟨cur, hg'⟩
  have o0 : Only (fun b => (Value.slice A M.es.length cap).ownBlock = some b) w w1 := ((Only.refl _ w).alloc _).grown hg (fun k hk => .inl hk)
  have bp : Box w1 p 74 #[.slice (some ⟨g, 0, none⟩) M.k M.k, .slice A M.es.length cap, .bool M.ft] := h.box.only o0 (fun e => by
    obtain ⟨cur, hc⟩ := nv _ e
    exact (Box.ne h.box hc (by decide)) rfl)
  have rg := o0.row h.row (fun e => by
    obtain ⟨cur, hc⟩ := nv _ e
    exact (Box.row_ne hc h.row (by decide)) rfl)
  have rb : ∀ i, i < M.k → w1.rowIs (bl i) 30 (M.sz i * 12) (fun j => .int .u64 (M.c i (j / 12) (j % 12))) := fun i hi => o0.row (h.reg i hi) (fun e => by
    obtain ⟨cur, hc⟩ := nv _ e
    exact (Box.row_ne hc (h.reg i hi) (by decide)) rfl)
  have nv' : ∀ b, (Value.slice A' (M.es.length + 1) cap').ownBlock = some b → b < w1.heap.size ∧ b ≠ p := by
    intro b hb
    rcases hown.2 with ⟨h0, _⟩ | ⟨g', cap', cur, h0, _, hg', _⟩
    · rw [h0] at hb; simp [Value.ownBlock] at hb
    · rw [h0] at hb
      simp only [Value.ownBlock, Option.some.injEq] at hb
      subst hb
      exact ⟨Box.lt (show Box w1 g' _ cur from hg'), (Box.ne (show Box w1 g' _ cur from hg') bp (by decide))⟩
  have hp := h.lt p h.fp
  have o2 : Only (just p) w1 (w1.setCell ⟨p, 1, none⟩ (.slice A' (M.es.length + 1) cap')) := (Only.refl _ _).setCell (.inl (just_self p)) _
  have ng : g ≠ p := fun e => (h.box.row_ne h.row (by decide)) e.symm
  have nb : ∀ i, i < M.k → bl i ≠ p := fun i hi e => (h.box.row_ne (h.reg i hi) (by decide)) e.symm
  refine ⟨rfl, fun i => F i ∨ (w.heap.size ≤ i ∧ i < w1.heap.size), ⟨g, bl, A', cap', ?_, o2.row rg (just_ne ng), fun i hi => o2.row (rb i hi) (just_ne (nb i hi)), h.inj, ?_, .inl h.fp, .inl h.fg, fun i hi => .inl (h.fb i hi), ?_, ?_, h.few, h.small⟩,
    o1.setCell (.inl h.fp) _, fun i hi => hi.imp id (fun h => h.1)⟩
  · have := bp.put 1 (.slice A' (M.es.length + 1) cap')
    simpa [MS.see] using this
  · have e : (M.see r a wr).es.length = M.es.length + 1 := by simp [MS.see]
    rw [e]
    have e2 : evs (M.see r a wr).es = evs M.es ++ evs [(r, a, wr)] := by rw [← evs_append]; rfl
    rw [e2]
    exact own_block hown (fun b hb => o2.block b (nv' b hb).1 (just_ne (nv' b hb).2))
  · intro b hb
    have e : (M.see r a wr).es.length = M.es.length + 1 := by simp [MS.see]
    rw [e] at hb
    rcases hwhere with e' | e'
    · rw [e'] at hb; exact .inl (h.fv b hb)
    · rw [e'] at hb
      injection hb with hb
      right
      refine ⟨by omega, ?_⟩
      exact (nv' b (by rw [e', hb])).1
  · intro i hi
    have := o1.size
    have hz : (w1.setCell ⟨p, 1, none⟩ (.slice A' (M.es.length + 1) cap')).heap.size = w1.heap.size := by simp [World.setCell]
    rw [hz]
    rcases hi with hi | hi
    · have := h.lt i hi; omega
    · exact hi.2
end Go.Proofs.Ytgppediikggogaa
