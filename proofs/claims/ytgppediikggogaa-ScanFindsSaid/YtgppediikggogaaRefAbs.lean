/- The document's own memory as it lies in the model's memory, after the same pattern: its struct, its rows of cells, its events; which blocks are its own. -/
import Derived.Test.YtgppediikggogaaMemVals
namespace Go.Proofs.Ytgppediikggogaa
open Go.RowKit Go.ChangeShapes Go.WideShapes Go.ChangeAt

/-- A row of which the first k cells are known. -/
def RowTo (w : World) (g : Nat) (t : TypeId) (k : Nat) (f : Nat → Value) : Prop := ∃ cur : Array Value, Box w g t cur ∧ ∀ i, i < k → cur[i]? = some (f i)
theorem RowTo.cell {w : World} {g : Nat} {t : TypeId} {k : Nat} {f : Nat → Value} (h : RowTo w g t k f) {i : Nat} (hi : i < k) : w.cell? ⟨g, i, none⟩ = some (f i) := by
  obtain ⟨cur, hb, hc⟩ := h
  rw [hb.cell i]; exact hc i hi
theorem RowTo.only {w w' : World} {S : Nat → Prop} {g : Nat} {t : TypeId} {k : Nat} {f : Nat → Value} (h : RowTo w g t k f) (o : Only S w w') (hs : ¬ S g) : RowTo w' g t k f := by
  obtain ⟨cur, hb, hc⟩ := h
  exact ⟨cur, hb.only o hs, hc⟩
theorem RowTo.box_ne {w : World} {g b : Nat} {t t' : TypeId} {k : Nat} {f : Nat → Value} {cs : Array Value} (h : RowTo w g t k f) (hb : Box w b t' cs) (hne : t ≠ t') : g ≠ b := by
  obtain ⟨cur, h', _⟩ := h
  exact Box.ne h' hb hne

/-- The memory's struct lies at block p; g, bl, A are where its rows lie; F: the blocks that are its own. -/
structure RmAt (w : World) (p : Nat) (F : Nat → Prop) (M : MS) (g gc : Nat) (bl : Nat → Nat) (A : Option Addr) (cap : Nat) : Prop where
  box : Box w p 70 #[.slice (some ⟨g, 0, none⟩) M.k gc, .slice A M.es.length cap, .bool M.ft]
  row : RowTo w g 47 M.k (fun i => .slice (some ⟨bl i, 0, none⟩) (M.sz i) (M.sz i))
  reg : ∀ i, i < M.k → w.rowIs (bl i) 30 (M.sz i * 12) (fun j => .int .u64 (M.c i (j / 12) (j % 12)))
  inj : ∀ i j, i < M.k → j < M.k → bl i = bl j → i = j
  ev : w.ownsRow 0 54 3 (.slice A M.es.length cap) M.es.length (evs M.es)
  fp : F p
  fg : F g
  fb : ∀ i, i < M.k → F (bl i)
  fv : ∀ b, (Value.slice A M.es.length cap).ownBlock = some b → F b
  lt : ∀ i, F i → i < w.heap.size
  few : M.k ≤ 16
  small : ∀ i, i < M.k → M.sz i ≤ 4096
def Rm (w : World) (p : Nat) (F : Nat → Prop) (M : MS) : Prop := ∃ g gc bl A cap, RmAt w p F M g gc bl A cap

section
variable {w w' : World} {p g gc cap : Nat} {F S : Nat → Prop} {M : MS} {bl : Nat → Nat} {A : Option Addr}
theorem RmAt.only (h : RmAt w p F M g gc bl A cap) (o : Only S w w') (hs : ∀ i, F i → ¬ S i) : RmAt w' p F M g gc bl A cap :=
  ⟨h.box.only o (hs _ h.fp), h.row.only o (hs _ h.fg), fun i hi => o.row (h.reg i hi) (hs _ (h.fb i hi)), h.inj, own_block h.ev (fun b hb => o.block b (h.lt b (h.fv b hb)) (hs _ (h.fv b hb))),
    h.fp, h.fg, h.fb, h.fv, fun i hi => Nat.lt_of_lt_of_le (h.lt i hi) o.size, h.few, h.small⟩
theorem Rm.only (h : Rm w p F M) (o : Only S w w') (hs : ∀ i, F i → ¬ S i) : Rm w' p F M := by
  obtain ⟨g, gc, bl, A, cap, h⟩ := h
  exact ⟨g, gc, bl, A, cap, h.only o hs⟩
theorem Rm.drewN (h : Rm w p F M) (n : Nat) : Rm (w.drewN n) p F M := h.only ((Only.refl nobody w).drewN n) (fun _ _ => not_nobody _)
theorem Rm.drew (h : Rm w p F M) : Rm w.drew p F M := h.only ((Only.refl nobody w).drew) (fun _ _ => not_nobody _)
theorem Rm.alloc (h : Rm w p F M) (o : Obj) : Rm (w.alloc o) p F M := h.only ((Only.refl nobody w).alloc o) (fun _ _ => not_nobody _)
theorem Rm.lt (h : Rm w p F M) : ∀ i, F i → i < w.heap.size := by
  obtain ⟨g, gc, bl, A, cap, h⟩ := h
  exact h.lt
theorem Rm.fp (h : Rm w p F M) : F p := by
  obtain ⟨g, gc, bl, A, cap, h⟩ := h
  exact h.fp
end

/-- What lies at a cell of a region. -/
theorem RmAt.range {w : World} {p g gc cap : Nat} {F : Nat → Prop} {M : MS} {bl : Nat → Nat} {A : Option Addr} (h : RmAt w p F M g gc bl A cap) {r a : Nat} (hr : r < M.k) (ha : a < M.sz r) : w.rangeAt (bl r) (a * 12) (CA (M.c r a)).toList := by
  intro j v hv
  have hj : j < 12 := by have := (List.getElem?_eq_some_iff.1 hv).1; simpa [CA] using this
  rw [Array.getElem?_toList, CA_at _ j hj] at hv
  rw [(h.reg r hr).cell (show a * 12 + j < M.sz r * 12 by omega)]
  rw [show (a * 12 + j) / 12 = a by omega, show (a * 12 + j) % 12 = j by omega]
  exact hv
theorem RmAt.there {w : World} {p g gc cap : Nat} {F : Nat → Prop} {M : MS} {bl : Nat → Nat} {A : Option Addr} (h : RmAt w p F M g gc bl A cap) {r a : Nat} (hr : r < M.k) (ha : a < M.sz r) : w.there (bl r) (a * 12) 12 := fun j hj =>
  ⟨by rw [(h.reg r hr).cell (show a * 12 + j < M.sz r * 12 by omega)]; rfl, (h.reg r hr).frozen _⟩
/-- A cell is stored over. -/
theorem RmAt.put {w : World} {p g gc cap : Nat} {F : Nat → Prop} {M : MS} {bl : Nat → Nat} {A : Option Addr} (h : RmAt w p F M g gc bl A cap) {r a : Nat} (hr : r < M.k) (f : Nat → Int) :
    RmAt (w.setCells (bl r) (a * 12) (CA f).toList) p F (M.put r a f) g gc bl A cap := by
  have o : Only (just (bl r)) w (w.setCells (bl r) (a * 12) (CA f).toList) := only_setCells _ _ _ (Only.refl _ _) (.inl (just_self _))
  have np : p ≠ bl r := h.box.row_ne (h.reg r hr) (by decide)
  have ng : g ≠ bl r := by
    intro e
    obtain ⟨c', hc', _, _⟩ := h.reg r hr
    exact h.row.box_ne (show Box w (bl r) _ c' from hc') (by decide) e
  refine ⟨h.box.only o (just_ne np), h.row.only o (just_ne ng), fun i hi => ?_, h.inj, own_block h.ev (fun b hb => o.block b (h.lt b (h.fv b hb)) (just_ne ?_)), h.fp, h.fg, h.fb, h.fv, fun i hi => Nat.lt_of_lt_of_le (h.lt i hi) o.size, h.few, h.small⟩
  · by_cases e : i = r
    · subst e
      refine (row_setCells (CA f).toList (a * 12) w _ (h.reg i hr)).congr (fun j hj => ?_)
      have hl : (CA f).toList.length = 12 := rfl
      by_cases l : a * 12 ≤ j ∧ j < a * 12 + (CA f).toList.length
      · rw [dif_pos l]
        have h12 : j - a * 12 < 12 := by omega
        have hq := CA_at f (j - a * 12) h12
        have : (CA f).toList[j - a * 12]'(by omega) = .int .u64 (f (j - a * 12)) := by
          have h2 := (Array.getElem?_eq_some_iff.1 hq).2
          simpa using h2
        rw [this]
        have q1 : j / 12 = a := by omega
        have q2 : j % 12 = j - a * 12 := by omega
        simp [MS.put, q1, q2]
      · rw [dif_neg l]
        have q1 : ¬ j / 12 = a := by omega
        simp [MS.put, q1]
    · refine (o.row (h.reg i hi) (just_ne (fun e' => e (h.inj i r hi hr e')))).congr (fun j hj => ?_)
      simp [MS.put, e]
  · intro e
    subst e
    rcases h.ev.2 with ⟨h0, _⟩ | ⟨g', cap', cur, h0, _, hg', _⟩
    · replace hb : (Value.slice A M.es.length cap).ownBlock = some (bl r) := hb
      rw [h0] at hb; simp [Value.ownBlock] at hb
    · replace hb : (Value.slice A M.es.length cap).ownBlock = some (bl r) := hb
      rw [h0] at hb
      simp only [Value.ownBlock, Option.some.injEq] at hb
      obtain ⟨c', hc', _, _⟩ := h.reg r hr
      rw [hb, hc'] at hg'
      injection hg' with hg'
      injection hg' with _ ht
      exact absurd ht (by decide)
/-- Behind a look: what the memory is then; only its own blocks have turned, and only new ones have come to it. -/
def RLookPost (w : World) (p : Nat) (F : Nat → Prop) (M : MS) (v : Value) (e : Ending) (w' : World) : Prop :=
  e = .returned v ∧ ∃ F', Rm w' p F' M ∧ Only F w w' ∧ ∀ i, F' i → F i ∨ w.heap.size ≤ i

theorem rlook_bad {w : World} {p : Nat} {F : Nat → Prop} {M : MS} {v : Value} (h : Rm w p F M) : RLookPost w p F M.bad v (.returned v) (w.setCell ⟨p, 2, none⟩ (.bool true)) := by
  obtain ⟨g, gc, bl, A, cap, h⟩ := h
  have o : Only (just p) w (w.setCell ⟨p, 2, none⟩ (.bool true)) := (Only.refl _ _).setCell (.inl (just_self p)) _
  have ng : g ≠ p := fun e => (h.row.box_ne h.box (by decide)) e
  have nb : ∀ i, i < M.k → bl i ≠ p := fun i hi e => (h.box.row_ne (h.reg i hi) (by decide)) e.symm
  refine ⟨rfl, F, ⟨g, gc, bl, A, cap, ?_, h.row.only o (just_ne ng), fun i hi => o.row (h.reg i hi) (just_ne (nb i hi)), h.inj, own_block h.ev (fun b hb => o.block b (h.lt b (h.fv b hb)) (just_ne ?_)), h.fp, h.fg, h.fb, h.fv, fun i hi => Nat.lt_of_lt_of_le (h.lt i hi) o.size, h.few, h.small⟩,
    o.mono (fun k _ hk => by rw [hk]; exact h.fp), fun i hi => .inl hi⟩
  · have := h.box.put 2 (.bool true)
    simpa [MS.bad] using this
  · replace hb : (Value.slice A M.es.length cap).ownBlock = some b := hb
    rcases h.ev.2 with ⟨h0, _⟩ | ⟨g', cap', cur, h0, _, hg', _⟩
    · rw [h0] at hb; simp [Value.ownBlock] at hb
    · rw [h0] at hb
      simp only [Value.ownBlock, Option.some.injEq] at hb
      subst hb
      exact fun e => (Box.ne h.box (show Box w g' _ cur from hg') (by decide)) e.symm

/-- The events' row has one more, and the struct says so. -/
theorem rlook_saw {w w1 : World} {p g gc cap A' cap'} {F : Nat → Prop} {M : MS} {bl : Nat → Nat} {A : Option Addr} {v : Value} (r a : Nat) (wr : Bool) (h : RmAt w p F M g gc bl A cap)
    (hown : w1.ownsRow 0 54 3 (.slice A' (M.es.length + 1) cap') (M.es.length + 1) (evs M.es ++ evs [(r, a, wr)])) (hg : (w.alloc (.cells #[.int .i64 r, .int .i64 a, .bool wr] 54)).grownBy w1 (Value.slice A M.es.length cap).ownBlock)
    (hwhere : (Value.slice A' (M.es.length + 1) cap').ownBlock = (Value.slice A M.es.length cap).ownBlock ∨ (Value.slice A' (M.es.length + 1) cap').ownBlock = some (w.heap.size + 1)) :
    RLookPost w p F (M.see r a wr) v (.returned v) (w1.setCell ⟨p, 1, none⟩ (.slice A' (M.es.length + 1) cap')) := by
  have o1 : Only F w w1 := ((Only.refl F w).alloc _).grown hg (fun k hk => .inl (h.fv k hk))
  have nv : ∀ b, (Value.slice A M.es.length cap).ownBlock = some b → ∃ cur, Box w b 54 cur := by
    intro b hb
    rcases h.ev.2 with ⟨h0, _⟩ | ⟨g', cap', cur, h0, _, hg', _⟩
    · rw [h0] at hb; simp [Value.ownBlock] at hb
    · rw [h0] at hb
      simp only [Value.ownBlock, Option.some.injEq] at hb
      subst hb
      exact ⟨cur, hg'⟩
  have o0 : Only (fun b => (Value.slice A M.es.length cap).ownBlock = some b) w w1 := ((Only.refl _ w).alloc _).grown hg (fun k hk => .inl hk)
  have bp : Box w1 p 70 #[.slice (some ⟨g, 0, none⟩) M.k gc, .slice A M.es.length cap, .bool M.ft] := h.box.only o0 (fun e => by
    obtain ⟨cur, hc⟩ := nv _ e
    exact (Box.ne h.box hc (by decide)) rfl)
  have rg := h.row.only o0 (fun e => by
    obtain ⟨cur, hc⟩ := nv _ e
    exact (h.row.box_ne hc (by decide)) rfl)
  have rb : ∀ i, i < M.k → w1.rowIs (bl i) 30 (M.sz i * 12) (fun j => .int .u64 (M.c i (j / 12) (j % 12))) := fun i hi => o0.row (h.reg i hi) (fun e => by
    obtain ⟨cur, hc⟩ := nv _ e
    exact (Box.row_ne hc (h.reg i hi) (by decide)) rfl)
  have nv' : ∀ b, (Value.slice A' (M.es.length + 1) cap').ownBlock = some b → b < w1.heap.size ∧ b ≠ p := by
    intro b hb
    rcases hown.2 with ⟨h0, _⟩ | ⟨g', cap', cur, h0, _, hg', _⟩
    · rw [h0] at hb; simp [Value.ownBlock] at hb
    · rw [h0] at hb
      simp only [Value.ownBlock, Option.some.injEq] at hb
      subst hb
      exact ⟨Box.lt (show Box w1 g' _ cur from hg'), (Box.ne (show Box w1 g' _ cur from hg') bp (by decide))⟩
  have hp := h.lt p h.fp
  have o2 : Only (just p) w1 (w1.setCell ⟨p, 1, none⟩ (.slice A' (M.es.length + 1) cap')) := (Only.refl _ _).setCell (.inl (just_self p)) _
  have ng : g ≠ p := fun e => (h.row.box_ne h.box (by decide)) e
  have nb : ∀ i, i < M.k → bl i ≠ p := fun i hi e => (h.box.row_ne (h.reg i hi) (by decide)) e.symm
  refine ⟨rfl, fun i => F i ∨ (w.heap.size ≤ i ∧ i < w1.heap.size), ⟨g, gc, bl, A', cap', ?_, rg.only o2 (just_ne ng), fun i hi => o2.row (rb i hi) (just_ne (nb i hi)), h.inj, ?_, .inl h.fp, .inl h.fg, fun i hi => .inl (h.fb i hi), ?_, ?_, h.few, h.small⟩,
    o1.setCell (.inl h.fp) _, fun i hi => hi.imp id (fun h => h.1)⟩
  · have := bp.put 1 (.slice A' (M.es.length + 1) cap')
    simpa [MS.see] using this
  · have e : (M.see r a wr).es.length = M.es.length + 1 := by simp [MS.see]
    rw [e]
    have e2 : evs (M.see r a wr).es = evs M.es ++ evs [(r, a, wr)] := by rw [← evs_append]; rfl
    rw [e2]
    exact own_block hown (fun b hb => o2.block b (nv' b hb).1 (just_ne (nv' b hb).2))
  · intro b hb
    have e : (M.see r a wr).es.length = M.es.length + 1 := by simp [MS.see]
    rw [e] at hb
    rcases hwhere with e' | e'
    · rw [e'] at hb; exact .inl (h.fv b hb)
    · rw [e'] at hb
      injection hb with hb
      right
      refine ⟨by omega, ?_⟩
      exact (nv' b (by rw [e', hb])).1
  · intro i hi
    have := o1.size
    have hz : (w1.setCell ⟨p, 1, none⟩ (.slice A' (M.es.length + 1) cap')).heap.size = w1.heap.size := by simp [World.setCell]
    rw [hz]
    rcases hi with hi | hi
    · have := h.lt i hi; omega
    · exact hi.2
end Go.Proofs.Ytgppediikggogaa
