/- Texts of ours put together: MemAbs. -/
import Derived.Below
import Derived.ChangeSlices
import Derived.Deep.Draws
import Derived.Deep.MidRow
import Derived.Deep.OwnRows
import Derived.Deep.RegionHeld
import Derived.Laws.AppendOwn
import Derived.Lib.Hide
import Derived.OpenShut
import Derived.ProofKit
import Derived.RowKit3
import Derived.SizedLaws
import Derived.WalkKit
import Derived.Test.YtmageeohnfomnaaGreatProg
import Derived.Test.YtmageeohnfomnaaGreatG0
import Derived.Test.YtmageeohnfomnaaGreatG2
namespace Go.Proofs.YtmageeohnfomnaaGreat
set_option maxRecDepth 100000
open Go.RowKit Go.ChangeShapes Go.WideShapes Go.ChangeAt

abbrev Ev := Nat × Nat × Bool
def evc (e : Ev) : List Value := [.int .i64 (e.1 : Nat), .int .i64 (e.2.1 : Nat), .bool e.2.2]
def evs : List Ev → List Value
  | [] => []
  | e :: l => evc e ++ evs l
theorem evs_append : ∀ l m : List Ev, evs (l ++ m) = evs l ++ evs m
  | [], m => rfl
  | e :: l, m => by simp [evs, evs_append l m]
theorem evs_one : ∀ (l : List Ev), ∀ v ∈ evs l, v.oneCell' = true
  | [], v, h => by simp [evs] at h
  | e :: l, v, h => by
    simp only [evs, List.mem_append] at h
    rcases h with h | h
    · simp [evc] at h
      rcases h with rfl | rfl | rfl <;> rfl
    · exact evs_one l v h
structure MS where
  k : Nat
  sz : Nat → Nat
  c : Nat → Nat → Nat → Int
  es : List Ev
  ft : Bool

def MS.size (M : MS) (r : Int) : Nat := if 0 ≤ r ∧ r < M.k then M.sz r.toNat else 0
def MS.hit (M : MS) (r a : Int) : Bool := decide (0 ≤ a ∧ a < M.size r)
def MS.see (M : MS) (r a : Nat) (wr : Bool) : MS := { M with es := M.es ++ [(r, a, wr)] }
def MS.bad (M : MS) : MS := { M with ft := true }
def MS.put (M : MS) (r a : Nat) (f : Nat → Int) : MS := { M with c := fun r' a' => if r' = r ∧ a' = a then f else M.c r' a' }
def MS.read (M : MS) (r a : Int) : MS := if M.hit r a then M.see r.toNat a.toNat false else M.bad
def MS.write (M : MS) (r a : Int) (f : Nat → Int) : MS := if M.hit r a then (M.see r.toNat a.toNat true).put r.toNat a.toNat f else M.bad
def MS.cell (M : MS) (r a : Int) : Nat → Int := if M.hit r a then M.c r.toNat a.toNat else fun _ => 0

theorem MS.hit_nat {M : MS} {r a : Int} (h : M.hit r a = true) : ∃ r' a' : Nat, r = r' ∧ a = a' ∧ r' < M.k ∧ a' < M.sz r' := by
  have h := of_decide_eq_true h
  unfold MS.size at h
  by_cases hr : 0 ≤ r ∧ r < M.k
  · rw [if_pos hr] at h
    exact ⟨r.toNat, a.toNat, by omega, by omega, by omega, by omega⟩
  · rw [if_neg hr] at h; omega
theorem MS.hit_of {M : MS} {r a : Nat} (hr : r < M.k) (ha : a < M.sz r) : M.hit r a = true := by
  refine decide_eq_true ?_
  unfold MS.size
  rw [if_pos (by omega)]
  simp only [Int.toNat_natCast]; omega
theorem MS.size_nat {M : MS} {r : Nat} (hr : r < M.k) : M.size r = M.sz r := by
  simp only [MS.size]
  rw [if_pos (by omega), Int.toNat_natCast]

structure MmAt (w : World) (p : Nat) (F : Nat → Prop) (M : MS) (g : Nat) (bl : Nat → Nat) (A : Option Addr) (cap : Nat) : Prop where
  box : Box w p 74 #[.slice (some ⟨g, 0, none⟩) M.k M.k, .slice A M.es.length cap, .bool M.ft]
  row : w.rowIs g 75 M.k (fun i => .slice (some ⟨bl i, 0, none⟩) (M.sz i) (M.sz i))
  reg : ∀ i, i < M.k → w.rowIs (bl i) 103 (M.sz i * 12) (fun j => .int .u64 (M.c i (j / 12) (j % 12)))
  inj : ∀ i j, i < M.k → j < M.k → bl i = bl j → i = j
  ev : w.ownsRow 0 87 3 (.slice A M.es.length cap) M.es.length (evs M.es)
  fp : F p
  fg : F g
  fb : ∀ i, i < M.k → F (bl i)
  fv : ∀ b, (Value.slice A M.es.length cap).ownBlock = some b → F b
  lt : ∀ i, F i → i < w.heap.size
  few : M.k ≤ 16
  small : ∀ i, i < M.k → M.sz i ≤ 4096
def Mm (w : World) (p : Nat) (F : Nat → Prop) (M : MS) : Prop := ∃ g bl A cap, MmAt w p F M g bl A cap

section
variable {w w' : World} {p g cap : Nat} {F S : Nat → Prop} {M : MS} {bl : Nat → Nat} {A : Option Addr}
theorem own_block {base : Nat} {e : TypeId} {size n : Nat} {v : Value} {xs : List Value} (h : w.ownsRow base e size v n xs) (k : ∀ b, v.ownBlock = some b → w'.heap[b]? = w.heap[b]?) : w'.ownsRow base e size v n xs := by
  refine ⟨h.1, ?_⟩
  rcases h.2 with hn | ⟨g, cap, cur, rfl, hb, hg, r⟩
  · exact .inl hn
  · exact .inr ⟨g, cap, cur, rfl, hb, (k g rfl).trans hg, r⟩
theorem MmAt.only (h : MmAt w p F M g bl A cap) (o : Only S w w') (hs : ∀ i, F i → ¬ S i) : MmAt w' p F M g bl A cap :=
  ⟨h.box.only o (hs _ h.fp), o.row h.row (hs _ h.fg), fun i hi => o.row (h.reg i hi) (hs _ (h.fb i hi)), h.inj, own_block h.ev (fun b hb => o.block b (h.lt b (h.fv b hb)) (hs _ (h.fv b hb))),
    h.fp, h.fg, h.fb, h.fv, fun i hi => Nat.lt_of_lt_of_le (h.lt i hi) o.size, h.few, h.small⟩
theorem Mm.only (h : Mm w p F M) (o : Only S w w') (hs : ∀ i, F i → ¬ S i) : Mm w' p F M := by
  obtain ⟨g, bl, A, cap, h⟩ := h
  exact ⟨g, bl, A, cap, h.only o hs⟩
theorem Mm.alloc (h : Mm w p F M) (o : Obj) : Mm (w.alloc o) p F M := h.only ((Only.refl nobody w).alloc o) (fun _ _ => not_nobody _)
theorem Mm.lt (h : Mm w p F M) : ∀ i, F i → i < w.heap.size := by
  obtain ⟨g, bl, A, cap, h⟩ := h
  exact h.lt
theorem Mm.fp (h : Mm w p F M) : F p := by
  obtain ⟨g, bl, A, cap, h⟩ := h
  exact h.fp
end

theorem row_setCells {b : Nat} {t : TypeId} {n : Nat} : ∀ (vs : List Value) (o : Nat) (w : World) (f : Nat → Value), w.rowIs b t n f →
    (w.setCells b o vs).rowIs b t n (fun j => if h : o ≤ j ∧ j < o + vs.length then vs[j - o]'(by omega) else f j)
  | [], o, w, f, h => h.congr (fun j hj => by rw [dif_neg (by simp)])
  | v :: vs, o, w, f, h => by
    rw [World.setCells]
    refine (row_setCells vs (o + 1) _ _ (h.set o v)).congr (fun j hj => ?_)
    by_cases e : j = o
    · subst e
      rw [dif_neg (by omega), dif_pos (by simp)]
      simp
    · by_cases l : o + 1 ≤ j ∧ j < o + 1 + vs.length
      · rw [dif_pos l, dif_pos (by simp; omega)]
        have h1 : j - o = (j - (o + 1)) + 1 := by omega
        simp only [h1, List.getElem_cons_succ]
      · rw [dif_neg l, dif_neg (by simp; omega)]
        show (if j = o then v else f j) = f j
        rw [if_neg e]
theorem MmAt.range {w : World} {p g cap : Nat} {F : Nat → Prop} {M : MS} {bl : Nat → Nat} {A : Option Addr} (h : MmAt w p F M g bl A cap) {r a : Nat} (hr : r < M.k) (ha : a < M.sz r) : w.rangeAt (bl r) (a * 12) (CA (M.c r a)).toList := by
  intro j v hv
  have hj : j < 12 := by have := (List.getElem?_eq_some_iff.1 hv).1; simpa [CA] using this
  rw [Array.getElem?_toList, CA_at _ j hj] at hv
  rw [(h.reg r hr).cell (show a * 12 + j < M.sz r * 12 by omega)]
  rw [show (a * 12 + j) / 12 = a by omega, show (a * 12 + j) % 12 = j by omega]
  exact hv
theorem MmAt.there {w : World} {p g cap : Nat} {F : Nat → Prop} {M : MS} {bl : Nat → Nat} {A : Option Addr} (h : MmAt w p F M g bl A cap) {r a : Nat} (hr : r < M.k) (ha : a < M.sz r) : w.there (bl r) (a * 12) 12 := fun j hj =>
  ⟨by rw [(h.reg r hr).cell (show a * 12 + j < M.sz r * 12 by omega)]; rfl, (h.reg r hr).frozen _⟩
theorem MmAt.put {w : World} {p g cap : Nat} {F : Nat → Prop} {M : MS} {bl : Nat → Nat} {A : Option Addr} (h : MmAt w p F M g bl A cap) {r a : Nat} (hr : r < M.k) (f : Nat → Int) :
    MmAt (w.setCells (bl r) (a * 12) (CA f).toList) p F (M.put r a f) g bl A cap := by
  have o : Only (just (bl r)) w (w.setCells (bl r) (a * 12) (CA f).toList) := only_setCells _ _ _ (Only.refl _ _) (.inl (just_self _))
  have np : p ≠ bl r := h.box.row_ne (h.reg r hr) (by decide)
  have ng : g ≠ bl r := by
    intro e
    obtain ⟨c, hc, _, _⟩ := h.row
    obtain ⟨c', hc', _, _⟩ := h.reg r hr
    rw [e, hc'] at hc
    injection hc with hc
    injection hc with _ ht
    exact absurd ht (by decide)
  refine ⟨h.box.only o (just_ne np), o.row h.row (just_ne ng), fun i hi => ?_, h.inj, own_block h.ev (fun b hb => o.block b (h.lt b (h.fv b hb)) (just_ne ?_)), h.fp, h.fg, h.fb, h.fv, fun i hi => Nat.lt_of_lt_of_le (h.lt i hi) o.size, h.few, h.small⟩
  · by_cases e : i = r
    · subst e
      refine (row_setCells (CA f).toList (a * 12) w _ (h.reg i hr)).congr (fun j hj => ?_)
      have hl : (CA f).toList.length = 12 := rfl
      by_cases l : a * 12 ≤ j ∧ j < a * 12 + (CA f).toList.length
      · rw [dif_pos l]
        have h12 : j - a * 12 < 12 := by omega
        have hq := CA_at f (j - a * 12) h12
        have : (CA f).toList[j - a * 12]'(by omega) = .int .u64 (f (j - a * 12)) := by
          have h2 := (Array.getElem?_eq_some_iff.1 hq).2
          simpa using h2
        rw [this]
        have q1 : j / 12 = a := by omega
        have q2 : j % 12 = j - a * 12 := by omega
        simp [MS.put, q1, q2]
      · rw [dif_neg l]
        have q1 : ¬ j / 12 = a := by omega
        simp [MS.put, q1]
    · refine (o.row (h.reg i hi) (just_ne (fun e' => e (h.inj i r hi hr e')))).congr (fun j hj => ?_)
      simp [MS.put, e]
  · intro e
    subst e
    rcases h.ev.2 with ⟨h0, _⟩ | ⟨g', cap', cur, h0, _, hg', _⟩
    · replace hb : (Value.slice A M.es.length cap).ownBlock = some (bl r) := hb
      rw [h0] at hb; simp [Value.ownBlock] at hb
    · replace hb : (Value.slice A M.es.length cap).ownBlock = some (bl r) := hb
      rw [h0] at hb
      simp only [Value.ownBlock, Option.some.injEq] at hb
      obtain ⟨c', hc', _, _⟩ := h.reg r hr
      rw [hb, hc'] at hg'
      injection hg' with hg'
      injection hg' with _ ht
      exact absurd ht (by decide)
end Go.Proofs.YtmageeohnfomnaaGreat

