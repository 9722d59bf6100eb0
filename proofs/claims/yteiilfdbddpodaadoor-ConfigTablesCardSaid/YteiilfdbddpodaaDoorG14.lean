/- Texts of ours put together: MemAbs. -/
import Derived.Test.YteiilfdbddpodaaDoorProg
import Derived.Laws.AppendOwn
import Derived.Deep.MidRow
import Derived.Test.YteiilfdbddpodaaDoorG3
import Derived.Test.YteiilfdbddpodaaDoorG12
/- A watched memory as it lies in the model's memory: its struct, its rows of cells, its events; which blocks are its own. Plain facts about that form; no function is called here. -/
namespace Go.Proofs.YteiilfdbddpodaaDoor
set_option maxRecDepth 100000
open Go.RowKit Go.ChangeShapes Go.WideShapes Go.ChangeAt

/-- An event: region, place, was it written. -/
abbrev Ev := Nat × Nat × Bool
def evc (e : Ev) : List Value := [.int .i64 (e.1 : Nat), .int .i64 (e.2.1 : Nat), .bool e.2.2]
def evs : List Ev → List Value
  | [] => []
  | e :: l => evc e ++ evs l
theorem evs_len : ∀ l : List Ev, (evs l).length = l.length * 3
  | [] => rfl
  | e :: l => by simp [evs, evc, evs_len l]; omega
theorem evs_append : ∀ l m : List Ev, evs (l ++ m) = evs l ++ evs m
  | [], m => rfl
  | e :: l, m => by simp [evs, evs_append l m]
theorem evs_one : ∀ (l : List Ev), ∀ v ∈ evs l, v.oneCell' = true
  | [], v, h => by simp [evs] at h
  | e :: l, v, h => by
    simp only [evs, List.mem_append] at h
    rcases h with h | h
    · simp [evc] at h
      rcases h with rfl | rfl | rfl <;> rfl
    · exact evs_one l v h
theorem evs_drop : ∀ (l : List Ev) (k : Nat), evs (l.drop k) = (evs l).drop (k * 3)
  | l, 0 => by simp
  | [], k + 1 => by simp [evs]
  | e :: l, k + 1 => by
    rw [List.drop_succ_cons, evs_drop l k]
    have h : (k + 1) * 3 = k * 3 + 3 := by omega
    rw [h]
    simp [evs, evc]
theorem evs_take : ∀ (l : List Ev) (k : Nat), evs (l.take k) = (evs l).take (k * 3)
  | l, 0 => by simp [evs]
  | [], k + 1 => by simp [evs]
  | e :: l, k + 1 => by
    rw [List.take_succ_cons, evs, evs_take l k]
    have h : (k + 1) * 3 = k * 3 + 3 := by omega
    rw [h]
    simp [evs, evc]
theorem evs_at : ∀ (l : List Ev) (i : Nat) (h : i < l.length), (evs l)[3 * i]? = some (.int .i64 (l[i].1 : Nat)) ∧ (evs l)[3 * i + 1]? = some (.int .i64 (l[i].2.1 : Nat)) ∧ (evs l)[3 * i + 2]? = some (.bool l[i].2.2)
  | [], i, h => by simp at h
  | e :: l, 0, _ => by simp [evs, evc]
  | e :: l, i + 1, h => by
    have := evs_at l i (by simpa using h)
    have e3 : 3 * (i + 1) = 3 * i + 3 := by omega
    rw [e3]
    simp only [evs, evc, List.cons_append, List.nil_append, List.getElem_cons_succ]
    rw [show 3 * i + 3 = (3 * i) + 1 + 1 + 1 from rfl, show 3 * i + 1 + 1 + 1 + 1 = (3 * i + 1) + 1 + 1 + 1 from rfl, show 3 * i + 1 + 1 + 1 + 2 = (3 * i + 2) + 1 + 1 + 1 from rfl]
    simp only [List.getElem?_cons_succ]
    exact this

/-- What a memory is: how many regions, their sizes, their cells, the events, was there a fault. -/
structure MS where
  k : Nat
  sz : Nat → Nat
  c : Nat → Nat → Nat → Int
  es : List Ev
  ft : Bool

/-- How many cells a region has, whatever number is asked. -/
def MS.size (M : MS) (r : Int) : Nat := if 0 ≤ r ∧ r < M.k then M.sz r.toNat else 0
/-- Is there such a cell? -/
def MS.hit (M : MS) (r a : Int) : Bool := decide (0 ≤ a ∧ a < M.size r)
def MS.see (M : MS) (r a : Nat) (wr : Bool) : MS := { M with es := M.es ++ [(r, a, wr)] }
def MS.bad (M : MS) : MS := { M with ft := true }
def MS.put (M : MS) (r a : Nat) (f : Nat → Int) : MS := { M with c := fun r' a' => if r' = r ∧ a' = a then f else M.c r' a' }
/-- What Read and Write make of a memory, and what Read tells. -/
def MS.read (M : MS) (r a : Int) : MS := if M.hit r a then M.see r.toNat a.toNat false else M.bad
def MS.write (M : MS) (r a : Int) (f : Nat → Int) : MS := if M.hit r a then (M.see r.toNat a.toNat true).put r.toNat a.toNat f else M.bad
def MS.cell (M : MS) (r a : Int) : Nat → Int := if M.hit r a then M.c r.toNat a.toNat else fun _ => 0

theorem MS.hit_nat {M : MS} {r a : Int} (h : M.hit r a = true) : ∃ r' a' : Nat, r = r' ∧ a = a' ∧ r' < M.k ∧ a' < M.sz r' := by
  have h := of_decide_eq_true h
  unfold MS.size at h
  by_cases hr : 0 ≤ r ∧ r < M.k
  · rw [if_pos hr] at h
    exact ⟨r.toNat, a.toNat, by omega, by omega, by omega, by omega⟩
  · rw [if_neg hr] at h; omega
theorem MS.hit_of {M : MS} {r a : Nat} (hr : r < M.k) (ha : a < M.sz r) : M.hit r a = true := by
  refine decide_eq_true ?_
  unfold MS.size
  rw [if_pos (by omega)]
  simp only [Int.toNat_natCast]; omega
theorem MS.size_nat {M : MS} {r : Nat} (hr : r < M.k) : M.size r = M.sz r := by
  simp only [MS.size]
  rw [if_pos (by omega), Int.toNat_natCast]

section
variable {w w' : World} {p g cap : Nat} {F S : Nat → Prop} {M : MS} {bl : Nat → Nat} {A : Option Addr}
theorem own_block {base : Nat} {e : TypeId} {size n : Nat} {v : Value} {xs : List Value} (h : w.ownsRow base e size v n xs) (k : ∀ b, v.ownBlock = some b → w'.heap[b]? = w.heap[b]?) : w'.ownsRow base e size v n xs := by
  refine ⟨h.1, ?_⟩
  rcases h.2 with hn | ⟨g, cap, cur, rfl, hb, hg, r⟩
  · exact .inl hn
  · exact .inr ⟨g, cap, cur, rfl, hb, (k g rfl).trans hg, r⟩
end

/-- A row of which a part is stored over. -/
theorem row_setCells {b : Nat} {t : TypeId} {n : Nat} : ∀ (vs : List Value) (o : Nat) (w : World) (f : Nat → Value), w.rowIs b t n f →
    (w.setCells b o vs).rowIs b t n (fun j => if h : o ≤ j ∧ j < o + vs.length then vs[j - o]'(by omega) else f j)
  | [], o, w, f, h => h.congr (fun j hj => by rw [dif_neg (by simp)])
  | v :: vs, o, w, f, h => by
    rw [World.setCells]
    refine (row_setCells vs (o + 1) _ _ (h.set o v)).congr (fun j hj => ?_)
    by_cases e : j = o
    · subst e
      rw [dif_neg (by omega), dif_pos (by simp)]
      simp
    · by_cases l : o + 1 ≤ j ∧ j < o + 1 + vs.length
      · rw [dif_pos l, dif_pos (by simp; omega)]
        have h1 : j - o = (j - (o + 1)) + 1 := by omega
        simp only [h1, List.getElem_cons_succ]
      · rw [dif_neg l, dif_neg (by simp; omega)]
        show (if j = o then v else f j) = f j
        rw [if_neg e]
theorem only_setCells {S : Nat → Prop} {a : World} {b : Nat} : ∀ (vs : List Value) (o : Nat) (w : World), Only S a w → (S b ∨ a.heap.size ≤ b) → Only S a (w.setCells b o vs)
  | [], _, _, h, _ => h
  | v :: vs, o, _, h, hb => only_setCells vs (o + 1) _ (h.setCell (p := ⟨b, o, none⟩) hb v) hb

end Go.Proofs.YteiilfdbddpodaaDoor
