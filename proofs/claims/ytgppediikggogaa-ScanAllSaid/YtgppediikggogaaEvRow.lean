/- A row of events of the call's own that grows: told whole. -/
import Derived.Test.YtgppediikggogaaLawCell
import Derived.Test.YtgppediikggogaaAppend
namespace Go.Proofs.Ytgppediikggogaa
open Go.RowKit Go.ChangeShapes Go.WideShapes Go.ChangeAt

theorem ievs_one (l : List IEv) : ∀ u ∈ ievs l, u.oneCell' = true := by
  intro u hu
  obtain ⟨e, _, he⟩ := List.mem_flatMap.1 hu
  simp only [ievc, List.mem_cons, List.not_mem_nil, or_false] at he
  rcases he with rfl | rfl | rfl <;> rfl
theorem ievs_new (W : World) (t : TypeId) (l : List IEv) {b : Nat} (hb : b = W.heap.size) : ∀ j u, (ievs l)[j]? = some u → (W.alloc (.cells (ievs l).toArray t)).cell? ((⟨b, 0, none⟩ : Addr).add j) = some u := by
  subst hb
  intro j u h
  have hb := Box.new W t (ievs l).toArray
  have := hb.cell j
  rw [add_plain, Nat.zero_add, this, List.getElem?_toArray]
  exact h
/-- The events so far lie in a row of the call's own. -/
structure EvAt (w1 : World) (v : Value) (l : List IEv) (wr : World) : Prop where
  own : wr.ownsRow w1.heap.size 54 3 v l.length (ievs l)
  below : Below w1.heap.size w1 wr
theorem EvAt.nil (w : World) : EvAt w (.slice none 0 0) [] w := ⟨World.ownsRow_nil _ _ _ _, Below.refl _ _⟩
theorem EvAt.next {w1 : World} {v : Value} {l m : List IEv} {A : Option Addr} {cap : Nat} {t : TypeId} {wr wx w7 : World} (h : EvAt w1 v l wr) (hx : Below wr.heap.size wr wx)
    (ho : w7.ownsRow w1.heap.size 54 3 (.slice A (l.length + m.length) cap) (l.length + m.length) (ievs l ++ ievs m)) (hg : (wx.alloc (.cells (ievs m).toArray t)).grownBy w7 v.ownBlock) :
    EvAt w1 (.slice A (l.length + m.length) cap) (l ++ m) w7 := by
  constructor
  · rw [List.length_append, ievs_append]
    exact ho
  · have hb : Below w1.heap.size w1 wx := h.below.trans (hx.mono h.below.size)
    refine (hb.alloc hb.size _).grown hg (by have := hb.size; simp; omega) (fun b e => ?_)
    rcases h.own.2 with ⟨rfl, _⟩ | ⟨g, cap, cur, rfl, hb, _⟩
    · simp [Value.ownBlock] at e
    · obtain rfl : g = b := by simpa [Value.ownBlock] using e
      exact hb
/-- Behind a function that tells events. -/
def EvPost (w : World) (l : List IEv) (e : Ending) (w' : World) : Prop := ∃ A cap, e = .returned (.slice A l.length cap) ∧ IView w' A l ∧ Only nobody w w'
theorem ev_done {w w1 wr : World} {v : Value} {l : List IEv} (h : EvAt w1 v l wr) (hb : Below w.heap.size w w1) : EvPost w l (.returned v) wr := by
  have ho : Only nobody w wr := Only.of_below (hb.trans (h.below.mono hb.size))
  have h' := h.own
  rcases h.own.2 with ⟨rfl, h0⟩ | ⟨g, cap, cur, rfl, _, hg, _⟩
  · exact ⟨none, 0, by rw [h0], fun hl => absurd (List.eq_nil_of_length_eq_zero h0) hl, ho⟩
  · refine ⟨_, cap, rfl, fun _ => ⟨g, 0, rfl, fun j u hu => ?_⟩, ho⟩
    have := h'.cells (g := g) rfl j u hu
    rwa [add_plain] at this
end Go.Proofs.Ytgppediikggogaa
