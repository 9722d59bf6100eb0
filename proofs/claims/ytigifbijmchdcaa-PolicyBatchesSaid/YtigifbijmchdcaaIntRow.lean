/- A row of numbers of the call's own that grows, told whole; what it is behind the call. -/
import Derived.Test.YtigifbijmchdcaaAppend
import Derived.Test.YtigifbijmchdcaaProg
namespace Go.Proofs.Ytigifbijmchdcaa
open Go.RowKit Go.ChangeShapes Go.WideShapes Go.ChangeAt

/-- Numbers as cells. -/
def irow (l : List Int) : List Value := l.map (fun x => .int .i64 x)
theorem irow_len (l : List Int) : (irow l).length = l.length := by simp [irow]
theorem irow_append (l m : List Int) : irow (l ++ m) = irow l ++ irow m := by simp [irow]
theorem irow_one (l : List Int) : ∀ u ∈ irow l, u.oneCell' = true := by
  intro u hu
  obtain ⟨e, _, rfl⟩ := List.mem_map.1 hu
  rfl
theorem irow_at (l : List Int) (i : Nat) (h : i < l.length) : (irow l)[i]? = some (.int .i64 l[i]) := by simp [irow, h]
theorem irow_new (W : World) (t : TypeId) (l : List Int) {b : Nat} (hb : b = W.heap.size) : ∀ j u, (irow l)[j]? = some u → (W.alloc (.cells (irow l).toArray t)).cell? ((⟨b, 0, none⟩ : Addr).add j) = some u := by
  subst hb
  intro j u h
  have hb := Box.new W t (irow l).toArray
  have := hb.cell j
  rw [add_plain, Nat.zero_add, this, List.getElem?_toArray]
  exact h
theorem infoI64 : (Try.prog.info? 3).map (fun i => (i.zero, i.size, i.bytes)) = some (some (.int .i64 0), 1, 8) := by kernel_rfl
/-- The numbers so far lie in a row of the call's own. -/
structure IrAt (w1 : World) (v : Value) (l : List Int) (wr : World) : Prop where
  own : wr.ownsRow w1.heap.size 3 1 v l.length (irow l)
  below : Below w1.heap.size w1 wr
theorem IrAt.nil (w : World) : IrAt w (.slice none 0 0) [] w := ⟨World.ownsRow_nil _ _ _ _, Below.refl _ _⟩
theorem IrAt.next {w1 : World} {v : Value} {l m : List Int} {A : Option Addr} {cap : Nat} {t : TypeId} {wr wx w7 : World} (h : IrAt w1 v l wr) (hx : Below wr.heap.size wr wx)
    (ho : w7.ownsRow w1.heap.size 3 1 (.slice A (l.length + m.length) cap) (l.length + m.length) (irow l ++ irow m)) (hg : (wx.alloc (.cells (irow m).toArray t)).grownBy w7 v.ownBlock) :
    IrAt w1 (.slice A (l.length + m.length) cap) (l ++ m) w7 := by
  constructor
  · rw [List.length_append, irow_append]
    exact ho
  · have hb : Below w1.heap.size w1 wx := h.below.trans (hx.mono h.below.size)
    refine (hb.alloc hb.size _).grown hg (by have := hb.size; simp; omega) (fun b e => ?_)
    rcases h.own.2 with ⟨rfl, _⟩ | ⟨g, cap, cur, rfl, hb, _⟩
    · simp [Value.ownBlock] at e
    · obtain rfl : g = b := by simpa [Value.ownBlock] using e
      exact hb
/-- A slice of numbers of the call's own: block g, which is new since base. -/
structure Ir (w : World) (base g n : Nat) (z : Nat → Int) : Prop where
  old : base ≤ g
  lt : g < w.heap.size
  cell : ∀ j, j < n → w.cell? ⟨g, j, none⟩ = some (.int .i64 (z j))
section
variable {w w' : World} {base g n : Nat} {z : Nat → Int}
theorem Ir.block (h : Ir w base g n z) (hs : w.heap.size ≤ w'.heap.size) (hb : w'.heap[g]? = w.heap[g]?) : Ir w' base g n z :=
  ⟨h.old, Nat.lt_of_lt_of_le h.lt hs, fun j hj => (World.cell?_of_block (w := w) hb).trans (h.cell j hj)⟩
theorem Ir.below {B : Nat} (h : Ir w base g n z) (hb : Below B w w') (hB : w.heap.size ≤ B) : Ir w' base g n z := h.block hb.size (hb.block g (Nat.lt_of_lt_of_le h.lt hB))
theorem Ir.alloc (h : Ir w base g n z) (o : Obj) : Ir (w.alloc o) base g n z := h.block (by simp) (Below.heap_alloc w o g h.lt)
theorem Ir.far (h : Ir w base g n z) {a : Addr} (ha : g ≠ a.block) (v : Value) : Ir (w.setCell a v) base g n z := h.block (by simp [World.setCell]) (Below.heap_setCell w a v g ha)
theorem Ir.drewN (h : Ir w base g n z) (k : Nat) : Ir (w.drewN k) base g n z := h.block (Nat.le_refl _) rfl
theorem Ir.nums (h : Ir w base g n z) {m : Nat} (hm : m ≤ n) : Nums .i64 w w.heap.size (some ⟨g, 0, none⟩) m z := fun _ => ⟨g, 0, rfl, h.lt, fun j hj => by rw [Nat.zero_add]; exact h.cell j (by omega)⟩
end
theorem IrAt.out {w wr : World} {v : Value} {l : List Int} (h : IrAt w v l wr) (hl : 0 < l.length) (z : Nat → Int) (hz : ∀ j, (hj : j < l.length) → l[j] = z j) :
    ∃ g cap, v = .slice (some ⟨g, 0, none⟩) l.length cap ∧ l.length ≤ cap ∧ Ir wr w.heap.size g l.length z := by
  have h' := h.own
  rcases h.own.2 with ⟨rfl, h0⟩ | ⟨g, cap, cur, rfl, hb, hg, hn, _⟩
  · omega
  · refine ⟨g, cap, rfl, hn, hb, (Array.getElem?_eq_some_iff.1 hg).1, fun j hj => ?_⟩
    have := h'.cells (g := g) rfl j _ (irow_at l j hj)
    rw [add_plain, Nat.zero_add, hz j hj] at this
    exact this
end Go.Proofs.Ytigifbijmchdcaa
