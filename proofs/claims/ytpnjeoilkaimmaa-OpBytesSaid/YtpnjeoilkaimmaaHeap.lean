/- Words for memory that calls make and write: which blocks may have turned, a block that is known whole, a slice of numbers that came in. Plain facts; no program is named here. -/
import Derived.WalkKit
import Derived.RowKit3
import Derived.Below
import Derived.Deep.Draws
import Derived.Deep.OwnRows
import Derived.SizedLaws
import Derived.ChangeSlices
import Derived.ProofKit
import Derived.OpenShut
import Derived.Lib.Hide
namespace Go.Proofs.Ytpnjeoilkaimmaa
open Go.RowKit Go.ChangeShapes Go.WideShapes Go.ChangeAt

/-- From w to w' no block that was there has turned but those of S; none has gone. -/
structure Only (S : Nat → Prop) (w w' : World) : Prop where
  os : w'.os = w.os
  tape : w'.tape = w.tape
  output : w'.output = w.output
  size : w.heap.size ≤ w'.heap.size
  block : ∀ k, k < w.heap.size → ¬ S k → w'.heap[k]? = w.heap[k]?
def nobody : Nat → Prop := fun _ => False
def just (p : Nat) : Nat → Prop := fun k => k = p
theorem just_self (p : Nat) : just p p := rfl
theorem just_ne {p k : Nat} (h : k ≠ p) : ¬ just p k := h
theorem not_nobody (k : Nat) : ¬ nobody k := fun h => h

section
variable {S T : Nat → Prop} {a b c w w' : World}
theorem Only.refl (S : Nat → Prop) (w : World) : Only S w w := ⟨rfl, rfl, rfl, Nat.le_refl _, fun _ _ _ => rfl⟩
theorem Only.mono (h : Only S w w') (hs : ∀ k, k < w.heap.size → S k → T k) : Only T w w' := ⟨h.os, h.tape, h.output, h.size, fun k hk hn => h.block k hk fun e => hn (hs k hk e)⟩
theorem Only.trans (h : Only S a b) (k : Only S b c) : Only S a c :=
  ⟨k.os.trans h.os, k.tape.trans h.tape, k.output.trans h.output, Nat.le_trans h.size k.size, fun i hi hn => (k.block i (Nat.lt_of_lt_of_le hi h.size) hn).trans (h.block i hi hn)⟩
/-- Behind a step that turns blocks of T alone, each of them one of S or new. -/
theorem Only.then (h : Only S a b) (k : Only T b c) (hs : ∀ i, T i → S i ∨ a.heap.size ≤ i) : Only S a c :=
  ⟨k.os.trans h.os, k.tape.trans h.tape, k.output.trans h.output, Nat.le_trans h.size k.size, fun i hi hn =>
    (k.block i (Nat.lt_of_lt_of_le hi h.size) (fun e => (hs i e).elim hn (fun h => by omega))).trans (h.block i hi hn)⟩
theorem Only.drew (h : Only S a w) : Only S a w.drew := ⟨h.os, h.tape, h.output, h.size, h.block⟩
theorem Only.drewN (h : Only S a w) (n : Nat) : Only S a (w.drewN n) := ⟨h.os, h.tape, h.output, h.size, h.block⟩
theorem Only.alloc (h : Only S a w) (o : Obj) : Only S a (w.alloc o) :=
  ⟨h.os, h.tape, h.output, Nat.le_trans h.size (by simp), fun k hk hn => (Below.heap_alloc w o k (Nat.lt_of_lt_of_le hk h.size)).trans (h.block k hk hn)⟩
theorem Only.setCell (h : Only S a w) {p : Addr} (hp : S p.block ∨ a.heap.size ≤ p.block) (v : Value) : Only S a (w.setCell p v) :=
  ⟨h.os, h.tape, h.output, by simpa [World.setCell] using h.size, fun k hk hn => (Below.heap_setCell w p v k (by
    rintro rfl
    exact hp.elim hn (fun h => by omega))).trans (h.block k hk hn)⟩
theorem Only.of_below (h : Below a.heap.size a w) : Only S a w := ⟨h.os, h.tape, h.output, h.size, fun k hk _ => h.block k hk⟩
theorem Only.grown {row : Option Nat} (h : Only S a w) (hg : w.grownBy w' row) (hr : ∀ k, row = some k → S k ∨ a.heap.size ≤ k) : Only S a w' :=
  ⟨hg.os.trans h.os, hg.tape.trans h.tape, hg.output.trans h.output, Nat.le_trans h.size hg.size, fun i hi hn =>
    (hg.block i (Nat.lt_of_lt_of_le hi h.size) (fun e => (hr i e.symm).elim hn (fun h => by omega))).trans (h.block i hi hn)⟩
theorem Only.below (h : Only S w w') {B : Nat} (hB : B ≤ w.heap.size) (hs : ∀ k, k < B → ¬ S k) : Below B w w' := ⟨h.os, h.tape, h.output, h.size, fun k hk => h.block k (Nat.lt_of_lt_of_le hk hB) (hs k hk)⟩
theorem Only.none (h : Only nobody w w') : Below w.heap.size w w' := h.below (Nat.le_refl _) fun _ _ h => h
/-- Below B nothing turns where a step turns blocks from B on alone. -/
theorem below_only {B : Nat} (h : Below B a w) (k : Only S w w') (hB : B ≤ w.heap.size) (hs : ∀ i, i < B → ¬ S i) : Below B a w' := h.trans (k.below hB hs)
theorem Only.row (h : Only S w w') {g : Nat} {t : TypeId} {n : Nat} {f : Nat → Value} (hr : w.rowIs g t n f) (hs : ¬ S g) : w'.rowIs g t n f := hr.of_block (h.block g hr.lt hs)
end

theorem only_setCells {S : Nat → Prop} {a : World} {b : Nat} : ∀ (vs : List Value) (o : Nat) (w : World), Only S a w → (S b ∨ a.heap.size ≤ b) → Only S a (w.setCells b o vs)
  | [], _, _, h, _ => h
  | v :: vs, o, _, h, hb => only_setCells vs (o + 1) _ (h.setCell (p := ⟨b, o, none⟩) hb v) hb
theorem row_drewN {w : World} {b : Nat} {t : TypeId} {n : Nat} {f : Nat → Value} (h : w.rowIs b t n f) (k : Nat) : (w.drewN k).rowIs b t n f := h
theorem below_drewN {B : Nat} {a w : World} (h : Below B a w) (n : Nat) : Below B a (w.drewN n) := ⟨h.os, h.tape, h.output, h.size, h.block⟩

/-- A block that is known whole; no cell of it is frozen. -/
def Box (w : World) (p : Nat) (t : TypeId) (cs : Array Value) : Prop := w.heap[p]? = some (.cells cs t (0, 0))
section
variable {w w' : World} {p : Nat} {t : TypeId} {cs : Array Value}
theorem Box.lt (h : Box w p t cs) : p < w.heap.size := (Array.getElem?_eq_some_iff.1 h).1
theorem Box.cell (h : Box w p t cs) (i : Nat) : w.cell? ⟨p, i, none⟩ = cs[i]? := by unfold Box at h; simp [World.cell?, h]
theorem Box.frozen (h : Box w p t cs) (i : Nat) : w.frozen? ⟨p, i, none⟩ = false := by unfold Box at h; simp [World.frozen?, h]
theorem Box.new (w : World) (t : TypeId) (cs : Array Value) : Box (w.alloc (.cells cs t)) w.heap.size t cs := Go.Deep.blk_alloc_new _ _
theorem Box.of (h : Box w p t cs) (e : w'.heap[p]? = w.heap[p]?) : Box w' p t cs := e.trans h
theorem Box.alloc (h : Box w p t cs) (o : Obj) : Box (w.alloc o) p t cs := h.of (Below.heap_alloc w o p h.lt)
theorem Box.put (h : Box w p t cs) (i : Nat) (v : Value) : Box (w.setCell ⟨p, i, none⟩ v) p t (cs.setIfInBounds i v) := by
  unfold Box at h ⊢
  simp [World.setCell, Array.getElem?_modify, h]
theorem Box.far (h : Box w p t cs) {a : Addr} (ha : p ≠ a.block) (v : Value) : Box (w.setCell a v) p t cs := h.of (Below.heap_setCell w a v p ha)
theorem Box.only {S : Nat → Prop} (h : Box w p t cs) (k : Only S w w') (hs : ¬ S p) : Box w' p t cs := h.of (k.block p h.lt hs)
theorem Box.drewN (h : Box w p t cs) (n : Nat) : Box (w.drewN n) p t cs := h
theorem Box.ne {q : Nat} {t' : TypeId} {cs' : Array Value} (h : Box w p t cs) (h' : Box w q t' cs') (hne : t ≠ t') : p ≠ q := by
  rintro rfl
  unfold Box at h h'
  rw [h] at h'
  injection h' with h'
  injection h' with _ ht
  exact hne ht
theorem Box.row_ne {q : Nat} {t' : TypeId} {n : Nat} {f : Nat → Value} (h : Box w p t cs) (h' : w.rowIs q t' n f) (hne : t ≠ t') : p ≠ q := by
  obtain ⟨c, hc, _, _⟩ := h'
  exact Box.ne (cs' := c) h hc hne
end

/-- A slice of numbers: where it has elements it lies below block B, and its cells hold the numbers z. -/
def Nums (k : IntKind) (w : World) (B : Nat) (a : Option Addr) (n : Nat) (z : Nat → Int) : Prop :=
  0 < n → ∃ b off, a = some ⟨b, off, none⟩ ∧ b < B ∧ ∀ j, j < n → w.cell? ⟨b, off + j, none⟩ = some (.int k (z j))
section
variable {k : IntKind} {w w' : World} {B B' : Nat} {a : Option Addr} {n : Nat} {z : Nat → Int}
theorem Nums.below (h : Nums k w B a n z) (hb : Below B w w') : Nums k w' B a n z := fun hn => by
  obtain ⟨b, off, e, hB, hc⟩ := h hn
  exact ⟨b, off, e, hB, fun j hj => (hb.cell (p := ⟨b, off + j, none⟩) hB).trans (hc j hj)⟩
theorem Nums.more (h : Nums k w B a n z) (hB : B ≤ B') : Nums k w B' a n z := fun hn => by
  obtain ⟨b, off, e, hb, hc⟩ := h hn
  exact ⟨b, off, e, by omega, hc⟩
/-- The address, whatever it is where there is no element. -/
theorem Nums.at (h : Nums k w B a n z) {j : Nat} (hj : j < n) : ∃ b off, a = some ⟨b, off, none⟩ ∧ b < B ∧ w.cell? ⟨b, off + j, none⟩ = some (.int k (z j)) := by
  obtain ⟨b, off, e, hb, hc⟩ := h (by omega)
  exact ⟨b, off, e, hb, hc j hj⟩
theorem Nums.of_row {g : Nat} {t : TypeId} {m : Nat} (h : w.rowIs g t m (fun i => .int k (z i))) (hn : n ≤ m) : Nums k w w.heap.size (some ⟨g, 0, none⟩) n z := fun _ =>
  ⟨g, 0, rfl, h.lt, fun j hj => by rw [Nat.zero_add]; exact h.cell (by omega)⟩
end

/-- An argument that is a slice of numbers, opened: nil let in. -/
theorem open_nums {H : Type} {enc : TypeId × Value → H} {P : Program} {W : World} {base : Nat} {t e : TypeId} {k : IntKind} {v : Value} {d : DataW H} {p : List MemPlace} {ts : List TypeId} {ds : List (DataW H)} {j bytes : Nat}
    (ht : P.underlying t = some (.slice e)) (he : P.underlying e = some (.int k)) (hc : P.cellsOf e = 1) (hby : P.bytesOf e = bytes)
    (hv : Value.okWide P W .any base t v) (h : DataW.Trod enc P W 0 (fun _ => true) true t v d p) (hlt : ∀ x ∈ p, x.block < W.heap.size)
    (hsz : (DataW.weightsEach P ts ds).all (· ≤ reachBytes) = true) (htj : ts[j]? = some t) (hdj : ds[j]? = some d) :
    ∃ (a : Option Addr) (n cap : Nat) (z : Nat → Int), v = .slice a n cap ∧ n ≤ cap ∧ n ≤ 9223372036854775807 ∧ n * bytes ≤ 140737488351232 ∧ Nums k W W.heap.size a n z ∧ (∀ j, j < n → (Lit.int k (z j)).wf = true) ∧ (a = none → n = 0 ∧ cap = 0) := by
  obtain ⟨a, n, cap, rfl⟩ := okWide_slice ht hv
  obtain ⟨fuel, hf⟩ := h
  rcases open_ints ht he hc hf with ⟨hcs, _⟩ | ⟨ad, len', cap', zs, hcs, _, hl, hm, hz, hx, hcell, hwz⟩
  · simp [Value.cells] at hcs
    obtain ⟨rfl, rfl, rfl⟩ := hcs
    exact ⟨none, 0, 0, fun _ => 0, rfl, Nat.le_refl _, by omega, by omega, fun h => absurd h (by omega), fun j hj => absurd hj (by omega), fun _ => ⟨rfl, rfl⟩⟩
  · simp [Value.cells] at hcs
    obtain ⟨rfl, rfl, rfl⟩ := hcs
    simp only [Prod.mk.injEq] at hx
    obtain ⟨rfl, rfl⟩ := hx
    simp only [if_true] at hz
    have hs := sized_slice hsz htj hdj ht
    rw [hby] at hs
    simp only [lits, List.length_map, List.length_take, List.length_drop, reachBytes] at hs
    have hs' : (min n zs.length + (zs.length - n)) = cap := by omega
    rw [hs'] at hs
    have hnb : n * bytes ≤ cap * bytes := Nat.mul_le_mul_right _ hl
    refine ⟨_, n, cap, fun i => zs.getD i 0, rfl, hl, by unfold maxLen at hm; omega, by omega, fun hn => ?_, fun j hj => ?_, fun h => by cases h⟩
    · obtain ⟨b, off, spot⟩ := ad
      have hspot : spot = none := by simpa [Addr.add] using World.cell?_spot (hcell 0 (by omega))
      subst hspot
      refine ⟨b, off, rfl, hlt (.cell b off) (MemPlace.mem_row.2 ⟨0, by omega, by simp⟩), fun j hj => ?_⟩
      rw [← add_plain]
      exact hcell j (by omega)
    · apply hwz
      show zs.getD j 0 ∈ zs
      rw [List.getD_eq_getElem?_getD, List.getElem?_eq_getElem (by omega)]
      exact List.getElem_mem _
end Go.Proofs.Ytpnjeoilkaimmaa
