/- Texts of ours put together: MemDuo. -/
import Derived.Deep.Slices
import Derived.Deep.Fields
import Derived.ChangeSame
import Derived.Test.YtdbjaaalngbpgaaGreatG20
/- Two memories side by side, and slices of looks that came in. -/
namespace Go.Proofs.YtdbjaaalngbpgaaGreat
set_option maxRecDepth 100000
open Go.RowKit Go.ChangeShapes Go.WideShapes Go.ChangeAt Go.Deep

/-- Two memories that share no block, and none of X. -/
def Duo (w : World) (X : Nat → Prop) (p : Nat) (M : MS) (q : Nat) (N : MS) : Prop := ∃ G, Own w (fun i => X i ∨ G i) p M ∧ Mm w q G N ∧ ∀ i, G i → ¬ X i
section
variable {w w' : World} {X Y : Nat → Prop} {p q : Nat} {M N : MS}
theorem Duo.swap (h : Duo w X p M q N) : Duo w X q N p M := by
  obtain ⟨G, ⟨F, hm, hF, hX⟩, hn, hG⟩ := h
  refine ⟨F, ⟨G, hn, fun i hi k => ?_, fun i hi => ?_⟩, hm, fun i hi k => hF i hi (.inl k)⟩
  · rcases k with k | k
    · exact hG i hi k
    · exact hF i k (.inr hi)
  · rcases hi with hi | hi
    · exact hX i (.inl hi)
    · exact hm.lt i hi
theorem Duo.left (h : Duo w X p M q N) : Own w X p M := by
  obtain ⟨G, ho, _⟩ := h
  exact ho.weak fun _ h => .inl h
theorem Duo.right (h : Duo w X p M q N) : Own w X q N := h.swap.left
theorem Duo.weak (h : Duo w X p M q N) (hs : ∀ i, Y i → X i) : Duo w Y p M q N := by
  obtain ⟨G, ho, hn, hG⟩ := h
  exact ⟨G, ho.weak (fun i h => h.imp (hs i) id), hn, fun i hi k => hG i hi (hs i k)⟩
theorem Duo.grow (h : Duo w X p M q N) (ho : Only nobody w w') : Duo w' (fun i => X i ∨ (w.heap.size ≤ i ∧ i < w'.heap.size)) p M q N := by
  obtain ⟨G, hO, hn, hG⟩ := h
  refine ⟨G, (hO.grow ho).weak (fun i h => ?_), hn.only ho (fun _ _ => not_nobody _), fun i hi k => ?_⟩
  · rcases h with (h | h) | h
    · exact .inl (.inl h)
    · exact .inr h
    · exact .inl (.inr h)
  · rcases k with k | k
    · exact hG i hi k
    · have := hn.lt i hi; omega
theorem Duo.none (h : Duo w X p M q N) (ho : Only nobody w w') : Duo w' X p M q N := (h.grow ho).weak (fun _ h => .inl h)
theorem Duo.drewN (h : Duo w X p M q N) (n : Nat) : Duo (w.drewN n) X p M q N := h.none ((Only.refl _ w).drewN n)
theorem Duo.alloc (h : Duo w X p M q N) (o : Obj) : Duo (w.alloc o) (fun i => X i ∨ i = w.heap.size) p M q N := (h.grow ((Only.refl _ w).alloc o)).weak (fun i h => h.imp id (fun h => by subst h; simp))
theorem duo_done {v : Value} {e : Ending} {M' : MS} {G : Nat → Prop} (hn : Mm w q G N) (hG : ∀ i, G i → ¬ X i) (h : OwnPost w (fun i => X i ∨ G i) p M' v e w') : e = .returned v ∧ Duo w' X p M' q N ∧ Kept X w w' := by
  obtain ⟨he, ho, hk⟩ := h
  exact ⟨he, ⟨G, ho, hn.only hk (fun i hi k => k (.inr hi)), hG⟩, hk.mono (fun i h => .inl h)⟩
end
/-- Behind a call that looks at the first of two memories. -/
def DuoPost (w : World) (X : Nat → Prop) (p : Nat) (M : MS) (q : Nat) (N : MS) (v : Value) (e : Ending) (w' : World) : Prop := e = .returned v ∧ Duo w' X p M q N ∧ Kept X w w'
section
variable (X : Nat → Prop) (p q : Nat) (M N : MS) (w : World)
theorem duo_read (r a : Int) (h : Duo w X p M q N) (hl : M.es.length < 1000000000) :
    Calls Tryz.prog 28 #[.pointer (some ⟨p, 0, none⟩), .int .i64 r, .int .i64 a] w (DuoPost w X p (M.read r a) q N (.agg (CA (M.cell r a)))) := by
  obtain ⟨G, ho, hn, hG⟩ := h
  exact (own_read _ p M w r a ho hl).mono fun e w' h => duo_done hn hG h
theorem duo_write (r a : Int) (f : Nat → Int) (h : Duo w X p M q N) (hl : M.es.length < 1000000000) :
    Calls Tryz.prog 84 #[.pointer (some ⟨p, 0, none⟩), .int .i64 r, .int .i64 a, .agg (CA f)] w (DuoPost w X p (M.write r a f) q N (.tuple #[])) := by
  obtain ⟨G, ho, hn, hG⟩ := h
  exact (own_write _ p M w r a f ho hl).mono fun e w' h => duo_done hn hG h
end
/-- A second memory beside a first one. -/
theorem duo_new {w w' : World} {X : Nat → Prop} {p q : Nat} {M N : MS} (h : Own w X p M) (ho : Only nobody w w') (hn : Own w' (old w) q N) : Duo w' X p M q N := by
  obtain ⟨F, hm, hF, hX⟩ := h
  obtain ⟨G, hq, hG, _⟩ := hn
  refine ⟨G, ⟨F, hm.only ho (fun _ _ => not_nobody _), fun i hi k => ?_, fun i hi => ?_⟩, hq, fun i hi k => hG i hi (hX i k)⟩
  · rcases k with k | k
    · exact hF i hi k
    · exact hG i k (hm.lt i hi)
  · rcases hi with hi | hi
    · exact Nat.lt_of_lt_of_le (hX i hi) ho.size
    · exact hq.lt i hi

/-- A look: region, place, number, is it written. -/
abbrev Lk := Int × Int × Int × Bool
def lkc (x : Lk) : Array Value := #[.int .i64 x.1, .int .i64 x.2.1, .int .u64 x.2.2.1, .bool x.2.2.2]
/-- A slice of looks that came in. -/
def Looks (w : World) (B : Nat) (a : Option Addr) (n : Nat) (x : Nat → Lk) : Prop :=
  0 < n → ∃ b off, a = some ⟨b, off, none⟩ ∧ b < B ∧ ∀ j, j < n → w.rangeAt b (off + j * 4) (lkc (x j)).toList
theorem Looks.below {w w' : World} {B : Nat} {a : Option Addr} {n : Nat} {x : Nat → Lk} (h : Looks w B a n x) (hb : Below B w w') : Looks w' B a n x := fun hn => by
  obtain ⟨b, off, e, hB, hc⟩ := h hn
  exact ⟨b, off, e, hB, fun j hj i v hv => (hb.cell (p := ⟨b, off + j * 4 + i, none⟩) hB).trans (hc j hj i v hv)⟩
theorem Looks.at {w w' : World} {B : Nat} {a : Option Addr} {n : Nat} {x : Nat → Lk} (h : Looks w B a n x) (hb : Below B w w') {j : Nat} (hj : j < n) : ∃ b off, a = some ⟨b, off, none⟩ ∧ w'.rangeAt b (off + j * 4) (lkc (x j)).toList := by
  obtain ⟨b, off, e, hB, hc⟩ := h.below hb (by omega)
  exact ⟨b, off, e, hc j hj⟩
theorem lk_cells {w : World} {b o : Nat} {x : Lk} (h : w.rangeAt b o (lkc x).toList) : w.cell? ⟨b, o, none⟩ = some (.int .i64 x.1) ∧ w.cell? ⟨b, o + 1, none⟩ = some (.int .i64 x.2.1) ∧ w.cell? ⟨b, o + 2, none⟩ = some (.int .u64 x.2.2.1) ∧ w.cell? ⟨b, o + 3, none⟩ = some (.bool x.2.2.2) :=
  ⟨h 0 _ rfl, h 1 _ rfl, h 2 _ rfl, h 3 _ rfl⟩
/-- What stands while a round is walked: what came in, and the look's own cells. -/
def Rd (W : World) (xb : Nat) (x : Lk) (w' : World) : Prop := Kept (old W) W w' ∧ w'.cell? ⟨xb, 0, none⟩ = some (.int .i64 x.1) ∧ w'.cell? ⟨xb, 1, none⟩ = some (.int .i64 x.2.1) ∧ w'.cell? ⟨xb, 2, none⟩ = some (.int .u64 x.2.2.1)
section
variable {W w1 w2 : World} {X : Nat → Prop} {xb : Nat} {x : Lk}
theorem Rd.kept (h : Rd W xb x w1) (hk : Kept X w1 w2) (hx : X xb) (hX : ∀ i, old W i → X i) : Rd W xb x w2 :=
  ⟨h.1.trans (hk.mono hX), hk.cell h.2.1 hx, hk.cell h.2.2.1 hx, hk.cell h.2.2.2 hx⟩
theorem Rd.none (h : Rd W xb x w1) (ho : Only nobody w1 w2) : Rd W xb x w2 :=
  have hk : Kept (fun i => i = xb) w1 w2 := Kept.of_none ho
  ⟨h.1.trans (Kept.of_none ho), hk.cell h.2.1 rfl, hk.cell h.2.2.1 rfl, hk.cell h.2.2.2 rfl⟩
theorem Rd.new (h : Kept (old W) W w1) (x : Lk) (t : TypeId) : Rd W w1.heap.size x (w1.alloc (.cells #[.int .i64 x.1, .int .i64 x.2.1, .int .u64 x.2.2.1, .bool x.2.2.2] t)) :=
  have hb := Box.new w1 t #[.int .i64 x.1, .int .i64 x.2.1, .int .u64 x.2.2.1, .bool x.2.2.2]
  ⟨h.alloc _, hb.cell 0, hb.cell 1, hb.cell 2⟩
end
end Go.Proofs.YtdbjaaalngbpgaaGreat
