/- Deal: where each item goes, and which are lost, in new slices; nothing that was in memory changes. -/
import Derived.Test.YtnpddimepcblkaaDealFill
import Derived.Test.YtnpddimepcblkaaDealOrder
import Derived.Test.YtnpddimepcblkaaDealRepeat
import Derived.Test.YtnpddimepcblkaaDealSel
namespace Go.Proofs.Ytnpddimepcblkaa
open Go.RowKit Go.ChangeShapes Go.WideShapes Go.ChangeAt

theorem row_stay {w w' : World} {base : Nat} {e : TypeId} {size : Nat} {v : Value} {n : Nat} {xs : List Value} (h : w.ownsRow base e size v n xs) (hb : ∀ g, base ≤ g → g < w.heap.size → w'.heap[g]? = w.heap[g]?) : w'.ownsRow base e size v n xs := by
  refine ⟨h.1, ?_⟩
  rcases h.2 with h0 | ⟨g, cap, cur, rfl, h1, h2, h3⟩
  · exact .inl h0
  · exact .inr ⟨g, cap, cur, rfl, h1, (hb g h1 (Array.getElem?_eq_some_iff.1 h2).1).trans h2, h3⟩
theorem asg_snoc : ∀ (R : List Nat) (P : List (Option Nat)) (x : Nat) (p : Option Nat) (j : Nat), R.length = P.length → x ∉ R → asg (R ++ [x]) (P ++ [p]) j = if j = x then p else asg R P j
  | [], [], x, p, j, _, _ => by
    show (if x = j then p else none) = if j = x then p else none
    by_cases e : j = x
    · rw [if_pos e.symm, if_pos e]
    · rw [if_neg (fun h => e h.symm), if_neg e]
  | [], _ :: _, _, _, _, h, _ => by simp at h
  | _ :: _, [], _, _, _, h, _ => by simp at h
  | y :: R, q :: P, x, p, j, h, hx => by
    have hne : y ≠ x := fun e => hx (by rw [e]; exact List.mem_cons_self)
    have ih := asg_snoc R P x p j (by simpa using h) (fun e => hx (List.mem_cons_of_mem _ e))
    show (if y = j then q else asg (R ++ [x]) (P ++ [p]) j) = if j = x then p else (if y = j then q else asg R P j)
    rw [ih]
    by_cases e : y = j
    · subst e; rw [if_pos rfl, if_pos rfl, if_neg hne]
    · rw [if_neg e, if_neg e]
theorem lostL_snoc : ∀ (R : List Nat) (P : List (Option Nat)) (x : Nat) (p : Option Nat), R.length = P.length → lostL (R ++ [x]) (P ++ [p]) = lostL R P ++ (if p.isNone then [x] else [])
  | [], [], x, p, _ => by
    show (if p.isNone then x :: lostL [] [] else lostL [] []) = _
    cases p <;> rfl
  | [], _ :: _, _, _, h => by simp at h
  | _ :: _, [], _, _, h => by simp at h
  | y :: R, q :: P, x, p, h => by
    have ih := lostL_snoc R P x p (by simpa using h)
    show (if q.isNone then y :: lostL (R ++ [x]) (P ++ [p]) else lostL (R ++ [x]) (P ++ [p])) = (if q.isNone then y :: lostL R P else lostL R P) ++ _
    rw [ih]
    split <;> rfl
/-- Of the first ones that are dealt: where each one is. -/
def asgI (R : List Nat) (P : List (Option Nat)) (i : Nat) : Nat → Option Nat := asg (R.take i) (P.take i)
def losI (R : List Nat) (P : List (Option Nat)) (i : Nat) : List Nat := lostL (R.take i) (P.take i)
section
variable {R : List Nat} {P : List (Option Nat)} {i x : Nat} {p : Option Nat}
theorem take_snoc {α : Type} {l : List α} {i : Nat} {x : α} (h : l[i]? = some x) : l.take (i + 1) = l.take i ++ [x] := by
  rw [List.take_add_one, h]; rfl
theorem asgI_succ (hn : R.Nodup) (hl : R.length = P.length) (hx : R[i]? = some x) (hp : P[i]? = some p) (j : Nat) : asgI R P (i + 1) j = if j = x then p else asgI R P i j := by
  unfold asgI
  rw [take_snoc hx, take_snoc hp]
  refine asg_snoc _ _ x p j (by simp [hl]) fun hm => ?_
  obtain ⟨hi, rfl⟩ := List.getElem?_eq_some_iff.1 hx
  obtain ⟨k, hk, e⟩ := List.mem_iff_getElem.1 hm
  rw [List.length_take] at hk
  rw [List.getElem_take] at e
  have := (List.pairwise_iff_getElem.1 hn) k i (by omega) hi (by omega)
  exact this e
theorem losI_succ (hl : R.length = P.length) (hx : R[i]? = some x) (hp : P[i]? = some p) : losI R P (i + 1) = losI R P i ++ (if p.isNone then [x] else []) := by
  unfold losI
  rw [take_snoc hx, take_snoc hp]
  exact lostL_snoc _ _ x p (by simp [hl])
theorem losI_len (i : Nat) : (losI R P i).length ≤ i := by
  have h := (lostL_sub (R.take i) (P.take i)).length_le
  rw [List.length_take] at h
  unfold losI
  omega
end
def ofN (l : List Nat) : List Int := l.map Int.ofNat
theorem ofN_len (l : List Nat) : (ofN l).length = l.length := by simp [ofN]
theorem ofN_snoc (l : List Nat) (x : Nat) : ofN (l ++ [x]) = ofN l ++ [(x : Int)] := by simp [ofN]
/-- The dealer, with so many items dealt. -/
def BxAt (p D S T : Nat) (P : List (Option Nat)) (ds : List Nat) (i : Nat) (wr : World) : Prop :=
  ∃ (lv : Int) (on st r : Nat), Box wr p 47 #[.int .i64 (D : Int), .int .i64 (S : Int), .int .i64 (T : Int), .int .i64 lv, .int .i64 (on : Int), .int .i64 (st : Int)] ∧ LvAt S r lv on ∧ r ≤ (D + 1) * S ∧ st ≤ T ∧ dl S ((D + 1) * S) T r st (ds.drop i) = P.drop i
/-- In the middle of dealing. -/
structure DaAt (w w1 : World) (g p go n : Nat) (o : List Nat) (A : Nat → Option Nat) (v : Value) (l : List Nat) (wr : World) : Prop where
  row : wr.rowIs g 3 n (fun j => .int .i64 (optI (A j)))
  ord : Ir wr w.heap.size go n (fun j => (o.getD j 0 : Nat))
  lost : wr.ownsRow w1.heap.size 3 1 v l.length (irow (ofN l))
  size : w1.heap.size ≤ wr.heap.size
  gs : w.heap.size ≤ g ∧ g < w1.heap.size
  ps : w.heap.size ≤ p ∧ p < w1.heap.size
  os : go < w1.heap.size
  ne : g ≠ p ∧ go ≠ g ∧ go ≠ p
  below : Below w.heap.size w wr
section
variable {w w1 wr wx : World} {g p go n : Nat} {o : List Nat} {A : Nat → Option Nat} {v : Value} {l : List Nat}
theorem DaAt.next (h : DaAt w w1 g p go n o A v l wr) (ho : Only (just p) wr wx) : DaAt w w1 g p go n o A v l wx :=
  ⟨h.row.of_block (ho.block g h.row.lt h.ne.1), h.ord.block ho.size (ho.block go h.ord.lt h.ne.2.2), row_stay h.lost (fun b h1 h2 => ho.block b h2 (by have := h.ps.2; show ¬ b = p; omega)), Nat.le_trans h.size ho.size, h.gs, h.ps, h.os, h.ne,
    below_only h.below ho h.below.size (fun i hi e => by have := h.ps.1; have e : i = p := e; omega)⟩
theorem DaAt.grow (h : DaAt w w1 g p go n o A v l wr) (hb : Below wr.heap.size wr wx) : DaAt w w1 g p go n o A v l wx := h.next (Only.of_below hb)
theorem DaAt.put (h : DaAt w w1 g p go n o A v l wr) (x : Nat) (q : Option Nat) {A' : Nat → Option Nat} (hA : ∀ j, A' j = if j = x then q else A j) : DaAt w w1 g p go n o A' v l (wr.setCell ⟨g, x, none⟩ (.int .i64 (optI q))) := by
  refine ⟨(h.row.set _ _).congr fun j _ => ?_, h.ord.far h.ne.2.1 _, row_stay h.lost (fun b h1 h2 => Below.heap_setCell wr ⟨g, x, none⟩ _ b (by have := h.gs.2; show b ≠ g; omega)), by simpa [World.setCell] using h.size, h.gs, h.ps, h.os, h.ne, h.below.setCell (p := ⟨g, x, none⟩) h.gs.1 _⟩
  show (if j = x then _ else _) = _
  rw [hA]
  by_cases e : j = x
  · rw [if_pos e, if_pos e]
  · rw [if_neg e, if_neg e]
theorem DaAt.lose (h : DaAt w w1 g p go n o A v l wr) (x : Nat) {B : Option Addr} {cap : Nat} {t : TypeId} {w7 : World}
    (ho : w7.ownsRow w1.heap.size 3 1 (.slice B (l.length + 1) cap) (l.length + 1) (irow (ofN l) ++ irow [(x : Int)])) (hg : (wr.alloc (.cells (irow [(x : Int)]).toArray t)).grownBy w7 v.ownBlock) :
    DaAt w w1 g p go n o A (.slice B (l ++ [x]).length cap) (l ++ [x]) w7 := by
  have hv : ∀ b, v.ownBlock = some b → w1.heap.size ≤ b := fun b hb => (own_lt h.lost hb).1
  have hblk : ∀ b, b < w1.heap.size → w7.heap[b]? = wr.heap[b]? := fun b hb =>
    (hg.block b (by have := h.size; simp; omega) (fun e => by have := hv b e.symm; omega)).trans (Below.heap_alloc wr _ b (by have := h.size; omega))
  have hsz : wr.heap.size ≤ w7.heap.size := by have := hg.size; simp at this; omega
  refine ⟨h.row.of_block (hblk g h.gs.2), h.ord.block hsz (hblk go h.os), ?_, Nat.le_trans h.size hsz, h.gs, h.ps, h.os, h.ne, ?_⟩
  · rw [List.length_append, ofN_snoc, irow_append]
    exact ho
  · exact (h.below.alloc h.below.size _).grown hg (by have := h.below.size; simp; omega) (fun b e => by have := hv b e; have := h.gs.1; have := h.gs.2; omega)
end
theorem BxAt.start (w : World) (D S T p : Nat) (ds : List Nat) (hS : 1 ≤ S) (hB : Box w p 47 #[.int .i64 (D : Int), .int .i64 (S : Int), .int .i64 (T : Int), .int .i64 (D : Int), .int .i64 0, .int .i64 0]) : BxAt p D S T (dl S ((D + 1) * S) T ((D + 1) * S) 0 ds) ds 0 w :=
  ⟨(D : Int), 0, 0, (D + 1) * S, hB, LvAt.start S D (by omega), Nat.le_refl _, Nat.zero_le _, by simp⟩
theorem BxAt.block {p D S T i : Nat} {P : List (Option Nat)} {ds : List Nat} {w w' : World} (h : BxAt p D S T P ds i w) (e : w'.heap[p]? = w.heap[p]?) : BxAt p D S T P ds i w' := by
  obtain ⟨lv, on, st, r, hB, h⟩ := h
  exact ⟨lv, on, st, r, hB.of e, h⟩
/-- One item is dealt. -/
theorem next_at (p D S T i d : Nat) (P : List (Option Nat)) (ds : List Nat) (w : World) (h1 : D ≤ 10) (h3 : S ≤ 8) (h5 : T ≤ 64) (hd : ds[i]? = some d) (h : BxAt p D S T P ds i w) :
    Calls Try.prog 18 #[.pointer (some ⟨p, 0, none⟩), .int .i64 (d : Int)] w fun e w' => ∃ q, P[i]? = some q ∧ e = .returned (.int .i64 (optI q)) ∧ BxAt p D S T P ds (i + 1) w' ∧ Only (just p) w w' := by
  obtain ⟨lv, on, st, r, hB, hv, hr, hst, hdl⟩ := h
  refine (next_any D S T _ st r d on lv p h1 h3 h5 rfl hr hst hv w hB).mono ?_
  rintro e w' ⟨he, lv', on', hB', hv', ho⟩
  obtain ⟨hi, hid⟩ := List.getElem?_eq_some_iff.1 hd
  rw [List.drop_eq_getElem_cons hi, hid, dl_cons] at hdl
  have hPi : P[i]? = some (stp S ((D + 1) * S) T r st d).1 := by
    have : (P.drop i)[0]? = some (stp S ((D + 1) * S) T r st d).1 := by rw [← hdl]; rfl
    rwa [List.getElem?_drop, Nat.add_zero] at this
  have hPd : dl S ((D + 1) * S) T (stp S ((D + 1) * S) T r st d).2.1 (stp S ((D + 1) * S) T r st d).2.2 (ds.drop (i + 1)) = P.drop (i + 1) := by
    have : (P.drop i).tail = P.drop (i + 1) := by rw [List.tail_drop]
    rw [← this, ← hdl]; rfl
  refine ⟨_, hPi, he, ⟨lv', on', _, _, hB', hv', ?_, ?_, hPd⟩, ho⟩
  · unfold stp; split
    · split <;> exact Nat.zero_le _
    · show min r ((d + 1) * S) - 1 ≤ _; omega
  · unfold stp; split
    · split
      · show st + 1 ≤ T; omega
      · exact hst
    · exact hst
end Go.Proofs.Ytnpddimepcblkaa
