/- Texts of ours put together: DealAll, DealRow, DealDeal. -/
import Derived.Below
import Derived.BigQuiet
import Derived.ChangeArms
import Derived.ChangeSlices
import Derived.Deep.Cut
import Derived.Deep.Draws
import Derived.Deep.MidRow
import Derived.Deep.OwnRows
import Derived.Deep.Quiet
import Derived.Deep.QuietTactic
import Derived.Deep.RegionHeld
import Derived.Deep.Slices
import Derived.Laws.AppendOwn
import Derived.Laws.CopyOwn
import Derived.Lib.Hide
import Derived.OpenShut
import Derived.ProofKit
import Derived.RowKit3
import Derived.Shelf.Bits.Mul64
import Derived.Shelf.SlSortCmp.WholeK
import Derived.SizedLaws
import Derived.Sort.Grow
import Derived.StillTailTactics
import Derived.WalkKit
import Derived.WideShapes
import Derived.Test.YtmageeohnfomnaaGreatProg
import Derived.Test.YtmageeohnfomnaaGreatG2
import Derived.Test.YtmageeohnfomnaaGreatG0
import Derived.Test.YtmageeohnfomnaaGreatG16
import Derived.Test.YtmageeohnfomnaaGreatG17
import Derived.Test.YtmageeohnfomnaaGreatG3
import Derived.Test.YtmageeohnfomnaaGreatG1
import Derived.Test.YtmageeohnfomnaaGreatG8
import Derived.Test.YtmageeohnfomnaaGreatG19
import Derived.Test.YtmageeohnfomnaaGreatG41
import Derived.Test.YtmageeohnfomnaaGreatG4
import Derived.Test.YtmageeohnfomnaaGreatG5
namespace Go.Proofs.YtmageeohnfomnaaGreat
set_option maxRecDepth 100000
open Go.RowKit Go.ChangeShapes Go.WideShapes Go.ChangeAt

theorem row_stay {w w' : World} {base : Nat} {e : TypeId} {size : Nat} {v : Value} {n : Nat} {xs : List Value} (h : w.ownsRow base e size v n xs) (hb : ∀ g, base ≤ g → g < w.heap.size → w'.heap[g]? = w.heap[g]?) : w'.ownsRow base e size v n xs := by
  refine ⟨h.1, ?_⟩
  rcases h.2 with h0 | ⟨g, cap, cur, rfl, h1, h2, h3⟩
  · exact .inl h0
  · exact .inr ⟨g, cap, cur, rfl, h1, (hb g h1 (Array.getElem?_eq_some_iff.1 h2).1).trans h2, h3⟩
theorem asg_snoc : ∀ (R : List Nat) (P : List (Option Nat)) (x : Nat) (p : Option Nat) (j : Nat), R.length = P.length → x ∉ R → asg (R ++ [x]) (P ++ [p]) j = if j = x then p else asg R P j
  | [], [], x, p, j, _, _ => by
    show (if x = j then p else none) = if j = x then p else none
    by_cases e : j = x
    · rw [if_pos e.symm, if_pos e]
    · rw [if_neg (fun h => e h.symm), if_neg e]
  | [], _ :: _, _, _, _, h, _ => by simp at h
  | _ :: _, [], _, _, _, h, _ => by simp at h
  | y :: R, q :: P, x, p, j, h, hx => by
    have hne : y ≠ x := fun e => hx (by rw [e]; exact List.mem_cons_self)
    have ih := asg_snoc R P x p j (by simpa using h) (fun e => hx (List.mem_cons_of_mem _ e))
    show (if y = j then q else asg (R ++ [x]) (P ++ [p]) j) = if j = x then p else (if y = j then q else asg R P j)
    rw [ih]
    by_cases e : y = j
    · subst e; rw [if_pos rfl, if_pos rfl, if_neg hne]
    · rw [if_neg e, if_neg e]
theorem lostL_snoc : ∀ (R : List Nat) (P : List (Option Nat)) (x : Nat) (p : Option Nat), R.length = P.length → lostL (R ++ [x]) (P ++ [p]) = lostL R P ++ (if p.isNone then [x] else [])
  | [], [], x, p, _ => by
    show (if p.isNone then x :: lostL [] [] else lostL [] []) = _
    cases p <;> rfl
  | [], _ :: _, _, _, h => by simp at h
  | _ :: _, [], _, _, h => by simp at h
  | y :: R, q :: P, x, p, h => by
    have ih := lostL_snoc R P x p (by simpa using h)
    show (if q.isNone then y :: lostL (R ++ [x]) (P ++ [p]) else lostL (R ++ [x]) (P ++ [p])) = (if q.isNone then y :: lostL R P else lostL R P) ++ _
    rw [ih]
    split <;> rfl
def asgI (R : List Nat) (P : List (Option Nat)) (i : Nat) : Nat → Option Nat := asg (R.take i) (P.take i)
def losI (R : List Nat) (P : List (Option Nat)) (i : Nat) : List Nat := lostL (R.take i) (P.take i)
section
variable {R : List Nat} {P : List (Option Nat)} {i x : Nat} {p : Option Nat}
theorem dtake_snoc {α : Type} {l : List α} {i : Nat} {x : α} (h : l[i]? = some x) : l.take (i + 1) = l.take i ++ [x] := by
  rw [List.take_add_one, h]; rfl
theorem asgI_succ (hn : R.Nodup) (hl : R.length = P.length) (hx : R[i]? = some x) (hp : P[i]? = some p) (j : Nat) : asgI R P (i + 1) j = if j = x then p else asgI R P i j := by
  unfold asgI
  rw [dtake_snoc hx, dtake_snoc hp]
  refine asg_snoc _ _ x p j (by simp [hl]) fun hm => ?_
  obtain ⟨hi, rfl⟩ := List.getElem?_eq_some_iff.1 hx
  obtain ⟨k, hk, e⟩ := List.mem_iff_getElem.1 hm
  rw [List.length_take] at hk
  rw [List.getElem_take] at e
  have := (List.pairwise_iff_getElem.1 hn) k i (by omega) hi (by omega)
  exact this e
theorem losI_succ (hl : R.length = P.length) (hx : R[i]? = some x) (hp : P[i]? = some p) : losI R P (i + 1) = losI R P i ++ (if p.isNone then [x] else []) := by
  unfold losI
  rw [dtake_snoc hx, dtake_snoc hp]
  exact lostL_snoc _ _ x p (by simp [hl])
theorem losI_len (i : Nat) : (losI R P i).length ≤ i := by
  have h := (lostL_sub (R.take i) (P.take i)).length_le
  rw [List.length_take] at h
  unfold losI
  omega
end
def ofN (l : List Nat) : List Int := l.map Int.ofNat
theorem ofN_snoc (l : List Nat) (x : Nat) : ofN (l ++ [x]) = ofN l ++ [(x : Int)] := by simp [ofN]
def BxAt (p D S T : Nat) (P : List (Option Nat)) (ds : List Nat) (i : Nat) (wr : World) : Prop :=
  ∃ (lv : Int) (on st r : Nat), Box wr p 159 #[.int .i64 (D : Int), .int .i64 (S : Int), .int .i64 (T : Int), .int .i64 lv, .int .i64 (on : Int), .int .i64 (st : Int)] ∧ LvAt S r lv on ∧ r ≤ (D + 1) * S ∧ st ≤ T ∧ dl S ((D + 1) * S) T r st (ds.drop i) = P.drop i
structure DaAt (w w1 : World) (g p go n : Nat) (o : List Nat) (A : Nat → Option Nat) (v : Value) (l : List Nat) (wr : World) : Prop where
  row : wr.rowIs g 3 n (fun j => .int .i64 (optI (A j)))
  ord : Ir wr w.heap.size go n (fun j => (o.getD j 0 : Nat))
  lost : wr.ownsRow w1.heap.size 3 1 v l.length (irow (ofN l))
  size : w1.heap.size ≤ wr.heap.size
  gs : w.heap.size ≤ g ∧ g < w1.heap.size
  ps : w.heap.size ≤ p ∧ p < w1.heap.size
  os : go < w1.heap.size
  ne : g ≠ p ∧ go ≠ g ∧ go ≠ p
  below : Below w.heap.size w wr
section
variable {w w1 wr wx : World} {g p go n : Nat} {o : List Nat} {A : Nat → Option Nat} {v : Value} {l : List Nat}
theorem DaAt.next (h : DaAt w w1 g p go n o A v l wr) (ho : Only (just p) wr wx) : DaAt w w1 g p go n o A v l wx :=
  ⟨h.row.of_block (ho.block g h.row.lt h.ne.1), h.ord.block ho.size (ho.block go h.ord.lt h.ne.2.2), row_stay h.lost (fun b h1 h2 => ho.block b h2 (by have := h.ps.2; show ¬ b = p; omega)), Nat.le_trans h.size ho.size, h.gs, h.ps, h.os, h.ne,
    below_only h.below ho h.below.size (fun i hi e => by have := h.ps.1; have e : i = p := e; omega)⟩
theorem DaAt.grow (h : DaAt w w1 g p go n o A v l wr) (hb : Below wr.heap.size wr wx) : DaAt w w1 g p go n o A v l wx := h.next (Only.of_below hb)
theorem DaAt.put (h : DaAt w w1 g p go n o A v l wr) (x : Nat) (q : Option Nat) {A' : Nat → Option Nat} (hA : ∀ j, A' j = if j = x then q else A j) : DaAt w w1 g p go n o A' v l (wr.setCell ⟨g, x, none⟩ (.int .i64 (optI q))) := by
  refine ⟨(h.row.set _ _).congr fun j _ => ?_, h.ord.far h.ne.2.1 _, row_stay h.lost (fun b h1 h2 => Below.heap_setCell wr ⟨g, x, none⟩ _ b (by have := h.gs.2; show b ≠ g; omega)), by simpa [World.setCell] using h.size, h.gs, h.ps, h.os, h.ne, h.below.setCell (p := ⟨g, x, none⟩) h.gs.1 _⟩
  show (if j = x then _ else _) = _
  rw [hA]
  by_cases e : j = x
  · rw [if_pos e, if_pos e]
  · rw [if_neg e, if_neg e]
theorem DaAt.lose (h : DaAt w w1 g p go n o A v l wr) (x : Nat) {B : Option Addr} {cap : Nat} {t : TypeId} {w7 : World}
    (ho : w7.ownsRow w1.heap.size 3 1 (.slice B (l.length + 1) cap) (l.length + 1) (irow (ofN l) ++ irow [(x : Int)])) (hg : (wr.alloc (.cells (irow [(x : Int)]).toArray t)).grownBy w7 v.ownBlock) :
    DaAt w w1 g p go n o A (.slice B (l ++ [x]).length cap) (l ++ [x]) w7 := by
  have hv : ∀ b, v.ownBlock = some b → w1.heap.size ≤ b := fun b hb => (own_lt h.lost hb).1
  have hblk : ∀ b, b < w1.heap.size → w7.heap[b]? = wr.heap[b]? := fun b hb =>
    (hg.block b (by have := h.size; simp; omega) (fun e => by have := hv b e.symm; omega)).trans (Below.heap_alloc wr _ b (by have := h.size; omega))
  have hsz : wr.heap.size ≤ w7.heap.size := by have := hg.size; simp at this; omega
  refine ⟨h.row.of_block (hblk g h.gs.2), h.ord.block hsz (hblk go h.os), ?_, Nat.le_trans h.size hsz, h.gs, h.ps, h.os, h.ne, ?_⟩
  · rw [List.length_append, ofN_snoc, irow_append]
    exact ho
  · exact (h.below.alloc h.below.size _).grown hg (by have := h.below.size; simp; omega) (fun b e => by have := hv b e; have := h.gs.1; have := h.gs.2; omega)
end
theorem BxAt.start (w : World) (D S T p : Nat) (ds : List Nat) (hS : 1 ≤ S) (hB : Box w p 159 #[.int .i64 (D : Int), .int .i64 (S : Int), .int .i64 (T : Int), .int .i64 (D : Int), .int .i64 0, .int .i64 0]) : BxAt p D S T (dl S ((D + 1) * S) T ((D + 1) * S) 0 ds) ds 0 w :=
  ⟨(D : Int), 0, 0, (D + 1) * S, hB, LvAt.start S D (by omega), Nat.le_refl _, Nat.zero_le _, by simp⟩
theorem BxAt.block {p D S T i : Nat} {P : List (Option Nat)} {ds : List Nat} {w w' : World} (h : BxAt p D S T P ds i w) (e : w'.heap[p]? = w.heap[p]?) : BxAt p D S T P ds i w' := by
  obtain ⟨lv, on, st, r, hB, h⟩ := h
  exact ⟨lv, on, st, r, hB.of e, h⟩
theorem next_at (p D S T i d : Nat) (P : List (Option Nat)) (ds : List Nat) (w : World) (h1 : D ≤ 10) (h3 : S ≤ 8) (h5 : T ≤ 64) (hd : ds[i]? = some d) (h : BxAt p D S T P ds i w) :
    Calls Tryz.prog 99 #[.pointer (some ⟨p, 0, none⟩), .int .i64 (d : Int)] w fun e w' => ∃ q, P[i]? = some q ∧ e = .returned (.int .i64 (optI q)) ∧ BxAt p D S T P ds (i + 1) w' ∧ Only (just p) w w' := by
  obtain ⟨lv, on, st, r, hB, hv, hr, hst, hdl⟩ := h
  refine (next_any D S T _ st r d on lv p h1 h3 h5 rfl hr hst hv w hB).mono ?_
  rintro e w' ⟨he, lv', on', hB', hv', ho⟩
  obtain ⟨hi, hid⟩ := List.getElem?_eq_some_iff.1 hd
  rw [List.drop_eq_getElem_cons hi, hid, dl_cons] at hdl
  have hPi : P[i]? = some (stp S ((D + 1) * S) T r st d).1 := by
    have : (P.drop i)[0]? = some (stp S ((D + 1) * S) T r st d).1 := by rw [← hdl]; rfl
    rwa [List.getElem?_drop, Nat.add_zero] at this
  have hPd : dl S ((D + 1) * S) T (stp S ((D + 1) * S) T r st d).2.1 (stp S ((D + 1) * S) T r st d).2.2 (ds.drop (i + 1)) = P.drop (i + 1) := by
    have : (P.drop i).tail = P.drop (i + 1) := by rw [List.tail_drop]
    rw [← this, ← hdl]; rfl
  refine ⟨_, hPi, he, ⟨lv', on', _, _, hB', hv', ?_, ?_, hPd⟩, ho⟩
  · unfold stp; split
    · split <;> exact Nat.zero_le _
    · show min r ((d + 1) * S) - 1 ≤ _; omega
  · unfold stp; split
    · split
      · show st + 1 ≤ T; omega
      · exact hst
    · exact hst
end Go.Proofs.YtmageeohnfomnaaGreat


namespace Go.Proofs.YtmageeohnfomnaaGreat
set_option maxRecDepth 100000
open Go.RowKit Go.ChangeShapes Go.WideShapes Go.ChangeAt

def itl (l : List It) : List Value := l.flatMap fun x => [.int .u64 x.1, .int .i64 x.2]
theorem itl_snoc (l : List It) (x : It) : itl (l ++ [x]) = itl l ++ [.int .u64 x.1, .int .i64 x.2] := by unfold itl; rw [List.flatMap_append]; simp
theorem itl_at : ∀ (l : List It) (j : Nat) (h : j < l.length), (itl l)[j * 2]? = some (.int .u64 l[j].1) ∧ (itl l)[j * 2 + 1]? = some (.int .i64 l[j].2)
  | x :: l, 0, _ => ⟨rfl, rfl⟩
  | x :: l, j + 1, h => by
    have := itl_at l j (by simpa using h)
    have e : itl (x :: l) = .int .u64 x.1 :: .int .i64 x.2 :: itl l := rfl
    rw [e, show (j + 1) * 2 = j * 2 + 1 + 1 by omega]
    simpa using this
def lsI (n : Nat) (y : Nat → It) : List It := (List.range n).map y
theorem lsI_len (n : Nat) (y : Nat → It) : (lsI n y).length = n := by simp [lsI]
theorem lsI_succ (n : Nat) (y : Nat → It) : lsI (n + 1) y = lsI n y ++ [y n] := by simp [lsI, List.range_succ]
theorem own_items {w : World} {base : Nat} {e : TypeId} {A : Option Addr} {n cap : Nat} {y : Nat → It} (h : w.ownsRow base e 2 (.slice A n cap) n (itl (lsI n y))) : Its w w.heap.size A n y := fun hn => by
  have h' := h
  rcases h.2 with ⟨h1, h0⟩ | ⟨g, cap', cur, e, hb, hg, _⟩
  · omega
  · injection e with e1
    subst e1
    refine ⟨g, 0, rfl, (Array.getElem?_eq_some_iff.1 hg).1, fun j hj => ?_⟩
    have hl := itl_at (lsI n y) j (by rw [lsI_len]; exact hj)
    have e0 : (lsI n y)[j]'(by rw [lsI_len]; exact hj) = y j := by simp [lsI]
    rw [e0] at hl
    have q0 := h'.cells (g := g) rfl (j * 2) _ hl.1
    have q1 := h'.cells (g := g) rfl (j * 2 + 1) _ hl.2
    rw [add_plain] at q0 q1
    rw [Nat.zero_add] at q0 q1 ⊢
    exact ⟨q0, q1⟩
structure ItAt (t : TypeId) (w1 : World) (v : Value) (l : List It) (wr : World) : Prop where
  own : wr.ownsRow w1.heap.size t 2 v l.length (itl l)
  below : Below w1.heap.size w1 wr
theorem ItAt.nil (t : TypeId) (w : World) : ItAt t w (.slice none 0 0) [] w := ⟨World.ownsRow_nil _ _ _ _, Below.refl _ _⟩
theorem ItAt.next {t u : TypeId} {w1 : World} {v : Value} {l : List It} {x : It} {A : Option Addr} {cap : Nat} {wx w7 : World} (h : ItAt t w1 v l wx)
    (ho : w7.ownsRow w1.heap.size t 2 (.slice A (l.length + 1) cap) (l.length + 1) (itl l ++ [.int .u64 x.1, .int .i64 x.2])) (hg : (wx.alloc (.cells #[.int .u64 x.1, .int .i64 x.2] u)).grownBy w7 v.ownBlock) :
    ItAt t w1 (.slice A (l.length + 1) cap) (l ++ [x]) w7 := by
  constructor
  · rw [List.length_append, itl_snoc]
    exact ho
  · exact (h.below.alloc h.below.size _).grown hg (by have := h.below.size; simp; omega) (fun b e => (own_lt h.own e).1)
end Go.Proofs.YtmageeohnfomnaaGreat


namespace Go.Proofs.YtmageeohnfomnaaGreat
set_option maxRecDepth 100000
open Go.RowKit Go.ChangeShapes Go.WideShapes Go.ChangeAt

def DlNew (w : World) (n D S T : Nat) (y : Nat → It) (e : Ending) (w' : World) : Prop :=
  ∃ (o : List Nat) (g : Nat) (A : Option Addr) (cap : Nat), IsOrd y n o ∧ e = .returned (.tuple #[.slice (some ⟨g, 0, none⟩) n n, .slice A (lostO y S D T o).length cap]) ∧ Ir w' w.heap.size g n (fun i => (outP (goes y S D T o) n i : Nat)) ∧
    Nums .i64 w' w'.heap.size A (lostO y S D T o).length (fun j => ((lostO y S D T o).getD j 0 : Nat)) ∧ (∀ b off, A = some ⟨b, off, none⟩ → w.heap.size ≤ b) ∧ Below w.heap.size w w'
theorem own_nums9 {w : World} {base : Nat} {A : Option Addr} {cap : Nat} {l : List Nat} (h : w.ownsRow base 3 1 (.slice A l.length cap) l.length (irow (ofN l))) : Nums .i64 w w.heap.size A l.length (fun j => (l.getD j 0 : Nat)) := fun hn => by
  have h' := h
  rcases h.2 with ⟨h1, h0⟩ | ⟨g, cap', cur, e, hb, hg, _⟩
  · omega
  · injection e with e1
    subst e1
    refine ⟨g, 0, rfl, (Array.getElem?_eq_some_iff.1 hg).1, fun j hj => ?_⟩
    have := h'.cells (g := g) rfl j (.int .i64 (l.getD j 0 : Nat)) (by simp [irow, ofN, hj])
    rw [add_plain] at this
    exact this
theorem own_slice9 {w : World} {base : Nat} {v : Value} {n : Nat} {xs : List Value} (h : w.ownsRow base 3 1 v n xs) : ∃ A cap, v = .slice A n cap := by
  rcases h.2 with ⟨rfl, h0⟩ | ⟨g, cap', cur, e, _⟩
  · exact ⟨none, 0, by rw [h0]⟩
  · exact ⟨_, _, e⟩
theorem DaAt.done {w w1 wr w' : World} {g p go n D S T : Nat} {y : Nat → It} {o : List Nat} {A : Nat → Option Nat} {v : Value} {l : List Nat} (h : DaAt w w1 g p go n o A v l wr) (hl : l = lostO y S D T o) (hord : IsOrd y n o)
    (hrow : w'.rowIs g 3 n (fun i => .int .i64 (outP (goes y S D T o) n i : Nat))) (ho : Only (just g) wr w') : DlNew w n D S T y (.returned (.tuple #[.slice (some ⟨g, 0, none⟩) n n, v])) w' := by
  subst hl
  have h2 := row_stay h.lost (w' := w') (fun b h1 hb => ho.block b hb (by have := h.gs.2; show ¬ b = g; omega))
  obtain ⟨B, cap, rfl⟩ := own_slice9 h2
  refine ⟨o, g, B, cap, hord, rfl, ⟨h.gs.1, hrow.lt, fun j hj => hrow.cell hj⟩, own_nums9 h2, fun b off e => by have h1 := (own_lt h2 (show _ = some b by rw [e]; rfl)).1; have h3 := h.gs; omega, below_only h.below ho h.below.size (fun i hi e => by have := h.gs.1; have e : i = g := e; omega)⟩
theorem reals_len {y : Nat → It} {n : Nat} {o : List Nat} (h : IsOrd y n o) : (reals y o).length ≤ n := by
  rw [← h.len]; exact List.length_filter_le _ _
set_option maxRecDepth 100000 in
set_option maxHeartbeats 4000000 in
theorem deal_new (D S T L n c : Nat) (a : Option Addr) (y : Nat → It) (w : World) (h1 : D ≤ 10) (h2 : 1 ≤ S) (h3 : S ≤ 8) (h4 : 1 ≤ T) (h5 : T ≤ 64) (hL : (D + 1) * S = L) (hn : L + T + 1 = n)
    (hI : Its w w.heap.size a n y) (hy : ∀ j, j < n → (y j).2 ≤ 9223372036854775807) :
    Calls Tryz.prog 88 #[.agg #[.int .i64 (D : Int), .int .i64 (S : Int), .int .i64 (T : Int)], .slice a n c] w (DlNew w n D S T y) := by
  have hl := (mul_places h1 h3 hL).2
  have hsh := isSh_yes h1 h2 h3 h4 h5
  have HR := Lib.hid (fun W => (deal_right (D : Int) (S : Int) (T : Int) W))
  rw [hsh] at HR
  have HP := Lib.hid (fun W => places_in D S T L n h1 h2 h3 h4 h5 hL hn W)
  have HI := Lib.hid hI
  have HY := Lib.hid hy
  have HL := Lib.hid hL
  have hl1 : 1 ≤ L := by rw [← hL]; exact Nat.le_trans h2 (Nat.le_mul_of_pos_left S (by omega))
  have hnb : 3 ≤ n ∧ n ≤ 153 := by omega
  have HN := Lib.hid hn
  clear hI hy hsh hn hL
  go_enter Tryz.func88, Tryz.ntmps88
  go_wp2_with fail
  refine (HR.out _).mono ?_
  rintro e w1 ⟨rfl, hb1⟩
  have hbx := (Box.new w 68 #[.int .i64 (D : Int), .int .i64 (S : Int), .int .i64 (T : Int)]).of (hb1.block _ (by simp))
  have HB := Lib.hid (((Below.refl _ w).alloc (Nat.le_refl _) (.cells #[.int .i64 (D : Int), .int .i64 (S : Int), .int .i64 (T : Int)] 68)).trans (hb1.mono (by simp)))
  have c0 := hbx.cell 0
  have c1 := hbx.cell 1
  have c2 := hbx.cell 2
  have HBx := Lib.hid hbx
  clear hb1 hbx
  go_wp2_with fail
  refine (HP.out _).mono ?_
  rintro e w2 ⟨rfl, hb2⟩
  have HB2 := Lib.hid (HB.out.trans (hb2.mono HB.out.size))
  have HBx2 := Lib.hid (HBx.out.of (hb2.block _ HBx.out.lt))
  clear hb2 HB HBx c0 c1 c2
  go_wp2_with fail
  refine (repeat_one _ n (-1) _ (by omega) (by omega) ((Box.new w2 3 #[.int .i64 (-1)]).cell 0)).mono ?_
  rintro e w3 ⟨g, rfl, hrow, hg0, hb3⟩
  have HB3 := Lib.hid ((HB2.out.alloc HB2.out.size (.cells #[.int .i64 (-1)] 3)).trans (hb3.mono (by have := HB2.out.size; simp; omega)))
  have HBx3 := Lib.hid ((HBx2.out.alloc (.cells #[.int .i64 (-1)] 3)).of (hb3.block _ (HBx2.out.alloc _).lt))
  have HRow := Lib.hid hrow
  have hg1 : w.heap.size ≤ g := by have := HB2.out.size; simp at hg0; omega
  have k0 := HBx3.out.cell 0
  have k1 := HBx3.out.cell 1
  have k2 := HBx3.out.cell 2
  clear hrow hb3 hg0 HB2 HBx2
  go_wp2_with fail
  obtain ⟨p, hp⟩ : ∃ p, w3.heap.size = p := ⟨_, rfl⟩
  obtain ⟨w4, hw4⟩ : ∃ w4, w3.alloc (.cells #[.int .i64 (D : Int), .int .i64 (S : Int), .int .i64 (T : Int), .int .i64 (D : Int), .int .i64 0, .int .i64 0] 159) = w4 := ⟨_, rfl⟩
  have HB4 : Hid (Below w.heap.size w w4) := Lib.hid (by rw [← hw4]; exact HB3.out.alloc HB3.out.size _)
  have hbd : Box w4 p 159 #[.int .i64 (D : Int), .int .i64 (S : Int), .int .i64 (T : Int), .int .i64 (D : Int), .int .i64 0, .int .i64 0] := by rw [← hw4, ← hp]; exact Box.new w3 _ _
  have hgp : g < p := by have := HRow.out.lt; omega
  have hr4 : w4.rowIs g 3 n (fun _ => .int .i64 (-1)) := by rw [← hw4]; exact HRow.out.alloc _
  have hs4 : w4.heap.size = p + 1 := by rw [← hw4, ← hp]; simp
  have HBd := Lib.hid hbd
  have HR4 := Lib.hid hr4
  have HS4 := Lib.hid hs4
  rw [hp, hw4]
  clear hp hw4 hbd hr4 hs4 HB3 HRow HBx3 k0 k1 k2
  refine (dorder_any a n c y w4 (by omega) ((HI.out.below HB4.out).more HB4.out.size)).mono ?_
  rintro e w5 ⟨o, go, hord, rfl, hir, hb5⟩
  have hs5 := hb5.size
  have h4 := HS4.out
  have hgo1 := hir.old
  have hgo2 := hir.lt
  obtain ⟨R, hR⟩ : ∃ R, reals y o = R := ⟨_, rfl⟩
  obtain ⟨P, hP⟩ : ∃ P, plc y S D T o = P := ⟨_, rfl⟩
  have HGs : Hid (goes y S D T o = asg R P) := Lib.hid (by unfold goes; rw [hR, hP])
  have HLs : Hid (lostO y S D T o = lostL R P) := Lib.hid (by unfold lostO; rw [hR, hP])
  have HRn : Hid R.Nodup := Lib.hid (by rw [← hR]; exact reals_nodup hord)
  have HRl : Hid (R.length = P.length) := Lib.hid (by rw [← hR, ← hP]; exact plc_len.symm)
  have HOr := Lib.hid (fun k (hk : k < o.length) => ord_at hord k hk)
  have HRm : Hid (R.length ≤ n) := Lib.hid (by rw [← hR]; exact reals_len hord)
  rw [hR] at HOr
  have HO := Lib.hid hord
  have HOl := Lib.hid hord.len
  have HDa : Hid (DaAt w w5 g p go n o (asgI R P 0) (.slice none 0 0) (losI R P 0) w5) := Lib.hid
    ⟨(HR4.out.of_block (hb5.block g (by omega))).congr fun j _ => by unfold asgI; rw [List.take_zero, List.take_zero]; rfl, ⟨by have := HB4.out.size; omega, hgo2, hir.cell⟩,
      by unfold losI; rw [List.take_zero, List.take_zero]; exact World.ownsRow_nil _ _ _ _, Nat.le_refl _, ⟨hg1, by omega⟩, ⟨by omega, by omega⟩, hgo2, ⟨by omega, by omega, by omega⟩, HB4.out.trans (hb5.mono HB4.out.size)⟩
  have HBa : Hid (BxAt p D S T P (deeps y R) 0 w5) := Lib.hid (by
    rw [← hP, ← hR]
    unfold plc
    exact BxAt.start w5 D S T p _ h2 (HBd.out.of (hb5.block p (by omega))))
  clear hord hir hb5 hs5 h4 hgo1 hgo2 hR hP HR4 HS4 HBd HB4
  go_wp2_with fail
  go_loopw [7, 32] (fun v7 v32 wr => ∃ i : Nat, v32 = .int .i64 i ∧ i ≤ R.length ∧ DaAt w w5 g p go n o (asgI R P i) v7 (losI R P i) wr ∧ BxAt p D S T P (deeps y R) i wr) (fun _ v _ => n - (intOf v).toNat)
  case atStart => exact ⟨0, rfl, by omega, HDa.out, HBa.out⟩
  case round =>
    obtain ⟨i, rfl, hiR, hS, hX⟩ := hrel
    clear HDa HBa
    have HS := Lib.hid hS
    have HX := Lib.hid hX
    have hRn := HRm.out
    clear hX
    obtain ⟨w9, h9⟩ : ∃ x, x = wr := ⟨_, rfl⟩
    subst h9
    by_cases hin : i < n
    · have hio : i < o.length := by rw [HOl.out]; exact hin
      have co := hS.ord.cell i hin
      rw [getD_at hio] at co
      have hxn := HO.out.lt i hio
      have hor := HOr.out i hio
      obtain ⟨b, off, rfl, hb, ci0, ci1⟩ := (HI.out.below hS.below).at hxn
      clear hS
      generalize hx : o[i] = x at *
      have HXe := Lib.hid hx
      clear hx
      obtain ⟨yd, hyd⟩ : ∃ d, (y x).2 = d := ⟨_, rfl⟩
      have hyb := HY.out x hxn
      rw [hyd] at ci1 hor hyb
      have HYd := Lib.hid hyd
      generalize (y x).1 = yi at *
      clear hyd
      go_wp2_with fail
      refine (deal_empty yi yd _).mono ?_
      rintro e w6 ⟨rfl, hb6⟩
      have hpg : p < w9.heap.size := by have := HS.out.size; have := HS.out.ps.2; omega
      have HS6 := Lib.hid (HS.out.grow hb6)
      have HX6 := Lib.hid (HX.out.block (hb6.block p hpg))
      have ci6 := (hb6.cell (p := ⟨b, off + x * 2 + 1, none⟩) (show b < w9.heap.size by have := HS.out.below.size; omega)).trans ci1
      clear hb6 ci0 ci1 co HS HX hpg
      by_cases hneg : yd < 0
      · have hiR2 : i = R.length := by
          have : ¬ i < R.length := fun h => by have := hor.1.2 h; omega
          omega
        clear hor hyb ci6
        have HGo : Hid (∀ j, asgI R P i j = goes y S D T o j) := Lib.hid (fun j => by rw [HGs.out]; unfold asgI; rw [List.take_of_length_le (by omega), List.take_of_length_le (by rw [← HRl.out]; omega)])
        have HLo : Hid (losI R P i = lostO y S D T o) := Lib.hid (by rw [HLs.out]; unfold losI; rw [List.take_of_length_le (by omega), List.take_of_length_le (by rw [← HRl.out]; omega)])
        have hrowg : w6.rowIs g 3 n (fun j => .int .i64 (optI (goes y S D T o j))) := HS6.out.row.congr fun j _ => by rw [HGo.out]
        have HF := Lib.hid (fill_any g n n (goes y S D T o) w6 (by omega) (fun i p _ hi => by have := goes_lt (by omega) HO.out hi; have := HL.out; have := HN.out; omega) (fun i j p _ _ hi hj => goes_inj (by omega) HO.out hi hj) hrowg)
        clear hrowg HGo HGs
        go_wp2_with fail
        refine HF.out.mono ?_
        rintro e w7 ⟨rfl, hrow7, ho7⟩
        have HE := Lib.hid (HS6.out.done HLo.out HO.out hrow7 ho7)
        clear hrow7 ho7 HS6
        go_wp2_with fail
        go_ret2
        exact HE.out
      · have hiR2 : i < R.length := hor.1.1 (by omega)
        have hRi : R[i]? = some x := by rw [List.getElem?_eq_getElem hiR2, hor.2 hiR2]
        obtain ⟨d, hd⟩ := Int.eq_ofNat_of_zero_le (a := yd) (by omega)
        have hdi : (deeps y R)[i]? = some d := by
          unfold deeps
          rw [List.getElem?_map, hRi]
          show some (y x).2.toNat = some d
          rw [HYd.out, hd]; rfl
        subst hd
        have hneg2 : decide ((d : Int) < 0) = false := by simp
        have HRi := Lib.hid hRi
        have HNx := Lib.hid (next_at p D S T i d P (deeps y R) w6 h1 h3 h5 hdi HX6.out)
        clear hor hyb hRi hdi hneg
        go_wp2_with fail
        refine HNx.out.mono ?_
        rintro e w7 ⟨q, hPi, rfl, hX7, ho7⟩
        have HS7 := Lib.hid (HS6.out.next ho7)
        have hgx := HS7.out.row.cell hxn
        have hfx := HS7.out.row.frozen x
        have HS8 := Lib.hid (HS7.out.put x q (asgI_succ HRn.out HRl.out HRi.out hPi))
        have HX8 := Lib.hid (hX7.block (Below.heap_setCell w7 ⟨g, x, none⟩ (.int .i64 (optI q)) p (fun e => HS7.out.ne.1 e.symm)))
        have hAx : asgI R P (i + 1) x = q := by rw [asgI_succ HRn.out HRl.out HRi.out hPi, if_pos rfl]
        have HLs1 := Lib.hid (losI_succ HRl.out HRi.out hPi)
        clear hX7 ho7 hPi HS6 HX6 HNx ci6 HRi
        go_upto_region 11 with fail
        clear hgx hfx HS7
        generalize w7.setCell ⟨g, x, none⟩ (.int .i64 (optI q)) = w8 at *
        have cq := HS8.out.row.cell hxn
        rw [hAx] at cq
        have hll := losI_len (R := R) (P := P) i
        clear hAx
        cases q with
        | some pl =>
          replace cq : w8.cell? ⟨g, x, none⟩ = some (.int .i64 (pl : Int)) := cq
          have hne : ((pl : Int) == -1) = false := by rw [beq_eq_false_iff_ne]; omega
          have HL8 : Hid (losI R P (i + 1) = losI R P i) := Lib.hid (by rw [HLs1.out]; simp)
          clear HLs1
          go_wp2_with fail
          go_roundw
          case rel => exact ⟨i + 1, by go_num, by omega, by rw [HL8.out]; exact HS8.out, HX8.out⟩
          case measure => simp [intOf]; omega
        | none =>
          replace cq : w8.cell? ⟨g, x, none⟩ = some (.int .i64 (-1)) := cq
          have HL8 : Hid (losI R P (i + 1) = losI R P i ++ [x]) := Lib.hid (by rw [HLs1.out]; simp)
          have hbase : w5.heap.size ≤ w8.heap.size := HS8.out.size
          clear HLs1
          generalize hlq : losI R P i = lq at *
          go_wp2_with (with_reducible refine wpList_append_where _ rfl (.tmp 55) (.tmp 57) 36 rfl w5.heap.size 3 (.int .i64 0) 1 8 Tryz.underlying36 infoI64 rfl (by decide) u7 lq.length (irow (ofN lq)) rfl (row_stay HS8.out.lost (fun b _ hb => Below.heap_alloc _ _ b hb)) ⟨w8.heap.size, 0, none⟩ 1 1 (irow [(x : Int)]) rfl rfl ?c0 (irow_one _) ?c2 ?c3 ?c4 ?_)
          case c0 => exact irow_new w8 _ [(x : Int)] rfl
          case c2 => simp only [maxLen]; omega
          case c3 => omega
          case c4 => simp; omega
          intro A2 cap2 w10 hown hgr _
          have HS10 := Lib.hid (HS8.out.lose x hown hgr)
          have hpw : p < w8.heap.size := by have := HS8.out.ps.2; omega
          have HX10 : Hid (BxAt p D S T P (deeps y R) (i + 1) w10) := Lib.hid (HX8.out.block ((hgr.block p (by simp; omega) (fun e => by have := (own_lt HS8.out.lost e.symm).1; have := HS8.out.ps.2; omega)).trans (Below.heap_alloc w8 _ p hpw)))
          clear hown hgr hpw HS8 HX8 cq
          go_wp2_with fail
          go_roundw
          case rel => exact ⟨i + 1, by go_num, by omega, by rw [HL8.out, List.length_append] at *; exact HS10.out, HX10.out⟩
          case measure => simp [intOf]; omega
    · have hiR2 : i = R.length := by omega
      clear hS
      have HGo : Hid (∀ j, asgI R P i j = goes y S D T o j) := Lib.hid (fun j => by rw [HGs.out]; unfold asgI; rw [List.take_of_length_le (by omega), List.take_of_length_le (by rw [← HRl.out]; omega)])
      have HLo : Hid (losI R P i = lostO y S D T o) := Lib.hid (by rw [HLs.out]; unfold losI; rw [List.take_of_length_le (by omega), List.take_of_length_le (by rw [← HRl.out]; omega)])
      have hrowg : w9.rowIs g 3 n (fun j => .int .i64 (optI (goes y S D T o j))) := HS.out.row.congr fun j _ => by rw [HGo.out]
      have HF := Lib.hid (fill_any g n n (goes y S D T o) w9 (by omega) (fun i p _ hi => by have := goes_lt (by omega) HO.out hi; have := HL.out; have := HN.out; omega) (fun i j p _ _ hi hj => goes_inj (by omega) HO.out hi hj) hrowg)
      clear hrowg HGo HGs
      go_wp2_with fail
      refine HF.out.mono ?_
      rintro e w7 ⟨rfl, hrow7, ho7⟩
      have HE := Lib.hid (HS.out.done HLo.out HO.out hrow7 ho7)
      clear hrow7 ho7 HS
      go_wp2_with fail
      go_ret2
      exact HE.out
end Go.Proofs.YtmageeohnfomnaaGreat

