/- The document's Deal: where each item goes, and which are lost, in new slices; nothing that was in memory changes. Condition: a right shape and as many items as it has places. -/
import Derived.Test.YtnpddimepcblkaaDealDeal
import Derived.Test.YtnpddimepcblkaaDealRefOrd
namespace Go.Proofs.Ytnpddimepcblkaa
open Go.RowKit Go.ChangeShapes Go.WideShapes Go.ChangeAt

theorem isAt_upd {A A' : Nat → Option Nat} {n x p : Nat} (hx : x < n) (h0 : A x = none) (hA : ∀ j, A' j = if j = x then some p else A j) (q : Nat) : isAt A' n q = (isAt A n q || decide (q = p)) := by
  rw [Bool.eq_iff_iff, Bool.or_eq_true, isAt_iff, isAt_iff, decide_eq_true_eq]
  constructor
  · rintro ⟨i, hi, e⟩
    rw [hA] at e
    by_cases h : i = x
    · rw [if_pos h] at e
      injection e with e
      exact .inr e.symm
    · rw [if_neg h] at e
      exact .inl ⟨i, hi, e⟩
  · rintro (⟨i, hi, e⟩ | rfl)
    · refine ⟨i, hi, ?_⟩
      rw [hA]
      by_cases h : i = x
      · subst h; rw [h0] at e; cases e
      · rw [if_neg h]; exact e
    · exact ⟨x, hx, by rw [hA, if_pos rfl]⟩
theorem asgI_out {R : List Nat} {P : List (Option Nat)} {i x : Nat} (hn : R.Nodup) (hx : R[i]? = some x) : asgI R P i x = none := by
  unfold asgI
  refine asg_out _ _ _ fun hm => ?_
  obtain ⟨hi, rfl⟩ := List.getElem?_eq_some_iff.1 hx
  obtain ⟨k, hk, e⟩ := List.mem_iff_getElem.1 hm
  rw [List.length_take] at hk
  rw [List.getElem_take] at e
  exact (List.pairwise_iff_getElem.1 hn) k i (by omega) hi (by omega) e
/-- What is left to be dealt, and from where on. -/
def StAt (D S T : Nat) (P : List (Option Nat)) (ds : List Nat) (i : Nat) (lv : Int) (on st : Nat) : Prop :=
  ∃ r, LvAt S r lv on ∧ r ≤ (D + 1) * S ∧ st ≤ T ∧ dl S ((D + 1) * S) T r st (ds.drop i) = P.drop i
theorem StAt.start (D S T : Nat) (ds : List Nat) (hS : 1 ≤ S) : StAt D S T (dl S ((D + 1) * S) T ((D + 1) * S) 0 ds) ds 0 (D : Int) 0 0 :=
  ⟨(D + 1) * S, LvAt.start S D (by omega), Nat.le_refl _, Nat.zero_le _, by simp⟩
theorem dl_next {S L T r st d i : Nat} {P : List (Option Nat)} {ds : List Nat} (hd : ds[i]? = some d) (hdl : dl S L T r st (ds.drop i) = P.drop i) :
    P[i]? = some (stp S L T r st d).1 ∧ dl S L T (stp S L T r st d).2.1 (stp S L T r st d).2.2 (ds.drop (i + 1)) = P.drop (i + 1) := by
  obtain ⟨hi, hid⟩ := List.getElem?_eq_some_iff.1 hd
  rw [List.drop_eq_getElem_cons hi, hid, dl_cons] at hdl
  constructor
  · have : (P.drop i)[0]? = some (stp S L T r st d).1 := by rw [← hdl]; rfl
    rwa [List.getElem?_drop, Nat.add_zero] at this
  · have : (P.drop i).tail = P.drop (i + 1) := by rw [List.tail_drop]
    rw [← this, ← hdl]; rfl
/-- One item is dealt: to a level, to the stash, or it is lost. -/
theorem StAt.step {D S T i d on st : Nat} {lv : Int} {P : List (Option Nat)} {ds : List Nat} (h : StAt D S T P ds i lv on st) (hd : ds[i]? = some d) :
    (∃ (l o : Nat), (((d : Int) < lv ∧ l = d ∧ o = 0) ∨ (¬ (d : Int) < lv ∧ lv = (l : Int) ∧ o = on)) ∧ l ≤ D ∧ o < S ∧ P[i]? = some (some (l * S + o)) ∧
      (o + 1 = S → StAt D S T P ds (i + 1) ((l : Int) - 1) 0 st) ∧ (o + 1 ≠ S → StAt D S T P ds (i + 1) (l : Int) (o + 1) st)) ∨
    (¬ (d : Int) < lv ∧ lv = -1 ∧ on = 0 ∧ ((st < T ∧ P[i]? = some (some ((D + 1) * S + st)) ∧ StAt D S T P ds (i + 1) (-1) 0 (st + 1)) ∨ (¬ st < T ∧ P[i]? = some none ∧ StAt D S T P ds (i + 1) (-1) 0 st))) := by
  obtain ⟨r, hv, hr, hst, hdl⟩ := h
  obtain ⟨hP, hN⟩ := dl_next hd hdl
  have put : ∀ (l o : Nat), LvAt S (min r ((d + 1) * S)) (l : Int) o → l ≤ D ∧ o < S ∧ P[i]? = some (some (l * S + o)) ∧
      (o + 1 = S → StAt D S T P ds (i + 1) ((l : Int) - 1) 0 st) ∧ (o + 1 ≠ S → StAt D S T P ds (i + 1) (l : Int) (o + 1) st) := fun l o hv' => by
    have hs := stp_put (L := (D + 1) * S) (T := T) (st := st) hv'
    rw [hs] at hP hN
    obtain ⟨_, hon, _, hfull, hmore⟩ := hv'.put
    have hle : min r ((d + 1) * S) ≤ (D + 1) * S := by omega
    exact ⟨LvAt.le hv' hle, hon, hP, fun e => ⟨_, hfull e, by show min r ((d + 1) * S) - 1 ≤ _; omega, hst, hN⟩, fun e => ⟨_, hmore e, by show min r ((d + 1) * S) - 1 ≤ _; omega, hst, hN⟩⟩
  by_cases hdl' : (d : Int) < lv
  · exact .inl ⟨d, 0, .inl ⟨hdl', rfl, rfl⟩, put d 0 (hv.drop hdl')⟩
  · have hk := hv.keep hdl'
    by_cases hl : lv < 0
    · obtain ⟨rfl, rfl, rfl⟩ := hv.none hl
      refine .inr ⟨hdl', rfl, rfl, ?_⟩
      have hz : min 0 ((d + 1) * S) = 0 := Nat.zero_min _
      unfold stp at hP hN
      rw [if_pos hz] at hP hN
      by_cases hlt : st < T
      · rw [if_pos hlt] at hP hN
        exact .inl ⟨hlt, hP, 0, .inl ⟨rfl, rfl, rfl⟩, Nat.zero_le _, hlt, hN⟩
      · rw [if_neg hlt] at hP hN
        exact .inr ⟨hlt, hP, 0, .inl ⟨rfl, rfl, rfl⟩, Nat.zero_le _, hst, hN⟩
    · obtain ⟨l, rfl⟩ := Int.eq_ofNat_of_zero_le (a := lv) (by omega)
      refine .inl ⟨l, on, .inr ⟨hdl', rfl, rfl⟩, put l on ?_⟩
      rw [hk]; exact hv
/-- In the middle of dealing. -/
structure RdAt (w w1 : World) (bx g t go off n D S T : Nat) (o : List Nat) (A : Nat → Option Nat) (v : Value) (l : List Nat) (wr : World) : Prop where
  row : wr.rowIs g 3 n (fun j => .int .i64 (optI (A j)))
  tk : wr.rowIs t 4 n (fun p => .bool (isAt A n p))
  lost : wr.ownsRow w1.heap.size 3 1 v l.length (irow (ofN l))
  ord : ∀ j, j < n → wr.cell? ⟨go, off + j, none⟩ = some (.int .i64 (o.getD j 0 : Nat))
  box : Box wr bx 26 #[.int .i64 (D : Int), .int .i64 (S : Int), .int .i64 (T : Int)]
  size : w1.heap.size ≤ wr.heap.size
  gs : w.heap.size ≤ g ∧ g < w1.heap.size
  ts : w.heap.size ≤ t ∧ t < w1.heap.size
  os : go < w1.heap.size ∧ bx < w1.heap.size
  ne : g ≠ t ∧ go ≠ g ∧ go ≠ t ∧ bx ≠ g ∧ bx ≠ t
  below : Below w.heap.size w wr
section
variable {w w1 wr wx : World} {bx g t go off n D S T : Nat} {o : List Nat} {A : Nat → Option Nat} {v : Value} {l : List Nat}
theorem RdAt.put (h : RdAt w w1 bx g t go off n D S T o A v l wr) (x p : Nat) (hx : x < n) (h0 : A x = none) {A' : Nat → Option Nat} (hA : ∀ j, A' j = if j = x then some p else A j) :
    RdAt w w1 bx g t go off n D S T o A' v l ((wr.setCell ⟨g, x, none⟩ (.int .i64 (p : Int))).setCell ⟨t, p, none⟩ (.bool true)) := by
  have hb : ∀ b, b ≠ g → b ≠ t → ((wr.setCell ⟨g, x, none⟩ (.int .i64 (p : Int))).setCell ⟨t, p, none⟩ (.bool true)).heap[b]? = wr.heap[b]? := fun b h1 h2 =>
    (Below.heap_setCell _ ⟨t, p, none⟩ _ b h2).trans (Below.heap_setCell wr ⟨g, x, none⟩ _ b h1)
  refine ⟨((h.row.set _ _).setOther h.ne.1 _).congr fun j _ => ?_, ((h.tk.setOther (fun e => h.ne.1 e.symm) _).set _ _).congr fun q _ => ?_, row_stay h.lost (fun b h1 _ => hb b (by have := h.gs.2; omega) (by have := h.ts.2; omega)), fun j hj => ?_, h.box.of (hb bx h.ne.2.2.2.1 h.ne.2.2.2.2),
    by simpa [World.setCell] using h.size, h.gs, h.ts, h.os, h.ne, (h.below.setCell (p := ⟨g, x, none⟩) h.gs.1 _).setCell (p := ⟨t, p, none⟩) h.ts.1 _⟩
  · show (if j = x then _ else _) = _
    rw [hA]
    by_cases e : j = x
    · rw [if_pos e, if_pos e]; rfl
    · rw [if_neg e, if_neg e]
  · show (if q = p then _ else _) = _
    rw [isAt_upd hx h0 hA]
    by_cases e : q = p
    · rw [if_pos e]; simp [e]
    · rw [if_neg e]; simp [e]
  · exact (World.cell?_of_block (w := wr) (hb go h.ne.2.1 h.ne.2.2.1)).trans (h.ord j hj)
theorem RdAt.lose (h : RdAt w w1 bx g t go off n D S T o A v l wr) (x : Nat) {A' : Nat → Option Nat} (hA : ∀ j, A' j = A j) {B : Option Addr} {cap : Nat} {ty : TypeId} {w7 : World}
    (ho : w7.ownsRow w1.heap.size 3 1 (.slice B (l.length + 1) cap) (l.length + 1) (irow (ofN l) ++ irow [(x : Int)])) (hg : (wr.alloc (.cells (irow [(x : Int)]).toArray ty)).grownBy w7 v.ownBlock) :
    RdAt w w1 bx g t go off n D S T o A' (.slice B (l ++ [x]).length cap) (l ++ [x]) w7 := by
  obtain rfl : A' = A := funext hA
  have hv : ∀ b, v.ownBlock = some b → w1.heap.size ≤ b := fun b hb => (own_lt h.lost hb).1
  have hblk : ∀ b, b < w1.heap.size → w7.heap[b]? = wr.heap[b]? := fun b hb =>
    (hg.block b (by have := h.size; simp; omega) (fun e => by have := hv b e.symm; omega)).trans (Below.heap_alloc wr _ b (by have := h.size; omega))
  have hsz : wr.heap.size ≤ w7.heap.size := by have := hg.size; simp at this; omega
  refine ⟨h.row.of_block (hblk g h.gs.2), h.tk.of_block (hblk t h.ts.2), ?_, fun j hj => (World.cell?_of_block (w := wr) (hblk go h.os.1)).trans (h.ord j hj), h.box.of (hblk bx h.os.2), Nat.le_trans h.size hsz, h.gs, h.ts, h.os, h.ne, ?_⟩
  · rw [List.length_append, ofN_snoc, irow_append]
    exact ho
  · exact (h.below.alloc h.below.size _).grown hg (by have := h.below.size; simp; omega) (fun b e => by have := hv b e; have := h.gs.1; have := h.gs.2; omega)
end
/-- The last place that was given. -/
def nxt (l : List Nat) (k : Nat) : Nat := if k = 0 then 0 else l.getD (k - 1) 0
theorem nxt_succ (l : List Nat) (k : Nat) : nxt l (k + 1) = l.getD k 0 := by unfold nxt; simp
/-- Places that are taken: by those that were dealt, and by those that were given one since. -/
def tkn (A : Nat → Option Nat) (n k p : Nat) : Bool := isAt A n p || ((fre A n).take k).contains p
theorem tkn_skip {A : Nat → Option Nat} {n k : Nat} (hk : k < (fre A n).length) (x : Nat) (h1 : nxt (fre A n) k ≤ x) (h2 : x < (fre A n).getD k 0) : tkn A n k x = true := by
  unfold tkn
  rw [Bool.or_eq_true]
  by_cases e : k ≠ 0 ∧ x = nxt (fre A n) k
  · right
    unfold nxt at e
    rw [if_neg e.1] at e
    rw [List.contains_iff_mem, e.2, getD_at (by omega)]
    exact List.mem_iff_getElem.2 ⟨k - 1, by rw [List.length_take]; omega, by rw [List.getElem_take]⟩
  · left
    refine fre_skip hk x ?_ h2
    unfold lft
    unfold nxt at h1 e
    by_cases h0 : k = 0
    · rw [if_pos h0]; exact Nat.zero_le _
    · rw [if_neg h0] at h1 e ⊢
      have : ¬ x = (fre A n).getD (k - 1) 0 := fun h => e ⟨h0, h⟩
      omega
theorem tkn_stop {A : Nat → Option Nat} {n k : Nat} (hk : k < (fre A n).length) : tkn A n k ((fre A n).getD k 0) = false ∧ (fre A n).getD k 0 < n := by
  obtain ⟨h1, h2⟩ := fre_stop hk
  refine ⟨?_, h2⟩
  unfold tkn
  rw [h1, Bool.false_or, getD_at hk]
  cases h : ((fre A n).take k).contains (fre A n)[k]
  · rfl
  · exfalso
    rw [List.contains_iff_mem] at h
    obtain ⟨m, hm, e⟩ := List.mem_iff_getElem.1 h
    rw [List.length_take] at hm
    rw [List.getElem_take] at e
    have := (List.pairwise_iff_getElem.1 (fre_up A n)) m k (by omega) hk (by omega)
    omega
theorem tkn_first {A : Nat → Option Nat} {n k : Nat} (hk : k < (fre A n).length) : nxt (fre A n) k ≤ (fre A n).getD k 0 := by
  have := fre_first hk
  unfold lft at this
  unfold nxt
  split
  · exact Nat.zero_le _
  · rename_i h; rw [if_neg h] at this; omega
theorem tkn_succ {A : Nat → Option Nat} {n k : Nat} (hk : k < (fre A n).length) (q : Nat) : tkn A n (k + 1) q = if q = (fre A n).getD k 0 then true else tkn A n k q := by
  unfold tkn
  rw [List.take_add_one, List.getElem?_eq_getElem hk, getD_at hk, List.contains_append]
  by_cases e : q = (fre A n)[k]
  · rw [if_pos e]; simp [e]
  · rw [if_neg e]
    have : (some (fre A n)[k]).toList.contains q = false := by simp [e]
    rw [this, Bool.or_false]
theorem tkn_zero (A : Nat → Option Nat) (n p : Nat) : tkn A n 0 p = isAt A n p := by unfold tkn; simp
/-- In the middle of giving the places that are left. -/
structure RfAt (w w1 : World) (g t n : Nat) (A : Nat → Option Nat) (v : Value) (l : List Nat) (i : Nat) (wr : World) : Prop where
  row : wr.rowIs g 3 n (fun j => .int .i64 (if j < i then (outP A n j : Int) else optI (A j)))
  tk : wr.rowIs t 4 n (fun p => .bool (tkn A n (rnk A i) p))
  lost : wr.ownsRow w1.heap.size 3 1 v l.length (irow (ofN l))
  size : w1.heap.size ≤ wr.heap.size
  gs : w.heap.size ≤ g ∧ g < w1.heap.size
  ts : w.heap.size ≤ t ∧ t < w1.heap.size
  ne : g ≠ t
  below : Below w.heap.size w wr
section
variable {w w1 wr wx : World} {bx g t go off n D S T i : Nat} {o : List Nat} {A : Nat → Option Nat} {v : Value} {l : List Nat}
theorem RdAt.fill (h : RdAt w w1 bx g t go off n D S T o A v l wr) : RfAt w w1 g t n A v l 0 wr :=
  ⟨h.row.congr fun j _ => by rw [if_neg (by omega)], h.tk.congr fun p _ => by show _ = Value.bool (tkn A n (rnk A 0) p); rw [show rnk A 0 = 0 from rfl, tkn_zero], h.lost, h.size, h.gs, h.ts, h.ne.1, h.below⟩
theorem RfAt.skip {p : Nat} (h : RfAt w w1 g t n A v l i wr) (hA : A i = some p) : RfAt w w1 g t n A v l (i + 1) wr := by
  have hrs : rnk A (i + 1) = rnk A i := by rw [rnk_succ, hA]; rfl
  exact ⟨h.row.congr fun j _ => by
    by_cases e : j = i
    · subst e; rw [if_neg (by omega), if_pos (by omega), out_some hA, hA]; rfl
    · by_cases e2 : j < i
      · rw [if_pos e2, if_pos (by omega)]
      · rw [if_neg e2, if_neg (by omega)], h.tk.congr fun p _ => by rw [hrs], h.lost, h.size, h.gs, h.ts, h.ne, h.below⟩
theorem RfAt.give {x : Nat} (h : RfAt w w1 g t n A v l i wr) (hA : A i = none) (hk : rnk A i < (fre A n).length) (hx : (fre A n).getD (rnk A i) 0 = x) :
    RfAt w w1 g t n A v l (i + 1) ((wr.setCell ⟨g, i, none⟩ (.int .i64 (x : Int))).setCell ⟨t, x, none⟩ (.bool true)) := by
  have hrs : rnk A (i + 1) = rnk A i + 1 := by rw [rnk_succ, hA]; rfl
  have hb : ∀ b, b ≠ g → b ≠ t → ((wr.setCell ⟨g, i, none⟩ (.int .i64 (x : Int))).setCell ⟨t, x, none⟩ (.bool true)).heap[b]? = wr.heap[b]? := fun b h1 h2 =>
    (Below.heap_setCell _ ⟨t, x, none⟩ _ b h2).trans (Below.heap_setCell wr ⟨g, i, none⟩ _ b h1)
  refine ⟨((h.row.set _ _).setOther h.ne _).congr fun j _ => ?_, ((h.tk.setOther (fun e => h.ne e.symm) _).set _ _).congr fun q _ => ?_, row_stay h.lost (fun b h1 _ => hb b (by have := h.gs.2; omega) (by have := h.ts.2; omega)), by simpa [World.setCell] using h.size, h.gs, h.ts, h.ne, (h.below.setCell (p := ⟨g, i, none⟩) h.gs.1 _).setCell (p := ⟨t, x, none⟩) h.ts.1 _⟩
  · show (if j = i then _ else _) = _
    by_cases e : j = i
    · subst e; rw [if_pos rfl, if_pos (by omega), outP_none hA, hx]
    · rw [if_neg e]
      by_cases e2 : j < i
      · rw [if_pos e2, if_pos (by omega)]
      · rw [if_neg e2, if_neg (by omega)]
  · show (if q = x then _ else _) = _
    rw [hrs, tkn_succ hk, hx]
    by_cases e : q = x
    · rw [if_pos e, if_pos e]
    · rw [if_neg e, if_neg e]
theorem RfAt.done {y : Nat → It} {c : Nat} (h : RfAt w w1 g t n (goes y S D T o) v (lostO y S D T o) n wr) (hc : n = c) (hord : IsOrd y n o) : DlPost w n D S T y (.returned (.tuple #[.slice (some ⟨g, 0, none⟩) n c, v])) wr := by
  subst hc
  have h2 := h.lost
  obtain ⟨B, cap, rfl⟩ := own_slice9 h2
  exact ⟨o, g, B, cap, hord, rfl, ⟨h.gs.1, h.row.lt, fun j hj => by have := h.row.cell hj; rw [if_pos hj] at this; exact this⟩, own_nums9 h2, h.below⟩
end

set_option maxRecDepth 100000 in
set_option maxHeartbeats 4000000 in
theorem ref_deal (D S T L n c : Nat) (a : Option Addr) (y : Nat → It) (w : World) (h1 : D ≤ 10) (h2 : 1 ≤ S) (h3 : S ≤ 8) (h4 : 1 ≤ T) (h5 : T ≤ 64) (hL : (D + 1) * S = L) (hn : L + T + 1 = n)
    (hI : Its w w.heap.size a n y) :
    Calls Try.prog 9 #[.agg #[.int .i64 (D : Int), .int .i64 (S : Int), .int .i64 (T : Int)], .slice a n c] w (DlPost w n D S T y) := by
  obtain ⟨hml, hl⟩ := mul_places h1 h3 hL
  have hsh := isSh_yes h1 h2 h3 h4 h5
  have HR := Lib.hid (fun W => (ref_right (D : Int) (S : Int) (T : Int) W))
  rw [hsh] at HR
  have HP := Lib.hid (fun W => ref_places D S T L n h1 h2 h3 h4 h5 hL hn W)
  have HI := Lib.hid hI
  have HL := Lib.hid hL
  have hl1 : 1 ≤ L := by rw [← hL]; exact Nat.le_trans h2 (Nat.le_mul_of_pos_left S (by omega))
  have hnb : 3 ≤ n ∧ n ≤ 153 := by omega
  have HN := Lib.hid hn
  have hmk := run_make_row' (P := Try.prog) 30 3 (.int .i64 0) 8 Try.underlying30 infoI64 rfl .i64 .i64 n (by omega) (by omega)
  have hmk2 := run_make_row' (P := Try.prog) 50 4 (.bool false) 1 Try.underlying50 infoBool rfl .i64 .i64 n (by omega) (by omega)
  clear hI hsh hL
  go_enter Try.func9, Try.ntmps9
  go_wp2_with fail
  refine (HR.out _).mono ?_
  rintro e w1 ⟨rfl, hb1⟩
  have hbx := (Box.new w 26 #[.int .i64 (D : Int), .int .i64 (S : Int), .int .i64 (T : Int)]).of (hb1.block _ (by simp))
  have HB := Lib.hid (((Below.refl _ w).alloc (Nat.le_refl _) (.cells #[.int .i64 (D : Int), .int .i64 (S : Int), .int .i64 (T : Int)] 26)).trans (hb1.mono (by simp)))
  have c0 := hbx.cell 0
  have c1 := hbx.cell 1
  have c2 := hbx.cell 2
  have HBx := Lib.hid hbx
  clear hb1 hbx
  go_wp2_with fail
  refine (HP.out _).mono ?_
  rintro e w2 ⟨rfl, hb2⟩
  have HB2 := Lib.hid (HB.out.trans (hb2.mono HB.out.size))
  have HBx2 := Lib.hid (HBx.out.of (hb2.block _ HBx.out.lt))
  have hbxl : w.heap.size < w2.heap.size := HBx2.out.lt
  have hwb : w.heap.size ≤ w2.heap.size := HB2.out.size
  clear hb2 HB HBx c0 c1 c2
  obtain ⟨g, hg⟩ : ∃ g, w2.heap.size = g := ⟨_, rfl⟩
  obtain ⟨w3, hw3⟩ : ∃ w3, (w2.alloc (.cells (madeCells #[.int .i64 0] n) 3)).alloc (.cells (madeCells #[.bool false] n) 4) = w3 := ⟨_, rfl⟩
  have hs3 : w3.heap.size = g + 2 := by rw [← hw3, ← hg]; simp
  have hB3 : Below w.heap.size w w3 := by rw [← hw3]; exact (HB2.out.alloc HB2.out.size _).alloc (by have := HB2.out.size; simp; omega) _
  have hrow0 : w3.rowIs g 3 n (fun _ => .int .i64 0) := by rw [← hw3, ← hg]; exact (World.rowIs_made w2 (.int .i64 0) n 3).alloc _
  have htk0 : w3.rowIs (g + 1) 4 n (fun _ => .bool false) := by
    rw [← hw3]
    have := World.rowIs_made (w2.alloc (.cells (madeCells #[.int .i64 0] n) 3)) (.bool false) n 4
    have e : (w2.alloc (.cells (madeCells #[.int .i64 0] n) 3)).heap.size = g + 1 := by simp [hg]
    rwa [e] at this
  have hbx3 : Box w3 w.heap.size 26 #[.int .i64 (D : Int), .int .i64 (S : Int), .int .i64 (T : Int)] := by rw [← hw3]; exact (HBx2.out.alloc _).alloc _
  have HS3 := Lib.hid hs3
  have HB3 := Lib.hid hB3
  have HRow := Lib.hid hrow0
  have HTk := Lib.hid htk0
  have HBx3 := Lib.hid hbx3
  have HG := Lib.hid hg
  have HW3 := Lib.hid hw3
  have hgb : w.heap.size < g := by omega
  clear hg hw3 hs3 hB3 hrow0 htk0 hbx3 HB2 HBx2
  go_wp2_with fail
  simp only [HG.out, HW3.out]
  refine (ref_order a n c y w3 (by omega) ((HI.out.below HB3.out).more HB3.out.size)).mono ?_
  rintro e w5 ⟨o, ao, co, hord, rfl, hnu, hb5, hnew⟩
  have hs5 := hb5.size
  have hs3 := HS3.out
  obtain ⟨go, off, rfl, hgo, hcell⟩ := hnu (by omega)
  have hgo1 := hnew go off rfl
  obtain ⟨t, ht⟩ : ∃ t, g + 1 = t := ⟨_, rfl⟩
  rw [ht] at HTk ⊢
  have hgt : ¬ g = t := by omega
  have htg : ¬ t = g := by omega
  obtain ⟨R, hR⟩ : ∃ R, reals y o = R := ⟨_, rfl⟩
  obtain ⟨P, hP⟩ : ∃ P, plc y S D T o = P := ⟨_, rfl⟩
  have HGs : Hid (goes y S D T o = asg R P) := Lib.hid (by unfold goes; rw [hR, hP])
  have HLs : Hid (lostO y S D T o = lostL R P) := Lib.hid (by unfold lostO; rw [hR, hP])
  have HRn : Hid R.Nodup := Lib.hid (by rw [← hR]; exact reals_nodup hord)
  have HRl : Hid (R.length = P.length) := Lib.hid (by rw [← hR, ← hP]; exact plc_len.symm)
  have HOr := Lib.hid (fun k (hk : k < o.length) => ord_at hord k hk)
  have HRm : Hid (R.length ≤ n) := Lib.hid (by rw [← hR]; exact reals_len hord)
  rw [hR] at HOr
  have HO := Lib.hid hord
  have HOl := Lib.hid hord.len
  have HSt : Hid (StAt D S T P (deeps y R) 0 (D : Int) 0 0) := Lib.hid (by
    rw [← hP, ← hR]
    unfold plc
    exact StAt.start D S T _ h2)
  have HRow5 := Lib.hid (HRow.out.of_block (hb5.block g (by omega)))
  have HTk5 := Lib.hid (HTk.out.of_block (hb5.block t (by omega)))
  have hbxb := HBx3.out.of (hb5.block w.heap.size (by omega))
  have HBx5 := Lib.hid hbxb
  have HB5 := Lib.hid (HB3.out.trans (hb5.mono HB3.out.size))
  have HC5 := Lib.hid hcell
  have hbg : ¬ w.heap.size = g ∧ ¬ w.heap.size = t ∧ ¬ go = g ∧ ¬ go = t ∧ w.heap.size < t := by omega
  have c0 := hbxb.cell 0
  have HBd : Hid (w.heap.size < g ∧ g < w5.heap.size ∧ t < w5.heap.size ∧ w.heap.size < w5.heap.size ∧ go < w5.heap.size) := Lib.hid (by omega)
  clear hord hb5 hs5 hs3 hgo1 hgo hnew hnu hcell hR hP ht hbxb hgb HRow HTk HBx3 HB3 HS3 HG HW3
  go_wp2_with fail
  clear c0
  go_loopw [13] (fun v wr => ∃ i : Nat, v = .int .i64 i ∧ i ≤ n ∧ wr.rowIs g 3 n (fun j => .int .i64 (if j < i then -1 else 0)) ∧ Only (just g) w5 wr) (fun v _ => n - (intOf v).toNat)
  case atStart => exact ⟨0, rfl, by omega, HRow5.out.congr (fun j _ => by rw [if_neg (by omega)]), Only.refl _ _⟩
  case round =>
    obtain ⟨i, rfl, hi, hrow, honly⟩ := hrel
    by_cases hin : i < n
    · have k0 := hrow.cell hin
      have f0 := hrow.frozen i
      have HE : Hid ((wr.setCell ⟨g, i, none⟩ (.int .i64 (-1))).rowIs g 3 n (fun j => .int .i64 (if j < i + 1 then -1 else 0))) := Lib.hid ((hrow.set _ _).congr fun j _ => by
        show (if j = i then _ else _) = _
        by_cases e : j = i
        · rw [if_pos e, if_pos (by omega)]
        · rw [if_neg e]
          by_cases e2 : j < i
          · rw [if_pos e2, if_pos (by omega)]
          · rw [if_neg e2, if_neg (by omega)])
      have HO2 := Lib.hid (honly.setCell (p := ⟨g, i, none⟩) (.inl (just_self g)) (.int .i64 (-1)))
      clear hrow honly
      go_wp2_with fail
      go_roundw
      case rel => exact ⟨i + 1, by go_num, by omega, HE.out, HO2.out⟩
      case measure => simp [intOf]; omega
    · obtain rfl : i = n := by omega
      have HDa : Hid (RdAt w w5 w.heap.size g t go off i D S T o (asgI R P 0) (.slice none 0 0) (losI R P 0) wr) := Lib.hid
        ⟨hrow.congr fun j hj => by rw [if_pos hj]; unfold asgI; rw [List.take_zero, List.take_zero]; rfl,
          (honly.row HTk5.out (just_ne htg)).congr fun p _ => by
            have e : isAt (asgI R P 0) i p = false := by
              cases h : isAt (asgI R P 0) i p
              · rfl
              · obtain ⟨k, _, e⟩ := (isAt_iff _ _ p).1 h
                unfold asgI at e
                rw [List.take_zero, List.take_zero] at e
                cases e
            rw [e],
          by unfold losI; rw [List.take_zero, List.take_zero]; exact World.ownsRow_nil _ _ _ _,
          fun j hj => (World.cell?_of_block (w := w5) (honly.block go HBd.out.2.2.2.2 (just_ne hbg.2.2.1))).trans (HC5.out j hj),
          HBx5.out.only honly (just_ne hbg.1), honly.size, ⟨Nat.le_of_lt HBd.out.1, HBd.out.2.1⟩, ⟨Nat.le_of_lt hbg.2.2.2.2, HBd.out.2.2.1⟩, ⟨HBd.out.2.2.2.2, HBd.out.2.2.2.1⟩, ⟨hgt, hbg.2.2.1, hbg.2.2.2.1, hbg.1, hbg.2.1⟩,
          below_only HB5.out honly HB5.out.size (fun k hk e => by have := HBd.out.1; have e : k = g := e; omega)⟩
      clear hrow honly hin hi HRow5 HTk5 HBx5 HB5 HC5
      go_wp2_with fail
      go_loopw [9, 10, 11, 12, 14] (fun v9 v10 v11 v12 v14 wr => ∃ (q : Nat) (lv : Int) (on st : Nat), v14 = .int .i64 q ∧ v9 = .int .i64 lv ∧ v10 = .int .i64 on ∧ v11 = .int .i64 st ∧ q ≤ R.length ∧ RdAt w w5 w.heap.size g t go off i D S T o (asgI R P q) v12 (losI R P q) wr ∧ StAt D S T P (deeps y R) q lv on st) (fun _ _ _ _ v _ => i - (intOf v).toNat)
      case atStart => exact ⟨0, (D : Int), 0, 0, rfl, rfl, rfl, rfl, by omega, HDa.out, HSt.out⟩
      case round =>
        obtain ⟨q, lv, on, st, rfl, rfl, rfl, rfl, hqR, hS, hT⟩ := hrel
        clear HDa HSt
        have HS := Lib.hid hS
        have HT := Lib.hid hT
        have hRn := HRm.out
        clear hT
        obtain ⟨w9, h9⟩ : ∃ x, x = wr := ⟨_, rfl⟩
        subst h9
        by_cases hin : q < i
        · have hio : q < o.length := by rw [HOl.out]; exact hin
          have co := hS.ord q hin
          rw [getD_at hio] at co
          have hxn := HO.out.lt q hio
          have hor := HOr.out q hio
          obtain ⟨b, ib, rfl, hb, ci0, ci1⟩ := (HI.out.below hS.below).at hxn
          have c0 := hS.box.cell 0
          have c1 := hS.box.cell 1
          have c2 := hS.box.cell 2
          generalize hx : o[q] = x at *
          have HXe := Lib.hid hx
          clear hx
          by_cases hneg : (y x).2 < 0
          · have hiR2 : q = R.length := by
              have : ¬ q < R.length := fun h => by have := hor.1.2 h; omega
              omega
            have d0 : decide (0 ≤ (y x).2) = false := decide_eq_false (by omega)
            clear hor hS
            have HGo : ∀ j, asgI R P q j = goes y S D T o j := fun j => by rw [HGs.out]; unfold asgI; rw [List.take_of_length_le (by omega), List.take_of_length_le (by rw [← HRl.out]; omega)]
            have hLo : losI R P q = lostO y S D T o := by rw [HLs.out]; unfold losI; rw [List.take_of_length_le (by omega), List.take_of_length_le (by rw [← HRl.out]; omega)]
            have HF : Hid (RfAt w w5 g t i (goes y S D T o) u12 (lostO y S D T o) 0 w9) := Lib.hid (by
              have h := HS.out.fill
              rw [funext HGo, hLo] at h
              exact h)
            have HLen := Lib.hid (fre_len (A := goes y S D T o) (n := i) (fun i p _ hi => by have := goes_lt (by omega) HO.out hi; have := HL.out; have := HN.out; omega) (fun i j p _ _ hi hj => goes_inj (by omega) HO.out hi hj))
            generalize hA : goes y S D T o = A at *
            generalize hlo : lostO y S D T o = lo at *
            have HA := Lib.hid hA
            have HLo := Lib.hid hlo
            clear hA hlo HGo hLo HS HT HOr HGs HLs HRn HRl HRm hRn hqR hiR2
            go_wp2_with fail
            go_loopw [16, 17] (fun v16 v17 wr => ∃ k : Nat, v17 = .int .i64 k ∧ v16 = .int .i64 (nxt (fre A i) (rnk A k) : Nat) ∧ k ≤ i ∧ RfAt w w5 g t i A u12 lo k wr) (fun _ v _ => i - (intOf v).toNat)
            case atStart => exact ⟨0, rfl, by simp [nxt, rnk], by omega, HF.out⟩
            case round =>
              obtain ⟨k, rfl, rfl, hk, hS⟩ := hrel
              clear HF
              obtain ⟨w8, h8⟩ : ∃ x, x = wr := ⟨_, rfl⟩
              subst h8
              by_cases hki : k < i
              · have k0 := hS.row.cell hki
                have f0 := hS.row.frozen k
                rw [if_neg (by omega)] at k0
                cases hA : A k with
                | none =>
                  rw [hA] at k0
                  replace k0 : w8.cell? ⟨g, k, none⟩ = some (.int .i64 (-1)) := k0
                  have hrk : rnk A k < (fre A i).length := by rw [HLen.out]; exact rank_lt hki hA
                  have hrs : rnk A (k + 1) = rnk A k + 1 := by rw [rnk_succ, hA]; rfl
                  have HSk := Lib.hid (tkn_skip hrk)
                  obtain ⟨hst, hsn⟩ := tkn_stop hrk
                  have hff := tkn_first hrk
                  have HG := Lib.hid (fun x hx => hS.give (x := x) hA hrk hx)
                  have HR2 := Lib.hid (And.intro hrs (nxt_succ (fre A i) (rnk A k)))
                  have HTk := Lib.hid hS.tk
                  clear hS hA hrk hrs
                  generalize nxt (fre A i) (rnk A k) = lo2 at *
                  generalize hhi : (fre A i).getD (rnk A k) 0 = hi at *
                  have HHi := Lib.hid hhi
                  have HSt := Lib.hid hst
                  clear hst hhi
                  go_wp2_with fail
                  go_loopw [16] (fun v wr => ∃ x : Nat, v = .int .i64 x ∧ lo2 ≤ x ∧ x ≤ hi ∧ wr = w8) (fun v _ => hi - (intOf v).toNat)
                  case atStart => exact ⟨lo2, rfl, by omega, hff, rfl⟩
                  case round =>
                    obtain ⟨x, rfl, hx1, hx2, rfl⟩ := hrel
                    have ct := HTk.out.cell (show x < i by omega)
                    by_cases hxh : x < hi
                    · rw [HSk.out x hx1 hxh] at ct
                      go_wp2_with fail
                      go_roundw
                      case rel => exact ⟨x + 1, by go_num, by omega, by omega, trivial⟩
                      case measure => simp [intOf]; omega
                    · obtain rfl : x = hi := by omega
                      rw [HSt.out] at ct
                      have ft := HTk.out.frozen x
                      have HGG := Lib.hid (HG.out x rfl)
                      clear hxh hx1 hx2 HG
                      go_wp2_with fail
                      go_roundw
                      case rel => exact ⟨k + 1, by go_num, by rw [HR2.out.1, HR2.out.2], by omega, HGG.out⟩
                      case measure => simp [intOf]; omega
                | some p =>
                  rw [hA] at k0
                  replace k0 : w8.cell? ⟨g, k, none⟩ = some (.int .i64 (p : Int)) := k0
                  have hrs : rnk A (k + 1) = rnk A k := by rw [rnk_succ, hA]; rfl
                  have hge : decide (0 ≤ (p : Int)) = true := decide_eq_true (by omega)
                  have HNx := Lib.hid (hS.skip hA)
                  have HR2 := Lib.hid hrs
                  clear hS hA hrs
                  go_wp2_with fail
                  go_roundw
                  case rel => exact ⟨k + 1, by go_num, by rw [HR2.out], by omega, HNx.out⟩
                  case measure => simp [intOf]; omega
              · obtain rfl : k = i := by omega
                have HE : Hid (DlPost w k D S T y (.returned (.tuple #[.slice (some ⟨g, 0, none⟩) k k, u12])) w8) := Lib.hid (RfAt.done (by rw [HA.out, HLo.out]; exact hS) rfl HO.out)
                clear hS hki hk
                go_wp2_with fail
                go_ret2
                exact HE.out
          · have hiR2 : q < R.length := hor.1.1 (by omega)
            have hRi : R[q]? = some x := by rw [List.getElem?_eq_getElem hiR2, hor.2 hiR2]
            obtain ⟨d, hd⟩ := Int.eq_ofNat_of_zero_le (a := (y x).2) (by omega)
            have hdi : (deeps y R)[q]? = some d := by
              unfold deeps
              rw [List.getElem?_map, hRi]
              show some (y x).2.toNat = some d
              rw [hd]; rfl
            rw [hd] at ci1
            have d0 : decide (0 ≤ (d : Int)) = true := decide_eq_true (by omega)
            have hstep := HT.out.step hdi
            have hxo := asgI_out (P := P) HRn.out hRi
            have cg := hS.row.cell hxn
            have fg := hS.row.frozen x
            generalize (y x).1 = yi at *
            clear hneg hd hor
            rcases hstep with ⟨l, k, hcase, hlD, hkS, hPq, hfull, hmore⟩ | ⟨hc, rfl, rfl, hcase⟩
            · have hlk : l * S + k < L := by
                have e1 : (l + 1) * S ≤ (D + 1) * S := Nat.mul_le_mul_right _ (by omega)
                have e2 : (l + 1) * S = l * S + S := by rw [Nat.add_mul, Nat.one_mul]
                have := HL.out
                omega
              have hm : (l : Int) * (S : Int) = ((l * S : Nat) : Int) := by simp
              have hwr : IntKind.i64.wrap ((l : Int) * (S : Int)) = ((l * S : Nat) : Int) := by rw [hm, IntKind.wrap_i64]; omega
              obtain ⟨pl, hpl⟩ : ∃ pl, l * S + k = pl := ⟨_, rfl⟩
              have HS8 := Lib.hid (hS.put x pl hxn hxo (A' := asgI R P (q + 1)) (by rw [hpl] at hPq; exact asgI_succ HRn.out HRl.out hRi hPq))
              have HL8 : Hid (losI R P (q + 1) = losI R P q) := Lib.hid (by rw [losI_succ HRl.out hRi hPq]; simp)
              have hpi : pl < i := by omega
              have ct := hS.tk.cell hpi
              have ft := hS.tk.frozen pl
              have hws : IntKind.i64.wrap (((l * S : Nat) : Int) + (k : Int)) = (pl : Int) := by rw [IntKind.wrap_i64]; omega
              generalize l * S = m at *
              clear hS hPq hRi hdi hxo hm hlk
              rcases hcase with ⟨hc, hl1, hl2⟩ | ⟨hc, rfl, rfl⟩
              · by_cases hS : k + 1 = S
                · have hst := 0
                  have d1 : decide ((d : Int) < lv) = true := decide_eq_true hc
                  obtain rfl : l = d := hl1
                  obtain rfl : k = 0 := hl2
                  obtain rfl : pl = m := by omega
                  clear hws
                  have d2 : decide (0 ≤ (l : Int)) = true := decide_eq_true (by omega)
                  have d3 : decide (0 ≤ (pl : Int)) = true := decide_eq_true (by omega)
                  have hq : ((1 : Int) == (S : Int)) = true := by rw [beq_iff_eq]; omega
                  have HN := Lib.hid (hfull hS)
                  clear hfull hmore hst
                  go_wp2_with fail
                  go_roundw
                  case rel => exact ⟨q + 1, (l : Int) - 1, 0, st, by go_num, by go_num, rfl, rfl, by omega, by rw [HL8.out]; exact HS8.out, HN.out⟩
                  case measure => simp [intOf]; omega
                · have hst := 0
                  have d1 : decide ((d : Int) < lv) = true := decide_eq_true hc
                  obtain rfl : l = d := hl1
                  obtain rfl : k = 0 := hl2
                  obtain rfl : pl = m := by omega
                  clear hws
                  have d2 : decide (0 ≤ (l : Int)) = true := decide_eq_true (by omega)
                  have d3 : decide (0 ≤ (pl : Int)) = true := decide_eq_true (by omega)
                  have hq : ((1 : Int) == (S : Int)) = false := by rw [beq_eq_false_iff_ne]; omega
                  have HN := Lib.hid (hmore hS)
                  clear hfull hmore hst
                  go_wp2_with fail
                  go_roundw
                  case rel => exact ⟨q + 1, (l : Int), 1, st, by go_num, rfl, by go_num, rfl, by omega, by rw [HL8.out]; exact HS8.out, HN.out⟩
                  case measure => simp [intOf]; omega
              · by_cases hS : k + 1 = S
                · have hst := 0
                  have d1 : decide ((d : Int) < (l : Int)) = false := decide_eq_false hc
                  have d2 : decide (0 ≤ (l : Int)) = true := decide_eq_true (by omega)
                  have d3 : decide (0 ≤ (pl : Int)) = true := decide_eq_true (by omega)
                  have hq2 : ((k : Int) + 1 == (S : Int)) = true := by rw [beq_iff_eq]; omega
                  have HN := Lib.hid (hfull hS)
                  clear hfull hmore hst
                  go_wp2_with fail
                  go_roundw
                  case rel => exact ⟨q + 1, (l : Int) - 1, 0, st, by go_num, by go_num, rfl, rfl, by omega, by rw [HL8.out]; exact HS8.out, HN.out⟩
                  case measure => simp [intOf]; omega
                · have hst := 0
                  have d1 : decide ((d : Int) < (l : Int)) = false := decide_eq_false hc
                  have d2 : decide (0 ≤ (l : Int)) = true := decide_eq_true (by omega)
                  have d3 : decide (0 ≤ (pl : Int)) = true := decide_eq_true (by omega)
                  have hq2 : ((k : Int) + 1 == (S : Int)) = false := by rw [beq_eq_false_iff_ne]; omega
                  have HN := Lib.hid (hmore hS)
                  clear hfull hmore hst
                  go_wp2_with fail
                  go_roundw
                  case rel => exact ⟨q + 1, (l : Int), k + 1, st, by go_num, rfl, by go_num, rfl, by omega, by rw [HL8.out]; exact HS8.out, HN.out⟩
                  case measure => simp [intOf]; omega
            · have d1 : decide ((d : Int) < -1) = false := decide_eq_false hc
              rcases hcase with ⟨hlt, hPq, hst⟩ | ⟨hlt, hPq, hst⟩
              · obtain ⟨pl, hpl⟩ : ∃ pl, L + st = pl := ⟨_, rfl⟩
                have HS8 := Lib.hid (hS.put x pl hxn hxo (A' := asgI R P (q + 1)) (by rw [HL.out, hpl] at hPq; exact asgI_succ HRn.out HRl.out hRi hPq))
                have HL8 : Hid (losI R P (q + 1) = losI R P q) := Lib.hid (by rw [losI_succ HRl.out hRi hPq]; simp)
                have hpi : pl < i := by omega
                have ct := hS.tk.cell hpi
                have ft := hS.tk.frozen pl
                have hwr : IntKind.i64.wrap ((S : Int) * ((D : Int) + 1)) = (L : Int) := by rw [hml, IntKind.wrap_i64]; omega
                have hws : IntKind.i64.wrap ((L : Int) + (st : Int)) = (pl : Int) := by rw [IntKind.wrap_i64]; omega
                have d3 : decide (0 ≤ (pl : Int)) = true := decide_eq_true (by omega)
                have HN2 := Lib.hid hst
                clear hS hPq hRi hdi hxo hst hml
                go_wp2_with fail
                go_roundw
                case rel => exact ⟨q + 1, -1, 0, st + 1, by go_num, rfl, rfl, by go_num, by omega, by rw [HL8.out]; exact HS8.out, HN2.out⟩
                case measure => simp [intOf]; omega
              · have HAe : Hid (∀ j, asgI R P (q + 1) j = asgI R P q j) := Lib.hid (fun j => by
                  rw [asgI_succ HRn.out HRl.out hRi hPq]
                  by_cases e : j = x
                  · rw [if_pos e, e, hxo]
                  · rw [if_neg e])
                have HL8 : Hid (losI R P (q + 1) = losI R P q ++ [x]) := Lib.hid (by rw [losI_succ HRl.out hRi hPq]; simp)
                have hbase : w5.heap.size ≤ w9.heap.size := hS.size
                have hll := losI_len (R := R) (P := P) q
                have HN2 := Lib.hid hst
                clear hS hPq hRi hdi hxo hst
                generalize hlq : losI R P q = lq at *
                go_wp2_with (with_reducible refine wpList_append_where _ rfl (.tmp 112) (.tmp 117) 30 rfl w5.heap.size 3 (.int .i64 0) 1 8 Try.underlying30 infoI64 rfl (by decide) u12 lq.length (irow (ofN lq)) rfl (row_stay HS.out.lost (fun b _ hb => Below.heap_alloc _ _ b hb)) ⟨w9.heap.size, 0, none⟩ 1 1 (irow [(x : Int)]) rfl rfl ?c0 (irow_one _) ?c2 ?c3 ?c4 ?_)
                case c0 => first | exact irow_new w9 _ [(x : Int)] rfl | exact fun j u hu => hu
                case c2 => simp only [maxLen]; omega
                case c3 => omega
                case c4 => first | omega | (simp; omega)
                intro A2 cap2 w10 hown hgr _
                have HS10 := Lib.hid (HS.out.lose x HAe.out hown hgr)
                clear hown hgr
                go_wp2_with fail
                go_roundw
                case rel => exact ⟨q + 1, -1, 0, st, by go_num, rfl, rfl, rfl, by omega, by rw [HL8.out, List.length_append] at *; exact HS10.out, HN2.out⟩
                case measure => simp [intOf]; omega
        · have hiR2 : q = R.length := by omega
          clear hS
          have HGo : ∀ j, asgI R P q j = goes y S D T o j := fun j => by rw [HGs.out]; unfold asgI; rw [List.take_of_length_le (by omega), List.take_of_length_le (by rw [← HRl.out]; omega)]
          have hLo : losI R P q = lostO y S D T o := by rw [HLs.out]; unfold losI; rw [List.take_of_length_le (by omega), List.take_of_length_le (by rw [← HRl.out]; omega)]
          have HF : Hid (RfAt w w5 g t i (goes y S D T o) u12 (lostO y S D T o) 0 w9) := Lib.hid (by
            have h := HS.out.fill
            rw [funext HGo, hLo] at h
            exact h)
          have HLen := Lib.hid (fre_len (A := goes y S D T o) (n := i) (fun i p _ hi => by have := goes_lt (by omega) HO.out hi; have := HL.out; have := HN.out; omega) (fun i j p _ _ hi hj => goes_inj (by omega) HO.out hi hj))
          generalize hA : goes y S D T o = A at *
          generalize hlo : lostO y S D T o = lo at *
          have HA := Lib.hid hA
          have HLo := Lib.hid hlo
          clear hA hlo HGo hLo HS HT HOr HGs HLs HRn HRl HRm hRn hqR hiR2
          go_wp2_with fail
          go_loopw [16, 17] (fun v16 v17 wr => ∃ k : Nat, v17 = .int .i64 k ∧ v16 = .int .i64 (nxt (fre A i) (rnk A k) : Nat) ∧ k ≤ i ∧ RfAt w w5 g t i A u12 lo k wr) (fun _ v _ => i - (intOf v).toNat)
          case atStart => exact ⟨0, rfl, by simp [nxt, rnk], by omega, HF.out⟩
          case round =>
            obtain ⟨k, rfl, rfl, hk, hS⟩ := hrel
            clear HF
            obtain ⟨w8, h8⟩ : ∃ x, x = wr := ⟨_, rfl⟩
            subst h8
            by_cases hki : k < i
            · have k0 := hS.row.cell hki
              have f0 := hS.row.frozen k
              rw [if_neg (by omega)] at k0
              cases hA : A k with
              | none =>
                rw [hA] at k0
                replace k0 : w8.cell? ⟨g, k, none⟩ = some (.int .i64 (-1)) := k0
                have hrk : rnk A k < (fre A i).length := by rw [HLen.out]; exact rank_lt hki hA
                have hrs : rnk A (k + 1) = rnk A k + 1 := by rw [rnk_succ, hA]; rfl
                have HSk := Lib.hid (tkn_skip hrk)
                obtain ⟨hst, hsn⟩ := tkn_stop hrk
                have hff := tkn_first hrk
                have HG := Lib.hid (fun x hx => hS.give (x := x) hA hrk hx)
                have HR2 := Lib.hid (And.intro hrs (nxt_succ (fre A i) (rnk A k)))
                have HTk := Lib.hid hS.tk
                clear hS hA hrk hrs
                generalize nxt (fre A i) (rnk A k) = lo2 at *
                generalize hhi : (fre A i).getD (rnk A k) 0 = hi at *
                have HHi := Lib.hid hhi
                have HSt := Lib.hid hst
                clear hst hhi
                go_wp2_with fail
                go_loopw [16] (fun v wr => ∃ x : Nat, v = .int .i64 x ∧ lo2 ≤ x ∧ x ≤ hi ∧ wr = w8) (fun v _ => hi - (intOf v).toNat)
                case atStart => exact ⟨lo2, rfl, by omega, hff, rfl⟩
                case round =>
                  obtain ⟨x, rfl, hx1, hx2, rfl⟩ := hrel
                  have ct := HTk.out.cell (show x < i by omega)
                  by_cases hxh : x < hi
                  · rw [HSk.out x hx1 hxh] at ct
                    go_wp2_with fail
                    go_roundw
                    case rel => exact ⟨x + 1, by go_num, by omega, by omega, trivial⟩
                    case measure => simp [intOf]; omega
                  · obtain rfl : x = hi := by omega
                    rw [HSt.out] at ct
                    have ft := HTk.out.frozen x
                    have HGG := Lib.hid (HG.out x rfl)
                    clear hxh hx1 hx2 HG
                    go_wp2_with fail
                    go_roundw
                    case rel => exact ⟨k + 1, by go_num, by rw [HR2.out.1, HR2.out.2], by omega, HGG.out⟩
                    case measure => simp [intOf]; omega
              | some p =>
                rw [hA] at k0
                replace k0 : w8.cell? ⟨g, k, none⟩ = some (.int .i64 (p : Int)) := k0
                have hrs : rnk A (k + 1) = rnk A k := by rw [rnk_succ, hA]; rfl
                have hge : decide (0 ≤ (p : Int)) = true := decide_eq_true (by omega)
                have HNx := Lib.hid (hS.skip hA)
                have HR2 := Lib.hid hrs
                clear hS hA hrs
                go_wp2_with fail
                go_roundw
                case rel => exact ⟨k + 1, by go_num, by rw [HR2.out], by omega, HNx.out⟩
                case measure => simp [intOf]; omega
            · obtain rfl : k = i := by omega
              have HE : Hid (DlPost w k D S T y (.returned (.tuple #[.slice (some ⟨g, 0, none⟩) k k, u12])) w8) := Lib.hid (RfAt.done (by rw [HA.out, HLo.out]; exact hS) rfl HO.out)
              clear hS hki hk
              go_wp2_with fail
              go_ret2
              exact HE.out
end Go.Proofs.Ytnpddimepcblkaa
