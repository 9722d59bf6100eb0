/- Texts of ours put together: StoreWay, StoreSrc, StoreFr. -/
import Derived.Test.YtloibfdcahmhjaaGreatG49
import Derived.Test.YtloibfdcahmhjaaGreatZStoreTw
namespace Go.Proofs.YtloibfdcahmhjaaGreat
set_option maxRecDepth 100000
open Go.RowKit Go.ChangeShapes Go.WideShapes Go.ChangeAt

section
variable {c : SC} {g : SG} {m : Nat → Bm}
structure Wy (c : SC) (D : Dw) (id : Nat) (W : Nat → Nt) (G0 : List Nt) (l : List Nat) (q : Nat) (g : SG) (e : Nt) (m : Nat → Bm) : Prop where
  inv : SIe c g m (fun h i => h = q ∧ i = id / 4 ^ q)
  eok : okN (c.N q) e
  efm : ∀ lf d, m q ((id / 4 ^ q : Nat) : Int) = some (lf, d) → e.1 = (lf : Int) + 1
  eW : e = W q
  past : ∀ h, q ≤ h → h < c.n → whN c g m h (id / 4 ^ h) = (D h).1
  todo : ∀ h, h < q → whN c g m h (id / 4 ^ h) = W h
  gone : g.gone = G0 ++ l.map fun h => orN (W h) (D h).2
theorem Wy.fr {D : Dw} {id : Nat} {W : Nat → Nt} {G0 : List Nt} {l : List Nat} {q : Nat} {e : Nt} (h : Wy c D id W G0 l q g e m) (hD : DrwOk c D) (hq : q < c.n) : lfN (c.N q) (orN e (D q).2) ∧ ∀ lf d, m q ((id / 4 ^ q : Nat) : Int) = some (lf, d) → (orN e (D q).2).1 = (lf : Int) + 1 := by
  refine ⟨or_lf h.eok (hD q hq).2, fun lf d hm => ?_⟩
  have h1 := h.efm lf d hm
  unfold orN
  rw [if_neg (by omega)]
  exact h1
theorem Rn.ways (hc : c.Ok) {D : Dw} (hD : DrwOk c D) {op : Int} (hop : op = 0 ∨ op = 1 ∨ op = 3) {id : Nat} (hid : id < 2 ^ c.b) {d : Nat → Int} {g0 : SG} {e0 : Nt} {W : Nat → Nt} {G0 : List Nt} (h0 : ∃ m, Wy c D id W G0 [] (c.n - 1) g0 e0 m) {l : List Nat} {g : SG} {e : Nt} {r : Nat → Int} {t : Bool} (h : Rn c D op id d g0 e0 l g e r t) :
    ∀ s, l ++ s = downL c.n → NoO c g → (∀ q, s.length = q + 1 → ∃ m, Wy c D id W G0 l q g e m) ∧
      (s = [] → ∃ m, SIe c g m (fun _ _ => False) ∧ (∀ h, h < c.n → whN c g m h (id / 4 ^ h) = (D h).1) ∧ g.gone = G0 ++ l.map fun h => orN (W h) (D h).2) := by
  induction h with
  | nil =>
    intro s hs hN
    have hs' : s = downL c.n := hs
    have hl : s.length = c.n := by rw [hs', downL_len]
    have hn := hc.n1
    refine ⟨fun q hq => ?_, fun e => by rw [e] at hl; simp at hl; omega⟩
    have : q = c.n - 1 := by omega
    subst this
    exact h0
  | part p o h hp ho ih =>
    intro s hs hN
    rw [List.append_assoc] at hs
    have hsf := down_suff _ _ _ hs
    have hlen : s.length = p + 1 := by
      have e2 : ([p + 1] ++ s) = downL (s.length + 1) := by simpa using hsf
      have e3 : (p + 1) :: s = s.length :: downL s.length := e2
      injection e3 with e3 _
      exact e3.symm
    have hN1 := NoO.gon hN.lev
    obtain ⟨m, hw⟩ := (ih _ hs hN1).1 (p + 1) (by simp [hlen])
    obtain ⟨hf1, hf2⟩ := hw.fr hD hp
    obtain ⟨r1, r2, r3, r4, _⟩ := SIe.part hc (hw.inv.gon _) hp hid hD hf1 hf2 (hw.past (p + 1) (Nat.le_refl _) hp) ho hN
    refine ⟨fun q hq => ?_, fun e => by rw [e] at hlen; simp at hlen⟩
    have : q = p := by omega
    subst this
    refine ⟨_, r1, ?_, fun lf d hm => ?_, ?_, fun j h1 h2 => ?_, fun j hj => ?_, ?_⟩
    · rw [r2]
      exact hw.inv.ok q (by omega) _ (meant_lt q hid)
    · rw [r2]
      rw [updB_ne _ _ (by omega)] at hm
      exact hw.inv.wh q (by omega) _ lf d hm (fun k => by omega)
    · rw [r2]
      exact hw.todo q (by omega)
    · by_cases e : j = q
      · subst e; exact r3
      · rw [r4 j e]
        exact hw.past j (by omega) h2
    · rw [r4 j (by omega)]
      exact hw.todo j (by omega)
    · show SG.gone _ ++ [_] = _
      rw [hw.gone, List.map_append, List.append_assoc, hw.eW]
      rfl
  | last o h ho ih =>
    intro s hs hN
    rw [List.append_assoc] at hs
    have hsf := down_suff _ _ _ hs
    have hlen : s.length = 0 := by
      have e2 : ([0] ++ s) = downL (s.length + 1) := by simpa using hsf
      have e3 : (0 : Nat) :: s = s.length :: downL s.length := e2
      injection e3 with e3 _
      exact e3.symm
    have hN1 := NoO.gon hN.lev
    obtain ⟨m, hw⟩ := (ih _ hs hN1).1 0 (by simp [hlen])
    have hn := hc.n1
    obtain ⟨hf1, hf2⟩ := hw.fr hD (by omega)
    have e0 : id / 4 ^ 0 = id := by simp
    have hI := hw.inv
    have hst := hw.past 0 (Nat.le_refl _) (by omega)
    rw [e0] at hI hf2 hst
    obtain ⟨r1, r2, r3, r4, _⟩ := SIe.last hc (hI.gon _) hid hop hD hf1 hf2 hst ho hN
    refine ⟨fun q hq => by omega, fun _ => ⟨_, r1, fun j hj => ?_, ?_⟩⟩
    · rw [r3 j]
      exact hw.past j (Nat.zero_le _) hj
    · show SG.gone _ ++ [_] = _
      rw [hw.gone, List.map_append, List.append_assoc, hw.eW]
      rfl
theorem Rn.went (hc : c.Ok) {D : Dw} (hD : DrwOk c D) {op : Int} (hop : op = 0 ∨ op = 1 ∨ op = 3) {id : Nat} (hid : id < 2 ^ c.b) {d : Nat → Int} (hI : SIe c g m (fun _ _ => False)) {g' : SG} {e' : Nt} {r : Nat → Int} {t : Bool}
    (h : Rn c D op id d (g.top c id (D (c.n - 1)).1) (topN g c id) (downL c.n) g' e' r t) (hN : NoO c g') :
    ∃ m', SIe c g' m' (fun _ _ => False) ∧ (∀ h, h < c.n → whN c g' m' h (id / 4 ^ h) = (D h).1) ∧ g'.gone = g.gone ++ (downL c.n).map fun h => orN (whN c g m h (id / 4 ^ h)) (D h).2 := by
  have hn := hc.n1
  obtain ⟨r1, r2, r3, r4⟩ := hI.top hc hid (hD (c.n - 1) (by omega)).1
  have h0 : ∃ m1, Wy c D id (fun h => whN c g m h (id / 4 ^ h)) g.gone [] (c.n - 1) (g.top c id (D (c.n - 1)).1) (topN g c id) m1 := by
    refine ⟨m, r1, ?_, fun lf d hm => ?_, r2, fun j h1 h2 => ?_, fun j hj => r4 j (by omega) _, by rw [List.map_nil, List.append_nil]; rfl⟩
    · rw [r2]
      exact hI.ok _ (by omega) _ (meant_lt _ hid)
    · rw [r2]
      exact hI.wh _ (by omega) _ lf d hm (fun k => k)
    · have : j = c.n - 1 := by omega
      subst this
      exact r3
  exact (h.ways hc hD hop hid h0 [] (by simp) hN).2 rfl
theorem Rn.used {D : Dw} {op : Int} {id : Nat} {d : Nat → Int} {g0 : SG} {e0 : Nt} {l : List Nat} {g : SG} {e : Nt} {r : Nat → Int} {t : Bool} (h : Rn c D op id d g0 e0 l g e r t) : g.u = g0.u ∧ g.nw = g0.nw ∧ g.z = g0.z := by
  induction h with
  | nil => exact ⟨rfl, rfl, rfl⟩
  | part p o h hp ho ih => exact ih
  | last o h ho ih => exact ih
end
end Go.Proofs.YtloibfdcahmhjaaGreat


namespace Go.Proofs.YtloibfdcahmhjaaGreat
set_option maxRecDepth 100000
open Go.RowKit Go.ChangeShapes Go.WideShapes Go.ChangeAt Go.Maps

theorem ntL_at : ∀ (l : List Nt) (i : Nat) (hi : i < l.length), (ntL l)[i * 2]? = some (.int .u64 (l[i]).1) ∧ (ntL l)[i * 2 + 1]? = some (.int .u64 (l[i]).2)
  | e :: l, 0, _ => ⟨rfl, rfl⟩
  | e :: l, i + 1, hi => by
    have h := ntL_at l i (by simpa using hi)
    rw [show (i + 1) * 2 = i * 2 + 1 + 1 by omega]
    exact h
def toldL (f : Nt → Int) (l : List Nt) (k : Nat) : List Int := (l.take k).map f
theorem toldL_len {f : Nt → Int} {l : List Nt} {k : Nat} (h : k ≤ l.length) : (toldL f l k).length = k := by unfold toldL; rw [List.length_map, List.length_take]; omega
theorem toldL_next {f : Nt → Int} {l : List Nt} {k : Nat} (h : k < l.length) : toldL f l (k + 1) = toldL f l k ++ [f (l.getD k (0, 0))] := by
  rw [List.getD_eq_getElem?_getD, List.getElem?_eq_getElem h]
  unfold toldL
  rw [List.take_add_one, List.getElem?_eq_getElem h, List.map_append]
  rfl
theorem toldL_all {f : Nt → Int} {l : List Nt} : toldL f l l.length = l.map f := by unfold toldL; rw [List.take_length]
section
variable {c : SC} {a : SA} {g : SG} {ga : Option Addr} {gc : Nat} {G : Nat → Prop} {k : Nat} {w : World}
theorem StoA.gonAt (hS : StoA c a g ga gc G k w) {i : Nat} (hi : i < g.gone.length) : ∃ gb, ga = some ⟨gb, 0, none⟩ ∧ w.cell? ⟨gb, i * 2, none⟩ = some (.int .u64 (g.gone.getD i (0, 0)).1) ∧ w.cell? ⟨gb, i * 2 + 1, none⟩ = some (.int .u64 (g.gone.getD i (0, 0)).2) := by
  rw [List.getD_eq_getElem?_getD, List.getElem?_eq_getElem hi]
  rcases hS.gon.2 with ⟨_, e0⟩ | ⟨gb, cap, cur, e0, _⟩
  · omega
  · injection e0 with e1 e2 e3
    subst e1
    obtain ⟨h1, h2⟩ := ntL_at g.gone i hi
    have q1 := hS.gon.cells (g := gb) rfl _ _ h1
    have q2 := hS.gon.cells (g := gb) rfl _ _ h2
    rw [add_plain, Nat.zero_add] at q1 q2
    exact ⟨gb, rfl, q1, q2⟩
set_option linter.unusedSimpArgs false in
set_option maxHeartbeats 2000000 in
theorem StoA.sources (hS : StoA c a g ga gc G k w) (hk : k < 20000) : Calls Tryz.prog 60 #[.pointer (some ⟨a.sp, 0, none⟩)] w (SzPost w (g.gone.map (fun e : Nt => placeI e.2))) := by
  have k8 : w.cell? ⟨a.sp, 8, none⟩ = some (.slice ga g.gone.length gc) := hS.box.cell 8
  have hgl := hS.gl
  have HG := Lib.hid (fun W (hW : Only nobody w W) i (hi : i < g.gone.length) => (hS.nob hW).gonAt hi)
  obtain ⟨n, hn⟩ : ∃ n, g.gone.length = n := ⟨_, rfl⟩
  have HV : Hid (∀ j, (hj : j < n) → toldL (fun e : Nt => placeI e.2) g.gone (j + 1) = toldL (fun e : Nt => placeI e.2) g.gone j ++ [(fun e : Nt => placeI e.2) (g.gone.getD j (0, 0))]) := Lib.hid fun j hj => toldL_next (by omega)
  have HLn : Hid (∀ j, j ≤ n → (toldL (fun e : Nt => placeI e.2) g.gone j).length = j) := Lib.hid fun j hj => toldL_len (by omega)
  have HAll : Hid (toldL (fun e : Nt => placeI e.2) g.gone n = g.gone.map (fun e : Nt => placeI e.2)) := Lib.hid (by rw [← hn]; exact toldL_all)
  have HV0 : Hid (toldL (fun e : Nt => placeI e.2) g.gone 0 = []) := Lib.hid rfl
  have HNn := Lib.hid hn
  rw [hn] at k8 hgl
  clear hn
  generalize a.sp = sp at *
  go_enter Tryz.func60, Tryz.ntmps60
  go_wp2_with fail
  go_loopw [3, 11] (fun v i wr => ∃ k : Nat, i = .int .i64 k ∧ k ≤ n ∧ IrAt w v (toldL (fun e : Nt => placeI e.2) g.gone k) wr) (fun _ i _ => n - (intOf i).toNat)
  case atStart => exact ⟨0, rfl, by omega, by rw [HV0.out]; exact IrAt.nil w⟩
  case round =>
    obtain ⟨j, rfl, hj, hI⟩ := hrel
    have HI := Lib.hid hI
    clear hI k8
    by_cases hlt : j < n
    · have hv := HV.out j hlt
      have hw := HG.out wr (Only.of_below HI.out.below) j (by rw [HNn.out]; exact hlt)
      obtain ⟨⟨x, y⟩, he⟩ : ∃ e, g.gone.getD j (0, 0) = e := ⟨_, rfl⟩
      rw [he] at hv hw
      obtain ⟨gb, hga, q1, q2⟩ := hw
      subst hga
      have HVx := Lib.hid hv
      have HOW : Hid (wr.ownsRow w.heap.size 3 1 u3 j (irow (toldL (fun e : Nt => placeI e.2) g.gone j))) := Lib.hid (by have := HI.out.own; rwa [HLn.out j hj] at this)
      have hsz := HI.out.below.size
      have hnn : (j : Int) < (n : Int) := by omega
      clear hv he
      go_wp2_with fail
      refine (note_place (x, y) _).mono ?_
      rintro e w1 ⟨rfl, hw1⟩
      have hb1 : Below wr.heap.size wr w1 := by rw [hw1]; exact ((Below.refl _ wr).alloc (Nat.le_refl _) _).alloc (by simp) _
      have HI1 := Lib.hid (HI.out.more hb1)
      have HOW1 : Hid (w1.ownsRow w.heap.size 3 1 u3 j (irow (toldL (fun e : Nt => placeI e.2) g.gone j))) := Lib.hid (by have := HI1.out.own; rwa [HLn.out j hj] at this)
      have hsz1 := HI1.out.below.size
      clear hw1 hb1 q1 q2 HOW hsz
      go_wp2_with (with_reducible refine wpList_append_where _ rfl (.tmp 15) (.tmp 18) 39 rfl w.heap.size 3 (.int .i64 0) 1 8 Tryz.underlying39 infoI64 rfl (by decide) u3 j (irow (toldL (fun e : Nt => placeI e.2) g.gone j)) rfl (HOW1.out.alloc _) ⟨w1.heap.size, 0, none⟩ 1 1 (irow [(fun e : Nt => placeI e.2) (x, y)]) rfl rfl ?c0 (irow_one _) ?c2 ?c3 ?c4 ?_)
      case c0 => first | exact irow_new w1 _ [(fun e : Nt => placeI e.2) (x, y)] rfl | exact fun j u h => h
      case c2 => simp only [maxLen]; omega
      case c3 => omega
      case c4 => simp; omega
      intro A2 cap2 w8 hown hgr _
      have HN2 : Hid (IrAt w (.slice A2 (j + 1) cap2) (toldL (fun e : Nt => placeI e.2) g.gone (j + 1)) w8) := by
        have h := HI1.out.next (m := [(fun e : Nt => placeI e.2) (x, y)]) (Below.refl _ w1) (by rw [HLn.out j hj]; exact hown) hgr
        rw [HLn.out j hj] at h
        rw [HVx.out]
        exact Lib.hid h
      clear hown hgr
      go_wp2_with fail
      go_roundw
      case rel => exact ⟨j + 1, by go_num, by omega, HN2.out⟩
      case measure => simp [intOf]; omega
    · have ej : j = n := by omega
      have hnn : ¬ (j : Int) < (n : Int) := by omega
      have HD : Hid (SzPost w (g.gone.map (fun e : Nt => placeI e.2)) (.returned u3) wr) := Lib.hid ⟨_, rfl, by rw [← HAll.out, ← ej]; exact HI.out⟩
      go_wp2_with fail
      go_ret
      exact HD.out
end
end Go.Proofs.YtloibfdcahmhjaaGreat


namespace Go.Proofs.YtloibfdcahmhjaaGreat
set_option maxRecDepth 100000
open Go.RowKit Go.ChangeShapes Go.WideShapes Go.ChangeAt Go.Maps Go.Deep

def Went (c : SC) (g g' : SG) (id : Nat) : Prop :=
  g'.u = g.u + 2 * c.n ∧ (NoO c g' → ∀ m, SIe c g m (fun _ _ => False) → ∃ m', SIe c g' m' (fun _ _ => False) ∧ (∀ h, h < c.n → whN c g' m' h (id / 4 ^ h) = (drawn c g h).1) ∧ g'.gone = g.gone ++ (downL c.n).map fun h => orN (whN c g m h (id / 4 ^ h)) (drawn c g h).2)
theorem acI_few (N : Nat) (q : Ask) (I : List Int) : (difI (acI N q I)).length ≤ (difI I).length + 1 := by
  unfold acI
  split
  · rw [difI_snoc]
    unfold addI
    split
    · omega
    · rw [List.length_append]; simp
  · omega
theorem Rn.few {c : SC} {D : Dw} {op : Int} {id : Nat} {d : Nat → Int} {g0 : SG} {e0 : Nt} {l : List Nat} {g : SG} {e : Nt} {r : Nat → Int} {t : Bool} (h : Rn c D op id d g0 e0 l g e r t) : ∀ j, (difI (g.I j)).length ≤ (difI (g0.I j)).length + l.count j := by
  have hst : ∀ (g : SG) (p : Nat) (q : Ask) (o : List Nat) (j : Nat), (difI ((g.lev c p q o).I j)).length ≤ (difI (g.I j)).length + [p].count j := fun g p q o j => by
    unfold SG.lev
    dsimp only
    by_cases e : j = p
    · subst e
      rw [if_pos rfl]
      have := acI_few (c.N j) q (g.I j)
      simpa using this
    · rw [if_neg e]
      omega
  induction h with
  | nil => intro j; exact Nat.le_add_right _ _
  | part p o h hp ho ih =>
    intro j
    rw [List.count_append]
    exact Nat.le_trans (hst _ _ _ o j) (Nat.le_trans (Nat.add_le_add_right (ih j) _) (Nat.le_of_eq (Nat.add_assoc _ _ _)))
  | last o h ho ih =>
    intro j
    rw [List.count_append]
    exact Nat.le_trans (hst _ _ _ o j) (Nat.le_trans (Nat.add_le_add_right (ih j) _) (Nat.le_of_eq (Nat.add_assoc _ _ _)))
theorem downL_count : ∀ n j, (downL n).count j ≤ 1
  | 0, _ => by simp [downL]
  | n + 1, j => by
    rw [downL, List.count_cons]
    by_cases e : n = j
    · have : (downL n).count j = 0 := List.count_eq_zero.2 fun hm => by have := (downL_mem n j).1 hm; omega
      simp [e] at this ⊢
      omega
    · have := downL_count n j
      simp [e]
      exact this
section
variable {c d : SC} {a b : SA} {Z : Nat → Prop} {g p : SG} {k l : Nat} {w : World}
theorem St2.go (hc : c.Ok) (h : St2 c a d b Z g p k l w) (op : Int) (id : Nat) (e : Nat → Int) (hop : isOp op id (2 ^ c.b) = true) (he : ∀ j, 0 ≤ e j ∧ e j ≤ 18446744073709551615) (hk : k < 19900) :
    Calls Tryz.prog 47 #[.pointer (some ⟨a.sp, 0, none⟩), .int .i64 op, .int .u64 (id : Int), .agg (DA e)] w fun r w' =>
      ∃ g' rr t, r = .returned (.tuple #[.agg (DA rr), .bool t]) ∧ St2 c a d b Z g' p (k + 20) l w' ∧ Kept Z w w' ∧ Grw g g' ∧ Went c g g' id ∧ (∀ j, (difI (g'.I j)).length ≤ (difI (g.I j)).length + 1) := by
  obtain ⟨ga, gc, G, ga', gc', G', h1, h2, h3, h4⟩ := h
  obtain ⟨hop1, hid⟩ := isOp_is hop
  refine (h1.access hc op id e hop he hk).mono ?_
  rintro r w' ⟨g', e', rr, t, hR, rfl, ga1, gc1, G1, s1, s2, s3, s4⟩
  refine ⟨g', rr, t, rfl, ⟨ga1, gc1, G1, ga', gc', G', s1, h2.keep s4 (fun i hi hg => h3 i hg hi), fun i hi hg => ?_, fun i hi => ?_⟩, s4.mono (fun i _ hi hz => (h4 i hz).2.1 hi), ?_, ⟨?_, fun hN m hm => ?_⟩, fun j => ?_⟩
  · rcases s2 i hi with hi2 | hi2
    · exact h3 i hi2 hg
    · have := h2.lt i hg; omega
  · have q := s3 i ⟨(h4 i hi).1, (h4 i hi).2.1⟩
    exact ⟨q.1, q.2, (h4 i hi).2.2⟩
  · exact Grw.trans ⟨fun _ h => h, fun _ => Nat.le_refl _⟩ hR.grw
  · exact hR.used.1
  · exact Rn.went hc (drawn_ok hc g) hop1 hid hm.drew hR hN
  · have q1 := hR.few j
    have q2 := downL_count c.n j
    have q3 : (difI (((g.drew c).top c id (drawn c g (c.n - 1)).1).I j)).length = (difI (g.I j)).length := rfl
    omega
theorem St2.sources (h : St2 c a d b Z g p k l w) (hk : k < 20000) : Calls Tryz.prog 60 #[.pointer (some ⟨a.sp, 0, none⟩)] w (SzPost w (g.gone.map (fun e : Nt => placeI e.2))) := by
  obtain ⟨_, _, _, _, _, _, h1, _⟩ := h
  exact h1.sources hk
theorem St2.used (h : St2 c a d b Z g p k l w) : Calls Tryz.prog 55 #[.pointer (some ⟨a.tp, 0, none⟩)] w fun e w' => e = .returned (.int .i64 (g.u : Int)) ∧ w' = w := by
  obtain ⟨_, _, _, _, _, _, h1, _⟩ := h
  exact (tape_used _ _ _ _ _ _ h1.tp).mono fun _ _ hh => ⟨hh.1, hh.2.symm⟩
end
section
variable {c d : SC} {a b' : SA} {W : World} {Z : Nat → Prop} {F : World → Prop} {g p : SG} {k l : Nat} {wr : World}
theorem StT.go (hc : c.Ok) (h : StT c a d b' W Z F g p k l wr) (op : Int) (id : Nat) (e : Nat → Int) (hop : isOp op id (2 ^ c.b) = true) (he : ∀ j, 0 ≤ e j ∧ e j ≤ 18446744073709551615) (hk : k < 19900) :
    Calls Tryz.prog 47 #[.pointer (some ⟨a.sp, 0, none⟩), .int .i64 op, .int .u64 (id : Int), .agg (DA e)] wr fun r w' =>
      ∃ g' rr t, r = .returned (.tuple #[.agg (DA rr), .bool t]) ∧ Grw g g' ∧ Went c g g' id ∧ (∀ j, (difI (g'.I j)).length ≤ (difI (g.I j)).length + 1) ∧ StT c a d b' W Z F g' p (k + 20) l w' := by
  refine (h.sk.go hc op id e hop he hk).mono ?_
  rintro r w' ⟨g', rr, t, rfl, hS, hK, h1, h2, h3⟩
  exact ⟨g', rr, t, rfl, h1, h2, h3, hS, h.hz, h.st _ _ h.kp.size hK h.hF, h.st, h.kp.trans ((hK.mono h.hz).below h.kp.size (fun _ h => h))⟩
end
end Go.Proofs.YtloibfdcahmhjaaGreat

