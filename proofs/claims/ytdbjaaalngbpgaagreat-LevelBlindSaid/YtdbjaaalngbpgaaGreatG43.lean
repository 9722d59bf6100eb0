/- Texts of ours put together: LevelLv, LevelMade, LevelStep, LevelK. -/
import Derived.Test.YtdbjaaalngbpgaaGreatG42
import Derived.Test.YtdbjaaalngbpgaaGreatG28
import Derived.Test.YtdbjaaalngbpgaaGreatG19
/- level: a level in a memory as a state, and an access, right or not, as one step of it. -/
namespace Go.Proofs.YtdbjaaalngbpgaaGreat
set_option maxRecDepth 100000
open Go.RowKit Go.ChangeShapes Go.WideShapes Go.ChangeAt Go.Maps

/-- What an access is asked. -/
structure Ask where
  op : Int
  id : Int
  at' : Int
  d : Nat → Int
  lf : Int
  to : Int
def Ask.ok (a : Ask) (N : Nat) : Bool := isAsk N a.op a.id a.at' a.lf a.to
def Ask.puts (a : Ask) : Bool := a.op == 1 || a.op == 2
section
variable (N S D T f n P : Nat) (a : Ask) (M : MS) (o : List Nat)
/-- The table of an access; what is told; whether one is lost; the memory behind it. -/
def acL : Nat → Cl := laidA S D T f a.lf.toNat a.op a.id a.at' a.to a.d M
def acT : Nat → It := tabI D n P (dpW D a.lf.toNat) (acL S D T f a M)
def acW : Cl := if a.ok N = true then wasA S D T f a.lf.toNat a.id M else nul
def acO : Bool := a.ok N && !(lostO (acT S D T f n P a M) S D T o).isEmpty
def acM : MS := if a.ok N = true then M.gone (accC S D T f P a.lf.toNat a.id (nbA S D T f a.lf.toNat a.op a.id a.at' a.to a.d M) o M.c) (evA S D T f P a.lf.toNat) else M
def acI (I : List Int) : List Int := if (a.ok N && a.puts) = true then I ++ [a.id] else I
end
/-- How many different ids. -/
def addI (l : List Int) (x : Int) : List Int := if x ∈ l then l else l ++ [x]
def difI (I : List Int) : List Int := I.foldl addI []
def litI (i : Int) : Lit := .int .u64 i
theorem lit_key (i : Int) : WideAt.IsKeyLit (litI i) := trivial
theorem same_lit (a b : Int) : (litI a).sameKey (litI b) = decide (a = b) := by
  by_cases h : a = b
  · subst h
    rw [WideAt.sameKey_self (lit_key a)]
    simp
  · rw [sameKey_ne (fun e => h (by unfold litI at e; injection e)), decide_eq_false h]
theorem dif_fold : ∀ (I L : List Int), (I.map litI).foldl addKey (L.map litI) = (I.foldl addI L).map litI
  | [], _ => rfl
  | x :: I, L => by
    rw [List.map_cons, List.foldl_cons, List.foldl_cons, ← dif_fold I (addI L x)]
    congr 1
    unfold addKey addI
    have e : ((L.map litI).any fun y => y.sameKey (litI x)) = decide (x ∈ L) := by
      rw [List.any_map]
      induction L with
      | nil => rfl
      | cons y L ih =>
        rw [List.any_cons, ih]
        show ((litI y).sameKey (litI x) || _) = _
        rw [same_lit]
        by_cases h : y = x
        · subst h; simp
        · simp [h, Ne.symm h]
    rw [e]
    by_cases h : x ∈ L
    · rw [if_pos h, if_pos (by simpa using h)]
    · rw [if_neg h, if_neg (by simpa using h), List.map_append]; rfl
def ids {H : Type} (I : List Int) : DataW H := setOf (.agg []) (I.map litI)
theorem ids_snoc {H : Type} (I : List Int) (x : Int) : (ids (I ++ [x]) : DataW H) = (ids I).put (.int .u64 x) (.agg []) := by
  unfold ids
  rw [List.map_append]
  exact setOf_snoc _ _ _
theorem ids_size {H : Type} (I : List Int) : Maps.size (ids I : DataW H) = (difI I).length := by
  unfold ids
  rw [size_setOf _ _ (fun x hx => by obtain ⟨i, _, rfl⟩ := List.mem_map.1 hx; exact lit_key i)]
  have := dif_fold I []
  rw [List.map_nil] at this
  rw [this, List.length_map]
  rfl
theorem addI_mem (l : List Int) (x y : Int) : y ∈ addI l x ↔ y ∈ l ∨ y = x := by
  unfold addI
  split
  · rename_i h
    constructor
    · exact .inl
    · rintro (k | k)
      · exact k
      · rw [k]; exact h
  · simp
theorem addI_nodup {l : List Int} (h : l.Nodup) (x : Int) : (addI l x).Nodup := by
  unfold addI
  split
  · exact h
  · rename_i hx
    rw [List.nodup_append]
    exact ⟨h, by simp, fun a ha b hb e => by simp at hb; subst hb; subst e; exact hx ha⟩
theorem dif_mem : ∀ (I l : List Int) (y : Int), y ∈ I.foldl addI l ↔ y ∈ l ∨ y ∈ I
  | [], l, y => by simp
  | x :: I, l, y => by
    rw [List.foldl_cons, dif_mem I (addI l x) y, addI_mem, List.mem_cons, or_assoc]
theorem dif_nodup : ∀ (I l : List Int), l.Nodup → (I.foldl addI l).Nodup
  | [], _, h => h
  | x :: I, l, h => by rw [List.foldl_cons]; exact dif_nodup I _ (addI_nodup h x)
theorem difI_snoc (I : List Int) (x : Int) : difI (I ++ [x]) = addI (difI I) x := by unfold difI; rw [List.foldl_append]; rfl
theorem difI_le (I L : List Int) (h : ∀ i, i ∈ I → i ∈ L) : (difI I).length ≤ L.length :=
  (dif_nodup I [] (by simp)).length_le_of_subset fun x hx => h x (((dif_mem I [] x).1 hx).resolve_left (by simp))
/-- A level in a memory: its cells, its ids, behind k accesses. -/
structure Lv (H : Type) (N S D T Q : Nat) (X : Nat → Prop) (mp lp bm f : Nat) (ov : Bool) (I : List Int) (M : MS) (k : Nat) (w : World) : Prop where
  own : Own w X mp M
  x1 : X lp
  x2 : X bm
  box : Box w lp 98 (LvA mp f N S T ov (some bm))
  map : ∃ nm, nm ≤ k ∧ w.ownsMap Tryz.prog 43 unitElem bm nm (ids I : DataW H)
  lvm : LvM M f S D T Q
  es : M.es.length ≤ 40000 * k
  wk : Wk S D T (cellsE f M.c)
section
variable {H : Type} {N S D T Q : Nat} {X : Nat → Prop} {mp lp bm f : Nat} {ov : Bool} {I : List Int} {M : MS} {k : Nat} {w w' : World}
theorem Lv.nob (h : Lv H N S D T Q X mp lp bm f ov I M k w) (ho : Only nobody w w') : Lv H N S D T Q X mp lp bm f ov I M k w' := by
  obtain ⟨nm, h1, h2⟩ := h.map
  exact ⟨h.own.none ho, h.x1, h.x2, h.box.only ho (not_nobody _), ⟨nm, h1, map_only h2 ho (not_nobody _)⟩, h.lvm, h.es, h.wk⟩
/-- A store into a block of the caller's. -/
theorem Lv.only {Y : Nat → Prop} (h : Lv H N S D T Q X mp lp bm f ov I M k w) (ho : Only Y w w') (hY : ∀ i, Y i → X i ∧ i ≠ lp ∧ i ≠ bm) : Lv H N S D T Q X mp lp bm f ov I M k w' := by
  obtain ⟨nm, h1, h2⟩ := h.map
  exact ⟨h.own.only ho (fun i hi => (hY i hi).1), h.x1, h.x2, h.box.only ho (fun e => (hY _ e).2.1 rfl), ⟨nm, h1, map_only h2 ho (fun e => (hY _ e).2.2 rfl)⟩, h.lvm, h.es, h.wk⟩
/-- More blocks are the caller's: those that are new. -/
theorem Lv.grow (h : Lv H N S D T Q X mp lp bm f ov I M k w) (ho : Only nobody w w') : Lv H N S D T Q (fun i => X i ∨ (w.heap.size ≤ i ∧ i < w'.heap.size)) mp lp bm f ov I M k w' := by
  obtain ⟨nm, h1, h2⟩ := h.map
  exact ⟨h.own.grow ho, .inl h.x1, .inl h.x2, h.box.only ho (not_nobody _), ⟨nm, h1, map_only h2 ho (not_nobody _)⟩, h.lvm, h.es, h.wk⟩
theorem Lv.weak {Y : Nat → Prop} (h : Lv H N S D T Q X mp lp bm f ov I M k w) (hs : ∀ i, Y i → X i) (h1 : Y lp) (h2 : Y bm) : Lv H N S D T Q Y mp lp bm f ov I M k w := ⟨h.own.weak hs, h1, h2, h.box, h.map, h.lvm, h.es, h.wk⟩
theorem Lv.lt (h : Lv H N S D T Q X mp lp bm f ov I M k w) {i : Nat} (hi : X i) : i < w.heap.size := by
  obtain ⟨F, _, _, hX⟩ := h.own
  exact hX i hi
theorem Lv.over (h : Lv H N S D T Q X mp lp bm f ov I M k w) : Calls Tryz.prog 23 #[.pointer (some ⟨lp, 0, none⟩)] w fun e w' => e = .returned (.bool ov) ∧ w' = w := over_of lp mp f ov _ w h.box
theorem Lv.blocks (h : Lv H N S D T Q X mp lp bm f ov I M k w) : Calls Tryz.prog 24 #[.pointer (some ⟨lp, 0, none⟩)] w fun e w' => e = .returned (.int .i64 ((difI I).length : Nat)) ∧ w' = w := by
  obtain ⟨nm, h1, h2⟩ := h.map
  have := blocks_of lp mp f bm nm ov _ w h.box h2
  rw [ids_size] at this
  exact this
end
theorem cG_wd {sp : Nat → Nat × Nat} {Y : Nat → Cl} {c : Nat → Nat → Cl} : ∀ {i : Nat}, (∀ j, j < i → Wd (Y j)) → (∀ r a, Wd (c r a)) → ∀ r a, Wd (cG sp Y c i r a)
  | 0, _, h, r, a => h r a
  | i + 1, hY, h, r, a => by
    unfold cG putC
    split
    · exact hY i (by omega)
    · exact cG_wd (fun j hj => hY j (by omega)) h r a
theorem evA_len {N S T D L n Q P : Nat} (h : Conf N S T D L n Q P) (f lf : Nat) : (evA S D T f P lf).length ≤ 40000 := by
  have hQP := h.hQ
  have hQ := h.big.2.2.2
  have hQ2 : 2 ^ P ≤ 256 := by rw [hQP]; exact hQ
  have hnet : 4 * (netL P).length ≤ 8 * 9 * 256 := by
    rw [netL_len P]
    exact Nat.mul_le_mul (Nat.mul_le_mul h.hP (by have := h.hP; omega)) hQ2
  have hlk := looks_len (f + 2) (netL P)
  have hevE := evE_len (f + 2) (2 ^ P)
  have hevF := evF_len S D T f lf (2 ^ P)
  have hevG := evG_len S D f lf ((D + 1) * S + T)
  have hLT : (D + 1) * S + T ≤ 153 := by have := h.hL; have := h.hn; have := h.big; omega
  unfold evA
  simp only [List.length_append]
  omega
section
variable {N S D T L n Q P f : Nat} {M : MS} {a : Ask}
theorem ask_of (ha : a.ok N = true) : (0 ≤ a.op ∧ a.op ≤ 3) ∧ (0 ≤ a.lf ∧ a.lf < N) ∧ (0 ≤ a.to ∧ a.to < N) ∧ a.id ≤ 2147483648 ∧ (a.op = 2 → 0 ≤ a.at' ∧ a.at' ≤ 6) := by
  unfold Ask.ok isAsk isLf at ha
  simp only [Bool.and_eq_true, Bool.or_eq_true, decide_eq_true_eq] at ha
  obtain ⟨⟨⟨⟨h1, h2⟩, h3⟩, h4⟩, h5⟩ := ha
  exact ⟨h1, h2, h3, h4, fun e => h5.resolve_left (fun k => k e)⟩
/-- The table's cells are good, whatever is put. -/
theorem acL_good (h : Conf N S T D L n Q P) (hk : Wk S D T (cellsE f M.c)) (ha : a.ok N = true) (hi : 0 ≤ a.id) (hd : ∀ j, 0 ≤ a.d j ∧ a.d j ≤ 18446744073709551615) (i : Nat) : GoodE D (acL S D T f a M i) := by
  obtain ⟨h1, h2, h3, h4, h5⟩ := ask_of ha
  have hN := h.hN
  have hlf : a.lf.toNat < 2 ^ D := by omega
  unfold acL laidA
  refine hk.laid h.s1 hlf ?_ i
  unfold nbA
  obtain ⟨to, hto⟩ : ∃ to : Nat, a.to = (to : Int) := ⟨a.to.toNat, by omega⟩
  rw [hto]
  refine newB_good ?_ ⟨hi, h4⟩ (by omega) h5 hd (by have := h.n1; omega)
  unfold wasA
  exact wasC_good _ fun j hj => hk _ (wayQ_is h.s1 hlf hj)
theorem acL_tab (h : Conf N S T D L n Q P) (hk : Wk S D T (cellsE f M.c)) (ha : a.ok N = true) (hi : 0 ≤ a.id) (hd : ∀ j, 0 ≤ a.d j ∧ a.d j ≤ 18446744073709551615) : TabOk D n P (dpW D a.lf.toNat) (acL S D T f a M) := by
  refine good_tab (acL_good h hk ha hi hd) (fun i hn => ?_) (by have := h.le; have := h.hQ; omega)
  have := h.hL
  have := h.hn
  unfold acL laidA laidX
  rw [if_neg (by omega), if_neg (by omega)]
theorem acM_wk (h : Conf N S T D L n Q P) (hk : Wk S D T (cellsE f M.c)) (ha : a.ok N = true) (hi : 0 ≤ a.id) (hd : ∀ j, 0 ≤ a.d j ∧ a.d j ≤ 18446744073709551615) {o : List Nat} (ho : IsOrd (acT S D T f n P a M) n o) :
    Wk S D T (cellsE f (accC S D T f P a.lf.toNat a.id (nbA S D T f a.lf.toNat a.op a.id a.at' a.to a.d M) o M.c)) := by
  obtain ⟨h1, h2, h3, h4, h5⟩ := ask_of ha
  have hN := h.hN
  have hlf : a.lf.toNat < 2 ^ D := by omega
  have hn : n = (D + 1) * S + T + 1 := by have := h.hL; have := h.hn; omega
  subst hn
  exact hk.next h.s1 h.hD rfl (acL_good h hk ha hi hd) (acL_tab h hk ha hi hd) ho (fun i hi => acc_at h.s1 hlf hi) (fun q hq hf => acc_way (by rcases hq with e | e <;> omega) hf)
end
set_option maxHeartbeats 1000000 in
/-- One access, right or not. -/
theorem Lv.access {H : Type} {N S T D L n Q P : Nat} (h : Conf N S T D L n Q P) {X : Nat → Prop} {mp lp bm f : Nat} {ov : Bool} {I : List Int} {M : MS} {k : Nat} {w : World} (hL : Lv H N S D T Q X mp lp bm f ov I M k w) (a : Ask) (hf : f ≤ 100) (hk : k < 20000) (hi : 0 ≤ a.id)
    (hd : ∀ j, 0 ≤ a.d j ∧ a.d j ≤ 18446744073709551615) :
    Calls Tryz.prog 19 #[.pointer (some ⟨lp, 0, none⟩), .int .i64 a.op, .int .u64 a.id, .int .i64 a.at', .agg (DA a.d), .int .i64 a.lf, .int .i64 a.to] w fun e w' =>
      e = .returned (.tuple #[.agg (DA fun i => acW N S D T f a M (3 + i)), .bool (acW N S D T f a M 0 == 1)]) ∧
      ∃ o, (a.ok N = true → IsOrd (acT S D T f n P a M) n o) ∧ Lv H N S D T Q X mp lp bm f (ov || acO N S D T f n P a M o) (acI N a I) (acM N S D T f P a M o) (k + 1) w' ∧ Kept (fun j => X j ∧ j ≠ lp ∧ j ≠ bm) w w' := by
  obtain ⟨nm, hn1, hn2⟩ := hL.map
  cases ha : a.ok N
  · refine (access_no lp mp f ov _ a.op a.id a.at' a.d a.lf a.to w ha hL.box).mono ?_
    rintro e w' ⟨rfl, ho⟩
    have e1 : acW N S D T f a M = nul := by unfold acW; rw [ha]; rfl
    have e2 : acO N S D T f n P a M [] = false := by unfold acO; rw [ha]; rfl
    have e3 : acI N a I = I := by unfold acI; rw [ha]; rfl
    have e4 : acM N S D T f P a M [] = M := by unfold acM; rw [ha]; rfl
    have hl := hL.nob ho
    obtain ⟨nm', g1, g2⟩ := hl.map
    refine ⟨by rw [e1]; rfl, [], (fun k => by cases k), ?_, Kept.of_none ho⟩
    rw [e2, e3, e4, Bool.or_false]
    exact ⟨hl.own, hl.x1, hl.x2, hl.box, ⟨nm', by omega, g2⟩, hl.lvm, by have := hl.es; omega, hl.wk⟩
  · obtain ⟨h1, h2, h3, h4, h5⟩ := ask_of ha
    have hgood := acL_good h hL.wk ha hi hd
    have htab := acL_tab h hL.wk ha hi hd
    have hwk := fun o (ho : IsOrd (acT S D T f n P a M) n o) => acM_wk h hL.wk ha hi hd ho
    obtain ⟨op, id, at', d, lf', to'⟩ := a
    obtain ⟨lf, rfl⟩ : ∃ lf : Nat, lf' = (lf : Int) := ⟨lf'.toNat, by show lf' = _; have : 0 ≤ lf' := h2.1; omega⟩
    obtain ⟨to, rfl⟩ : ∃ to : Nat, to' = (to : Int) := ⟨to'.toNat, by show to' = _; have : 0 ≤ to' := h3.1; omega⟩
    have hto : to ≤ 1024 := by have := h3.2; have := h.n1; simp only at *; omega
    have hlf : lf < N := by have := h2.2; simp only at *; omega
    have hmx : nm < maxLen := by
      have : (20000 : Nat) < maxLen := by decide
      omega
    refine (access_any h X lp mp f bm nm lf to ov (ids I) op id at' d M w ha hi hmx hL.lvm hf hlf hto hL.own hL.x1 hL.x2 hL.box hn2 (by have := hL.es; omega) (fun i _ => (hgood i).goodC h.hN) htab).mono ?_
    rintro e w' ⟨rfl, o, ho, hO, hB, hm, hK⟩
    have ho' : IsOrd (acT S D T f n P ⟨op, id, at', d, lf, to⟩ M) n o := ho
    have e1 : acW N S D T f ⟨op, id, at', d, lf, to⟩ M = wasA S D T f lf id M := by unfold acW; rw [ha]; rfl
    have e2 : acO N S D T f n P ⟨op, id, at', d, lf, to⟩ M o = !(lostO (tabI D n P (dpW D lf) (laidA S D T f lf op id at' to d M)) S D T o).isEmpty := by unfold acO; rw [ha]; rfl
    have e4 : acM N S D T f P ⟨op, id, at', d, lf, to⟩ M o = M.gone (accC S D T f P lf id (nbA S D T f lf op id at' to d M) o M.c) (evA S D T f P lf) := by unfold acM; rw [ha]; rfl
    refine ⟨by rw [e1], o, fun _ => ho', ?_, hK⟩
    rw [e2, e4]
    refine ⟨hO, hL.x1, hL.x2, hB, ?_, ?_, ?_, hwk o ho'⟩
    · obtain ⟨n', g1, g2⟩ := hm
      refine ⟨n', by omega, ?_⟩
      have e3 : (ids (acI N ⟨op, id, at', d, lf, to⟩ I) : DataW H) = if (op == 1 || op == 2) = true then (ids I).put (.int .u64 id) (.agg []) else ids I := by
        unfold acI
        rw [ha, Bool.true_and]
        show (ids (if (op == 1 || op == 2) = true then _ else _) : DataW H) = _
        cases hp : (op == 1 || op == 2)
        · rfl
        · exact ids_snoc I id
      rw [e3]
      exact g2
    · have hw := hwk o ho'
      have hll := evA_len h f lf
      have hes := hL.es
      refine hL.lvm.gone _ _ (fun r a => ?_) (by omega)
      have hQ2 : 2 ^ P ≤ 256 := by have := h.hQ; have := h.big; omega
      have hlt : (D + 1) * S + T < n := by have := h.hL; have := h.hn; omega
      have hn2 : n ≤ 2 ^ P := by have := h.le; have := h.hQ; omega
      have hn1 : n = (D + 1) * S + T + 1 := by have := h.hL; have := h.hn; omega
      have h3 := fun i hi => tab3_wd (T := T) h.hD hQ2 htab (fun i _ => (hgood i).wd) h.s1 hlt ho (i := i) hi
      have h0 := fun i => (hgood i).wd
      clear hw hwk htab hgood
      subst hn1
      exact cG_wd (fun j hj => setw_wd (h3 j (by omega)) (by omega) (by omega)) (fun r a => cT_wd9 (fun j hj => h3 j hj) hL.lvm.wd r a) r a
    · rw [gone_len]
      have hll := evA_len h f lf
      have hes := hL.es
      omega
end Go.Proofs.YtdbjaaalngbpgaaGreat

/- What the laws of layer 10 share: made. -/
namespace Go.Proofs.YtdbjaaalngbpgaaGreat
set_option maxRecDepth 100000
open Go.RowKit Go.ChangeShapes Go.WideShapes Go.ChangeAt Go.Maps

/-- The memory of a law's level: a region of one cell ahead. -/
def mdL (S D T Q : Nat) : List Nat := [1, S * (2 * 2 ^ D - 1), T, Q]
def mdM (S D T Q : Nat) : MS := MS.new 4 (fun i => (mdL S D T Q).getD i 0)
theorem mdM_lvm (S D T Q : Nat) : LvM (mdM S D T Q) 1 S D T Q := ⟨by show 1 + 2 < 4; decide, Nat.le_refl _, Nat.le_refl _, Nat.le_refl _, fun _ _ => wd_zero, by show ([] : List Ev).length < 900000000; decide⟩
theorem mdM_wk (S D T Q : Nat) : Wk S D T (cellsE 1 (mdM S D T Q).c) := fun _ _ => .inl rfl
theorem mdM_inv (S D T Q : Nat) : LvInv S D T (cellsE 1 (mdM S D T Q).c) (fun _ => none) := LvInv.new S D T
def old2 (w : World) (lp bm : Nat) : Nat → Prop := fun i => old w i ∨ i = lp ∨ i = bm
set_option maxHeartbeats 2000000 in
theorem made_of {H : Type} {N S T D L n Q P : Nat} (h : Conf N S T D L n Q P) (w : World) (hsz : S * (2 * 2 ^ D - 1) ≤ 4096) :
    Calls Tryz.prog 13 #[.agg #[.int .i64 (N : Int), .int .i64 (S : Int), .int .i64 (T : Int)]] w fun e w' =>
      ∃ mp lp bm, e = .returned (.tuple #[.pointer (some ⟨mp, 0, none⟩), .pointer (some ⟨lp, 0, none⟩)]) ∧ Only nobody w w' ∧ w.heap.size ≤ lp ∧ w.heap.size ≤ bm ∧
        Lv H N S D T Q (old2 w lp bm) mp lp bm 1 false [] (mdM S D T Q) 0 w' := by
  have HZ := Lib.hid (fun W => sizes_of h W)
  have HNw := Lib.hid (fun X p W (ho : Own W X p (mdM S D T Q)) => lnew_of (H := H) h X p 1 (mdM S D T Q) W (mdM_lvm S D T Q) (by decide) ho)
  have hL : (decide (1 ≤ (mdL S D T Q).length) && decide ((mdL S D T Q).length ≤ 16) && (mdL S D T Q).all fun s => decide (1 ≤ s) && decide (s ≤ 4096)) = true := by
    have h1 := h.s1
    have h2 := h.t1
    have h3 := h.t64
    have h4 := h.big
    have h6 := h.le
    have h5 : 1 ≤ S * (2 * 2 ^ D - 1) := Nat.mul_pos h1 (by have := Nat.two_pow_pos D; omega)
    unfold mdL
    simp only [List.length_cons, List.length_nil, List.all_cons, List.all_nil, Bool.and_true, Bool.and_eq_true, decide_eq_true_eq]
    omega
  have HNm := Lib.hid (fun W cs t hc => new_list (mdL S D T Q) hL W cs t hc)
  obtain ⟨b, hb⟩ : ∃ b, w.heap.size = b := ⟨_, rfl⟩
  obtain ⟨w2, hw2⟩ : ∃ w2, w.alloc (.cells #[.int .i64 (N : Int), .int .i64 (S : Int), .int .i64 (T : Int)] 25) = w2 := ⟨_, rfl⟩
  have hx : Box w2 b 25 #[.int .i64 (N : Int), .int .i64 (S : Int), .int .i64 (T : Int)] := by rw [← hw2, ← hb]; exact Box.new w _ _
  have ho2 : Only nobody w w2 := by rw [← hw2]; exact (Only.refl _ w).alloc _
  have HX := Lib.hid hx
  have HO := Lib.hid ho2
  have HW2 := Lib.hid hw2
  have HBb := Lib.hid hb
  have k0 : w2.cell? ⟨b, 0, none⟩ = some (.int .i64 (N : Int)) := hx.cell 0
  have k1 : w2.cell? ⟨b, 1, none⟩ = some (.int .i64 (S : Int)) := hx.cell 1
  have k2 : w2.cell? ⟨b, 2, none⟩ = some (.int .i64 (T : Int)) := hx.cell 2
  clear hx ho2 hw2 hb hL hsz h
  go_enter Tryz.func13, Tryz.ntmps13
  go_upto_region 1 with fail
  simp only [HBb.out]
  rw [HW2.out]
  go_wp2_with fail
  refine (HZ.out _).mono ?_
  rintro e w3 ⟨rfl, hb3⟩
  have HO3 := Lib.hid (HO.out.trans (Only.of_below hb3))
  have HX3 := Lib.hid (HX.out.of (hb3.block _ HX.out.lt))
  clear hb3 k0 k1 k2 HX HO
  go_wp2_with fail
  refine (HNm.out w3 _ _ rfl).mono ?_
  rintro e w4 ⟨p, rfl, hO4, ho4⟩
  have HX4 := Lib.hid ((HX3.out.alloc (.cells _ _)).only ho4 (not_nobody _))
  have HO4 := Lib.hid ((HO3.out.alloc (.cells _ _)).trans ho4)
  have HOw := Lib.hid hO4
  have hs34 := ho4.size
  clear hO4 ho4 HX3
  have k0 : w4.cell? ⟨b, 0, none⟩ = some (.int .i64 (N : Int)) := HX4.out.cell 0
  have k1 : w4.cell? ⟨b, 1, none⟩ = some (.int .i64 (S : Int)) := HX4.out.cell 1
  have k2 : w4.cell? ⟨b, 2, none⟩ = some (.int .i64 (T : Int)) := HX4.out.cell 2
  go_wp2_with fail
  refine (HNw.out _ p w4 HOw.out).mono ?_
  rintro e w5 ⟨lp, bm, rfl, ho5, hlp, hbm, hB, hm⟩
  have hown := (HOw.out.grow ho5)
  have hs5 := HO4.out.size
  have hs3 := HO3.out.size
  have HE : Hid (Only nobody w w5 ∧ w.heap.size ≤ lp ∧ w.heap.size ≤ bm ∧ Lv H N S D T Q (old2 w lp bm) p lp bm 1 false [] (mdM S D T Q) 0 w5) := Lib.hid ⟨HO4.out.trans ho5, by omega, by omega,
    hown.weak (fun i hi => by
      rcases hi with hi | rfl | rfl
      · exact .inl (by show i < _; have hi : i < w.heap.size := hi; simp; omega)
      · exact .inr ⟨hlp, hB.lt⟩
      · exact .inr ⟨hbm, map_lt hm⟩), .inr (.inl rfl), .inr (.inr rfl), hB, ⟨0, Nat.le_refl _, hm⟩, mdM_lvm S D T Q, Nat.zero_le _, mdM_wk S D T Q⟩
  clear ho5 hlp hbm hB hm hown hs5 hs3 hs34 k0 k1 k2 HOw HO4 HX4
  go_wp2_with fail
  go_ret2
  exact ⟨p, lp, bm, rfl, HE.out⟩
end Go.Proofs.YtdbjaaalngbpgaaGreat

/- level: an access from the right leaf, while none was lost: what is told is what was put last; while there are no more blocks than the stash has places none is lost. -/
namespace Go.Proofs.YtdbjaaalngbpgaaGreat
set_option maxRecDepth 100000
open Go.RowKit Go.ChangeShapes Go.WideShapes Go.ChangeAt Go.Maps

theorem DA_congr {d e : Nat → Int} (h : ∀ i, i < 8 → d i = e i) : DA d = DA e := by
  unfold DA
  rw [h 0 (by decide), h 1 (by decide), h 2 (by decide), h 3 (by decide), h 4 (by decide), h 5 (by decide), h 6 (by decide), h 7 (by decide)]
theorem cellB_data (id : Int) (b : Option (Nat × (Nat → Int))) : DA (fun i => cellB id b (3 + i)) = DA (dat b) := by
  cases b with
  | none => rfl
  | some b =>
    refine DA_congr fun i hi => ?_
    show blk id b.1 b.2 (3 + i) = b.2 i
    unfold blk
    rw [if_neg (by omega), if_neg (by omega), if_neg (by omega), if_pos (by omega), show 3 + i - 3 = i by omega]
theorem cellB_has (id : Int) (b : Option (Nat × (Nat → Int))) : (cellB id b 0 == 1) = b.isSome := by
  cases b <;> rfl
/-- The blocks behind a right access. -/
def nextB (m : Bm) (a : Ask) : Bm := setB m a.id (newM a.op a.at' a.to.toNat a.d (m a.id))
section
variable {N S T D L n Q P : Nat} {f : Nat} {M : MS} {m : Bm} {a : Ask} {o : List Nat}
theorem ask_was (h : Conf N S T D L n Q P) (hI : LvInv S D T (cellsE f M.c) m) (ha : a.ok N = true) (hat : ∀ l d, m a.id = some (l, d) → (l : Int) = a.lf) : wasA S D T f a.lf.toNat a.id M = cellB a.id (m a.id) := by
  obtain ⟨h1, h2, h3, h4, h5⟩ := ask_of ha
  have hN := h.hN
  exact hI.told h.s1 (lf := a.lf.toNat) (by omega) (fun l d e => by have := hat l d e; omega)
theorem ask_put (h : Conf N S T D L n Q P) (hI : LvInv S D T (cellsE f M.c) m) (ha : a.ok N = true) (hat : ∀ l d, m a.id = some (l, d) → (l : Int) = a.lf) : nbA S D T f a.lf.toNat a.op a.id a.at' a.to a.d M = cellB a.id (newM a.op a.at' a.to.toNat a.d (m a.id)) := by
  obtain ⟨h1, h2, h3, h4, h5⟩ := ask_of ha
  unfold nbA
  rw [ask_was h hI ha hat]
  obtain ⟨to, hto⟩ : ∃ to : Nat, a.to = (to : Int) := ⟨a.to.toNat, by omega⟩
  rw [hto]
  exact newB_cell _ h1 h5
theorem newM_leaf {op at' : Int} {to : Nat} {d : Nat → Int} {b : Option (Nat × (Nat → Int))} {l : Nat} {e : Nat → Int} (h : newM op at' to d b = some (l, e)) : l = to := by
  unfold newM at h
  split at h
  · cases h
  · split at h
    · cases b with
      | none => cases h
      | some b => injection h with h; injection h with h _; exact h.symm
    · split at h
      · injection h with h; injection h with h _; exact h.symm
      · injection h with h; injection h with h _; exact h.symm
/-- None lost: the blocks are as they are meant. -/
theorem ask_next (h : Conf N S T D L n Q P) (hI : LvInv S D T (cellsE f M.c) m) (ha : a.ok N = true) (hi : 0 ≤ a.id) (hat : ∀ l d, m a.id = some (l, d) → (l : Int) = a.lf) (ho : IsOrd (acT S D T f n P a M) n o) (hov : acO N S D T f n P a M o = false) :
    LvInv S D T (cellsE f (acM N S D T f P a M o).c) (nextB m a) := by
  obtain ⟨h1, h2, h3, h4, h5⟩ := ask_of ha
  have hN := h.hN
  have hlf : a.lf.toNat < 2 ^ D := by omega
  have hn : n = (D + 1) * S + T + 1 := by have := h.hL; have := h.hn; omega
  have hP : n ≤ 2 ^ P := by have := h.le; have := h.hQ; omega
  have hp := ask_put h hI ha hat
  have hlost : lostO (acT S D T f n P a M) S D T o = [] := by
    unfold acO at hov
    rw [ha, Bool.true_and] at hov
    cases e : lostO (acT S D T f n P a M) S D T o with
    | nil => rfl
    | cons x l => rw [e] at hov; cases hov
  have e1 : acM N S D T f P a M o = M.gone (accC S D T f P a.lf.toNat a.id (nbA S D T f a.lf.toNat a.op a.id a.at' a.to a.d M) o M.c) (evA S D T f P a.lf.toNat) := by unfold acM; rw [ha]; rfl
  rw [e1]
  have ho' : IsOrd (tabI D n P (dpW D a.lf.toNat) (laidX S D T a.lf.toNat (cellsE f M.c) a.id (cellB a.id (newM a.op a.at' a.to.toNat a.d (m a.id))))) n o := by rw [← hp]; exact ho
  have hl' : lostO (tabI D n P (dpW D a.lf.toNat) (laidX S D T a.lf.toNat (cellsE f M.c) a.id (cellB a.id (newM a.op a.at' a.to.toNat a.d (m a.id))))) S D T o = [] := by rw [← hp]; exact hlost
  unfold nextB
  refine hI.next h.s1 h.hD hlf (fun l d e => by have := hat l d e; omega) ⟨hi, h4⟩ (newM a.op a.at' a.to.toNat a.d (m a.id)) (fun l e he => ?_) hn hP ho' hl' (fun i hi => ?_) (fun q hq hf => ?_)
  · have := newM_leaf he
    omega
  · subst hn
    rw [← hp]
    exact acc_at h.s1 hlf hi
  · exact acc_way (by rcases hq with e | e <;> omega) hf
/-- No more blocks than the stash has places. -/
theorem ask_room (h : Conf N S T D L n Q P) (hI : LvInv S D T (cellsE f M.c) m) (ha : a.ok N = true) (hat : ∀ l d, m a.id = some (l, d) → (l : Int) = a.lf) (ho : IsOrd (acT S D T f n P a M) n o)
    (J : List Int) (hJ : ∀ id' b, nextB m a id' = some b → id' ∈ J) (hlen : J.length ≤ T) : acO N S D T f n P a M o = false := by
  obtain ⟨h1, h2, h3, h4, h5⟩ := ask_of ha
  have hN := h.hN
  have hlf : a.lf.toNat < 2 ^ D := by omega
  have hn : n = (D + 1) * S + T + 1 := by have := h.hL; have := h.hn; omega
  have hP : n ≤ 2 ^ P := by have := h.le; have := h.hQ; omega
  have hp := ask_put h hI ha hat
  have ho' : IsOrd (tabI D n P (dpW D a.lf.toNat) (laidX S D T a.lf.toNat (cellsE f M.c) a.id (cellB a.id (newM a.op a.at' a.to.toNat a.d (m a.id))))) n o := by rw [← hp]; exact ho
  have := hI.room h.s1 hlf (newM a.op a.at' a.to.toNat a.d (m a.id)) hn hP ho' J hJ hlen
  rw [← hp] at this
  unfold acO
  rw [show lostO (acT S D T f n P a M) S D T o = [] from this]
  cases a.ok N <;> rfl
end
/-- One access from the right leaf, none lost ahead. -/
theorem Lv.step {H : Type} {N S T D L n Q P : Nat} (h : Conf N S T D L n Q P) {X : Nat → Prop} {mp lp bm f : Nat} {I : List Int} {M : MS} {k : Nat} {w : World} {m : Bm} (hL : Lv H N S D T Q X mp lp bm f false I M k w) (hI : LvInv S D T (cellsE f M.c) m) (a : Ask) (hf : f ≤ 100) (hk : k < 20000) (hi : 0 ≤ a.id)
    (hd : ∀ j, 0 ≤ a.d j ∧ a.d j ≤ 18446744073709551615) (ha : a.ok N = true) (hat : ∀ l d, m a.id = some (l, d) → (l : Int) = a.lf) :
    Calls Tryz.prog 19 #[.pointer (some ⟨lp, 0, none⟩), .int .i64 a.op, .int .u64 a.id, .int .i64 a.at', .agg (DA a.d), .int .i64 a.lf, .int .i64 a.to] w fun e w' =>
      e = .returned (.tuple #[.agg (DA (dat (m a.id))), .bool (m a.id).isSome]) ∧
      ∃ ov M', Lv H N S D T Q X mp lp bm f ov (acI N a I) M' (k + 1) w' ∧ (ov = false → LvInv S D T (cellsE f M'.c) (nextB m a)) ∧ (∀ J : List Int, (∀ id' b, nextB m a id' = some b → id' ∈ J) → J.length ≤ T → ov = false) ∧ Kept (fun j => X j ∧ j ≠ lp ∧ j ≠ bm) w w' := by
  refine (hL.access h a hf hk hi hd).mono ?_
  rintro e w' ⟨rfl, o, ho, hL', hK⟩
  have ho := ho ha
  have hw : acW N S D T f a M = cellB a.id (m a.id) := by unfold acW; rw [if_pos ha]; exact ask_was h hI ha hat
  rw [hw, cellB_has, cellB_data]
  rw [Bool.false_or] at hL'
  exact ⟨rfl, _, _, hL', fun e => ask_next h hI ha hi hat ho e, fun J hJ hl => ask_room h hI ha hat ho J hJ hl, hK⟩
/-- What is the caller's, and stays through an access. -/
def Sav (X : Nat → Prop) (lp bm : Nat) (i : Nat) : Prop := X i ∧ i ≠ lp ∧ i ≠ bm
section
variable {H : Type} {N S D T Q : Nat} {X : Nat → Prop} {mp lp bm f : Nat} {ov : Bool} {I : List Int} {M : MS} {k : Nat} {w w' : World}
/-- What is new is the caller's. -/
theorem Lv.more (h : Lv H N S D T Q X mp lp bm f ov I M k w) (ho : Only nobody w w') : ∃ X', Lv H N S D T Q X' mp lp bm f ov I M k w' ∧ (∀ i, Sav X lp bm i → Sav X' lp bm i) ∧ ∀ i, w.heap.size ≤ i → i < w'.heap.size → Sav X' lp bm i :=
  ⟨_, h.grow ho, fun i hi => ⟨.inl hi.1, hi.2⟩, fun i h1 h2 => ⟨.inr ⟨h1, h2⟩, by have := h.lt h.x1; omega, by have := h.lt h.x2; omega⟩⟩
theorem Lv.one (h : Lv H N S D T Q X mp lp bm f ov I M k w) (o : Obj) : ∃ X', Lv H N S D T Q X' mp lp bm f ov I M k (w.alloc o) ∧ (∀ i, Sav X lp bm i → Sav X' lp bm i) ∧ Sav X' lp bm w.heap.size := by
  obtain ⟨X', h1, h2, h3⟩ := h.more ((Only.refl nobody w).alloc o)
  exact ⟨X', h1, h2, h3 _ (Nat.le_refl _) (by simp)⟩
end
end Go.Proofs.YtdbjaaalngbpgaaGreat

/- level: a law's level, its memory's cells and what it writes out of sight: an access, from the right leaf while none was lost, as one step. -/
namespace Go.Proofs.YtdbjaaalngbpgaaGreat
set_option maxRecDepth 100000
open Go.RowKit Go.ChangeShapes Go.WideShapes Go.ChangeAt Go.Maps

/-- A law's level: its blocks m (while none was lost), the ids I that were put, k accesses; Y are the caller's blocks that stay. -/
def LvK (H : Type) (N S D T Q mp lp bm : Nat) (Y : Nat → Prop) (ov : Bool) (I : List Int) (m : Bm) (k : Nat) (w : World) : Prop :=
  ∃ X M, Lv H N S D T Q X mp lp bm 1 ov I M k w ∧ (ov = false → LvInv S D T (cellsE 1 M.c) m) ∧ ∀ i, Y i → Sav X lp bm i
section
variable {H : Type} {N S D T L n Q P mp lp bm : Nat} {Y : Nat → Prop} {ov : Bool} {I : List Int} {m : Bm} {k : Nat} {w w' : World}
theorem LvK.made {W : World} (h : Lv H N S D T Q (old2 W lp bm) mp lp bm 1 false [] (mdM S D T Q) 0 w) (hl : W.heap.size ≤ lp) (hb : W.heap.size ≤ bm) : LvK H N S D T Q mp lp bm (old W) false [] (fun _ => none) 0 w :=
  ⟨_, _, h, fun _ => mdM_inv S D T Q, fun i hi => ⟨.inl hi, by have hi : i < W.heap.size := hi; omega, by have hi : i < W.heap.size := hi; omega⟩⟩
theorem LvK.nob (h : LvK H N S D T Q mp lp bm Y ov I m k w) (ho : Only nobody w w') : LvK H N S D T Q mp lp bm Y ov I m k w' := by
  obtain ⟨X, M, h1, h2, h3⟩ := h
  exact ⟨X, M, h1.nob ho, h2, h3⟩
theorem LvK.weak {Z : Nat → Prop} (h : LvK H N S D T Q mp lp bm Y ov I m k w) (hs : ∀ i, Z i → Y i) : LvK H N S D T Q mp lp bm Z ov I m k w := by
  obtain ⟨X, M, h1, h2, h3⟩ := h
  exact ⟨X, M, h1, h2, fun i hi => h3 i (hs i hi)⟩
theorem LvK.only {Z : Nat → Prop} (h : LvK H N S D T Q mp lp bm Y ov I m k w) (ho : Only Z w w') (hs : ∀ i, Z i → Y i) : LvK H N S D T Q mp lp bm Y ov I m k w' := by
  obtain ⟨X, M, h1, h2, h3⟩ := h
  exact ⟨X, M, h1.only ho (fun i hi => h3 i (hs i hi)), h2, h3⟩
theorem LvK.lt (h : LvK H N S D T Q mp lp bm Y ov I m k w) {i : Nat} (hi : Y i) : i < w.heap.size := by
  obtain ⟨X, M, h1, h2, h3⟩ := h
  exact h1.lt (h3 i hi).1
theorem LvK.grow (h : LvK H N S D T Q mp lp bm Y ov I m k w) (ho : Only nobody w w') : LvK H N S D T Q mp lp bm (fun i => Y i ∨ (w.heap.size ≤ i ∧ i < w'.heap.size)) ov I m k w' := by
  obtain ⟨X, M, h1, h2, h3⟩ := h
  obtain ⟨X', g1, g2, g3⟩ := h1.more ho
  exact ⟨X', M, g1, h2, fun i hi => hi.elim (fun hi => g2 i (h3 i hi)) (fun hi => g3 i hi.1 hi.2)⟩
theorem LvK.alloc (h : LvK H N S D T Q mp lp bm Y ov I m k w) (o : Obj) : LvK H N S D T Q mp lp bm (fun i => Y i ∨ i = w.heap.size) ov I m k (w.alloc o) :=
  (h.grow ((Only.refl nobody w).alloc o)).weak fun i hi => hi.imp id (fun e => by subst e; exact ⟨Nat.le_refl _, by simp⟩)
theorem LvK.over (h : LvK H N S D T Q mp lp bm Y ov I m k w) : Calls Tryz.prog 23 #[.pointer (some ⟨lp, 0, none⟩)] w fun e w' => e = .returned (.bool ov) ∧ w' = w := by
  obtain ⟨X, M, h1, _, _⟩ := h
  exact h1.over
theorem LvK.blocks (h : LvK H N S D T Q mp lp bm Y ov I m k w) : Calls Tryz.prog 24 #[.pointer (some ⟨lp, 0, none⟩)] w fun e w' => e = .returned (.int .i64 ((difI I).length : Nat)) ∧ w' = w := by
  obtain ⟨X, M, h1, _, _⟩ := h
  exact h1.blocks
theorem LvK.step (hC : Conf N S T D L n Q P) (h : LvK H N S D T Q mp lp bm Y ov I m k w) (a : Ask) (hk : k < 20000) (hi : 0 ≤ a.id)
    (hd : ∀ j, 0 ≤ a.d j ∧ a.d j ≤ 18446744073709551615) (ha : a.ok N = true) (hat : ov = false → ∀ l d, m a.id = some (l, d) → (l : Int) = a.lf) :
    Calls Tryz.prog 19 #[.pointer (some ⟨lp, 0, none⟩), .int .i64 a.op, .int .u64 a.id, .int .i64 a.at', .agg (DA a.d), .int .i64 a.lf, .int .i64 a.to] w fun e w' =>
      ∃ d' b', e = .returned (.tuple #[.agg (DA d'), .bool b']) ∧ (ov = false → DA d' = DA (dat (m a.id)) ∧ b' = (m a.id).isSome) ∧
        ∃ ov', LvK H N S D T Q mp lp bm Y ov' (acI N a I) (nextB m a) (k + 1) w' ∧ (ov = true → ov' = true) ∧ (ov = false → ∀ J : List Int, (∀ id' b, nextB m a id' = some b → id' ∈ J) → J.length ≤ T → ov' = false) ∧ Kept Y w w' := by
  obtain ⟨X, M, h1, h2, h3⟩ := h
  cases ov
  · refine (h1.step hC (h2 rfl) a (by decide) hk hi hd ha (hat rfl)).mono ?_
    rintro e w' ⟨rfl, ov, M', hl, g1, g2, hK⟩
    exact ⟨_, _, rfl, fun _ => ⟨rfl, rfl⟩, ov, ⟨X, M', hl, g1, h3⟩, fun e => (by cases e), fun _ => g2, hK.mono h3⟩
  · refine (h1.access hC a (by decide) hk hi hd).mono ?_
    rintro e w' ⟨rfl, o, ho, hl, hK⟩
    exact ⟨_, _, rfl, fun e => by (cases e), true, ⟨X, _, hl, fun e => by (cases e), h3⟩, fun _ => rfl, fun e => by (cases e), hK.mono h3⟩
end
/-- The caller's note of leaves: each block lies where it says, each id is below T. -/
structure RmOk (T N : Nat) (g : Nat → Nat) (m : Bm) (I : List Int) : Prop where
  lt : ∀ j, g j < N
  at' : ∀ id l d, m id = some (l, d) → ∃ j : Nat, j < T ∧ id = (j : Int) ∧ l = g j
  ids : ∀ x, x ∈ I → ∃ j : Nat, j < T ∧ x = (j : Int)
def updN (g : Nat → Nat) (i v j : Nat) : Nat := if j = i then v else g j
def idsTo (T : Nat) : List Int := (List.range T).map fun (j : Nat) => (j : Int)
theorem idsTo_mem {T : Nat} {x : Int} (h : ∃ j : Nat, j < T ∧ x = (j : Int)) : x ∈ idsTo T := by
  obtain ⟨j, h1, rfl⟩ := h
  exact List.mem_map.2 ⟨j, List.mem_range.2 h1, rfl⟩
theorem idsTo_len (T : Nat) : (idsTo T).length = T := by simp [idsTo]
theorem RmOk.new {T N : Nat} (hN : 0 < N) : RmOk T N (fun _ => 0) (fun _ => none) [] := ⟨fun _ => hN, fun _ _ _ h => (by cases h), fun _ h => (by cases h)⟩
theorem RmOk.next {T N : Nat} {g : Nat → Nat} {m : Bm} {I : List Int} (h : RmOk T N g m I) (op at' : Int) (id to : Nat) (d : Nat → Int) (hid : id < T) (hto : to < N) :
    RmOk T N (updN g id to) (nextB m ⟨op, (id : Int), at', d, (g id : Nat), (to : Int)⟩) (acI N ⟨op, (id : Int), at', d, (g id : Nat), (to : Int)⟩ I) := by
  refine ⟨fun j => ?_, fun x l e hx => ?_, fun x hx => ?_⟩
  · unfold updN
    split
    · exact hto
    · exact h.lt j
  · unfold nextB setB at hx
    split at hx
    · rename_i hxi
      have := newM_leaf hx
      exact ⟨id, hid, hxi, by rw [this]; unfold updN; rw [if_pos rfl]; rfl⟩
    · rename_i hxi
      obtain ⟨j, h1, h2, h3⟩ := h.at' x l e hx
      refine ⟨j, h1, h2, ?_⟩
      unfold updN
      rw [if_neg (fun e => hxi (by rw [h2, e]))]
      exact h3
  · unfold acI at hx
    split at hx
    · rcases List.mem_append.1 hx with hx | hx
      · exact h.ids x hx
      · rw [List.mem_singleton] at hx
        exact ⟨id, hid, hx⟩
    · exact h.ids x hx
theorem RmOk.all {T N : Nat} {g : Nat → Nat} {m : Bm} {I : List Int} (h : RmOk T N g m I) (id' : Int) (b : Nat × (Nat → Int)) (hb : m id' = some b) : id' ∈ idsTo T := by
  obtain ⟨j, h1, h2, _⟩ := h.at' id' b.1 b.2 hb
  exact idsTo_mem ⟨j, h1, h2⟩
theorem RmOk.len {T N : Nat} {g : Nat → Nat} {m : Bm} {I : List Int} (h : RmOk T N g m I) : (difI I).length ≤ T := by
  have := difI_le I (idsTo T) fun i hi => idsTo_mem (h.ids i hi)
  rwa [idsTo_len] at this
theorem RmOk.leaf {T N : Nat} {g : Nat → Nat} {m : Bm} {I : List Int} (h : RmOk T N g m I) {id : Nat} (l : Nat) (d : Nat → Int) (hm : m (id : Int) = some (l, d)) : (l : Int) = (g id : Nat) := by
  obtain ⟨j, _, h2, h3⟩ := h.at' _ l d hm
  have : id = j := by omega
  rw [this, h3]
end Go.Proofs.YtdbjaaalngbpgaaGreat
