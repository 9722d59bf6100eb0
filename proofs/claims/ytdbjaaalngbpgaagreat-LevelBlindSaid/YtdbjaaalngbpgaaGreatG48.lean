/- Texts of ours put together: LevelS. -/
import Derived.Test.YtdbjaaalngbpgaaGreatG43
import Derived.Test.YtdbjaaalngbpgaaGreatG44
import Derived.Test.YtdbjaaalngbpgaaGreatG14
import Derived.Test.YtdbjaaalngbpgaaGreatG8
/- level: a law's level with the facts that the law's own blocks keep: a new block, a store, an access. -/
namespace Go.Proofs.YtdbjaaalngbpgaaGreat
set_option maxRecDepth 100000
open Go.RowKit Go.ChangeShapes Go.WideShapes Go.ChangeAt Go.Maps Go.Deep

/-- F holds of the law's own blocks Z, and stays where they stay. -/
structure LvS (N S D T Q mp lp bm : Nat) (W : World) (Z : Nat → Prop) (F : World → Prop) (ov : Bool) (I : List Int) (m : Bm) (k : Nat) (wr : World) : Prop where
  lk : LvK Unit N S D T Q mp lp bm Z ov I m k wr
  hz : ∀ i, i < W.heap.size → Z i
  hF : F wr
  st : ∀ u u', W.heap.size ≤ u.heap.size → Kept Z u u' → F u → F u'
  kp : Below W.heap.size W wr
section
variable {N S D T L n Q P mp lp bm : Nat} {W : World} {Z : Nat → Prop} {F : World → Prop} {ov : Bool} {I : List Int} {m : Bm} {k : Nat} {wr w' : World}
theorem LvS.nob (h : LvS N S D T Q mp lp bm W Z F ov I m k wr) (ho : Only nobody wr w') : LvS N S D T Q mp lp bm W Z F ov I m k w' :=
  ⟨h.lk.nob ho, h.hz, h.st _ _ h.kp.size (Kept.of_none ho) h.hF, h.st, below_only h.kp ho h.kp.size (fun _ _ h => h)⟩
theorem LvS.drew (h : LvS N S D T Q mp lp bm W Z F ov I m k wr) : LvS N S D T Q mp lp bm W Z F ov I m k wr.drew := h.nob (Only.refl _ _).drew
/-- Another fact of what is the law's own. -/
theorem LvS.also {G : World → Prop} (h : LvS N S D T Q mp lp bm W Z F ov I m k wr) (hG : G wr) (st : ∀ u u', W.heap.size ≤ u.heap.size → Kept Z u u' → G u → G u') : LvS N S D T Q mp lp bm W Z (fun u => F u ∧ G u) ov I m k wr :=
  ⟨h.lk, h.hz, ⟨h.hF, hG⟩, fun u u' hs hk g => ⟨h.st u u' hs hk g.1, st u u' hs hk g.2⟩, h.kp⟩
theorem LvS.grow (h : LvS N S D T Q mp lp bm W Z F ov I m k wr) (o : Obj) {b : Nat} (hb : wr.heap.size = b) : LvS N S D T Q mp lp bm W (fun i => Z i ∨ i = b) F ov I m k (wr.alloc o) := by
  subst hb
  have ho : Only nobody wr (wr.alloc o) := (Only.refl _ _).alloc _
  exact ⟨h.lk.alloc o, fun i hi => .inl (h.hz i hi), h.st _ _ h.kp.size (Kept.of_none ho) h.hF, fun u u' hs hk g => h.st u u' hs (hk.mono fun i hi => .inl hi) g, below_only h.kp ho h.kp.size (fun _ _ h => h)⟩
/-- More of what is new. -/
theorem LvS.more (h : LvS N S D T Q mp lp bm W Z F ov I m k wr) (ho : Only nobody wr w') : LvS N S D T Q mp lp bm W (fun i => Z i ∨ (wr.heap.size ≤ i ∧ i < w'.heap.size)) F ov I m k w' :=
  ⟨h.lk.grow ho, fun i hi => .inl (h.hz i hi), h.st _ _ h.kp.size (Kept.of_none ho) h.hF, fun u u' hs hk g => h.st u u' hs (hk.mono fun _ hi => .inl hi) g, below_only h.kp ho h.kp.size (fun _ _ h => h)⟩
theorem LvS.hasBox {t : TypeId} {cs : Array Value} {b : Nat} (h : LvS N S D T Q mp lp bm W Z F ov I m k wr) (hb : Box wr b t cs) (hz : Z b) : LvS N S D T Q mp lp bm W Z (fun u => F u ∧ Box u b t cs) ov I m k wr :=
  h.also hb (fun _ _ _ hk g => hk.box g hz)
/-- A new variable. -/
theorem LvS.box (h : LvS N S D T Q mp lp bm W Z F ov I m k wr) (t : TypeId) (cs : Array Value) {b : Nat} (hb : wr.heap.size = b) :
    LvS N S D T Q mp lp bm W (fun i => Z i ∨ i = b) (fun u => F u ∧ Box u b t cs) ov I m k (wr.alloc (.cells cs t)) :=
  (h.grow (.cells cs t) hb).also (by rw [← hb]; exact Box.new wr t cs) (fun _ _ _ hk g => hk.box g (.inr rfl))
theorem LvS.row (h : LvS N S D T Q mp lp bm W Z F ov I m k wr) (t : TypeId) (f : Nat → Value) (o : Obj) {b n : Nat} (hb : wr.heap.size = b) (hr : (wr.alloc o).rowIs b t n f) :
    LvS N S D T Q mp lp bm W (fun i => Z i ∨ i = b) (fun u => F u ∧ u.rowIs b t n f) ov I m k (wr.alloc o) :=
  (h.grow o hb).also hr (fun _ _ _ hk g => hk.row g (.inr rfl))
/-- A store into what is the law's own. -/
theorem LvS.put {Y : Nat → Prop} {G : World → Prop} (h : LvS N S D T Q mp lp bm W Z F ov I m k wr) (ho : Only Y wr w') (hY : ∀ i, Y i → Z i ∧ W.heap.size ≤ i) (hG : G w') (st : ∀ u u', W.heap.size ≤ u.heap.size → Kept Z u u' → G u → G u') : LvS N S D T Q mp lp bm W Z G ov I m k w' :=
  ⟨h.lk.only ho (fun i hi => (hY i hi).1), h.hz, hG, st, below_only h.kp ho h.kp.size (fun i hi e => by have := (hY i e).2; omega)⟩
theorem LvS.mem {i : Nat} (h : LvS N S D T Q mp lp bm W Z F ov I m k wr) (hi : Z i) : i < wr.heap.size := h.lk.lt hi
theorem LvS.eqF {G : World → Prop} (h : LvS N S D T Q mp lp bm W Z F ov I m k wr) (e : F = G) : LvS N S D T Q mp lp bm W Z G ov I m k wr := e ▸ h
/-- A store into a row of the law's own. -/
theorem LvS.setRow {Z0 : Nat → Prop} {b nr i : Nat} {t : TypeId} {f f' : Nat → Value} {v : Value} (h : LvS N S D T Q mp lp bm W Z (fun u => F u ∧ u.rowIs b t nr f) ov I m k wr) (stF : ∀ u u', W.heap.size ≤ u.heap.size → Kept Z0 u u' → F u → F u')
    (h0 : ∀ i, Z0 i → Z i) (hb0 : ¬ Z0 b) (hb : Z b) (hW : W.heap.size ≤ b) (e : ∀ j, j < nr → (if j = i then v else f j) = f' j) : LvS N S D T Q mp lp bm W Z (fun u => F u ∧ u.rowIs b t nr f') ov I m k (wr.setCell ⟨b, i, none⟩ v) := by
  have ho : Only (just b) wr (wr.setCell ⟨b, i, none⟩ v) := (Only.refl _ _).setCell (p := ⟨b, i, none⟩) (.inl (just_self _)) _
  refine h.put ho (fun i e => ?_) ⟨stF _ _ h.kp.size (Only.mono ho (fun i _ e => ?_)) h.hF.1, (h.hF.2.set i v).congr e⟩ (fun u u' hs hk g => ⟨stF u u' hs (hk.mono h0) g.1, hk.row g.2 hb⟩)
  · have e : i = b := e
    subst e
    exact ⟨hb, hW⟩
  · have e : i = b := e
    subst e
    exact hb0
/-- A block of the law's own that is not asked for again. -/
theorem LvS.spent {Z0 : Nat → Prop} {G : World → Prop} {b : Nat} (h : LvS N S D T Q mp lp bm W Z (fun u => F u ∧ G u) ov I m k wr) (ho : Only (just b) wr w') (h0 : ∀ i, Z0 i → Z i) (hz0 : ∀ i, i < W.heap.size → Z0 i)
    (stF : ∀ u u', W.heap.size ≤ u.heap.size → Kept Z0 u u' → F u → F u') (hb0 : ¬ Z0 b) (hb : Z b) : LvS N S D T Q mp lp bm W Z0 F ov I m k w' := by
  have hj : ∀ i, just b i → i = b := fun i e => e
  exact ⟨(h.lk.only ho (fun i e => by rw [hj i e]; exact hb)).weak h0, hz0, stF _ _ h.kp.size (Only.mono ho (fun i _ e => by rw [hj i e]; exact hb0)) h.hF.1, stF,
    below_only h.kp ho h.kp.size (fun i hi e => hb0 (by rw [← hj i e]; exact hz0 i hi))⟩
theorem LvS.back {Z0 : Nat → Prop} {G : World → Prop} (h : LvS N S D T Q mp lp bm W Z (fun u => F u ∧ G u) ov I m k wr) (h0 : ∀ i, Z0 i → Z i) (hz0 : ∀ i, i < W.heap.size → Z0 i) (stF : ∀ u u', W.heap.size ≤ u.heap.size → Kept Z0 u u' → F u → F u') : LvS N S D T Q mp lp bm W Z0 F ov I m k wr :=
  ⟨h.lk.weak h0, hz0, h.hF.1, stF, h.kp⟩
theorem LvS.step (hC : Conf N S T D L n Q P) (h : LvS N S D T Q mp lp bm W Z F ov I m k wr) (a : Ask) (hk : k < 20000) (hi : 0 ≤ a.id)
    (hd : ∀ j, 0 ≤ a.d j ∧ a.d j ≤ 18446744073709551615) (ha : a.ok N = true) (hat : ov = false → ∀ l d, m a.id = some (l, d) → (l : Int) = a.lf) :
    Calls Tryz.prog 19 #[.pointer (some ⟨lp, 0, none⟩), .int .i64 a.op, .int .u64 a.id, .int .i64 a.at', .agg (DA a.d), .int .i64 a.lf, .int .i64 a.to] wr fun e w' =>
      ∃ d' b', e = .returned (.tuple #[.agg (DA d'), .bool b']) ∧ (ov = false → DA d' = DA (dat (m a.id)) ∧ b' = (m a.id).isSome) ∧
        ∃ ov', (ov = true → ov' = true) ∧ (ov = false → ∀ J : List Int, (∀ id' b, nextB m a id' = some b → id' ∈ J) → J.length ≤ T → ov' = false) ∧ LvS N S D T Q mp lp bm W Z F ov' (acI N a I) (nextB m a) (k + 1) w' := by
  refine (h.lk.step hC a hk hi hd ha hat).mono ?_
  rintro e w' ⟨d', b', rfl, h1, ov', h2, h3, h4, hK⟩
  exact ⟨d', b', rfl, h1, ov', h3, h4, h2, h.hz, h.st _ _ h.kp.size hK h.hF, h.st, h.kp.trans ((hK.mono h.hz).below h.kp.size (fun _ h => h))⟩
end
/-- A law's level, made. -/
theorem LvS.made {N S D T Q mp lp bm : Nat} {W w3 w4 : World} {F : World → Prop} (hL : Lv Unit N S D T Q (old2 w3 lp bm) mp lp bm 1 false [] (mdM S D T Q) 0 w4) (hl : w3.heap.size ≤ lp) (hb : w3.heap.size ≤ bm) (ho : Only nobody w3 w4)
    (hB : Below W.heap.size W w3) (hF : F w3) (st : ∀ u u', W.heap.size ≤ u.heap.size → Kept (fun i => i < w3.heap.size) u u' → F u → F u') : LvS N S D T Q mp lp bm W (fun i => i < w3.heap.size) F false [] (fun _ => none) 0 w4 :=
  ⟨LvK.made hL hl hb, fun i hi => by have := hB.size; omega, st _ _ hB.size (Kept.of_none ho) hF, st, below_only hB ho hB.size (fun _ _ h => h)⟩
section
variable {m : Bm} {id at' lf : Int} {d : Nat → Int} {to : Nat}
theorem nx_drop : nextB m ⟨3, id, at', d, lf, (to : Int)⟩ id = none := by unfold nextB setB newM; simp
theorem nx_put : nextB m ⟨1, id, at', d, lf, (to : Int)⟩ id = some (to, d) := by unfold nextB setB newM; simp
theorem nx_part : nextB m ⟨2, id, at', d, lf, (to : Int)⟩ id = some (to, updD (dat (m id)) at' d) := by unfold nextB setB newM; simp
theorem nx_look : nextB m ⟨0, id, at', d, lf, (to : Int)⟩ id = (m id).map fun x => (to, x.2) := by unfold nextB setB newM; simp
theorem nx_ne {op x : Int} (h : x ≠ id) : nextB m ⟨op, id, at', d, lf, (to : Int)⟩ x = m x := by unfold nextB setB; rw [if_neg h]
end
theorem DA_part (f g : Nat → Int) : ∀ k, k < 7 → ((DA f).setIfInBounds k (.int .u64 (g 0))).setIfInBounds (k + 1) (.int .u64 (g 1)) = DA (updD f (k : Int) g) := by
  intro k hk
  have : k = 0 ∨ k = 1 ∨ k = 2 ∨ k = 3 ∨ k = 4 ∨ k = 5 ∨ k = 6 := by omega
  rcases this with rfl | rfl | rfl | rfl | rfl | rfl | rfl <;> rfl
end Go.Proofs.YtdbjaaalngbpgaaGreat
