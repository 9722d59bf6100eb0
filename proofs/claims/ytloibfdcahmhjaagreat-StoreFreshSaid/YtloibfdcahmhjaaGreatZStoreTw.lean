/- store: two stores, each in a memory of its own, beside the law's own blocks: an access of one leaves the other one as it is. Conditions: as they are named. -/
import Derived.Test.YtloibfdcahmhjaaGreatG49
namespace Go.Proofs.YtloibfdcahmhjaaGreat
set_option maxRecDepth 100000
open Go.RowKit Go.ChangeShapes Go.WideShapes Go.ChangeAt Go.Maps Go.Deep

def St2 (c : SC) (a : SA) (d : SC) (b : SA) (Z : Nat → Prop) (g p : SG) (k l : Nat) (w : World) : Prop :=
  ∃ ga gc G ga' gc' G', StoA c a g ga gc G k w ∧ StoA d b p ga' gc' G' l w ∧ (∀ i, G i → ¬ G' i) ∧ ∀ i, Z i → i < w.heap.size ∧ ¬ G i ∧ ¬ G' i
section
variable {c d : SC} {a b : SA} {Z Z' : Nat → Prop} {g p : SG} {k l : Nat} {w w' : World}
theorem St2.swap (h : St2 c a d b Z g p k l w) : St2 d b c a Z p g l k w := by
  obtain ⟨ga, gc, G, ga', gc', G', h1, h2, h3, h4⟩ := h
  exact ⟨ga', gc', G', ga, gc, G, h2, h1, fun i hi hg => h3 i hg hi, fun i hi => ⟨(h4 i hi).1, (h4 i hi).2.2, (h4 i hi).2.1⟩⟩
theorem St2.weak (h : St2 c a d b Z g p k l w) (hz : ∀ i, Z' i → Z i) : St2 c a d b Z' g p k l w := by
  obtain ⟨ga, gc, G, ga', gc', G', h1, h2, h3, h4⟩ := h
  exact ⟨ga, gc, G, ga', gc', G', h1, h2, h3, fun i hi => h4 i (hz i hi)⟩
theorem St2.lt (h : St2 c a d b Z g p k l w) {i : Nat} (hi : Z i) : i < w.heap.size := by obtain ⟨_, _, _, _, _, _, _, _, _, h4⟩ := h; exact (h4 i hi).1
theorem St2.grow (h : St2 c a d b Z g p k l w) (ho : Only nobody w w') : St2 c a d b (fun i => Z i ∨ (w.heap.size ≤ i ∧ i < w'.heap.size)) g p k l w' := by
  obtain ⟨ga, gc, G, ga', gc', G', h1, h2, h3, h4⟩ := h
  refine ⟨ga, gc, G, ga', gc', G', h1.nob ho, h2.nob ho, h3, fun i hi => ?_⟩
  rcases hi with hi | hi
  · exact ⟨Nat.lt_of_lt_of_le (h4 i hi).1 ho.size, (h4 i hi).2⟩
  · exact ⟨hi.2, fun hg => by have := h1.lt i hg; omega, fun hg => by have := h2.lt i hg; omega⟩
theorem St2.nob (h : St2 c a d b Z g p k l w) (ho : Only nobody w w') : St2 c a d b Z g p k l w' := (h.grow ho).weak fun _ hi => .inl hi
theorem St2.alloc (h : St2 c a d b Z g p k l w) (o : Obj) : St2 c a d b (fun i => Z i ∨ i = w.heap.size) g p k l (w.alloc o) :=
  (h.grow ((Only.refl nobody w).alloc o)).weak fun i hi => hi.imp id (fun e => by subst e; exact ⟨Nat.le_refl _, by simp⟩)
theorem St2.only (h : St2 c a d b Z g p k l w) {Y : Nat → Prop} (ho : Only Y w w') (hY : ∀ i, Y i → Z i) : St2 c a d b Z g p k l w' := by
  obtain ⟨ga, gc, G, ga', gc', G', h1, h2, h3, h4⟩ := h
  exact ⟨ga, gc, G, ga', gc', G', h1.keep ho (fun i hi hy => (h4 i (hY i hy)).2.1 hi), h2.keep ho (fun i hi hy => (h4 i (hY i hy)).2.2 hi), h3, fun i hi => ⟨Nat.lt_of_lt_of_le (h4 i hi).1 ho.size, (h4 i hi).2⟩⟩
def Told2 (c : SC) (g g' : SG) (op : Int) (id : Nat) (d : Nat → Int) (rr : Nat → Int) (t : Bool) : Prop :=
  NoO c g' → ∀ b, StB c g b → DA rr = DA (datD (b (id : Int))) ∧ t = (b (id : Int)).isSome ∧ (g'.I 0 = if op = 1 then g.I 0 ++ [(id : Int)] else g.I 0) ∧ StB c g' (setD b (id : Int) (nxD op d (b (id : Int))))
theorem St2.access (hc : c.Ok) (h : St2 c a d b Z g p k l w) (op : Int) (id : Nat) (e : Nat → Int) (hop : isOp op id (2 ^ c.b) = true) (he : ∀ j, 0 ≤ e j ∧ e j ≤ 18446744073709551615) (hk : k < 19900) :
    Calls Tryz.prog 47 #[.pointer (some ⟨a.sp, 0, none⟩), .int .i64 op, .int .u64 (id : Int), .agg (DA e)] w fun r w' =>
      ∃ g' rr t, r = .returned (.tuple #[.agg (DA rr), .bool t]) ∧ St2 c a d b Z g' p (k + 20) l w' ∧ Kept Z w w' ∧ Grw g g' ∧ Told2 c g g' op id e rr t := by
  obtain ⟨ga, gc, G, ga', gc', G', h1, h2, h3, h4⟩ := h
  obtain ⟨hop1, hid⟩ := isOp_is hop
  refine (h1.access hc op id e hop he hk).mono ?_
  rintro r w' ⟨g', e', rr, t, hR, rfl, ga1, gc1, G1, s1, s2, s3, s4⟩
  refine ⟨g', rr, t, rfl, ⟨ga1, gc1, G1, ga', gc', G', s1, h2.keep s4 (fun i hi hg => h3 i hg hi), fun i hi hg => ?_, fun i hi => ?_⟩, s4.mono (fun i _ hi hz => (h4 i hz).2.1 hi), ?_, fun hN b hb => ?_⟩
  · rcases s2 i hi with hi2 | hi2
    · exact h3 i hi2 hg
    · have := h2.lt i hg; omega
  · have q := s3 i ⟨(h4 i hi).1, (h4 i hi).2.1⟩
    exact ⟨q.1, q.2, (h4 i hi).2.2⟩
  · exact Grw.trans ⟨fun _ h => h, fun _ => Nat.le_refl _⟩ hR.grw
  · obtain ⟨m, hI, hm⟩ := hb
    obtain ⟨m', q1, q2, q3, q5, to, q4⟩ := Rn.sound2 hc (drawn_ok hc g) hop1 hid hI.drew hR hN
    refine ⟨?_, ?_, q5, m', q1, fun i => ?_⟩
    · rw [q2, dat_data, hm]
    · rw [q3, ← hm]
      cases m 0 (id : Int) <;> rfl
    · rw [q4]
      unfold setD
      split
      · rw [newM_data hop1, hm]
      · exact hm i
theorem St2.over (hc : c.Ok) (h : St2 c a d b Z g p k l w) : Calls Tryz.prog 50 #[.pointer (some ⟨a.sp, 0, none⟩)] w fun e w' => e = .returned (.bool (ovN g c.n)) ∧ w' = w := by
  obtain ⟨_, _, _, _, _, _, h1, _⟩ := h
  exact h1.over hc
theorem St2.counts (hc : c.Ok) (h : St2 c a d b Z g p k l w) : Calls Tryz.prog 53 #[.pointer (some ⟨a.sp, 0, none⟩)] w (SzPost w (ctL g c.n)) := by
  obtain ⟨_, _, _, _, _, _, h1, _⟩ := h
  exact h1.counts hc
end
structure StT (c : SC) (a : SA) (d : SC) (b : SA) (W : World) (Z : Nat → Prop) (F : World → Prop) (g p : SG) (k l : Nat) (wr : World) : Prop where
  sk : St2 c a d b Z g p k l wr
  hz : ∀ i, i < W.heap.size → Z i
  hF : F wr
  st : ∀ u u', W.heap.size ≤ u.heap.size → Kept Z u u' → F u → F u'
  kp : Below W.heap.size W wr
section
variable {c : SC} {a : SA} {d : SC} {b' : SA} {W : World} {Z : Nat → Prop} {F : World → Prop} {g p : SG} {k l : Nat} {wr w' : World}
theorem StT.nob (h : StT c a d b' W Z F g p k l wr) (ho : Only nobody wr w') : StT c a d b' W Z F g p k l w' :=
  ⟨h.sk.nob ho, h.hz, h.st _ _ h.kp.size (Kept.of_none ho) h.hF, h.st, below_only h.kp ho h.kp.size (fun _ _ h => h)⟩
theorem StT.drew (h : StT c a d b' W Z F g p k l wr) : StT c a d b' W Z F g p k l wr.drew := h.nob (Only.refl _ _).drew
theorem StT.also {G : World → Prop} (h : StT c a d b' W Z F g p k l wr) (hG : G wr) (st : ∀ u u', W.heap.size ≤ u.heap.size → Kept Z u u' → G u → G u') : StT c a d b' W Z (fun u => F u ∧ G u) g p k l wr :=
  ⟨h.sk, h.hz, ⟨h.hF, hG⟩, fun u u' hs hk g => ⟨h.st u u' hs hk g.1, st u u' hs hk g.2⟩, h.kp⟩
theorem StT.grow (h : StT c a d b' W Z F g p k l wr) (o : Obj) {b : Nat} (hb : wr.heap.size = b) : StT c a d b' W (fun i => Z i ∨ i = b) F g p k l (wr.alloc o) := by
  subst hb
  have ho : Only nobody wr (wr.alloc o) := (Only.refl _ _).alloc _
  exact ⟨h.sk.alloc o, fun i hi => .inl (h.hz i hi), h.st _ _ h.kp.size (Kept.of_none ho) h.hF, fun u u' hs hk g => h.st u u' hs (hk.mono fun i hi => .inl hi) g, below_only h.kp ho h.kp.size (fun _ _ h => h)⟩
theorem StT.more (h : StT c a d b' W Z F g p k l wr) (ho : Only nobody wr w') : StT c a d b' W (fun i => Z i ∨ (wr.heap.size ≤ i ∧ i < w'.heap.size)) F g p k l w' :=
  ⟨h.sk.grow ho, fun i hi => .inl (h.hz i hi), h.st _ _ h.kp.size (Kept.of_none ho) h.hF, fun u u' hs hk g => h.st u u' hs (hk.mono fun _ hi => .inl hi) g, below_only h.kp ho h.kp.size (fun _ _ h => h)⟩
theorem StT.box (h : StT c a d b' W Z F g p k l wr) (t : TypeId) (cs : Array Value) {b : Nat} (hb : wr.heap.size = b) :
    StT c a d b' W (fun i => Z i ∨ i = b) (fun u => F u ∧ Box u b t cs) g p k l (wr.alloc (.cells cs t)) :=
  (h.grow (.cells cs t) hb).also (by rw [← hb]; exact Box.new wr t cs) (fun _ _ _ hk g => hk.box g (.inr rfl))
theorem StT.put {Y : Nat → Prop} {G : World → Prop} (h : StT c a d b' W Z F g p k l wr) (ho : Only Y wr w') (hY : ∀ i, Y i → Z i ∧ W.heap.size ≤ i) (hG : G w') (st : ∀ u u', W.heap.size ≤ u.heap.size → Kept Z u u' → G u → G u') : StT c a d b' W Z G g p k l w' :=
  ⟨h.sk.only ho (fun i hi => (hY i hi).1), h.hz, hG, st, below_only h.kp ho h.kp.size (fun i hi e => by have := (hY i e).2; omega)⟩
theorem StT.back {Z0 : Nat → Prop} {G : World → Prop} (h : StT c a d b' W Z (fun u => F u ∧ G u) g p k l wr) (h0 : ∀ i, Z0 i → Z i) (hz0 : ∀ i, i < W.heap.size → Z0 i) (stF : ∀ u u', W.heap.size ≤ u.heap.size → Kept Z0 u u' → F u → F u') : StT c a d b' W Z0 F g p k l wr :=
  ⟨h.sk.weak h0, hz0, h.hF.1, stF, h.kp⟩
theorem StT.swap (h : StT c a d b' W Z F g p k l wr) : StT d b' c a W Z F p g l k wr := ⟨h.sk.swap, h.hz, h.hF, h.st, h.kp⟩
theorem StT.step (hc : c.Ok) (h : StT c a d b' W Z F g p k l wr) (op : Int) (id : Nat) (e : Nat → Int) (hop : isOp op id (2 ^ c.b) = true) (he : ∀ j, 0 ≤ e j ∧ e j ≤ 18446744073709551615) (hk : k < 19900) :
    Calls Tryz.prog 47 #[.pointer (some ⟨a.sp, 0, none⟩), .int .i64 op, .int .u64 (id : Int), .agg (DA e)] wr fun r w' =>
      ∃ g' rr t, r = .returned (.tuple #[.agg (DA rr), .bool t]) ∧ Grw g g' ∧ Told2 c g g' op id e rr t ∧ StT c a d b' W Z F g' p (k + 20) l w' := by
  refine (h.sk.access hc op id e hop he hk).mono ?_
  rintro r w' ⟨g', rr, t, rfl, hS, hK, h1, h2⟩
  exact ⟨g', rr, t, rfl, h1, h2, hS, h.hz, h.st _ _ h.kp.size hK h.hF, h.st, h.kp.trans ((hK.mono h.hz).below h.kp.size (fun _ h => h))⟩
theorem StT.over (hc : c.Ok) (h : StT c a d b' W Z F g p k l wr) : Calls Tryz.prog 50 #[.pointer (some ⟨a.sp, 0, none⟩)] wr fun e w' => e = .returned (.bool (ovN g c.n)) ∧ w' = wr := h.sk.over hc
theorem StT.counts (hc : c.Ok) (h : StT c a d b' W Z F g p k l wr) : Calls Tryz.prog 53 #[.pointer (some ⟨a.sp, 0, none⟩)] wr (SzPost wr (ctL g c.n)) := h.sk.counts hc
end
theorem StT.made {c d : SC} {a b : SA} {W w3 w4 w5 : World} {g p : SG} {F : World → Prop} (hS : StoA c a g none 0 (fun i => w3.heap.size ≤ i ∧ i < w4.heap.size) 0 w4) (ho : Only nobody w3 w4) (hT : StoA d b p none 0 (fun i => w4.heap.size ≤ i ∧ i < w5.heap.size) 0 w5) (ho2 : Only nobody w4 w5)
    (hB : Below W.heap.size W w3) (hF : F w3) (st : ∀ u u', W.heap.size ≤ u.heap.size → Kept (fun i => i < w3.heap.size) u u' → F u → F u') : StT c a d b W (fun i => i < w3.heap.size) F g p 0 0 w5 :=
  ⟨⟨none, 0, _, none, 0, _, hS.nob ho2, hT, fun i hi hg => by omega, fun i hi => ⟨by have := ho.size; have := ho2.size; omega, fun h => by omega, fun h => by have := ho.size; omega⟩⟩, fun i hi => by have := hB.size; omega, st _ _ hB.size (Kept.of_none (ho.trans ho2)) hF, st, below_only hB (ho.trans ho2) hB.size (fun _ _ h => h)⟩
end Go.Proofs.YtloibfdcahmhjaaGreat

