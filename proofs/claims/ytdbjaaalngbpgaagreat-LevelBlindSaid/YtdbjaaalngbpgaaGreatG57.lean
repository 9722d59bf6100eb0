/- Texts of ours put together: MemDuo, LevelTw, LevelTs, LevelBl. -/
import Derived.Deep.Slices
import Derived.Deep.Fields
import Derived.ChangeSame
import Derived.Test.YtdbjaaalngbpgaaGreatG20
import Derived.Test.YtdbjaaalngbpgaaGreatG43
import Derived.Test.YtdbjaaalngbpgaaGreatG48
import Derived.Test.YtdbjaaalngbpgaaGreatG52
/- Two memories side by side, and slices of looks that came in. -/
namespace Go.Proofs.YtdbjaaalngbpgaaGreat
set_option maxRecDepth 100000
open Go.RowKit Go.ChangeShapes Go.WideShapes Go.ChangeAt Go.Deep

/-- Two memories that share no block, and none of X. -/
def Duo (w : World) (X : Nat → Prop) (p : Nat) (M : MS) (q : Nat) (N : MS) : Prop := ∃ G, Own w (fun i => X i ∨ G i) p M ∧ Mm w q G N ∧ ∀ i, G i → ¬ X i
section
variable {w w' : World} {X Y : Nat → Prop} {p q : Nat} {M N : MS}
theorem Duo.swap (h : Duo w X p M q N) : Duo w X q N p M := by
  obtain ⟨G, ⟨F, hm, hF, hX⟩, hn, hG⟩ := h
  refine ⟨F, ⟨G, hn, fun i hi k => ?_, fun i hi => ?_⟩, hm, fun i hi k => hF i hi (.inl k)⟩
  · rcases k with k | k
    · exact hG i hi k
    · exact hF i k (.inr hi)
  · rcases hi with hi | hi
    · exact hX i (.inl hi)
    · exact hm.lt i hi
theorem Duo.left (h : Duo w X p M q N) : Own w X p M := by
  obtain ⟨G, ho, _⟩ := h
  exact ho.weak fun _ h => .inl h
theorem Duo.right (h : Duo w X p M q N) : Own w X q N := h.swap.left
theorem Duo.weak (h : Duo w X p M q N) (hs : ∀ i, Y i → X i) : Duo w Y p M q N := by
  obtain ⟨G, ho, hn, hG⟩ := h
  exact ⟨G, ho.weak (fun i h => h.imp (hs i) id), hn, fun i hi k => hG i hi (hs i k)⟩
theorem Duo.grow (h : Duo w X p M q N) (ho : Only nobody w w') : Duo w' (fun i => X i ∨ (w.heap.size ≤ i ∧ i < w'.heap.size)) p M q N := by
  obtain ⟨G, hO, hn, hG⟩ := h
  refine ⟨G, (hO.grow ho).weak (fun i h => ?_), hn.only ho (fun _ _ => not_nobody _), fun i hi k => ?_⟩
  · rcases h with (h | h) | h
    · exact .inl (.inl h)
    · exact .inr h
    · exact .inl (.inr h)
  · rcases k with k | k
    · exact hG i hi k
    · have := hn.lt i hi; omega
theorem Duo.none (h : Duo w X p M q N) (ho : Only nobody w w') : Duo w' X p M q N := (h.grow ho).weak (fun _ h => .inl h)
theorem Duo.drewN (h : Duo w X p M q N) (n : Nat) : Duo (w.drewN n) X p M q N := h.none ((Only.refl _ w).drewN n)
theorem Duo.alloc (h : Duo w X p M q N) (o : Obj) : Duo (w.alloc o) (fun i => X i ∨ i = w.heap.size) p M q N := (h.grow ((Only.refl _ w).alloc o)).weak (fun i h => h.imp id (fun h => by subst h; simp))
theorem duo_done {v : Value} {e : Ending} {M' : MS} {G : Nat → Prop} (hn : Mm w q G N) (hG : ∀ i, G i → ¬ X i) (h : OwnPost w (fun i => X i ∨ G i) p M' v e w') : e = .returned v ∧ Duo w' X p M' q N ∧ Kept X w w' := by
  obtain ⟨he, ho, hk⟩ := h
  exact ⟨he, ⟨G, ho, hn.only hk (fun i hi k => k (.inr hi)), hG⟩, hk.mono (fun i h => .inl h)⟩
end
/-- Behind a call that looks at the first of two memories. -/
def DuoPost (w : World) (X : Nat → Prop) (p : Nat) (M : MS) (q : Nat) (N : MS) (v : Value) (e : Ending) (w' : World) : Prop := e = .returned v ∧ Duo w' X p M q N ∧ Kept X w w'
section
variable (X : Nat → Prop) (p q : Nat) (M N : MS) (w : World)
theorem duo_read (r a : Int) (h : Duo w X p M q N) (hl : M.es.length < 1000000000) :
    Calls Tryz.prog 28 #[.pointer (some ⟨p, 0, none⟩), .int .i64 r, .int .i64 a] w (DuoPost w X p (M.read r a) q N (.agg (CA (M.cell r a)))) := by
  obtain ⟨G, ho, hn, hG⟩ := h
  exact (own_read _ p M w r a ho hl).mono fun e w' h => duo_done hn hG h
theorem duo_write (r a : Int) (f : Nat → Int) (h : Duo w X p M q N) (hl : M.es.length < 1000000000) :
    Calls Tryz.prog 84 #[.pointer (some ⟨p, 0, none⟩), .int .i64 r, .int .i64 a, .agg (CA f)] w (DuoPost w X p (M.write r a f) q N (.tuple #[])) := by
  obtain ⟨G, ho, hn, hG⟩ := h
  exact (own_write _ p M w r a f ho hl).mono fun e w' h => duo_done hn hG h
end
/-- A second memory beside a first one. -/
theorem duo_new {w w' : World} {X : Nat → Prop} {p q : Nat} {M N : MS} (h : Own w X p M) (ho : Only nobody w w') (hn : Own w' (old w) q N) : Duo w' X p M q N := by
  obtain ⟨F, hm, hF, hX⟩ := h
  obtain ⟨G, hq, hG, _⟩ := hn
  refine ⟨G, ⟨F, hm.only ho (fun _ _ => not_nobody _), fun i hi k => ?_, fun i hi => ?_⟩, hq, fun i hi k => hG i hi (hX i k)⟩
  · rcases k with k | k
    · exact hF i hi k
    · exact hG i k (hm.lt i hi)
  · rcases hi with hi | hi
    · exact Nat.lt_of_lt_of_le (hX i hi) ho.size
    · exact hq.lt i hi

/-- A look: region, place, number, is it written. -/
abbrev Lk := Int × Int × Int × Bool
def lkc (x : Lk) : Array Value := #[.int .i64 x.1, .int .i64 x.2.1, .int .u64 x.2.2.1, .bool x.2.2.2]
/-- A slice of looks that came in. -/
def Looks (w : World) (B : Nat) (a : Option Addr) (n : Nat) (x : Nat → Lk) : Prop :=
  0 < n → ∃ b off, a = some ⟨b, off, none⟩ ∧ b < B ∧ ∀ j, j < n → w.rangeAt b (off + j * 4) (lkc (x j)).toList
theorem Looks.below {w w' : World} {B : Nat} {a : Option Addr} {n : Nat} {x : Nat → Lk} (h : Looks w B a n x) (hb : Below B w w') : Looks w' B a n x := fun hn => by
  obtain ⟨b, off, e, hB, hc⟩ := h hn
  exact ⟨b, off, e, hB, fun j hj i v hv => (hb.cell (p := ⟨b, off + j * 4 + i, none⟩) hB).trans (hc j hj i v hv)⟩
theorem Looks.at {w w' : World} {B : Nat} {a : Option Addr} {n : Nat} {x : Nat → Lk} (h : Looks w B a n x) (hb : Below B w w') {j : Nat} (hj : j < n) : ∃ b off, a = some ⟨b, off, none⟩ ∧ w'.rangeAt b (off + j * 4) (lkc (x j)).toList := by
  obtain ⟨b, off, e, hB, hc⟩ := h.below hb (by omega)
  exact ⟨b, off, e, hc j hj⟩
theorem lk_cells {w : World} {b o : Nat} {x : Lk} (h : w.rangeAt b o (lkc x).toList) : w.cell? ⟨b, o, none⟩ = some (.int .i64 x.1) ∧ w.cell? ⟨b, o + 1, none⟩ = some (.int .i64 x.2.1) ∧ w.cell? ⟨b, o + 2, none⟩ = some (.int .u64 x.2.2.1) ∧ w.cell? ⟨b, o + 3, none⟩ = some (.bool x.2.2.2) :=
  ⟨h 0 _ rfl, h 1 _ rfl, h 2 _ rfl, h 3 _ rfl⟩
/-- What stands while a round is walked: what came in, and the look's own cells. -/
def Rd (W : World) (xb : Nat) (x : Lk) (w' : World) : Prop := Kept (old W) W w' ∧ w'.cell? ⟨xb, 0, none⟩ = some (.int .i64 x.1) ∧ w'.cell? ⟨xb, 1, none⟩ = some (.int .i64 x.2.1) ∧ w'.cell? ⟨xb, 2, none⟩ = some (.int .u64 x.2.2.1)
section
variable {W w1 w2 : World} {X : Nat → Prop} {xb : Nat} {x : Lk}
theorem Rd.kept (h : Rd W xb x w1) (hk : Kept X w1 w2) (hx : X xb) (hX : ∀ i, old W i → X i) : Rd W xb x w2 :=
  ⟨h.1.trans (hk.mono hX), hk.cell h.2.1 hx, hk.cell h.2.2.1 hx, hk.cell h.2.2.2 hx⟩
theorem Rd.none (h : Rd W xb x w1) (ho : Only nobody w1 w2) : Rd W xb x w2 :=
  have hk : Kept (fun i => i = xb) w1 w2 := Kept.of_none ho
  ⟨h.1.trans (Kept.of_none ho), hk.cell h.2.1 rfl, hk.cell h.2.2.1 rfl, hk.cell h.2.2.2 rfl⟩
theorem Rd.new (h : Kept (old W) W w1) (x : Lk) (t : TypeId) : Rd W w1.heap.size x (w1.alloc (.cells #[.int .i64 x.1, .int .i64 x.2.1, .int .u64 x.2.2.1, .bool x.2.2.2] t)) :=
  have hb := Box.new w1 t #[.int .i64 x.1, .int .i64 x.2.1, .int .u64 x.2.2.1, .bool x.2.2.2]
  ⟨h.alloc _, hb.cell 0, hb.cell 1, hb.cell 2⟩
end
end Go.Proofs.YtdbjaaalngbpgaaGreat

/- level: two levels in one memory, and a third one alone in another: an access of each; what an access tells hangs on its level's own cells alone. -/
namespace Go.Proofs.YtdbjaaalngbpgaaGreat
set_option maxRecDepth 100000
open Go.RowKit Go.ChangeShapes Go.WideShapes Go.ChangeAt Go.Maps

/-- The cells of two levels are the same. -/
def eqE (f f2 : Nat) (c c2 : Nat → Nat → Cl) : Prop := ∀ q : Pl, q.1 ≤ 1 → cellsE f c q = cellsE f2 c2 q
section
variable {N S D T n P f f2 : Nat} {M M2 : MS} {a : Ask} {o : List Nat}
theorem ac_was (e : eqE f f2 M.c M2.c) (lf : Nat) (id : Int) : wasA S D T f lf id M = wasA S D T f2 lf id M2 := by
  unfold wasA
  congr 1
  funext j
  exact e (wayQ S D lf j) (wayQ_two j)
theorem ac_laid (e : eqE f f2 M.c M2.c) : acL S D T f a M = acL S D T f2 a M2 := by
  unfold acL laidA nbA
  rw [ac_was e]
  funext i
  unfold laidX
  rw [e (wayQ S D a.lf.toNat i) (wayQ_two i)]
theorem ac_tab (e : eqE f f2 M.c M2.c) : acT S D T f n P a M = acT S D T f2 n P a M2 := by unfold acT; rw [ac_laid e]
theorem ac_told (e : eqE f f2 M.c M2.c) : acW N S D T f a M = acW N S D T f2 a M2 := by unfold acW; rw [ac_was e]
theorem ac_lost (e : eqE f f2 M.c M2.c) : acO N S D T f n P a M o = acO N S D T f2 n P a M2 o := by unfold acO; rw [ac_tab e]
theorem ac_cells (e : eqE f f2 M.c M2.c) (hS : 0 < S) (hN : 2 ^ D = N) : eqE f f2 (acM N S D T f P a M o).c (acM N S D T f2 P a M2 o).c := by
  unfold acM
  cases ha : a.ok N
  · exact e
  · rw [if_pos rfl, if_pos rfl]
    obtain ⟨_, h2, _⟩ := ask_of ha
    have hlf : a.lf.toNat < 2 ^ D := by omega
    have hx : ∀ nb, laidX S D T a.lf.toNat (cellsE f M.c) a.id nb = laidX S D T a.lf.toNat (cellsE f2 M2.c) a.id nb := fun nb => by
      funext i
      unfold laidX
      rw [e (wayQ S D a.lf.toNat i) (wayQ_two i)]
    have hn : nbA S D T f a.lf.toNat a.op a.id a.at' a.to a.d M = nbA S D T f2 a.lf.toNat a.op a.id a.at' a.to a.d M2 := by unfold nbA; rw [ac_was e]
    intro q hq
    by_cases h : ∃ i, i < (D + 1) * S + T ∧ wayQ S D a.lf.toNat i = q
    · obtain ⟨i, hi, rfl⟩ := h
      show cellsE f (accC _ _ _ _ _ _ _ _ _ _) _ = cellsE f2 (accC _ _ _ _ _ _ _ _ _ _) _
      rw [acc_at hS hlf hi, acc_at hS hlf hi, hx, hn]
    · show cellsE f (accC _ _ _ _ _ _ _ _ _ _) _ = cellsE f2 (accC _ _ _ _ _ _ _ _ _ _) _
      rw [acc_way hq (fun i hi k => h ⟨i, hi, k⟩), acc_way hq (fun i hi k => h ⟨i, hi, k⟩)]
      exact e q hq
/-- Other regions stay. -/
theorem ac_far {r : Nat} (h : r < f ∨ f + 2 < r) (b : Nat) : (acM N S D T f P a M o).c r b = M.c r b := by
  unfold acM
  split
  · refine acc_far (by omega) fun i _ k => ?_
    have := wayQ_two (S := S) (D := D) (lf := a.lf.toNat) i
    unfold spot at k
    injection k with k1 _
    omega
  · rfl
theorem ac_k : (acM N S D T f P a M o).k = M.k := by unfold acM; split <;> rfl
theorem ac_sz : (acM N S D T f P a M o).sz = M.sz := by unfold acM; split <;> rfl
theorem ac_ft : (acM N S D T f P a M o).ft = M.ft := by unfold acM; split <;> rfl
/-- Another level of the same memory. -/
theorem ac_eq (h : f2 + 1 < f ∨ f + 2 < f2) : eqE f2 f2 (acM N S D T f P a M o).c M.c := fun q hq => ac_far (by omega) _
end
theorem eqE.wk {S D T f f2 : Nat} {c c2 : Nat → Nat → Cl} (e : eqE f f2 c c2) (h : Wk S D T (cellsE f2 c2)) : Wk S D T (cellsE f c) := fun q hq => by
  rw [e q (by unfold isPl at hq; omega)]
  exact h q hq
theorem eqE.trans {f f2 f3 : Nat} {c c2 c3 : Nat → Nat → Cl} (e : eqE f f2 c c2) (g : eqE f2 f3 c2 c3) : eqE f f3 c c3 := fun q hq => (e q hq).trans (g q hq)
/-- Three levels, the first two in one memory. -/
structure Tw (H : Type) (N S T D Q N' S' T' D' Q' : Nat) (X : Nat → Prop) (mp np lx bx ly yb lz bz : Nat) (ox oy oz : Bool) (Ix Iy Iz : List Int) (M M2 : MS) (k : Nat) (w : World) : Prop where
  duo : Duo w X mp M np M2
  x1 : X lx
  x2 : X bx
  y1 : X ly
  y2 : X yb
  z1 : X lz
  z2 : X bz
  xy : (ly ≠ lx ∧ ly ≠ bx) ∧ yb ≠ lx ∧ yb ≠ bx
  xz : (lz ≠ lx ∧ lz ≠ bx) ∧ bz ≠ lx ∧ bz ≠ bx
  yz : (lz ≠ ly ∧ lz ≠ yb) ∧ bz ≠ ly ∧ bz ≠ yb
  bX : Box w lx 98 (LvA mp 0 N S T ox (some bx))
  bY : Box w ly 98 (LvA mp 3 N' S' T' oy (some yb))
  bZ : Box w lz 98 (LvA np 1 N S T oz (some bz))
  mX : ∃ nm, nm ≤ k ∧ w.ownsMap Tryz.prog 43 unitElem bx nm (ids Ix : DataW H)
  mY : ∃ nm, nm ≤ k ∧ w.ownsMap Tryz.prog 43 unitElem yb nm (ids Iy : DataW H)
  mZ : ∃ nm, nm ≤ k ∧ w.ownsMap Tryz.prog 43 unitElem bz nm (ids Iz : DataW H)
  vX : LvM M 0 S D T Q
  vY : LvM M 3 S' D' T' Q'
  vZ : LvM M2 1 S D T Q
  eM : M.es.length ≤ 40000 * k
  eZ : M2.es.length ≤ 40000 * k
  wX : Wk S D T (cellsE 0 M.c)
  wY : Wk S' D' T' (cellsE 3 M.c)
  wZ : Wk S D T (cellsE 1 M2.c)
/-- The caller's own, and no level's. -/
def Fre (X : Nat → Prop) (lx bx ly yb lz bz : Nat) (i : Nat) : Prop := X i ∧ (i ≠ lx ∧ i ≠ bx) ∧ (i ≠ ly ∧ i ≠ yb) ∧ i ≠ lz ∧ i ≠ bz
section
variable {H : Type} {N S T D L n Q P N' S' T' D' L' n' Q' P' : Nat} {X : Nat → Prop} {mp np lx bx ly yb lz bz : Nat} {ox oy oz : Bool} {Ix Iy Iz : List Int} {M M2 : MS} {k : Nat} {w w' : World}
theorem map_up {b k : Nat} {I : List Int} (h : ∃ nm, nm ≤ k ∧ w.ownsMap Tryz.prog 43 unitElem b nm (ids I : DataW H)) {S : Nat → Prop} (ho : Only S w w') (hs : ¬ S b) : ∃ nm, nm ≤ k + 1 ∧ w'.ownsMap Tryz.prog 43 unitElem b nm (ids I : DataW H) := by
  obtain ⟨nm, h1, h2⟩ := h
  exact ⟨nm, by omega, map_only h2 ho hs⟩
theorem Tw.stepX (hC : Conf N S T D L n Q P) (h : Tw H N S T D Q N' S' T' D' Q' X mp np lx bx ly yb lz bz ox oy oz Ix Iy Iz M M2 k w) (a : Ask) (hk : k < 20000) (hi : 0 ≤ a.id) (hd : ∀ j, 0 ≤ a.d j ∧ a.d j ≤ 18446744073709551615) :
    Calls Tryz.prog 19 #[.pointer (some ⟨lx, 0, none⟩), .int .i64 a.op, .int .u64 a.id, .int .i64 a.at', .agg (DA a.d), .int .i64 a.lf, .int .i64 a.to] w fun e w' =>
      e = .returned (.tuple #[.agg (DA fun i => acW N S D T 0 a M (3 + i)), .bool (acW N S D T 0 a M 0 == 1)]) ∧
      ∃ o, (a.ok N = true → IsOrd (acT S D T 0 n P a M) n o) ∧ Tw H N S T D Q N' S' T' D' Q' X mp np lx bx ly yb lz bz (ox || acO N S D T 0 n P a M o) oy oz (acI N a Ix) Iy Iz (acM N S D T 0 P a M o) M2 (k + 1) w' ∧ Kept (Fre X lx bx ly yb lz bz) w w' := by
  obtain ⟨G, hO, hn, hG⟩ := h.duo
  have hl : Lv H N S D T Q (fun i => X i ∨ G i) mp lx bx 0 ox Ix M k w := ⟨hO, .inl h.x1, .inl h.x2, h.bX, h.mX, h.vX, h.eM, h.wX⟩
  refine (hl.access hC a (by decide) hk hi hd).mono ?_
  rintro e w' ⟨rfl, o, ho, hl', hK⟩
  have e3 : eqE 3 3 (acM N S D T 0 P a M o).c M.c := ac_eq (.inr (by decide))
  refine ⟨rfl, o, ho, ⟨⟨G, hl'.own, hn.only hK (fun i hi k => k ⟨.inr hi, fun e => hG i hi (e ▸ h.x1), fun e => hG i hi (e ▸ h.x2)⟩), hG⟩, h.x1, h.x2, h.y1, h.y2, h.z1, h.z2, h.xy, h.xz, h.yz, hl'.box,
    hK.box h.bY ⟨.inl h.y1, h.xy.1⟩, hK.box h.bZ ⟨.inl h.z1, h.xz.1⟩, hl'.map, map_up h.mY hK (fun k => k ⟨.inl h.y2, h.xy.2⟩), map_up h.mZ hK (fun k => k ⟨.inl h.z2, h.xz.2⟩), hl'.lvm,
    ⟨by rw [ac_k]; exact h.vY.hk, by rw [ac_sz]; exact h.vY.s0, by rw [ac_sz]; exact h.vY.s1, by rw [ac_sz]; exact h.vY.s2, hl'.lvm.wd, hl'.lvm.len⟩, h.vZ, hl'.es, by have := h.eZ; omega, hl'.wk, e3.wk h.wY, h.wZ⟩,
    hK.mono fun i hi => ⟨.inl hi.1, hi.2.1⟩⟩
theorem Tw.stepY (hC : Conf N' S' T' D' L' n' Q' P') (h : Tw H N S T D Q N' S' T' D' Q' X mp np lx bx ly yb lz bz ox oy oz Ix Iy Iz M M2 k w) (a : Ask) (hk : k < 20000) (hi : 0 ≤ a.id) (hd : ∀ j, 0 ≤ a.d j ∧ a.d j ≤ 18446744073709551615) :
    Calls Tryz.prog 19 #[.pointer (some ⟨ly, 0, none⟩), .int .i64 a.op, .int .u64 a.id, .int .i64 a.at', .agg (DA a.d), .int .i64 a.lf, .int .i64 a.to] w fun e w' =>
      (∃ v, e = .returned v) ∧ ∃ o oy' Iy', Tw H N S T D Q N' S' T' D' Q' X mp np lx bx ly yb lz bz ox oy' oz Ix Iy' Iz (acM N' S' D' T' 3 P' a M o) M2 (k + 1) w' ∧ Kept (Fre X lx bx ly yb lz bz) w w' := by
  obtain ⟨G, hO, hn, hG⟩ := h.duo
  have hl : Lv H N' S' D' T' Q' (fun i => X i ∨ G i) mp ly yb 3 oy Iy M k w := ⟨hO, .inl h.y1, .inl h.y2, h.bY, h.mY, h.vY, h.eM, h.wY⟩
  refine (hl.access hC a (by decide) hk hi hd).mono ?_
  rintro e w' ⟨rfl, o, _, hl', hK⟩
  have e0 : eqE 0 0 (acM N' S' D' T' 3 P' a M o).c M.c := ac_eq (.inl (by decide))
  refine ⟨⟨_, rfl⟩, o, _, _, ⟨⟨G, hl'.own, hn.only hK (fun i hi k => k ⟨.inr hi, fun e => hG i hi (e ▸ h.y1), fun e => hG i hi (e ▸ h.y2)⟩), hG⟩, h.x1, h.x2, h.y1, h.y2, h.z1, h.z2, h.xy, h.xz, h.yz,
    hK.box h.bX ⟨.inl h.x1, h.xy.1.1.symm, h.xy.2.1.symm⟩, hl'.box, hK.box h.bZ ⟨.inl h.z1, h.yz.1⟩, map_up h.mX hK (fun k => k ⟨.inl h.x2, h.xy.1.2.symm, h.xy.2.2.symm⟩), hl'.map, map_up h.mZ hK (fun k => k ⟨.inl h.z2, h.yz.2⟩),
    ⟨by rw [ac_k]; exact h.vX.hk, by rw [ac_sz]; exact h.vX.s0, by rw [ac_sz]; exact h.vX.s1, by rw [ac_sz]; exact h.vX.s2, hl'.lvm.wd, hl'.lvm.len⟩, hl'.lvm, h.vZ, hl'.es, by have := h.eZ; omega, e0.wk h.wX, hl'.wk, h.wZ⟩,
    hK.mono fun i hi => ⟨.inl hi.1, hi.2.2.1⟩⟩
theorem Tw.stepZ (hC : Conf N S T D L n Q P) (h : Tw H N S T D Q N' S' T' D' Q' X mp np lx bx ly yb lz bz ox oy oz Ix Iy Iz M M2 k w) (a : Ask) (hk : k < 20000) (hi : 0 ≤ a.id) (hd : ∀ j, 0 ≤ a.d j ∧ a.d j ≤ 18446744073709551615) :
    Calls Tryz.prog 19 #[.pointer (some ⟨lz, 0, none⟩), .int .i64 a.op, .int .u64 a.id, .int .i64 a.at', .agg (DA a.d), .int .i64 a.lf, .int .i64 a.to] w fun e w' =>
      e = .returned (.tuple #[.agg (DA fun i => acW N S D T 1 a M2 (3 + i)), .bool (acW N S D T 1 a M2 0 == 1)]) ∧
      ∃ o, (a.ok N = true → IsOrd (acT S D T 1 n P a M2) n o) ∧ Tw H N S T D Q N' S' T' D' Q' X mp np lx bx ly yb lz bz ox oy (oz || acO N S D T 1 n P a M2 o) Ix Iy (acI N a Iz) M (acM N S D T 1 P a M2 o) (k + 1) w' ∧ Kept (Fre X lx bx ly yb lz bz) w w' := by
  obtain ⟨G, hO, hn, hG⟩ := h.duo.swap
  have hl : Lv H N S D T Q (fun i => X i ∨ G i) np lz bz 1 oz Iz M2 k w := ⟨hO, .inl h.z1, .inl h.z2, h.bZ, h.mZ, h.vZ, h.eZ, h.wZ⟩
  refine (hl.access hC a (by decide) hk hi hd).mono ?_
  rintro e w' ⟨rfl, o, ho, hl', hK⟩
  refine ⟨rfl, o, ho, ⟨Duo.swap ⟨G, hl'.own, hn.only hK (fun i hi k => k ⟨.inr hi, fun e => hG i hi (e ▸ h.z1), fun e => hG i hi (e ▸ h.z2)⟩), hG⟩, h.x1, h.x2, h.y1, h.y2, h.z1, h.z2, h.xy, h.xz, h.yz,
    hK.box h.bX ⟨.inl h.x1, h.xz.1.1.symm, h.xz.2.1.symm⟩, hK.box h.bY ⟨.inl h.y1, h.yz.1.1.symm, h.yz.2.1.symm⟩, hl'.box, map_up h.mX hK (fun k => k ⟨.inl h.x2, h.xz.1.2.symm, h.xz.2.2.symm⟩), map_up h.mY hK (fun k => k ⟨.inl h.y2, h.yz.1.2.symm, h.yz.2.2.symm⟩), hl'.map,
    h.vX, h.vY, hl'.lvm, by have := h.eM; omega, hl'.es, h.wX, h.wY, hl'.wk⟩,
    hK.mono fun i hi => ⟨.inl hi.1, hi.2.2.2⟩⟩
theorem Tw.nob (h : Tw H N S T D Q N' S' T' D' Q' X mp np lx bx ly yb lz bz ox oy oz Ix Iy Iz M M2 k w) (ho : Only nobody w w') : Tw H N S T D Q N' S' T' D' Q' X mp np lx bx ly yb lz bz ox oy oz Ix Iy Iz M M2 k w' := by
  have mu : ∀ b I, (∃ nm, nm ≤ k ∧ w.ownsMap Tryz.prog 43 unitElem b nm (ids I : DataW H)) → ∃ nm, nm ≤ k ∧ w'.ownsMap Tryz.prog 43 unitElem b nm (ids I : DataW H) := fun b I ⟨nm, h1, h2⟩ => ⟨nm, h1, map_only h2 ho (not_nobody _)⟩
  exact ⟨h.duo.none ho, h.x1, h.x2, h.y1, h.y2, h.z1, h.z2, h.xy, h.xz, h.yz, h.bX.only ho (not_nobody _), h.bY.only ho (not_nobody _), h.bZ.only ho (not_nobody _), mu _ _ h.mX, mu _ _ h.mY, mu _ _ h.mZ, h.vX, h.vY, h.vZ, h.eM, h.eZ, h.wX, h.wY, h.wZ⟩
theorem Tw.lt (h : Tw H N S T D Q N' S' T' D' Q' X mp np lx bx ly yb lz bz ox oy oz Ix Iy Iz M M2 k w) {i : Nat} (hi : X i) : i < w.heap.size := by
  obtain ⟨F, _, _, hX⟩ := h.duo.left
  exact hX i hi
/-- What is new is the caller's. -/
theorem Tw.more (h : Tw H N S T D Q N' S' T' D' Q' X mp np lx bx ly yb lz bz ox oy oz Ix Iy Iz M M2 k w) (ho : Only nobody w w') : Tw H N S T D Q N' S' T' D' Q' (fun i => X i ∨ (w.heap.size ≤ i ∧ i < w'.heap.size)) mp np lx bx ly yb lz bz ox oy oz Ix Iy Iz M M2 k w' := by
  have h' := h.nob ho
  exact ⟨h.duo.grow ho, .inl h.x1, .inl h.x2, .inl h.y1, .inl h.y2, .inl h.z1, .inl h.z2, h.xy, h.xz, h.yz, h'.bX, h'.bY, h'.bZ, h'.mX, h'.mY, h'.mZ, h.vX, h.vY, h.vZ, h.eM, h.eZ, h.wX, h.wY, h.wZ⟩
/-- A store into what is the caller's own. -/
theorem Tw.only {Y : Nat → Prop} (h : Tw H N S T D Q N' S' T' D' Q' X mp np lx bx ly yb lz bz ox oy oz Ix Iy Iz M M2 k w) (ho : Only Y w w') (hY : ∀ i, Y i → Fre X lx bx ly yb lz bz i) : Tw H N S T D Q N' S' T' D' Q' X mp np lx bx ly yb lz bz ox oy oz Ix Iy Iz M M2 k w' := by
  have mu : ∀ b I, ¬ Y b → (∃ nm, nm ≤ k ∧ w.ownsMap Tryz.prog 43 unitElem b nm (ids I : DataW H)) → ∃ nm, nm ≤ k ∧ w'.ownsMap Tryz.prog 43 unitElem b nm (ids I : DataW H) := fun b I hb ⟨nm, h1, h2⟩ => ⟨nm, h1, map_only h2 ho hb⟩
  obtain ⟨G, hO, hn, hG⟩ := h.duo
  exact ⟨⟨G, hO.only ho (fun i hi => .inl (hY i hi).1), hn.only ho (fun i hi k => hG i hi (hY i k).1), hG⟩, h.x1, h.x2, h.y1, h.y2, h.z1, h.z2, h.xy, h.xz, h.yz,
    h.bX.only ho (fun e => (hY _ e).2.1.1 rfl), h.bY.only ho (fun e => (hY _ e).2.2.1.1 rfl), h.bZ.only ho (fun e => (hY _ e).2.2.2.1 rfl), mu _ _ (fun e => (hY _ e).2.1.2 rfl) h.mX, mu _ _ (fun e => (hY _ e).2.2.1.2 rfl) h.mY, mu _ _ (fun e => (hY _ e).2.2.2.2 rfl) h.mZ, h.vX, h.vY, h.vZ, h.eM, h.eZ, h.wX, h.wY, h.wZ⟩
end
end Go.Proofs.YtdbjaaalngbpgaaGreat

/- level: the three levels of LevelTwo with the facts that the law's own blocks keep. -/
namespace Go.Proofs.YtdbjaaalngbpgaaGreat
set_option maxRecDepth 100000
open Go.RowKit Go.ChangeShapes Go.WideShapes Go.ChangeAt Go.Maps Go.Deep

/-- What the levels are at: the lost ones, the ids, the memories, how many accesses. -/
structure TwV where
  ox : Bool
  oy : Bool
  oz : Bool
  Ix : List Int
  Iy : List Int
  Iz : List Int
  M : MS
  M2 : MS
  k : Nat
/-- F holds of the law's own blocks Z, and stays where they stay. -/
structure TwS (N S T D Q N' S' T' D' Q' mp np lx bx ly yb lz bz : Nat) (W : World) (Z : Nat → Prop) (F : World → Prop) (v : TwV) (wr : World) : Prop where
  lk : ∃ X, Tw Unit N S T D Q N' S' T' D' Q' X mp np lx bx ly yb lz bz v.ox v.oy v.oz v.Ix v.Iy v.Iz v.M v.M2 v.k wr ∧ ∀ i, Z i → Fre X lx bx ly yb lz bz i
  hz : ∀ i, i < W.heap.size → Z i
  hF : F wr
  st : ∀ u u', W.heap.size ≤ u.heap.size → Kept Z u u' → F u → F u'
  kp : Below W.heap.size W wr
section
variable {N S T D L n Q P N' S' T' D' L' n' Q' P' : Nat} {mp np lx bx ly yb lz bz : Nat} {W : World} {Z : Nat → Prop} {F : World → Prop} {v : TwV} {wr w' : World}
theorem TwS.nob (h : TwS N S T D Q N' S' T' D' Q' mp np lx bx ly yb lz bz W Z F v wr) (ho : Only nobody wr w') : TwS N S T D Q N' S' T' D' Q' mp np lx bx ly yb lz bz W Z F v w' := by
  obtain ⟨X, h1, h2⟩ := h.lk
  exact ⟨⟨X, h1.nob ho, h2⟩, h.hz, h.st _ _ h.kp.size (Kept.of_none ho) h.hF, h.st, below_only h.kp ho h.kp.size (fun _ _ h => h)⟩
theorem TwS.drew (h : TwS N S T D Q N' S' T' D' Q' mp np lx bx ly yb lz bz W Z F v wr) : TwS N S T D Q N' S' T' D' Q' mp np lx bx ly yb lz bz W Z F v wr.drew := h.nob (Only.refl _ _).drew
theorem TwS.mem {i : Nat} (h : TwS N S T D Q N' S' T' D' Q' mp np lx bx ly yb lz bz W Z F v wr) (hi : Z i) : i < wr.heap.size := by
  obtain ⟨X, h1, h2⟩ := h.lk
  exact h1.lt (h2 i hi).1
theorem TwS.also {G : World → Prop} (h : TwS N S T D Q N' S' T' D' Q' mp np lx bx ly yb lz bz W Z F v wr) (hG : G wr) (st : ∀ u u', W.heap.size ≤ u.heap.size → Kept Z u u' → G u → G u') : TwS N S T D Q N' S' T' D' Q' mp np lx bx ly yb lz bz W Z (fun u => F u ∧ G u) v wr :=
  ⟨h.lk, h.hz, ⟨h.hF, hG⟩, fun u u' hs hk g => ⟨h.st u u' hs hk g.1, st u u' hs hk g.2⟩, h.kp⟩
theorem fre_more {X : Nat → Prop} {i b : Nat} (h : Fre X lx bx ly yb lz bz i) : Fre (fun i => X i ∨ (b ≤ i ∧ i < w'.heap.size)) lx bx ly yb lz bz i := ⟨.inl h.1, h.2⟩
theorem TwS.grow (h : TwS N S T D Q N' S' T' D' Q' mp np lx bx ly yb lz bz W Z F v wr) (o : Obj) {b : Nat} (hb : wr.heap.size = b) : TwS N S T D Q N' S' T' D' Q' mp np lx bx ly yb lz bz W (fun i => Z i ∨ i = b) F v (wr.alloc o) := by
  subst hb
  have ho : Only nobody wr (wr.alloc o) := (Only.refl _ _).alloc _
  obtain ⟨X, h1, h2⟩ := h.lk
  refine ⟨⟨_, h1.more ho, fun i hi => ?_⟩, fun i hi => .inl (h.hz i hi), h.st _ _ h.kp.size (Kept.of_none ho) h.hF, fun u u' hs hk g => h.st u u' hs (hk.mono fun i hi => .inl hi) g, below_only h.kp ho h.kp.size (fun _ _ h => h)⟩
  rcases hi with hi | rfl
  · exact fre_more (h2 i hi)
  · have a1 := h1.lt h1.x1
    have a2 := h1.lt h1.x2
    have a3 := h1.lt h1.y1
    have a4 := h1.lt h1.y2
    have a5 := h1.lt h1.z1
    have a6 := h1.lt h1.z2
    exact ⟨.inr ⟨Nat.le_refl _, by simp⟩, ⟨by omega, by omega⟩, ⟨by omega, by omega⟩, by omega, by omega⟩
theorem TwS.box (h : TwS N S T D Q N' S' T' D' Q' mp np lx bx ly yb lz bz W Z F v wr) (t : TypeId) (cs : Array Value) {b : Nat} (hb : wr.heap.size = b) : TwS N S T D Q N' S' T' D' Q' mp np lx bx ly yb lz bz W (fun i => Z i ∨ i = b) (fun u => F u ∧ Box u b t cs) v (wr.alloc (.cells cs t)) :=
  (h.grow (.cells cs t) hb).also (by rw [← hb]; exact Box.new wr t cs) (fun _ _ _ hk g => hk.box g (.inr rfl))
/-- A store into a variable of the law's own: what it says anew. -/
theorem TwS.anew {Z0 : Nat → Prop} {G G' : World → Prop} {b : Nat} (h : TwS N S T D Q N' S' T' D' Q' mp np lx bx ly yb lz bz W Z (fun u => F u ∧ G u) v wr) (ho : Only (just b) wr w') (h0 : ∀ i, Z0 i → Z i)
    (stF : ∀ u u', W.heap.size ≤ u.heap.size → Kept Z0 u u' → F u → F u') (hb0 : ¬ Z0 b) (hb : Z b) (hw : W.heap.size ≤ b) (hG : G' w') (stG : ∀ u u', W.heap.size ≤ u.heap.size → Kept Z u u' → G' u → G' u') : TwS N S T D Q N' S' T' D' Q' mp np lx bx ly yb lz bz W Z (fun u => F u ∧ G' u) v w' := by
  have hj : ∀ i, just b i → i = b := fun i e => e
  obtain ⟨X, h1, h2⟩ := h.lk
  exact ⟨⟨X, h1.only ho (fun i e => by rw [hj i e]; exact h2 b hb), h2⟩, h.hz, ⟨stF _ _ h.kp.size (Only.mono ho (fun i _ e => by rw [hj i e]; exact hb0)) h.hF.1, hG⟩,
    fun u u' hs hk g => ⟨stF u u' hs (hk.mono h0) g.1, stG u u' hs hk g.2⟩, below_only h.kp ho h.kp.size (fun i hi e => by have := hj i e; omega)⟩
theorem TwS.back {Z0 : Nat → Prop} {G : World → Prop} (h : TwS N S T D Q N' S' T' D' Q' mp np lx bx ly yb lz bz W Z (fun u => F u ∧ G u) v wr) (h0 : ∀ i, Z0 i → Z i) (hz0 : ∀ i, i < W.heap.size → Z0 i) (stF : ∀ u u', W.heap.size ≤ u.heap.size → Kept Z0 u u' → F u → F u') : TwS N S T D Q N' S' T' D' Q' mp np lx bx ly yb lz bz W Z0 F v wr := by
  obtain ⟨X, h1, h2⟩ := h.lk
  exact ⟨⟨X, h1, fun i hi => h2 i (h0 i hi)⟩, hz0, h.hF.1, stF, h.kp⟩
theorem TwS.overX (h : TwS N S T D Q N' S' T' D' Q' mp np lx bx ly yb lz bz W Z F v wr) : Calls Tryz.prog 23 #[.pointer (some ⟨lx, 0, none⟩)] wr fun e w' => e = .returned (.bool v.ox) ∧ w' = wr := by
  obtain ⟨X, h1, _⟩ := h.lk
  exact over_of lx mp 0 v.ox _ wr h1.bX
theorem TwS.overZ (h : TwS N S T D Q N' S' T' D' Q' mp np lx bx ly yb lz bz W Z F v wr) : Calls Tryz.prog 23 #[.pointer (some ⟨lz, 0, none⟩)] wr fun e w' => e = .returned (.bool v.oz) ∧ w' = wr := by
  obtain ⟨X, h1, _⟩ := h.lk
  exact over_of lz np 1 v.oz _ wr h1.bZ
theorem TwS.blocksX (h : TwS N S T D Q N' S' T' D' Q' mp np lx bx ly yb lz bz W Z F v wr) : Calls Tryz.prog 24 #[.pointer (some ⟨lx, 0, none⟩)] wr fun e w' => e = .returned (.int .i64 ((difI v.Ix).length : Nat)) ∧ w' = wr := by
  obtain ⟨X, h1, _⟩ := h.lk
  obtain ⟨nm, g1, g2⟩ := h1.mX
  have := blocks_of lx mp 0 bx nm v.ox _ wr h1.bX g2
  rw [ids_size] at this
  exact this
theorem TwS.blocksZ (h : TwS N S T D Q N' S' T' D' Q' mp np lx bx ly yb lz bz W Z F v wr) : Calls Tryz.prog 24 #[.pointer (some ⟨lz, 0, none⟩)] wr fun e w' => e = .returned (.int .i64 ((difI v.Iz).length : Nat)) ∧ w' = wr := by
  obtain ⟨X, h1, _⟩ := h.lk
  obtain ⟨nm, g1, g2⟩ := h1.mZ
  have := blocks_of lz np 1 bz nm v.oz _ wr h1.bZ g2
  rw [ids_size] at this
  exact this
theorem TwS.fault (h : TwS N S T D Q N' S' T' D' Q' mp np lx bx ly yb lz bz W Z F v wr) : Calls Tryz.prog 30 #[.pointer (some ⟨mp, 0, none⟩)] wr fun e w' => e = .returned (.bool v.M.ft) ∧ wr = w' := by
  obtain ⟨X, h1, _⟩ := h.lk
  exact own_fault _ _ _ _ h1.duo.left
theorem TwS.stepX (hC : Conf N S T D L n Q P) (h : TwS N S T D Q N' S' T' D' Q' mp np lx bx ly yb lz bz W Z F v wr) (a : Ask) (hk : v.k < 20000) (hi : 0 ≤ a.id) (hd : ∀ j, 0 ≤ a.d j ∧ a.d j ≤ 18446744073709551615) :
    Calls Tryz.prog 19 #[.pointer (some ⟨lx, 0, none⟩), .int .i64 a.op, .int .u64 a.id, .int .i64 a.at', .agg (DA a.d), .int .i64 a.lf, .int .i64 a.to] wr fun e w' =>
      e = .returned (.tuple #[.agg (DA fun i => acW N S D T 0 a v.M (3 + i)), .bool (acW N S D T 0 a v.M 0 == 1)]) ∧
      ∃ o, (a.ok N = true → IsOrd (acT S D T 0 n P a v.M) n o) ∧ TwS N S T D Q N' S' T' D' Q' mp np lx bx ly yb lz bz W Z F ⟨v.ox || acO N S D T 0 n P a v.M o, v.oy, v.oz, acI N a v.Ix, v.Iy, v.Iz, acM N S D T 0 P a v.M o, v.M2, v.k + 1⟩ w' := by
  obtain ⟨X, h1, h2⟩ := h.lk
  refine (h1.stepX hC a hk hi hd).mono ?_
  rintro e w' ⟨rfl, o, ho, g, hK⟩
  have hK := hK.mono h2
  exact ⟨rfl, o, ho, ⟨X, g, h2⟩, h.hz, h.st _ _ h.kp.size hK h.hF, h.st, h.kp.trans ((hK.mono h.hz).below h.kp.size (fun _ h => h))⟩
theorem TwS.stepY (hC : Conf N' S' T' D' L' n' Q' P') (h : TwS N S T D Q N' S' T' D' Q' mp np lx bx ly yb lz bz W Z F v wr) (a : Ask) (hk : v.k < 20000) (hi : 0 ≤ a.id) (hd : ∀ j, 0 ≤ a.d j ∧ a.d j ≤ 18446744073709551615) :
    Calls Tryz.prog 19 #[.pointer (some ⟨ly, 0, none⟩), .int .i64 a.op, .int .u64 a.id, .int .i64 a.at', .agg (DA a.d), .int .i64 a.lf, .int .i64 a.to] wr fun e w' =>
      (∃ x, e = .returned x) ∧ ∃ o oy' Iy', TwS N S T D Q N' S' T' D' Q' mp np lx bx ly yb lz bz W Z F ⟨v.ox, oy', v.oz, v.Ix, Iy', v.Iz, acM N' S' D' T' 3 P' a v.M o, v.M2, v.k + 1⟩ w' := by
  obtain ⟨X, h1, h2⟩ := h.lk
  refine (h1.stepY hC a hk hi hd).mono ?_
  rintro e w' ⟨he, o, oy', Iy', g, hK⟩
  have hK := hK.mono h2
  exact ⟨he, o, oy', Iy', ⟨X, g, h2⟩, h.hz, h.st _ _ h.kp.size hK h.hF, h.st, h.kp.trans ((hK.mono h.hz).below h.kp.size (fun _ h => h))⟩
theorem TwS.stepZ (hC : Conf N S T D L n Q P) (h : TwS N S T D Q N' S' T' D' Q' mp np lx bx ly yb lz bz W Z F v wr) (a : Ask) (hk : v.k < 20000) (hi : 0 ≤ a.id) (hd : ∀ j, 0 ≤ a.d j ∧ a.d j ≤ 18446744073709551615) :
    Calls Tryz.prog 19 #[.pointer (some ⟨lz, 0, none⟩), .int .i64 a.op, .int .u64 a.id, .int .i64 a.at', .agg (DA a.d), .int .i64 a.lf, .int .i64 a.to] wr fun e w' =>
      e = .returned (.tuple #[.agg (DA fun i => acW N S D T 1 a v.M2 (3 + i)), .bool (acW N S D T 1 a v.M2 0 == 1)]) ∧
      ∃ o, (a.ok N = true → IsOrd (acT S D T 1 n P a v.M2) n o) ∧ TwS N S T D Q N' S' T' D' Q' mp np lx bx ly yb lz bz W Z F ⟨v.ox, v.oy, v.oz || acO N S D T 1 n P a v.M2 o, v.Ix, v.Iy, acI N a v.Iz, v.M, acM N S D T 1 P a v.M2 o, v.k + 1⟩ w' := by
  obtain ⟨X, h1, h2⟩ := h.lk
  refine (h1.stepZ hC a hk hi hd).mono ?_
  rintro e w' ⟨rfl, o, ho, g, hK⟩
  have hK := hK.mono h2
  exact ⟨rfl, o, ho, ⟨X, g, h2⟩, h.hz, h.st _ _ h.kp.size hK h.hF, h.st, h.kp.trans ((hK.mono h.hz).below h.kp.size (fun _ h => h))⟩
end
/-- The two levels that are asked the same: the first, and the one alone. -/
structure TwE (v : TwV) : Prop where
  ov : v.oz = v.ox
  ids : v.Iz = v.Ix
  eq : eqE 0 1 v.M.c v.M2.c
  ft : v.M.ft = false
/-- A second memory, with its level, beside a first one. -/
theorem duo_made {w w' : World} {X : Nat → Prop} {p q lz bz : Nat} {M N : MS} (h : Own w X p M) (ho : Only nobody w w') (hn : Own w' (old2 w lz bz) q N) (hl : w.heap.size ≤ lz) (hb : w.heap.size ≤ bz) (hl' : lz < w'.heap.size) (hb' : bz < w'.heap.size) :
    Duo w' (fun i => X i ∨ i = lz ∨ i = bz) p M q N := by
  obtain ⟨F, hm, hF, hX⟩ := h
  obtain ⟨G, hq, hG, _⟩ := hn
  refine ⟨G, ⟨F, hm.only ho (fun _ _ => not_nobody _), fun i hi k => ?_, fun i hi => ?_⟩, hq, fun i hi k => ?_⟩
  · have := hm.lt i hi
    rcases k with (k | rfl | rfl) | k
    · exact hF i hi k
    · omega
    · omega
    · exact hG i k (.inl this)
  · rcases hi with (hi | rfl | rfl) | hi
    · exact Nat.lt_of_lt_of_le (hX i hi) ho.size
    · exact hl'
    · exact hb'
    · exact hq.lt i hi
  · rcases k with k | rfl | rfl
    · exact hG i hi (.inl (hX i k))
    · exact hG i hi (.inr (.inl rfl))
    · exact hG i hi (.inr (.inr rfl))
end Go.Proofs.YtdbjaaalngbpgaaGreat

/- level: two levels, each alone in a memory of its own, with the facts that a law's own blocks keep. -/
namespace Go.Proofs.YtdbjaaalngbpgaaGreat
set_option maxRecDepth 100000
open Go.RowKit Go.ChangeShapes Go.WideShapes Go.ChangeAt Go.Maps Go.Deep

/-- Two levels, one in each memory. -/
structure Pw (H : Type) (N S T D Q : Nat) (X : Nat → Prop) (mp np lx bx lz bz : Nat) (ox oz : Bool) (Ix Iz : List Int) (M M2 : MS) (k : Nat) (w : World) : Prop where
  duo : Duo w X mp M np M2
  x1 : X lx
  x2 : X bx
  z1 : X lz
  z2 : X bz
  xz : (lz ≠ lx ∧ lz ≠ bx) ∧ bz ≠ lx ∧ bz ≠ bx
  bX : Box w lx 98 (LvA mp 1 N S T ox (some bx))
  bZ : Box w lz 98 (LvA np 1 N S T oz (some bz))
  mX : ∃ nm, nm ≤ k ∧ w.ownsMap Tryz.prog 43 unitElem bx nm (ids Ix : DataW H)
  mZ : ∃ nm, nm ≤ k ∧ w.ownsMap Tryz.prog 43 unitElem bz nm (ids Iz : DataW H)
  vX : LvM M 1 S D T Q
  vZ : LvM M2 1 S D T Q
  eM : M.es.length ≤ 40000 * k
  eZ : M2.es.length ≤ 40000 * k
  wX : Wk S D T (cellsE 1 M.c)
  wZ : Wk S D T (cellsE 1 M2.c)
def Fre2 (X : Nat → Prop) (lx bx lz bz : Nat) (i : Nat) : Prop := X i ∧ (i ≠ lx ∧ i ≠ bx) ∧ i ≠ lz ∧ i ≠ bz
section
variable {H : Type} {N S T D L n Q P : Nat} {X : Nat → Prop} {mp np lx bx lz bz : Nat} {ox oz : Bool} {Ix Iz : List Int} {M M2 : MS} {k : Nat} {w w' : World}
theorem Pw.swap (h : Pw H N S T D Q X mp np lx bx lz bz ox oz Ix Iz M M2 k w) : Pw H N S T D Q X np mp lz bz lx bx oz ox Iz Ix M2 M k w :=
  ⟨h.duo.swap, h.z1, h.z2, h.x1, h.x2, ⟨⟨h.xz.1.1.symm, h.xz.2.1.symm⟩, h.xz.1.2.symm, h.xz.2.2.symm⟩, h.bZ, h.bX, h.mZ, h.mX, h.vZ, h.vX, h.eZ, h.eM, h.wZ, h.wX⟩
theorem Pw.step (hC : Conf N S T D L n Q P) (h : Pw H N S T D Q X mp np lx bx lz bz ox oz Ix Iz M M2 k w) (a : Ask) (hk : k < 20000) (hi : 0 ≤ a.id) (hd : ∀ j, 0 ≤ a.d j ∧ a.d j ≤ 18446744073709551615) :
    Calls Tryz.prog 19 #[.pointer (some ⟨lx, 0, none⟩), .int .i64 a.op, .int .u64 a.id, .int .i64 a.at', .agg (DA a.d), .int .i64 a.lf, .int .i64 a.to] w fun e w' =>
      (∃ x, e = .returned x) ∧ ∃ o ox' Ix', Pw H N S T D Q X mp np lx bx lz bz ox' oz Ix' Iz (acM N S D T 1 P a M o) M2 (k + 1) w' ∧ Kept (Fre2 X lx bx lz bz) w w' := by
  obtain ⟨G, hO, hn, hG⟩ := h.duo
  have hl : Lv H N S D T Q (fun i => X i ∨ G i) mp lx bx 1 ox Ix M k w := ⟨hO, .inl h.x1, .inl h.x2, h.bX, h.mX, h.vX, h.eM, h.wX⟩
  refine (hl.access hC a (by decide) hk hi hd).mono ?_
  rintro e w' ⟨rfl, o, ho, hl', hK⟩
  exact ⟨⟨_, rfl⟩, o, _, _, ⟨⟨G, hl'.own, hn.only hK (fun i hi k => k ⟨.inr hi, fun e => hG i hi (e ▸ h.x1), fun e => hG i hi (e ▸ h.x2)⟩), hG⟩, h.x1, h.x2, h.z1, h.z2, h.xz, hl'.box,
    hK.box h.bZ ⟨.inl h.z1, h.xz.1⟩, hl'.map, map_up h.mZ hK (fun k => k ⟨.inl h.z2, h.xz.2⟩), hl'.lvm, h.vZ, hl'.es, by have := h.eZ; omega, hl'.wk, h.wZ⟩, hK.mono fun i hi => ⟨.inl hi.1, hi.2.1⟩⟩
theorem Pw.nob (h : Pw H N S T D Q X mp np lx bx lz bz ox oz Ix Iz M M2 k w) (ho : Only nobody w w') : Pw H N S T D Q X mp np lx bx lz bz ox oz Ix Iz M M2 k w' := by
  have mu : ∀ b I, (∃ nm, nm ≤ k ∧ w.ownsMap Tryz.prog 43 unitElem b nm (ids I : DataW H)) → ∃ nm, nm ≤ k ∧ w'.ownsMap Tryz.prog 43 unitElem b nm (ids I : DataW H) := fun b I ⟨nm, h1, h2⟩ => ⟨nm, h1, map_only h2 ho (not_nobody _)⟩
  exact ⟨h.duo.none ho, h.x1, h.x2, h.z1, h.z2, h.xz, h.bX.only ho (not_nobody _), h.bZ.only ho (not_nobody _), mu _ _ h.mX, mu _ _ h.mZ, h.vX, h.vZ, h.eM, h.eZ, h.wX, h.wZ⟩
end
/-- F holds of what was there, and stays. -/
structure PwS (N S T D Q mp np lx bx lz bz : Nat) (W : World) (F : World → Prop) (M M2 : MS) (k : Nat) (wr : World) : Prop where
  lk : ∃ X ox oz Ix Iz, Pw Unit N S T D Q X mp np lx bx lz bz ox oz Ix Iz M M2 k wr ∧ ∀ i, i < W.heap.size → Fre2 X lx bx lz bz i
  hF : F wr
  st : ∀ u u', Below W.heap.size u u' → F u → F u'
  kp : Below W.heap.size W wr
section
variable {N S T D L n Q P mp np lx bx lz bz : Nat} {W : World} {F : World → Prop} {M M2 : MS} {k : Nat} {wr w' : World}
theorem PwS.nob (h : PwS N S T D Q mp np lx bx lz bz W F M M2 k wr) (ho : Only nobody wr w') : PwS N S T D Q mp np lx bx lz bz W F M M2 k w' := by
  obtain ⟨X, ox, oz, Ix, Iz, h1, h2⟩ := h.lk
  exact ⟨⟨X, ox, oz, Ix, Iz, h1.nob ho, h2⟩, h.st _ _ (ho.below h.kp.size (fun _ _ h => h)) h.hF, h.st, below_only h.kp ho h.kp.size (fun _ _ h => h)⟩
theorem PwS.drew (h : PwS N S T D Q mp np lx bx lz bz W F M M2 k wr) : PwS N S T D Q mp np lx bx lz bz W F M M2 k wr.drew := h.nob (Only.refl _ _).drew
theorem PwS.stepX (hC : Conf N S T D L n Q P) (h : PwS N S T D Q mp np lx bx lz bz W F M M2 k wr) (a : Ask) (hk : k < 20000) (hi : 0 ≤ a.id) (hd : ∀ j, 0 ≤ a.d j ∧ a.d j ≤ 18446744073709551615) :
    Calls Tryz.prog 19 #[.pointer (some ⟨lx, 0, none⟩), .int .i64 a.op, .int .u64 a.id, .int .i64 a.at', .agg (DA a.d), .int .i64 a.lf, .int .i64 a.to] wr fun e w' =>
      (∃ x, e = .returned x) ∧ ∃ o, PwS N S T D Q mp np lx bx lz bz W F (acM N S D T 1 P a M o) M2 (k + 1) w' := by
  obtain ⟨X, ox, oz, Ix, Iz, h1, h2⟩ := h.lk
  refine (h1.step hC a hk hi hd).mono ?_
  rintro e w' ⟨he, o, ox', Ix', g, hK⟩
  have hb : Below W.heap.size wr w' := (hK.mono (X := Fre2 X lx bx lz bz) (Y := fun i => i < W.heap.size) h2).below h.kp.size (fun _ h => h)
  exact ⟨he, o, ⟨X, ox', oz, Ix', Iz, g, h2⟩, h.st _ _ hb h.hF, h.st, h.kp.trans hb⟩
theorem PwS.stepZ (hC : Conf N S T D L n Q P) (h : PwS N S T D Q mp np lx bx lz bz W F M M2 k wr) (a : Ask) (hk : k < 20000) (hi : 0 ≤ a.id) (hd : ∀ j, 0 ≤ a.d j ∧ a.d j ≤ 18446744073709551615) :
    Calls Tryz.prog 19 #[.pointer (some ⟨lz, 0, none⟩), .int .i64 a.op, .int .u64 a.id, .int .i64 a.at', .agg (DA a.d), .int .i64 a.lf, .int .i64 a.to] wr fun e w' =>
      (∃ x, e = .returned x) ∧ ∃ o, PwS N S T D Q mp np lx bx lz bz W F M (acM N S D T 1 P a M2 o) (k + 1) w' := by
  obtain ⟨X, ox, oz, Ix, Iz, h1, h2⟩ := h.lk
  refine (h1.swap.step hC a hk hi hd).mono ?_
  rintro e w' ⟨he, o, oz', Iz', g, hK⟩
  have hb : Below W.heap.size wr w' := (hK.mono (X := Fre2 X lz bz lx bx) (Y := fun i => i < W.heap.size) (fun i hi => ⟨(h2 i hi).1, (h2 i hi).2.2, (h2 i hi).2.1⟩)).below h.kp.size (fun _ h => h)
  exact ⟨he, o, ⟨X, ox, oz', Ix, Iz', g.swap, h2⟩, h.st _ _ hb h.hF, h.st, h.kp.trans hb⟩
theorem PwS.manyX (h : PwS N S T D Q mp np lx bx lz bz W F M M2 k wr) : Calls Tryz.prog 18 #[.pointer (some ⟨mp, 0, none⟩)] wr fun e w' => e = .returned (.int .i64 (M.es.length : Nat)) ∧ wr = w' := by
  obtain ⟨X, ox, oz, Ix, Iz, h1, _⟩ := h.lk
  exact own_many _ _ _ _ h1.duo.left
theorem PwS.manyZ (h : PwS N S T D Q mp np lx bx lz bz W F M M2 k wr) : Calls Tryz.prog 18 #[.pointer (some ⟨np, 0, none⟩)] wr fun e w' => e = .returned (.int .i64 (M2.es.length : Nat)) ∧ wr = w' := by
  obtain ⟨X, ox, oz, Ix, Iz, h1, _⟩ := h.lk
  exact own_many _ _ _ _ h1.duo.right
theorem PwS.sinceX (h : PwS N S T D Q mp np lx bx lz bz W F M M2 k wr) (hk : k < 20000) (fr : Int) : Calls Tryz.prog 22 #[.pointer (some ⟨mp, 0, none⟩), .int .i64 fr] wr (SincePost wr (M.es.drop (cut M.es.length fr))) := by
  obtain ⟨X, ox, oz, Ix, Iz, h1, _⟩ := h.lk
  exact own_since _ _ _ _ fr h1.duo.left (by have := h1.eM; omega)
theorem PwS.sinceZ (h : PwS N S T D Q mp np lx bx lz bz W F M M2 k wr) (hk : k < 20000) (fr : Int) : Calls Tryz.prog 22 #[.pointer (some ⟨np, 0, none⟩), .int .i64 fr] wr (SincePost wr (M2.es.drop (cut M2.es.length fr))) := by
  obtain ⟨X, ox, oz, Ix, Iz, h1, _⟩ := h.lk
  exact own_since _ _ _ _ fr h1.duo.right (by have := h1.eZ; omega)
end
/-- An access that is asked rightly: its events behind all others. -/
theorem acM_es {N S D T f P : Nat} {a : Ask} {M : MS} {o : List Nat} (ha : a.ok N = true) : (acM N S D T f P a M o).es = M.es ++ evA S D T f P a.lf.toNat := by
  unfold acM
  rw [if_pos ha]
  rfl
theorem since_evs {N S D T f P : Nat} {a : Ask} {M : MS} {o : List Nat} (ha : a.ok N = true) : (acM N S D T f P a M o).es.drop (cut (acM N S D T f P a M o).es.length (M.es.length : Nat)) = evA S D T f P a.lf.toNat := by
  rw [acM_es ha, cut_nat _ _ (by rw [List.length_append]; omega)]
  simp
end Go.Proofs.YtdbjaaalngbpgaaGreat
