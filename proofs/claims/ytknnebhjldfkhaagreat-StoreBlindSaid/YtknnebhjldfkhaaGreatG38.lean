import Derived.Test.YtknnebhjldfkhaaGreatG32
import Derived.Test.YtknnebhjldfkhaaGreatG35
import Derived.Test.YtknnebhjldfkhaaGreatG14
import Derived.Test.YtknnebhjldfkhaaGreatG36
import Derived.Test.YtknnebhjldfkhaaGreatG37
import Derived.Test.YtknnebhjldfkhaaGreatG34
import Derived.Test.YtknnebhjldfkhaaGreatG10
import Derived.Test.YtknnebhjldfkhaaGreatG13
import Derived.Test.YtknnebhjldfkhaaGreatG40
namespace Go.Proofs.YtknnebhjldfkhaaGreat
set_option maxRecDepth 100000
open Go.RowKit Go.ChangeShapes Go.WideShapes Go.ChangeAt Go.Maps

def eqE (f f2 : Nat) (c c2 : Nat → Nat → Cl) : Prop := ∀ q : Pl, q.1 ≤ 1 → cellsE f c q = cellsE f2 c2 q
section
variable {N S D T n P f f2 : Nat} {M M2 : MS} {a : Ask} {o : List Nat}
theorem ac_far {r : Nat} (h : r < f ∨ f + 2 < r) (b : Nat) : (acM N S D T f P a M o).c r b = M.c r b := by
 unfold acM
 split
 ·refine acc_far (by omega) fun i _ k => ?_
  have := wayQ_two (S := S) (D := D) (lf := a.lf.toNat) i
  unfold spot at k
  injection k with k1 _
  omega
 ·rfl
theorem ac_k : (acM N S D T f P a M o).k = M.k := by unfold acM; split <;> rfl
theorem ac_sz : (acM N S D T f P a M o).sz = M.sz := by unfold acM; split <;> rfl
theorem ac_eq (h : f2 + 1 < f ∨ f + 2 < f2) : eqE f2 f2 (acM N S D T f P a M o).c M.c := fun q hq => ac_far (by omega) _
end
theorem eqE.wk {S D T f f2 : Nat} {c c2 : Nat → Nat → Cl} (e : eqE f f2 c c2) (h : Wk S D T (cellsE f2 c2)) : Wk S D T (cellsE f c) := fun q hq => by
 rw [e q (by unfold isPl at hq; omega)]
 exact h q hq
structure Tw (H : Type) (N S T D Q N' S' T' D' Q' : Nat) (X : Nat → Prop) (mp np lx bx ly yb lz bz : Nat) (ox oy oz : Bool) (Ix Iy Iz : List Int) (M M2 : MS) (k : Nat) (w : World) : Prop where
 duo : Duo w X mp M np M2
 x1 : X lx
 x2 : X bx
 y1 : X ly
 y2 : X yb
 z1 : X lz
 z2 : X bz
 xy : (ly ≠ lx ∧ ly ≠ bx) ∧ yb ≠ lx ∧ yb ≠ bx
 xz : (lz ≠ lx ∧ lz ≠ bx) ∧ bz ≠ lx ∧ bz ≠ bx
 yz : (lz ≠ ly ∧ lz ≠ yb) ∧ bz ≠ ly ∧ bz ≠ yb
 bX : Box w lx 127 (LvA mp 0 N S T ox (some bx))
 bY : Box w ly 127 (LvA mp 3 N' S' T' oy (some yb))
 bZ : Box w lz 127 (LvA np 1 N S T oz (some bz))
 mX : ∃ nm, nm ≤ k ∧ w.ownsMap Tryz.prog 43 unitElem bx nm (ids Ix : DataW H)
 mY : ∃ nm, nm ≤ k ∧ w.ownsMap Tryz.prog 43 unitElem yb nm (ids Iy : DataW H)
 mZ : ∃ nm, nm ≤ k ∧ w.ownsMap Tryz.prog 43 unitElem bz nm (ids Iz : DataW H)
 vX : LvM M 0 S D T Q
 vY : LvM M 3 S' D' T' Q'
 vZ : LvM M2 1 S D T Q
 eM : M.es.length ≤ 40000 * k
 eZ : M2.es.length ≤ 40000 * k
 wX : Wk S D T (cellsE 0 M.c)
 wY : Wk S' D' T' (cellsE 3 M.c)
 wZ : Wk S D T (cellsE 1 M2.c)
section
variable {H : Type} {N S T D L n Q P N' S' T' D' L' n' Q' P' : Nat} {X : Nat → Prop} {mp np lx bx ly yb lz bz : Nat} {ox oy oz : Bool} {Ix Iy Iz : List Int} {M M2 : MS} {k : Nat} {w w' : World}
end
end Go.Proofs.YtknnebhjldfkhaaGreat


namespace Go.Proofs.YtknnebhjldfkhaaGreat
set_option maxRecDepth 100000
open Go.RowKit Go.ChangeShapes Go.WideShapes Go.ChangeAt Go.Maps

abbrev Nt := Int × Int
structure SC where
 b : Nat
 B : Int
 S : Nat
 T : Nat
 n : Nat
 f : Nat
 L : Nat → Nat
 m : Nat → Nat
 Q : Nat → Nat
 P : Nat → Nat
def SC.N (c : SC) (h : Nat) : Nat := blN c.b h
def SC.D (c : SC) (h : Nat) : Nat := c.b - 2 * h
def SC.r (c : SC) (h : Nat) : Nat := c.f + 1 + 3 * h
structure SC.Ok (c : SC) : Prop where
 b10 : c.b ≤ 10
 bB : ((2 ^ c.b : Nat) : Int) = c.B
 n1 : 1 ≤ c.n
 n4 : c.n ≤ 4
 f50 : c.f ≤ 50
 conf : ∀ h, h < c.n → Conf (c.N h) c.S c.T (c.D h) (c.L h) (c.m h) (c.Q h) (c.P h)
structure SA where
 mp : Nat
 sp : Nat
 tp : Nat
 tg : Nat
 lg : Nat
 lc : Nat
 lp : Nat → Nat
 bm : Nat → Nat
structure SG where
 M : MS
 ov : Nat → Bool
 I : Nat → List Int
 nw : Nat
 z : Nat → Int
 u : Nat
 gone : List Nt
def ntL : List Nt → List Value
 | [] => []
 | e :: l => [.int .u64 e.1, .int .u64 e.2] ++ ntL l
theorem ntL_append : ∀ l m : List Nt, ntL (l ++ m) = ntL l ++ ntL m
 | [], m => rfl
 | e :: l, m => by simp [ntL, ntL_append l m]
def stA (c : SC) (a : SA) (ga : Option Addr) (gn gc : Nat) : Array Value :=
 #[.pointer (some ⟨a.mp, 0, none⟩), .pointer (some ⟨a.tp, 0, none⟩), .int .i64 (c.f : Int), .int .i64 c.B, .int .i64 (c.S : Int), .int .i64 (c.T : Int), .int .i64 (c.n : Int), .slice (some ⟨a.lg, 0, none⟩) c.n a.lc, .slice ga gn gc]
def InS (c : SC) (a : SA) (ga : Option Addr) (i : Nat) : Prop := i = a.sp ∨ i = a.tp ∨ i = a.tg ∨ i = a.lg ∨ (Value.slice ga 0 0).ownBlock = some i ∨ ∃ h, h < c.n ∧ (i = a.lp h ∨ i = a.bm h)
structure StoA (c : SC) (a : SA) (g : SG) (ga : Option Addr) (gc : Nat) (G : Nat → Prop) (k : Nat) (w : World) : Prop where
 lt : ∀ i, G i → i < w.heap.size
 own : Own w (fun i => (i < w.heap.size ∧ ¬ G i) ∨ InS c a ga i) a.mp g.M
 inG : ∀ i, InS c a ga i → G i
 box : Box w a.sp 170 (stA c a ga g.gone.length gc)
 lrow : ∃ cur, Box w a.lg 28 cur ∧ ∀ h, h < c.n → cur[h]? = some (.pointer (some ⟨a.lp h, 0, none⟩))
 gon : w.ownsRow 0 175 2 (.slice ga g.gone.length gc) g.gone.length (ntL g.gone)
 tp : Tp w a.tp a.tg g.nw g.z g.u
 lev : ∀ h, h < c.n → Box w (a.lp h) 127 (LvA a.mp (c.r h) (c.N h) c.S c.T (g.ov h) (some (a.bm h)))
 map : ∀ h, h < c.n → ∃ nm, nm ≤ k ∧ w.ownsMap Tryz.prog 43 unitElem (a.bm h) nm (ids (g.I h) : DataW Unit)
 lvm : ∀ h, h < c.n → LvM g.M (c.r h) c.S (c.D h) c.T (c.Q h)
 wk : ∀ h, h < c.n → Wk c.S (c.D h) c.T (cellsE (c.r h) g.M.c)
 lpI : ∀ h h', h < c.n → h' < c.n → a.lp h = a.lp h' → h = h'
 bmI : ∀ h h', h < c.n → h' < c.n → a.bm h = a.bm h' → h = h'
 es : g.M.es.length ≤ 40000 * k
 gl : g.gone.length ≤ k
 ul : g.u ≤ k
 top : c.f < g.M.k ∧ g.M.sz c.f = c.N (c.n - 1)
 zw : ∀ j, j < g.nw → 0 ≤ g.z j ∧ g.z j ≤ 18446744073709551615
theorem own_blk {ga : Option Addr} {n m c d i : Nat} (h : (Value.slice ga n c).ownBlock = some i) : (Value.slice ga m d).ownBlock = some i := by
 cases ga with
 | none => cases h
 | some A => exact h
theorem own_cells {w : World} {base : Nat} {e : TypeId} {size n : Nat} {v : Value} {xs : List Value} (h : w.ownsRow base e size v n xs) {i : Nat} (hi : v.ownBlock = some i) : ∃ cur, Box w i e cur := by
 rcases h.2 with ⟨rfl, _⟩ | ⟨g, cap, cur, rfl, hb, hg, _⟩
 ·cases hi
 ·have : g = i := by simpa [Value.ownBlock] using hi
  subst this
  exact ⟨cur, hg⟩
section
variable {c : SC} {a : SA} {g : SG} {ga : Option Addr} {gc : Nat} {G : Nat → Prop} {k : Nat} {w w' : World}
theorem StoA.more (h : StoA c a g ga gc G k w) {k' : Nat} (hk : k ≤ k') : StoA c a g ga gc G k' w :=
 ⟨h.lt, h.own, h.inG, h.box, h.lrow, h.gon, h.tp, h.lev, fun j hj => by obtain ⟨nm, h1, h2⟩ := h.map j hj; exact ⟨nm, by omega, h2⟩, h.lvm, h.wk, h.lpI, h.bmI, by have := h.es; omega, by have := h.gl; omega, by have := h.ul; omega, h.top, h.zw⟩
theorem StoA.sp (_ : StoA c a g ga gc G k w) : InS c a ga a.sp := .inl rfl
theorem StoA.tpIn (_ : StoA c a g ga gc G k w) : InS c a ga a.tp := .inr (.inl rfl)
theorem StoA.tgIn (_ : StoA c a g ga gc G k w) : InS c a ga a.tg := .inr (.inr (.inl rfl))
theorem StoA.lgIn (_ : StoA c a g ga gc G k w) : InS c a ga a.lg := .inr (.inr (.inr (.inl rfl)))
theorem StoA.lpIn (_ : StoA c a g ga gc G k w) {h : Nat} (hh : h < c.n) : InS c a ga (a.lp h) := .inr (.inr (.inr (.inr (.inr ⟨h, hh, .inl rfl⟩))))
theorem StoA.bmIn (_ : StoA c a g ga gc G k w) {h : Nat} (hh : h < c.n) : InS c a ga (a.bm h) := .inr (.inr (.inr (.inr (.inr ⟨h, hh, .inr rfl⟩))))
theorem StoA.keep {S : Nat → Prop} (h : StoA c a g ga gc G k w) (ho : Only S w w') (hs : ∀ i, G i → ¬ S i) : StoA c a g ga gc G k w' := by
 have hin : ∀ i, InS c a ga i → ¬ S i := fun i hi => hs i (h.inG i hi)
 refine ⟨fun i hi => Nat.lt_of_lt_of_le (h.lt i hi) ho.size, ?_, h.inG, h.box.only ho (hin _ h.sp), ?_, ?_, h.tp.only ho (hin _ h.tpIn) (hin _ h.tgIn), fun j hj => (h.lev j hj).only ho (hin _ (h.lpIn hj)), ?_, h.lvm, h.wk, h.lpI, h.bmI, h.es, h.gl, h.ul, h.top, h.zw⟩
 ·obtain ⟨F, hm, hF, hX⟩ := h.own
  have hFG : ∀ i, F i → G i := fun i hi => by
   apply Classical.byContradiction
   intro hn
   exact hF i hi (.inl ⟨hm.lt i hi, hn⟩)
  refine ⟨F, hm.only ho (fun i hi => hs i (hFG i hi)), fun i hi k => ?_, fun i hi => ?_⟩
  ·rcases k with k | k
   ·exact k.2 (hFG i hi)
   ·exact hF i hi (.inr k)
  ·rcases hi with hi | hi
   ·exact hi.1
   ·exact Nat.lt_of_lt_of_le (h.lt i (h.inG i hi)) ho.size
 ·obtain ⟨cur, h1, h2⟩ := h.lrow
  exact ⟨cur, h1.only ho (hin _ h.lgIn), h2⟩
 ·refine own_block h.gon (fun b hb => ?_)
  have hb' : InS c a ga b := .inr (.inr (.inr (.inr (.inl (own_blk hb)))))
  exact ho.block b (h.lt b (h.inG b hb')) (hin b hb')
 ·intro j hj
  obtain ⟨nm, h1, h2⟩ := h.map j hj
  exact ⟨nm, h1, map_only h2 ho (hin _ (h.bmIn hj))⟩
theorem StoA.nob (h : StoA c a g ga gc G k w) (ho : Only nobody w w') : StoA c a g ga gc G k w' := h.keep ho (fun _ _ => not_nobody _)
end
theorem own_cells_only {w : World} {X : Nat → Prop} {p : Nat} {M : MS} (h : Own w X p M) {Y : Nat → Prop} (hY : ∀ i, Y i → i < w.heap.size ∧ (X i ∨ ¬ cellsAt w i)) : Own w Y p M := by
 obtain ⟨F, ⟨g, bl, A, cap, hm⟩, hF, hX⟩ := h
 refine ⟨fun i => F i ∧ cellsAt w i, ⟨g, bl, A, cap, hm.box, hm.row, hm.reg, hm.inj, hm.ev, ⟨hm.fp, hm.box.cells⟩, ⟨hm.fg, rowIs_cells hm.row⟩, fun i hi => ⟨hm.fb i hi, rowIs_cells (hm.reg i hi)⟩, fun b hb => ⟨hm.fv b hb, ?_⟩, fun i hi => hm.lt i hi.1, hm.few, hm.small⟩, fun i hi hy => ?_, fun i hi => (hY i hi).1⟩
 ·obtain ⟨cur, hc⟩ := own_cells hm.ev hb
  exact hc.cells
 ·rcases (hY i hy).2 with h1 | h1
  ·exact hF i hi.1 h1
  ·exact h1 hi.2
section
variable {c : SC} {a : SA} {g : SG} {ga : Option Addr} {gc : Nat} {G : Nat → Prop} {k : Nat} {w w' : World}
theorem StoA.with (h : StoA c a g ga gc G k w) {G' : Nat → Prop} (hG : ∀ i, G i → cellsAt w i → G' i) (hI : ∀ i, InS c a ga i → G' i) (hl : ∀ i, G' i → i < w.heap.size) : StoA c a g ga gc G' k w := by
 refine ⟨hl, own_cells_only h.own (fun i hi => ?_), hI, h.box, h.lrow, h.gon, h.tp, h.lev, h.map, h.lvm, h.wk, h.lpI, h.bmI, h.es, h.gl, h.ul, h.top, h.zw⟩
 rcases hi with ⟨h1, h2⟩ | h1
 ·refine ⟨h1, ?_⟩
  by_cases hc : cellsAt w i
  ·exact .inl (.inl ⟨h1, fun k => h2 (hG i k hc)⟩)
  ·exact .inr hc
 ·exact ⟨h.lt i (h.inG i h1), .inl (.inr h1)⟩
theorem StoA.inCells (h : StoA c a g ga gc G k w) {i : Nat} (hi : InS c a ga i) : cellsAt w i ∨ ∃ j, j < c.n ∧ i = a.bm j := by
 rcases hi with rfl | rfl | rfl | rfl | hi | ⟨j, hj, rfl | rfl⟩
 ·exact .inl h.box.cells
 ·exact .inl h.tp.box.cells
 ·exact .inl (rowIs_cells h.tp.row)
 ·obtain ⟨cur, h1, _⟩ := h.lrow
  exact .inl h1.cells
 ·obtain ⟨cur, hc⟩ := own_cells h.gon (own_blk hi)
  exact .inl hc.cells
 ·exact .inl (h.lev j hj).cells
 ·exact .inr ⟨j, hj, rfl⟩
end
def SG.lev (c : SC) (g : SG) (h : Nat) (q : Ask) (o : List Nat) : SG :=
  { g with M := acM (c.N h) c.S (c.D h) c.T (c.r h) (c.P h) q g.M o
           ov := fun j => if j = h then g.ov h || acO (c.N h) c.S (c.D h) c.T (c.r h) (c.m h) (c.P h) q g.M o else g.ov j
           I := fun j => if j = h then acI (c.N h) q (g.I h) else g.I j }
def grG (G : Nat → Prop) (w w' : World) : Nat → Prop := fun i => G i ∨ (w.heap.size ≤ i ∧ i < w'.heap.size)
set_option maxHeartbeats 1000000 in
theorem StoA.level {c : SC} {a : SA} {g : SG} {ga : Option Addr} {gc : Nat} {G : Nat → Prop} {k : Nat} {w : World} (hc : c.Ok) (hS : StoA c a g ga gc G k w) {h : Nat} (hh : h < c.n) (q : Ask) (hk : k < 20000) (hi : 0 ≤ q.id) (hd : ∀ j, 0 ≤ q.d j ∧ q.d j ≤ 18446744073709551615) :
  Calls Tryz.prog 16 #[.pointer (some ⟨a.lp h, 0, none⟩), .int .i64 q.op, .int .u64 q.id, .int .i64 q.at', .agg (DA q.d), .int .i64 q.lf, .int .i64 q.to] w fun e w' =>
   e = .returned (.tuple #[.agg (DA fun i => acW (c.N h) c.S (c.D h) c.T (c.r h) q g.M (3 + i)), .bool (acW (c.N h) c.S (c.D h) c.T (c.r h) q g.M 0 == 1)]) ∧
   ∃ o, (q.ok (c.N h) = true → IsOrd (acT c.S (c.D h) c.T (c.r h) (c.m h) (c.P h) q g.M) (c.m h) o) ∧ StoA c a (g.lev c h q o) ga gc (grG G w w') (k + 1) w' ∧ Only G w w' := by
 have hl : Lv Unit (c.N h) c.S (c.D h) c.T (c.Q h) (fun i => (i < w.heap.size ∧ ¬ G i) ∨ InS c a ga i) a.mp (a.lp h) (a.bm h) (c.r h) (g.ov h) (g.I h) g.M k w :=
  ⟨hS.own, .inr (hS.lpIn hh), .inr (hS.bmIn hh), hS.lev h hh, hS.map h hh, hS.lvm h hh, hS.es, hS.wk h hh⟩
 have hr : c.r h ≤ 100 := by have := hc.f50; have := hc.n4; unfold SC.r; omega
 refine (hl.access (hc.conf h hh) q hr hk hi hd).mono ?_
 rintro e w' ⟨rfl, o, ho, hl', hK⟩
 have hsz := hK.size
 have nlp : ∀ {p : Nat} {t : TypeId} {cs : Array Value}, Box w p t cs → InS c a ga p → t ≠ 127 → ((p < w.heap.size ∧ ¬ G p) ∨ InS c a ga p) ∧ p ≠ a.lp h ∧ p ≠ a.bm h := fun hb hi ht => by
  obtain ⟨nm, _, hm⟩ := hS.map h hh
  exact ⟨.inr hi, hb.ne (hS.lev h hh) ht, map_ne hm hb⟩
 obtain ⟨gt, gs, gi⟩ := hS.tp.row
 refine ⟨rfl, o, ho, ⟨?_, ?_, fun i hi => .inl (hS.inG i hi), hK.box hS.box (nlp hS.box hS.sp (by decide)), ?_, ?_, ?_, ?_, ?_, ?_, ?_, hS.lpI, hS.bmI, ?_, by have := hS.gl; show g.gone.length ≤ _; omega, by have := hS.ul; show g.u ≤ _; omega, ?_, hS.zw⟩, ?_⟩
 ·intro i hi
  rcases hi with hi | hi
  ·exact Nat.lt_of_lt_of_le (hS.lt i hi) hsz
  ·exact hi.2
 ·refine hl'.own.weak fun i hi => ?_
  rcases hi with ⟨h1, h2⟩ | hi
  ·left
   have h3 : ¬ w.heap.size ≤ i := fun h3 => h2 (.inr ⟨h3, h1⟩)
   exact ⟨by omega, fun h4 => h2 (.inl h4)⟩
  ·exact .inr hi
 ·obtain ⟨cur, h1, h2⟩ := hS.lrow
  exact ⟨cur, hK.box h1 (nlp h1 hS.lgIn (by decide)), h2⟩
 ·refine own_block hS.gon (fun b hb => ?_)
  obtain ⟨cur, hb2⟩ := own_cells hS.gon hb
  have hx := nlp hb2 (.inr (.inr (.inr (.inr (.inl (own_blk hb)))))) (by decide)
  exact hK.block b hb2.lt (fun k => k hx)
 ·have hgx : Box w a.tg 43 gt := gs
  refine ⟨hK.box hS.tp.box (nlp hS.tp.box hS.tpIn (by decide)), hK.row hS.tp.row (nlp hgx hS.tgIn (by decide))⟩
 ·intro j hj
  by_cases e : j = h
  ·subst e
   have := hl'.box
   show Box w' (a.lp j) _ (LvA a.mp (c.r j) (c.N j) c.S c.T (if j = j then _ else _) (some (a.bm j)))
   rw [if_pos rfl]
   exact this
  ·show Box w' (a.lp j) _ (LvA a.mp (c.r j) (c.N j) c.S c.T (if j = h then _ else _) (some (a.bm j)))
   rw [if_neg e]
   obtain ⟨nm, _, hm⟩ := hS.map h hh
   exact hK.box (hS.lev j hj) ⟨.inr (hS.lpIn hj), fun k => e (hS.lpI j h hj hh k), map_ne hm (hS.lev j hj)⟩
 ·intro j hj
  by_cases e : j = h
  ·subst e
   have := hl'.map
   show ∃ nm, nm ≤ k + 1 ∧ w'.ownsMap _ _ _ _ nm (ids (if j = j then _ else _) : DataW Unit)
   rw [if_pos rfl]
   exact this
  ·show ∃ nm, nm ≤ k + 1 ∧ w'.ownsMap _ _ _ _ nm (ids (if j = h then _ else _) : DataW Unit)
   rw [if_neg e]
   obtain ⟨nm, h1, h2⟩ := hS.map j hj
   refine ⟨nm, by omega, map_only h2 hK (fun k => k ⟨.inr (hS.bmIn hj), (map_ne h2 (hS.lev h hh)).symm, fun k => e (hS.bmI j h hj hh k)⟩)⟩
 ·intro j hj
  have h1 := hS.lvm j hj
  have h2 := hl'.lvm
  exact ⟨by show _ < (acM _ _ _ _ _ _ _ _ _).k; rw [ac_k]; exact h1.hk, by show _ ≤ (acM _ _ _ _ _ _ _ _ _).sz _; rw [ac_sz]; exact h1.s0, by show _ ≤ (acM _ _ _ _ _ _ _ _ _).sz _; rw [ac_sz]; exact h1.s1, by show _ ≤ (acM _ _ _ _ _ _ _ _ _).sz _; rw [ac_sz]; exact h1.s2, h2.wd, h2.len⟩
 ·intro j hj
  by_cases e : j = h
  ·subst e
   exact hl'.wk
  ·have hf : c.r j + 1 < c.r h ∨ c.r h + 2 < c.r j := by unfold SC.r; omega
   exact (ac_eq hf).wk (hS.wk j hj)
 ·exact hl'.es
 ·show _ < (acM _ _ _ _ _ _ _ _ _).k ∧ (acM _ _ _ _ _ _ _ _ _).sz _ = _
  rw [ac_k, ac_sz]
  exact hS.top
 ·refine Only.mono hK fun i hi hn => ?_
  apply Classical.byContradiction
  intro hg
  exact hn ⟨.inl ⟨hi, hg⟩, fun e => hg (e ▸ hS.inG _ (hS.lpIn hh)), fun e => hg (e ▸ hS.inG _ (hS.bmIn hh))⟩
def Xo (c : SC) (a : SA) (ga : Option Addr) (G : Nat → Prop) (w : World) : Nat → Prop := fun i => (i < w.heap.size ∧ ¬ G i) ∨ InS c a ga i
theorem StoA.memo {c : SC} {a : SA} {g : SG} {ga : Option Addr} {gc : Nat} {G : Nat → Prop} {k : Nat} {w w' : World} (hS : StoA c a g ga gc G k w) {M' : MS} (hO : Own w' (Xo c a ga G w) a.mp M') (hK : Kept (Xo c a ga G w) w w') (hk : M'.k = g.M.k) (hz : M'.sz = g.M.sz)
  (hlv : ∀ h, h < c.n → LvM M' (c.r h) c.S (c.D h) c.T (c.Q h)) (hwk : ∀ h, h < c.n → Wk c.S (c.D h) c.T (cellsE (c.r h) M'.c)) (hes : M'.es.length ≤ 40000 * (k + 1)) :
  StoA c a { g with M := M' } ga gc (grG G w w') (k + 1) w' ∧ Only G w w' := by
 have hsz := hK.size
 have hin : ∀ i, InS c a ga i → Xo c a ga G w i := fun i hi => .inr hi
 refine ⟨⟨?_, ?_, fun i hi => .inl (hS.inG i hi), hK.box hS.box (hin _ hS.sp), ?_, ?_, ?_, fun j hj => hK.box (hS.lev j hj) (hin _ (hS.lpIn hj)), ?_, hlv, hwk, hS.lpI, hS.bmI, hes, by have := hS.gl; show g.gone.length ≤ _; omega, by have := hS.ul; show g.u ≤ _; omega, ?_, hS.zw⟩, ?_⟩
 ·intro i hi
  rcases hi with hi | hi
  ·exact Nat.lt_of_lt_of_le (hS.lt i hi) hsz
  ·exact hi.2
 ·refine hO.weak fun i hi => ?_
  rcases hi with ⟨h1, h2⟩ | hi
  ·left
   have h3 : ¬ w.heap.size ≤ i := fun h3 => h2 (.inr ⟨h3, h1⟩)
   exact ⟨by omega, fun h4 => h2 (.inl h4)⟩
  ·exact .inr hi
 ·obtain ⟨cur, h1, h2⟩ := hS.lrow
  exact ⟨cur, hK.box h1 (hin _ hS.lgIn), h2⟩
 ·refine own_block hS.gon (fun b hb => ?_)
  obtain ⟨cur, hb2⟩ := own_cells hS.gon hb
  exact hK.block b hb2.lt (fun k => k (hin _ (.inr (.inr (.inr (.inr (.inl (own_blk hb))))))))
 ·exact ⟨hK.box hS.tp.box (hin _ hS.tpIn), hK.row hS.tp.row (hin _ hS.tgIn)⟩
 ·intro j hj
  obtain ⟨nm, h1, h2⟩ := hS.map j hj
  exact ⟨nm, by omega, map_only h2 hK (fun k => k (hin _ (hS.bmIn hj)))⟩
 ·show _ < M'.k ∧ M'.sz _ = _
  rw [hk, hz]
  exact hS.top
 ·refine Only.mono hK fun i hi hn => ?_
  apply Classical.byContradiction
  intro hg
  exact hn (.inl ⟨hi, hg⟩)
def Sto (c : SC) (a : SA) (G0 : Nat → Prop) (w0 : World) (L : Nat → Prop) (g : SG) (k : Nat) (w : World) : Prop :=
 ∃ ga gc G, StoA c a g ga gc G k w ∧ (∀ i, G i → G0 i ∨ w0.heap.size ≤ i) ∧ (∀ i, L i → i < w.heap.size ∧ ¬ G i) ∧ Only G0 w0 w
section
variable {c : SC} {a : SA} {G0 : Nat → Prop} {w0 w w' : World} {L : Nat → Prop} {g : SG} {k : Nat}
theorem Sto.start {ga : Option Addr} {gc : Nat} {G : Nat → Prop} (h : StoA c a g ga gc G k w) : Sto c a G w (fun i => i < w.heap.size ∧ ¬ G i) g k w := ⟨ga, gc, G, h, fun _ hi => .inl hi, fun _ hi => hi, Only.refl _ _⟩
theorem Sto.only0 (h : Sto c a G0 w0 L g k w) : Only G0 w0 w := by obtain ⟨_, _, _, _, _, _, h⟩ := h; exact h
theorem Sto.ltL (h : Sto c a G0 w0 L g k w) {i : Nat} (hi : L i) : i < w.heap.size := by obtain ⟨_, _, _, _, _, h, _⟩ := h; exact (h i hi).1
theorem Sto.less (h : Sto c a G0 w0 L g k w) {L' : Nat → Prop} (hL : ∀ i, L' i → L i) : Sto c a G0 w0 L' g k w := by
 obtain ⟨ga, gc, G, h1, h2, h3, h4⟩ := h
 exact ⟨ga, gc, G, h1, h2, fun i hi => h3 i (hL i hi), h4⟩
theorem Sto.far (h : Sto c a G0 w0 L g k w) {Y : Nat → Prop} (ho : Only Y w w') (hY : ∀ i, Y i → L i) (hY0 : ∀ i, Y i → w0.heap.size ≤ i) : Sto c a G0 w0 L g k w' := by
 obtain ⟨ga, gc, G, h1, h2, h3, h4⟩ := h
 exact ⟨ga, gc, G, h1.keep ho (fun i hi hy => (h3 i (hY i hy)).2 hi), h2, fun i hi => ⟨Nat.lt_of_lt_of_le (h3 i hi).1 ho.size, (h3 i hi).2⟩, h4.then ho (fun i hi => .inr (hY0 i hi))⟩
theorem Sto.nob (h : Sto c a G0 w0 L g k w) (ho : Only nobody w w') : Sto c a G0 w0 (fun i => L i ∨ (w.heap.size ≤ i ∧ i < w'.heap.size)) g k w' := by
 obtain ⟨ga, gc, G, h1, h2, h3, h4⟩ := h
 refine ⟨ga, gc, G, h1.nob ho, h2, fun i hi => ?_, h4.then ho (fun i hi => absurd hi (not_nobody _))⟩
 rcases hi with hi | hi
 ·exact ⟨Nat.lt_of_lt_of_le (h3 i hi).1 ho.size, (h3 i hi).2⟩
 ·exact ⟨hi.2, fun k => by have := h1.lt i k; omega⟩
theorem Sto.nob' (h : Sto c a G0 w0 L g k w) (ho : Only nobody w w') : Sto c a G0 w0 L g k w' := (h.nob ho).less (fun _ hi => .inl hi)
theorem Sto.more (h : Sto c a G0 w0 L g k w) {k' : Nat} (hk : k ≤ k') : Sto c a G0 w0 L g k' w := by
 obtain ⟨ga, gc, G, h1, h2, h3, h4⟩ := h
 exact ⟨ga, gc, G, h1.more hk, h2, h3, h4⟩
theorem Sto.opened {ga : Option Addr} {gc : Nat} {G : Nat → Prop} {g' : SG} {k' : Nat} (h2 : ∀ i, G i → G0 i ∨ w0.heap.size ≤ i) (h3 : ∀ i, L i → i < w.heap.size ∧ ¬ G i) (h4 : Only G0 w0 w) (hS : StoA c a g' ga gc (grG G w w') k' w') (ho : Only G w w') :
  Sto c a G0 w0 L g' k' w' ∧ Kept L w w' :=
 ⟨⟨ga, gc, _, hS, fun i hi => hi.elim (h2 i) (fun h => .inr (Nat.le_trans h4.size h.1)), fun i hi => ⟨Nat.lt_of_lt_of_le (h3 i hi).1 ho.size, fun hg => hg.elim (h3 i hi).2 (fun h => by have := (h3 i hi).1; omega)⟩, h4.then ho (fun i hi => h2 i hi)⟩,
  ho.mono (fun i _ hi hl => (h3 i hl).2 hi)⟩
theorem Sto.c0 (h : Sto c a G0 w0 L g k w) : w.cell? ⟨a.sp, 0, none⟩ = some (.pointer (some ⟨a.mp, 0, none⟩)) := by obtain ⟨_, _, _, h, _⟩ := h; exact h.box.cell 0
theorem Sto.c2 (h : Sto c a G0 w0 L g k w) : w.cell? ⟨a.sp, 2, none⟩ = some (.int .i64 (c.f : Int)) := by obtain ⟨_, _, _, h, _⟩ := h; exact h.box.cell 2
theorem Sto.c3 (h : Sto c a G0 w0 L g k w) : w.cell? ⟨a.sp, 3, none⟩ = some (.int .i64 c.B) := by obtain ⟨_, _, _, h, _⟩ := h; exact h.box.cell 3
theorem Sto.c4 (h : Sto c a G0 w0 L g k w) : w.cell? ⟨a.sp, 4, none⟩ = some (.int .i64 (c.S : Int)) := by obtain ⟨_, _, _, h, _⟩ := h; exact h.box.cell 4
theorem Sto.c5 (h : Sto c a G0 w0 L g k w) : w.cell? ⟨a.sp, 5, none⟩ = some (.int .i64 (c.T : Int)) := by obtain ⟨_, _, _, h, _⟩ := h; exact h.box.cell 5
theorem Sto.c6 (h : Sto c a G0 w0 L g k w) : w.cell? ⟨a.sp, 6, none⟩ = some (.int .i64 (c.n : Int)) := by obtain ⟨_, _, _, h, _⟩ := h; exact h.box.cell 6
theorem Sto.c7 (h : Sto c a G0 w0 L g k w) : w.cell? ⟨a.sp, 7, none⟩ = some (.slice (some ⟨a.lg, 0, none⟩) c.n a.lc) := by obtain ⟨_, _, _, h, _⟩ := h; exact h.box.cell 7
theorem Sto.lvl (h : Sto c a G0 w0 L g k w) {j : Nat} (hj : j < c.n) : w.cell? ⟨a.lg, j, none⟩ = some (.pointer (some ⟨a.lp j, 0, none⟩)) := by
 obtain ⟨_, _, _, h, _⟩ := h
 obtain ⟨cur, h1, h2⟩ := h.lrow
 exact (h1.cell j).trans (h2 j hj)
theorem Sto.level (hc : c.Ok) (h : Sto c a G0 w0 L g k w) {j : Nat} (hj : j < c.n) (q : Ask) (hk : k < 20000) (hi : 0 ≤ q.id) (hd : ∀ j, 0 ≤ q.d j ∧ q.d j ≤ 18446744073709551615) :
  Calls Tryz.prog 16 #[.pointer (some ⟨a.lp j, 0, none⟩), .int .i64 q.op, .int .u64 q.id, .int .i64 q.at', .agg (DA q.d), .int .i64 q.lf, .int .i64 q.to] w fun e w' =>
   e = .returned (.tuple #[.agg (DA fun i => acW (c.N j) c.S (c.D j) c.T (c.r j) q g.M (3 + i)), .bool (acW (c.N j) c.S (c.D j) c.T (c.r j) q g.M 0 == 1)]) ∧
   ∃ o, (q.ok (c.N j) = true → IsOrd (acT c.S (c.D j) c.T (c.r j) (c.m j) (c.P j) q g.M) (c.m j) o) ∧ Sto c a G0 w0 L (g.lev c j q o) (k + 1) w' ∧ Kept L w w' := by
 obtain ⟨ga, gc, G, h1, h2, h3, h4⟩ := h
 refine (h1.level hc hj q hk hi hd).mono ?_
 rintro e w' ⟨he, o, ho, hS, hO⟩
 obtain ⟨r1, r2⟩ := Sto.opened h2 h3 h4 hS hO
 exact ⟨he, o, ho, r1, r2⟩
theorem Sto.guard (h : Sto c a G0 w0 L g k w) {B : Nat} (hB : ∀ j, j < c.n → a.bm j < B) : Sto c a G0 w0 (fun i => L i ∨ (B ≤ i ∧ i < w.heap.size ∧ ¬ cellsAt w i)) g k w := by
 obtain ⟨ga, gc, G, h1, h2, h3, h4⟩ := h
 refine ⟨ga, gc, fun i => G i ∧ (B ≤ i → cellsAt w i), h1.with (fun i hg hc => ⟨hg, fun _ => hc⟩) (fun i hi => ⟨h1.inG i hi, fun hb => ?_⟩) (fun i hi => h1.lt i hi.1), fun i hi => h2 i hi.1, fun i hi => ?_, h4⟩
 ·rcases h1.inCells hi with hc | ⟨j, hj, e⟩
  ·exact hc
  ·have := hB j hj; omega
 ·rcases hi with hi | hi
  ·exact ⟨(h3 i hi).1, fun k => (h3 i hi).2 k.1⟩
  ·exact ⟨hi.2.1, fun k => hi.2.2 (k.2 hi.1)⟩
end
end Go.Proofs.YtknnebhjldfkhaaGreat


namespace Go.Proofs.YtknnebhjldfkhaaGreat
set_option maxRecDepth 100000
open Go.RowKit Go.ChangeShapes Go.WideShapes Go.ChangeAt

def ntA (e : Nt) : Array Value := #[.int .u64 e.1, .int .u64 e.2]
def WN (e : Nt) : Prop := (0 ≤ e.1 ∧ e.1 ≤ 18446744073709551615) ∧ 0 ≤ e.2 ∧ e.2 ≤ 18446744073709551615
def leafI (x : Int) : Int := wrap64 (wrap64 x - 1)
def placeI (y : Int) : Int := wrap64 y
theorem wrap64_self {x : Int} (h0 : -9223372036854775808 ≤ x) (h1 : x ≤ 9223372036854775807) : wrap64 x = x := by unfold wrap64; omega
theorem leafI_small {x : Int} (h0 : 0 ≤ x) (h1 : x ≤ 9223372036854775807) : leafI x = x - 1 := by unfold leafI; rw [wrap64_self (by omega) h1, wrap64_self (by omega) (by omega)]
theorem note_leaf (e : Nt) (w : World) :
  Calls Tryz.prog 117 #[.agg (ntA e)] w fun r w' => r = .returned (.int .i64 (leafI e.1)) ∧ w' = w.alloc (.cells (ntA e) 175) := by
 obtain ⟨x, y⟩ := e
 unfold ntA leafI
 go_enter Tryz.func117, Tryz.ntmps117
 go_wp2_with fail
 go_ret
 exact ⟨rfl, rfl⟩
theorem note_place (e : Nt) (w : World) :
  Calls Tryz.prog 122 #[.agg (ntA e)] w fun r w' => r = .returned (.int .i64 (placeI e.2)) ∧ w' = w.alloc (.cells (ntA e) 175) := by
 obtain ⟨x, y⟩ := e
 unfold ntA placeI
 go_enter Tryz.func122, Tryz.ntmps122
 go_wp2_with fail
 go_ret
 exact ⟨rfl, rfl⟩
def orN (e s : Nt) : Nt := if e.1 = 0 then s else e
theorem orN_wd {e s : Nt} (he : WN e) (hs : WN s) : WN (orN e s) := by unfold orN; split; exact hs; exact he
theorem mz_mk (x : Int) : mz x = msk (decide (x = 0)) := by
 unfold mz msk
 by_cases h : x = 0
 ·rw [if_pos h, if_pos (by simpa using h)]
 ·rw [if_neg h, if_neg (by simpa using h)]
theorem or_pk {x y x' y' : Int} (he : WN (x, y)) (hs : WN (x', y')) : Ending.returned (.agg #[.int .u64 (pk (msk (decide (x = 0))) x' x), .int .u64 (pk (msk (decide (x = 0))) y' y)]) = .returned (.agg (ntA (orN (x, y) (x', y')))) := by
 obtain ⟨⟨h0, h1⟩, h2, h3⟩ := he
 obtain ⟨⟨k0, k1⟩, k2, k3⟩ := hs
 dsimp only at *
 rw [pk_mk _ _ _ k0 k1 h0 h1, pk_mk _ _ _ k2 k3 h2 h3]
 unfold orN ntA
 by_cases h : x = 0
 ·simp [h]
 ·simp [h]
set_option linter.unusedSimpArgs false in
set_option maxHeartbeats 1000000 in
theorem or_any (e s : Nt) (w : World) (he : WN e) (hs : WN s) :
  Calls Tryz.prog 115 #[.agg (ntA e), .agg (ntA s)] w fun r w' => r = .returned (.agg (ntA (orN e s))) ∧ Only nobody w w' := by
 obtain ⟨x, y⟩ := e
 obtain ⟨x', y'⟩ := s
 have HR := Lib.hid (or_pk he hs)
 obtain ⟨⟨h0, h1⟩, h2, h3⟩ := he
 obtain ⟨⟨k0, k1⟩, k2, k3⟩ := hs
 have HZ := Lib.hid (mz_mk x)
 obtain ⟨b, hb⟩ : ∃ b, w.heap.size = b := ⟨_, rfl⟩
 obtain ⟨w3, hw3⟩ : ∃ u, ((w.alloc (.cells (ntA (x, y)) 175)).alloc (.cells (ntA (x', y')) 175)).alloc (.cells #[.int .u64 0, .int .u64 0] 175) = u := ⟨_, rfl⟩
 have HW := Lib.hid hw3
 have HBw : Hid (w.heap.size ≤ b + 2) := Lib.hid (by omega)
 have HBb := Lib.hid hb
 have HO : Hid (Only nobody w w3) := Lib.hid (by rw [← hw3]; exact (((Only.refl _ w).alloc _).alloc _).alloc _)
 have B0 : Box w3 b 175 #[.int .u64 x, .int .u64 y] := by rw [← hw3, ← hb]; exact ((Box.new w _ _).alloc _).alloc _
 have B1 : Box w3 (b + 1) 175 #[.int .u64 x', .int .u64 y'] := by
  have := (Box.new (w.alloc (.cells (ntA (x, y)) 175)) 175 (ntA (x', y'))).alloc (.cells #[.int .u64 0, .int .u64 0] 175)
  rw [World.size_alloc, hb, hw3] at this
  exact this
 have B2 : Box w3 (b + 2) 175 #[.int .u64 0, .int .u64 0] := by
  have := Box.new ((w.alloc (.cells (ntA (x, y)) 175)).alloc (.cells (ntA (x', y')) 175)) 175 #[.int .u64 0, .int .u64 0]
  rw [World.size_alloc, World.size_alloc, hb, hw3] at this
  exact this
 have HB2 := Lib.hid (B2.drewN 1)
 have c0 := B0.cell 0
 have c1 := B0.cell 1
 have c2 := B1.cell 0
 have c3 := B1.cell 1
 simp at c0 c1 c2 c3
 clear hw3 hb B0 B1 B2
 go_enter Tryz.func115, Tryz.ntmps115
 go_upto_region 1 with fail
 rw [HBb.out]
 simp only [HW.out]
 have e2 : b + 1 + 1 = b + 2 := rfl
 simp only [e2]
 go_upto_region 2 with (go_at_call 155; refine (zero_any _ _ h0 h1).mono ?_; rintro e w' ⟨rfl, rfl⟩; rw [HZ.out])
 refine held_s (S := fun u => u.cell? ⟨b, 0, none⟩ = some (.int .u64 x) ∧ u.cell? ⟨b, 1, none⟩ = some (.int .u64 y) ∧ u.cell? ⟨b + 1, 0, none⟩ = some (.int .u64 x') ∧ u.cell? ⟨b + 1, 1, none⟩ = some (.int .u64 y') ∧ True) 14 rfl (by kernel_rfl) ⟨c0, c1, c2, c3, trivial⟩ (fun hHeld => ?_)
 simp only [qA0, qB0, qC0, List.nil_append, List.cons_append]
 have HO : Hid (Only nobody w w3.drew) := Lib.hid (HO.out.drew)
 change Hid (Box w3.drew _ _ _) at HB2
 generalize w3.drew = w4 at *
 refine tk1 0 9 (.int .u64 (msk (decide (x = 0)))) rfl (Or.inl ⟨by rfl, fun w' hw => by go_simp⟩) hHeld ?_
 try simp only [Act.put, sA0, sB0, sC0]
 refine tk1 1 10 (.pointer (some ⟨b + 1, 0, none⟩)) rfl (Or.inl ⟨by rfl, fun w' hw => by go_simp⟩) hHeld ?_
 try simp only [Act.put, sA0, sB0, sC0]
 refine tk1 2 11 (.int .u64 (x')) rfl (Or.inl ⟨by rfl, fun w' hw => by (obtain ⟨s1, s2, s3, s4, s5⟩ := hw; go_simp)⟩) hHeld ?_
 try simp only [Act.put, sA0, sB0, sC0]
 refine tk1 3 12 (.pointer (some ⟨b, 0, none⟩)) rfl (Or.inl ⟨by rfl, fun w' hw => by go_simp⟩) hHeld ?_
 try simp only [Act.put, sA0, sB0, sC0]
 refine tk1 4 13 (.int .u64 (x)) rfl (Or.inl ⟨by rfl, fun w' hw => by (obtain ⟨s1, s2, s3, s4, s5⟩ := hw; go_simp)⟩) hHeld ?_
 try simp only [Act.put, sA0, sB0, sC0]
 refine tk1 6 15 (.int .u64 (msk (decide (x = 0)))) rfl (Or.inl ⟨by rfl, fun w' hw => by go_simp⟩) hHeld ?_
 try simp only [Act.put, sA0, sB0, sC0]
 refine tk1 7 16 (.pointer (some ⟨b + 1, 1, none⟩)) rfl (Or.inl ⟨by rfl, fun w' hw => by go_simp⟩) hHeld ?_
 try simp only [Act.put, sA0, sB0, sC0]
 refine tk1 8 17 (.int .u64 (y')) rfl (Or.inl ⟨by rfl, fun w' hw => by (obtain ⟨s1, s2, s3, s4, s5⟩ := hw; go_simp)⟩) hHeld ?_
 try simp only [Act.put, sA0, sB0, sC0]
 refine tk1 9 18 (.pointer (some ⟨b, 1, none⟩)) rfl (Or.inl ⟨by rfl, fun w' hw => by go_simp⟩) hHeld ?_
 try simp only [Act.put, sA0, sB0, sC0]
 refine tk1 10 19 (.int .u64 (y)) rfl (Or.inl ⟨by rfl, fun w' hw => by (obtain ⟨s1, s2, s3, s4, s5⟩ := hw; go_simp)⟩) hHeld ?_
 try simp only [Act.put, sA0, sB0, sC0]
 refine one_ready 5 rfl (by kernel_rfl) (fun K hK => ?_)
 go_simp
 refine (pick_any _ _ _ _).mono ?_
 rintro e9 w9 ⟨rfl, hw9⟩
 rw [← hw9]
 refine hK.out _ _ hHeld (fun hHeld => ?_)
 clear hK K hw9 w9
 try simp only [Act.put, sA0, sB0, sC0]
 refine one_ready 11 rfl (by kernel_rfl) (fun K hK => ?_)
 go_simp
 refine (pick_any _ _ _ _).mono ?_
 rintro e9 w9 ⟨rfl, hw9⟩
 rw [← hw9]
 refine hK.out _ _ hHeld (fun hHeld => ?_)
 clear hK K hw9 w9
 try simp only [Act.put, sA0, sB0, sC0]
 refine tk1 12 21 (.agg #[.int .u64 (pk (msk (decide (x = 0))) x' x), .int .u64 (pk (msk (decide (x = 0))) y' y)]) rfl (Or.inl ⟨by rfl, fun w' hw => by go_simp⟩) hHeld ?_
 try simp only [Act.put, sA0, sB0, sC0]
 refine one_ready 13 (o := ⟨none, _, _, _, _, _⟩) rfl (by kernel_rfl) (fun K hK => ?_)
 have s2 := HB2.out.cell 0
 have s3 := HB2.out.cell 1
 have s4 := HB2.out.frozen 0
 have s5 := HB2.out.frozen 1
 simp at s2 s3
 go_simp
 refine hK.out _ _ ?_ (fun hHeld => ?_)
 ·obtain ⟨q1, q2, q3, q4, q5⟩ := hHeld
  exact ⟨by go_simp, by go_simp, by go_simp, by go_simp, trivial⟩
 clear hK K
 try simp only [Act.put, sA0, sB0, sC0]
 refine wpAnyH_done (by kernel_rfl) ?_ _
 clear hHeld
 have hV := (HB2.out.put 0 (.int .u64 (pk (msk (decide (x = 0))) x' x))).put 1 (.int .u64 (pk (msk (decide (x = 0))) y' y))
 have HV := Lib.hid hV
 clear hV
 go_wp2_with fail
 refine bodyPost_ret (v := .agg #[.int .u64 (pk (msk (decide (x = 0))) x' x), .int .u64 (pk (msk (decide (x = 0))) y' y)]) (results_one Tryz.results115 rfl (load_box HV.out Tryz.underlying175 rfl (by kernel_rfl))) rfl ?_
 refine ⟨?_, (HO.out.setCell (p := ⟨b + 2, 0, none⟩) (.inr HBw.out) _).setCell (p := ⟨b + 2, 1, none⟩) (.inr HBw.out) _⟩
 exact HR.out
def tkN (nw : Nat) (z : Nat → Int) (u N : Nat) : Nt := ((((told nw z u).toNat % N + 1 : Nat) : Int), (u : Int))
theorem told_rng {nw : Nat} {z : Nat → Int} (hz : ∀ j, j < nw → 0 ≤ z j ∧ z j ≤ 18446744073709551615) (u : Nat) : 0 ≤ told nw z u ∧ told nw z u ≤ 18446744073709551615 := by
 unfold told
 split
 ·exact hz u (by assumption)
 ·omega
theorem tkN_wd {nw : Nat} {z : Nat → Int} {u N : Nat} (h0 : 0 < N) (h1 : N ≤ 1024) (hu : u ≤ 2000000000) : WN (tkN nw z u N) := by
 have := Nat.mod_lt (told nw z u).toNat h0
 unfold WN tkN
 dsimp only
 omega
set_option linter.unusedSimpArgs false in
set_option maxHeartbeats 1000000 in
theorem take_any (sp tp tg nw u N : Nat) (z : Nat → Int) (cs : Array Value) (w : World) (h0 : 0 < N) (h1 : N ≤ 1024) (hu : u ≤ 2000000000) (hz : ∀ j, j < nw → 0 ≤ z j ∧ z j ≤ 18446744073709551615)
  (hB : Box w sp 170 cs) (hc : cs[1]? = some (.pointer (some ⟨tp, 0, none⟩))) (hT : Tp w tp tg nw z u) :
  Calls Tryz.prog 150 #[.pointer (some ⟨sp, 0, none⟩), .int .i64 (N : Int)] w fun r w' => r = .returned (.agg (ntA (tkN nw z u N))) ∧ Only (just tp) w w' ∧ Tp w' tp tg nw z (u + 1) := by
 have hr := told_rng hz u
 have HT := Lib.hid (fun W (h : Tp W tp tg nw z u) => tape_next tp tg nw z u W (by omega) h)
 have c1 : w.cell? ⟨sp, 1, none⟩ = some (.pointer (some ⟨tp, 0, none⟩)) := (hB.cell 1).trans hc
 have HR : Hid ((.agg (ntA (tkN nw z u N)) : Value) = .agg #[.int .u64 (told nw z u % (N : Int) + 1), .int .u64 (u : Int)]) := Lib.hid (by
  unfold ntA tkN
  dsimp only
  have e : (((told nw z u).toNat % N + 1 : Nat) : Int) = told nw z u % (N : Int) + 1 := by
   obtain ⟨t, ht⟩ := Int.eq_ofNat_of_zero_le hr.1
   rw [ht, Int.toNat_natCast, Int.natCast_add, Int.natCast_emod]
   rfl
  rw [e])
 have hm0 := Int.emod_nonneg (told nw z u) (show (N : Int) ≠ 0 by omega)
 have hm1 := Int.emod_lt_of_pos (told nw z u) (show (0 : Int) < N by omega)
 rw [HR.out]
 generalize hx : told nw z u = x at *
 have htb := hT.box.lt
 obtain ⟨b, hb⟩ : ∃ b, w.heap.size = b := ⟨_, rfl⟩
 have hT1 := HT.out (w.alloc (.cells #[.int .u64 0, .int .u64 0] 175)) (hT.only ((Only.refl nobody w).alloc _) (not_nobody _) (not_nobody _))
 have hB1 := Box.new w 175 #[.int .u64 0, .int .u64 0]
 rw [hb] at hB1 htb
 have hO : Only (just tp) w (w.alloc (.cells #[.int .u64 0, .int .u64 0] 175)) := (Only.refl _ w).alloc _
 have hsz : (w.alloc (.cells #[.int .u64 0, .int .u64 0] 175)).heap.size = b + 1 := by rw [World.size_alloc, hb]
 have cc : (w.alloc (.cells #[.int .u64 0, .int .u64 0] 175)).cell? ⟨sp, 1, none⟩ = some (.pointer (some ⟨tp, 0, none⟩)) := ((hB.alloc _).cell 1).trans hc
 have HBb := Lib.hid hb
 have HBw : Hid (w.heap.size ≤ b) := Lib.hid (by omega)
 clear hT hB hb c1
 go_enter Tryz.func150, Tryz.ntmps150
 go_upto_region 1 with fail
 rw [HBb.out]
 generalize w.alloc (.cells #[.int .u64 0, .int .u64 0] 175) = w1 at *
 go_wp2_with fail
 refine hT1.mono ?_
 rintro e w2 ⟨rfl, ho, hs, hT2⟩
 rw [hx]
 have hB2 := hB1.only ho (just_ne (by omega))
 have q0 := hB2.cell 0
 have q1 := hB2.cell 1
 have q2 := hB2.frozen 0
 have q3 := hB2.frozen 1
 simp at q0 q1
 have HO2 := Lib.hid (hO.trans ho)
 have HT2 := Lib.hid hT2
 clear hT1 hB1 hO cc ho hT2 HT
 have hV := ((hB2.put 0 (.int .u64 (x % (N : Int) + 1))).put 1 (.int .u64 (u : Int)))
 have HV := Lib.hid hV
 clear hV
 go_wp2_with fail
 refine bodyPost_ret (v := .agg #[.int .u64 (x % (N : Int) + 1), .int .u64 (u : Int)]) (results_one Tryz.results150 rfl (load_box HV.out Tryz.underlying175 rfl (by kernel_rfl))) rfl ?_
 refine ⟨rfl, (HO2.out.setCell (p := ⟨b, 0, none⟩) (.inr HBw.out) _).setCell (p := ⟨b, 1, none⟩) (.inr HBw.out) _, ?_⟩
 have hne : tp ≠ b := by omega
 have hg : tg ≠ b := by
  have := HT2.out.row
  intro e
  rw [e] at this
  exact (hB2.row_ne this (by decide)) rfl
 exact ⟨(HT2.out.box.far (a := ⟨b, 0, none⟩) hne _).far (a := ⟨b, 1, none⟩) hne _, (HT2.out.row.setOther (a := ⟨b, 0, none⟩) hg _).setOther (a := ⟨b, 1, none⟩) hg _⟩
end Go.Proofs.YtknnebhjldfkhaaGreat


namespace Go.Proofs.YtknnebhjldfkhaaGreat
set_option maxRecDepth 100000
open Go.RowKit Go.ChangeShapes Go.WideShapes Go.ChangeAt

theorem size_nat {M : MS} {r : Nat} (h : r < M.k) : M.size (r : Int) = M.sz r := by
 unfold MS.size
 rw [if_pos ⟨by omega, by omega⟩, Int.toNat_natCast]
def tpC (e : Nt) : Nat → Int := fun i => if i = 0 then e.1 else if i = 1 then e.2 else 0
theorem tpC_wd {e : Nt} (h : WN e) : Wd (tpC e) := fun i => by
 obtain ⟨h1, h2⟩ := h
 unfold tpC
 split
 ·exact h1
 ·split
  ·exact h2
  ·omega
def SG.see (g : SG) (c : SC) : SG := { g with M := g.M.looked c.f (c.N (c.n - 1)) }
def SG.note (g : SG) (c : SC) (at' : Nat) (e : Nt) : SG := { g with M := g.M.anew c.f at' (tpC e) true (c.N (c.n - 1)) }
section
variable {c : SC} {a : SA} {G0 : Nat → Prop} {w0 w w' : World} {L : Nat → Prop} {g : SG} {k : Nat}
theorem SC.N_le (hc : c.Ok) (h : Nat) : 0 < c.N h ∧ c.N h ≤ 1024 := ⟨blN_pos _ _, blN_le _ _ hc.b10⟩
theorem Sto.get (hc : c.Ok) (h : Sto c a G0 w0 L g k w) {j : Nat} (hj : j < c.N (c.n - 1)) (hk : k < 20000) :
  Calls Tryz.prog 152 #[.pointer (some ⟨a.mp, 0, none⟩), .int .i64 (c.f : Int), .int .u64 (j : Int)] w fun e w' =>
   e = .returned (.agg (CA (g.M.c c.f j))) ∧ Sto c a G0 w0 L (g.see c) (k + 1) w' ∧ Kept L w w' := by
 obtain ⟨ga, gc, G, h1, h2, h3, h4⟩ := h
 have hN := SC.N_le hc (c.n - 1)
 have hsz : g.M.size (c.f : Int) = c.N (c.n - 1) := by rw [size_nat h1.top.1, h1.top.2]
 have hwd : g.M.wd := (h1.lvm 0 (by have := hc.n1; omega)).wd
 have hes := h1.es
 refine (sc_get_any (Xo c a ga G w) a.mp g.M (c.f : Int) (j : Int) w h1.own hwd (by omega) (by omega) (by rw [hsz]; omega)).mono ?_
 rintro e w' ⟨rfl, hO, hK⟩
 rw [hsz, Int.toNat_natCast] at hO
 rw [hsz, Int.toNat_natCast, show gotC (j : Int) (g.M.c c.f) (c.N (c.n - 1)) = g.M.c c.f j by unfold gotC; rw [if_pos (by omega)]; rfl]
 obtain ⟨r1, r2⟩ := h1.memo (M' := g.M.looked c.f (c.N (c.n - 1))) hO hK rfl rfl (fun i hi => by
   have q := h1.lvm i hi
   exact ⟨q.hk, q.s0, q.s1, q.s2, q.wd, by rw [looked_len]; omega⟩) (fun i hi => h1.wk i hi) (by rw [looked_len]; omega)
 obtain ⟨r3, r4⟩ := Sto.opened h2 h3 h4 r1 r2
 exact ⟨rfl, r3, r4⟩
theorem Sto.put (hc : c.Ok) (h : Sto c a G0 w0 L g k w) {j : Nat} (hj : j < c.N (c.n - 1)) (e : Nt) (he : WN e) (hk : k < 20000) :
  Calls Tryz.prog 153 #[.pointer (some ⟨a.mp, 0, none⟩), .int .i64 (c.f : Int), .int .u64 (j : Int), .agg (CA (tpC e)), .int .u64 18446744073709551615] w fun r w' =>
   r = .returned (.tuple #[]) ∧ Sto c a G0 w0 L (g.note c j e) (k + 1) w' ∧ Kept L w w' := by
 obtain ⟨ga, gc, G, h1, h2, h3, h4⟩ := h
 have hN := SC.N_le hc (c.n - 1)
 have hsz : g.M.size (c.f : Int) = c.N (c.n - 1) := by rw [size_nat h1.top.1, h1.top.2]
 have hwd : g.M.wd := (h1.lvm 0 (by have := hc.n1; omega)).wd
 have hes := h1.es
 refine (sc_put_any (Xo c a ga G w) a.mp g.M (c.f : Int) (j : Int) (tpC e) true w h1.own hwd (tpC_wd he) (by omega) (by omega) (by rw [hsz]; omega)).mono ?_
 rintro r w' ⟨rfl, hO, hK⟩
 rw [hsz, Int.toNat_natCast, Int.toNat_natCast] at hO
 obtain ⟨r1, r2⟩ := h1.memo (M' := g.M.anew c.f j (tpC e) true (c.N (c.n - 1))) hO hK rfl rfl (fun i hi => by
   have q := h1.lvm i hi
   refine ⟨q.hk, q.s0, q.s1, q.s2, fun r' a' j' => ?_, by rw [anew_len]; omega⟩
   show 0 ≤ (if _ then _ else _ : Nat → Int) j' ∧ (if _ then _ else _ : Nat → Int) j' ≤ _
   split
   ·exact tpC_wd he j'
   ·exact hwd r' a' j') (fun i hi q hq => by
   have e2 : cellsE (c.r i) (g.M.anew c.f j (tpC e) true (c.N (c.n - 1))).c q = cellsE (c.r i) g.M.c q := by
    show (if _ then _ else _ : Nat → Int) = _
    rw [if_neg (by have : c.r i = c.f + 1 + 3 * i := rfl; omega)]
    rfl
   rw [e2]
   exact h1.wk i hi q hq) (by rw [anew_len]; omega)
 obtain ⟨r3, r4⟩ := Sto.opened h2 h3 h4 r1 r2
 exact ⟨rfl, r3, r4⟩
theorem SC.last (hc : c.Ok) (w : World) : Calls Tryz.prog 113 #[.agg #[.int .i64 c.B, .int .i64 (c.S : Int), .int .i64 (c.T : Int), .int .i64 (c.n : Int)]] w fun e w' => e = .returned (.int .i64 ((c.n - 1 : Nat) : Int)) ∧ w' = w.alloc (.cells #[.int .i64 c.B, .int .i64 (c.S : Int), .int .i64 (c.T : Int), .int .i64 (c.n : Int)] 79) := by
 have e : ((c.n - 1 : Nat) : Int) = (c.n : Int) - 1 := by have := hc.n1; omega
 rw [e]
 exact last_of _ _ _ _ _ (by have := hc.n4; omega)
end
def SG.top (g : SG) (c : SC) (id : Nat) (e : Nt) : SG := (g.see c).note c (id / 4 ^ (c.n - 1)) e
def topN (g : SG) (c : SC) (id : Nat) : Nt := (g.M.c c.f (id / 4 ^ (c.n - 1)) 0, g.M.c c.f (id / 4 ^ (c.n - 1)) 1)
structure TpE (c : SC) (a : SA) (G0 : Nat → Prop) (w0 : World) (b : Nat) (e : Nt) (g : SG) (k : Nat) (L : Nat → Prop) (w : World) : Prop where
 sto : Sto c a G0 w0 L g k w
 xb : Box w b 175 (ntA e)
 xr : Box w (b + 1) 175 #[.int .u64 0, .int .u64 0]
 l0 : L b
 l1 : L (b + 1)
 lt : w0.heap.size ≤ b
section
variable {c : SC} {a : SA} {G0 : Nat → Prop} {w0 w w' : World} {L L' : Nat → Prop} {g g' : SG} {k k' b : Nat} {e : Nt}
theorem TpE.nob (h : TpE c a G0 w0 b e g k L w) (ho : Only nobody w w') : TpE c a G0 w0 b e g k L w' := ⟨h.sto.nob' ho, h.xb.only ho (not_nobody _), h.xr.only ho (not_nobody _), h.l0, h.l1, h.lt⟩
theorem TpE.go (h : TpE c a G0 w0 b e g k L w) (hs : Sto c a G0 w0 L g' k' w') (hk : Kept L w w') : TpE c a G0 w0 b e g' k' L w' := ⟨hs, hk.box h.xb h.l0, hk.box h.xr h.l1, h.l0, h.l1, h.lt⟩
end
set_option linter.unusedSimpArgs false in
set_option maxHeartbeats 2000000 in
theorem Sto.top {c : SC} {a : SA} {G0 : Nat → Prop} {w0 w : World} {L : Nat → Prop} {g : SG} {k : Nat} (hc : c.Ok) (h : Sto c a G0 w0 L g k w) (id : Nat) (hid : id < 2 ^ c.b) (e : Nt) (he : WN e) (hk : k < 19990) :
  Calls Tryz.prog 112 #[.pointer (some ⟨a.sp, 0, none⟩), .int .u64 (id : Int), .agg (ntA e)] w fun r w' => r = .returned (.agg (ntA (topN g c id))) ∧ Sto c a G0 w0 L (g.top c id e) (k + 2) w' ∧ Kept L w w' := by
 obtain ⟨b, hb⟩ : ∃ b, w.heap.size = b := ⟨_, rfl⟩
 have hat := meant_lt (c.n - 1) hid
 have hidb : (id : Int) ≤ 18446744073709551615 := by
  have := blN_le c.b 0 hc.b10
  unfold blN at this
  simp at this
  omega
 have hat' : id / 4 ^ (c.n - 1) < c.N (c.n - 1) := hat
 have h0s : w0.heap.size ≤ w.heap.size := h.only0.size
 obtain ⟨w1, hw1⟩ : ∃ x, (w.alloc (.cells (ntA e) 175)).alloc (.cells #[.int .u64 0, .int .u64 0] 175) = x := ⟨_, rfl⟩
 have hO1 : Only nobody w w1 := by rw [← hw1]; exact ((Only.refl _ w).alloc _).alloc _
 have hsz1 : w1.heap.size = b + 2 := by rw [← hw1, World.size_alloc, World.size_alloc, hb]
 have hE : TpE c a G0 w0 b e g k (fun i => L i ∨ i = b ∨ i = b + 1) w1 := by
  refine ⟨(h.nob hO1).less (fun i hi => hi.imp (fun h => h) (fun hi => by omega)), ?_, ?_, .inr (.inl rfl), .inr (.inr rfl), by omega⟩
  ·rw [← hw1, ← hb]; exact (Box.new w _ _).alloc _
  ·have := Box.new (w.alloc (.cells (ntA e) 175)) 175 #[.int .u64 0, .int .u64 0]
   rw [World.size_alloc, hb, hw1] at this
   exact this
 have HK : Hid (Kept L w w1) := Lib.hid (Kept.of_none hO1)
 have HLb := Lib.hid (fun i hi => h.ltL (i := i) hi)
 have HMe := Lib.hid (fun W => meant_any id (c.n - 1) W (by omega) (by have := hc.n4; omega))
 have HLa := Lib.hid (fun W => SC.last hc W)
 have HGt := Lib.hid (fun (g : SG) (k : Nat) (L : Nat → Prop) (W : World) (h : Sto c a G0 w0 L g k W) (hk : k < 20000) => h.get hc hat' hk)
 have HPt := Lib.hid (fun (g : SG) (k : Nat) (L : Nat → Prop) (W : World) (h : Sto c a G0 w0 L g k W) (hk : k < 20000) => h.put hc hat' e he hk)
 have HW := Lib.hid hw1
 have HBb := Lib.hid hb
 obtain ⟨m, hm⟩ : ∃ m, id / 4 ^ (c.n - 1) = m := ⟨_, rfl⟩
 have HM := Lib.hid hm
 rw [hm] at HMe HGt HPt
 clear h hw1 hb hat hat' hO1 hm
 go_enter Tryz.func112, Tryz.ntmps112
 go_upto_region 1 with fail
 rw [HBb.out]
 simp only [HW.out]
 refine held_s (S := (fun u => TpE c a G0 w0 b e g k (fun i => L i ∨ i = b ∨ i = b + 1) u)) 15 rfl (by kernel_rfl) (hE.nob ((Only.refl nobody w1).drew)) (fun hHeld => ?_)
 simp only [qA0, qB0, qC0, List.nil_append, List.cons_append]
 have HK := Lib.hid (HK.out.trans (Kept.of_none (Only.refl nobody w1).drew))
 clear hE
 generalize w1.drew = w2 at *
 refine tk1 0 10 (.pointer (some ⟨a.sp, 0, none⟩)) rfl (Or.inl ⟨by rfl, fun w' hw => by go_simp⟩) hHeld ?_
 try simp only [Act.put, sA0, sB0, sC0]
 refine tk1 1 11 (.pointer (some ⟨a.sp, 0, none⟩)) rfl (Or.inl ⟨by rfl, fun w' hw => by go_simp⟩) hHeld ?_
 try simp only [Act.put, sA0, sB0, sC0]
 refine tk1 2 12 (.pointer (some ⟨a.sp, 2, none⟩)) rfl (Or.inl ⟨by rfl, fun w' hw => by go_simp⟩) hHeld ?_
 try simp only [Act.put, sA0, sB0, sC0]
 refine tk1 3 13 (.agg #[.int .i64 (c.f : Int), .int .i64 c.B, .int .i64 (c.S : Int), .int .i64 (c.T : Int), .int .i64 (c.n : Int)]) rfl (Or.inl ⟨by rfl, fun w' hw => by (have k0 := hw.sto.c0; have k2 := hw.sto.c2; have k3 := hw.sto.c3; have k4 := hw.sto.c4; have k5 := hw.sto.c5; have k6 := hw.sto.c6; go_simp)⟩) hHeld ?_
 try simp only [Act.put, sA0, sB0, sC0]
 refine tk1 5 15 (.int .u64 (id : Int)) rfl (Or.inl ⟨by rfl, fun w' hw => by go_simp⟩) hHeld ?_
 try simp only [Act.put, sA0, sB0, sC0]
 refine tk1 6 16 (.pointer (some ⟨a.sp, 0, none⟩)) rfl (Or.inl ⟨by rfl, fun w' hw => by go_simp⟩) hHeld ?_
 try simp only [Act.put, sA0, sB0, sC0]
 refine tk1 7 17 (.pointer (some ⟨a.sp, 0, none⟩)) rfl (Or.inl ⟨by rfl, fun w' hw => by go_simp⟩) hHeld ?_
 try simp only [Act.put, sA0, sB0, sC0]
 refine tk1 8 18 (.pointer (some ⟨a.sp, 2, none⟩)) rfl (Or.inl ⟨by rfl, fun w' hw => by go_simp⟩) hHeld ?_
 try simp only [Act.put, sA0, sB0, sC0]
 refine tk1 9 19 (.pointer (some ⟨a.sp, 3, none⟩)) rfl (Or.inl ⟨by rfl, fun w' hw => by go_simp⟩) hHeld ?_
 try simp only [Act.put, sA0, sB0, sC0]
 refine tk1 10 20 (.agg #[.int .i64 c.B, .int .i64 (c.S : Int), .int .i64 (c.T : Int), .int .i64 (c.n : Int)]) rfl (Or.inl ⟨by rfl, fun w' hw => by (have k0 := hw.sto.c0; have k2 := hw.sto.c2; have k3 := hw.sto.c3; have k4 := hw.sto.c4; have k5 := hw.sto.c5; have k6 := hw.sto.c6; go_simp)⟩) hHeld ?_
 try simp only [Act.put, sA0, sB0, sC0]
 refine one_ready 4 rfl (by kernel_rfl) (fun K hK => ?_)
 go_simp
 refine (plan_top (c.f : Int) c.B (c.S : Int) (c.T : Int) (c.n : Int) w2).mono ?_
 rintro r9 w9 ⟨rfl, rfl⟩
 have ho : Only nobody w2 _ := (Only.refl nobody w2).alloc (.cells #[.int .i64 (c.f : Int), .int .i64 c.B, .int .i64 (c.S : Int), .int .i64 (c.T : Int), .int .i64 (c.n : Int)] 166)
 refine hK.out _ _ (hHeld.nob ho) (fun hHeld => ?_)
 have HK := Lib.hid (HK.out.trans (Kept.of_none ho))
 clear hK K ho
 generalize w2.alloc _ = w3 at *
 try simp only [Act.put, sA0, sB0, sC0]
 refine one_ready 11 rfl (by kernel_rfl) (fun K hK => ?_)
 go_simp
 refine (HLa.out w3).mono ?_
 rintro r9 w9 ⟨rfl, rfl⟩
 have ho : Only nobody w3 _ := (Only.refl nobody w3).alloc (.cells #[.int .i64 c.B, .int .i64 (c.S : Int), .int .i64 (c.T : Int), .int .i64 (c.n : Int)] 79)
 refine hK.out _ _ (hHeld.nob ho) (fun hHeld => ?_)
 have HK := Lib.hid (HK.out.trans (Kept.of_none ho))
 clear hK K ho
 generalize w3.alloc _ = w4 at *
 try simp only [Act.put, sA0, sB0, sC0]
 refine one_ready 12 rfl (by kernel_rfl) (fun K hK => ?_)
 go_simp
 refine (HMe.out _).mono ?_
 rintro r9 w9 ⟨rfl, hw9⟩
 rw [hw9]
 refine hK.out _ _ hHeld (fun hHeld => ?_)
 clear hK K hw9 w9
 try simp only [Act.put, sA0, sB0, sC0]
 refine tk1 13 7 (.int .i64 (c.f : Int)) rfl (Or.inl ⟨by rfl, fun w' hw => by go_simp⟩) hHeld ?_
 try simp only [Act.put, sA0, sB0, sC0]
 refine tk1 14 8 (.int .u64 (m : Int)) rfl (Or.inl ⟨by rfl, fun w' hw => by go_simp⟩) hHeld ?_
 try simp only [Act.put, sA0, sB0, sC0]
 refine wpAnyH_done (by kernel_rfl) ?_ _
 have hE := hHeld
 have s0 := hE.sto.c0
 clear hHeld HMe HLa
 obtain ⟨F, hF⟩ : ∃ F, g.M.c c.f m = F := ⟨_, rfl⟩
 have HG2 := Lib.hid (HGt.out g k)
 rw [hF] at HG2
 go_wp2_with fail
 refine (HG2.out _ _ hE.sto (by omega)).mono ?_
 rintro r9 w6 ⟨rfl, hS6, hK6⟩
 have hE6 := hE.go hS6 hK6
 have HK := Lib.hid (HK.out.trans (hK6.mono (fun i hi => .inl hi)))
 clear hE hS6 hK6 s0
 go_upto_region 3 with (refine wpList_store_new rfl (.tmp 9) (.tmp 29) rfl rfl _ rfl rfl ?_)
 obtain ⟨cb, hcb⟩ : ∃ x, w6.heap.size = x := ⟨_, rfl⟩
 have hV := Var.new w6 F 64
 have ho7 : Only nobody w6 (w6.alloc (.cells (CA F) 64)) := (Only.refl _ _).alloc _
 have hE7 : TpE c a G0 w0 b e (g.see c) (k + 1) (fun i => (L i ∨ i = b ∨ i = b + 1) ∨ i = cb) (w6.alloc (.cells (CA F) 64)) := by
  have q := hE6.nob ho7
  exact ⟨(hE6.sto.nob ho7).less (fun i hi => hi.imp (fun h => h) (fun e => by rw [World.size_alloc]; omega)), q.xb, q.xr, .inl q.l0, .inl q.l1, q.lt⟩
 have HK := Lib.hid (HK.out.trans (Kept.of_none ho7))
 have hbc : b + 1 < cb := by rw [← hcb]; exact hE6.xr.lt
 rw [hcb] at hV ⊢
 clear ho7 hE6 hcb
 generalize w6.alloc (.cells (CA F) 64) = w7 at *
 have hE8 := hE7.nob ((Only.refl nobody w7).drew)
 refine held_s (S := fun u => u.cell? ⟨a.sp, 0, none⟩ = some (.pointer (some ⟨a.mp, 0, none⟩)) ∧ Box u b 175 (ntA e)) 12 rfl (by kernel_rfl) ⟨hE8.sto.c0, hE8.xb⟩ (fun hHeld => ?_)
 simp only [qA0, qB0, qC0, List.nil_append, List.cons_append]
 have HK := Lib.hid (HK.out.trans (Kept.of_none (Only.refl nobody w7).drew))
 have hV := hV.drew
 clear hE7
 generalize w7.drew = w8 at *
 refine tk1 0 30 (.pointer (some ⟨a.sp, 0, none⟩)) rfl (Or.inl ⟨by rfl, fun w' hw => by go_simp⟩) hHeld ?_
 try simp only [Act.put, sA0, sB0, sC0]
 refine tk1 1 31 (.pointer (some ⟨a.sp, 0, none⟩)) rfl (Or.inl ⟨by rfl, fun w' hw => by go_simp⟩) hHeld ?_
 try simp only [Act.put, sA0, sB0, sC0]
 refine tk1 2 32 (.pointer (some ⟨a.sp, 0, none⟩)) rfl (Or.inl ⟨by rfl, fun w' hw => by go_simp⟩) hHeld ?_
 try simp only [Act.put, sA0, sB0, sC0]
 refine tk1 3 33 (.pointer (some ⟨a.mp, 0, none⟩)) rfl (Or.inl ⟨by rfl, fun w' hw => by (have k0 := hw.1; have k1 := hw.2.cell 0; have k2 := hw.2.cell 1; simp [ntA] at k1 k2; go_simp)⟩) hHeld ?_
 try simp only [Act.put, sA0, sB0, sC0]
 refine tk1 4 34 (.int .i64 (c.f : Int)) rfl (Or.inl ⟨by rfl, fun w' hw => by go_simp⟩) hHeld ?_
 try simp only [Act.put, sA0, sB0, sC0]
 refine tk1 5 35 (.int .u64 (m : Int)) rfl (Or.inl ⟨by rfl, fun w' hw => by go_simp⟩) hHeld ?_
 try simp only [Act.put, sA0, sB0, sC0]
 refine tk1 6 36 (.pointer (some ⟨b, 0, none⟩)) rfl (Or.inl ⟨by rfl, fun w' hw => by go_simp⟩) hHeld ?_
 try simp only [Act.put, sA0, sB0, sC0]
 refine tk1 7 37 (.int .u64 e.1) rfl (Or.inl ⟨by rfl, fun w' hw => by (have k0 := hw.1; have k1 := hw.2.cell 0; have k2 := hw.2.cell 1; simp [ntA] at k1 k2; go_simp)⟩) hHeld ?_
 try simp only [Act.put, sA0, sB0, sC0]
 refine tk1 8 38 (.pointer (some ⟨b, 1, none⟩)) rfl (Or.inl ⟨by rfl, fun w' hw => by go_simp⟩) hHeld ?_
 try simp only [Act.put, sA0, sB0, sC0]
 refine tk1 9 39 (.int .u64 e.2) rfl (Or.inl ⟨by rfl, fun w' hw => by (have k0 := hw.1; have k1 := hw.2.cell 0; have k2 := hw.2.cell 1; simp [ntA] at k1 k2; go_simp)⟩) hHeld ?_
 try simp only [Act.put, sA0, sB0, sC0]
 refine tk1 10 40 (.agg #[.int .u64 e.1, .int .u64 e.2, .int .u64 0, .int .u64 0, .int .u64 0, .int .u64 0, .int .u64 0, .int .u64 0, .int .u64 0, .int .u64 0, .int .u64 0, .int .u64 0]) rfl (Or.inl ⟨by rfl, fun w' hw => by go_simp⟩) hHeld ?_
 try simp only [Act.put, sA0, sB0, sC0]
 refine one_ready 11 rfl (by kernel_rfl) (fun K hK => ?_)
 go_simp
 refine (HPt.out (g.see c) (k + 1) _ w8 hE8.sto (by omega)).mono ?_
 rintro r9 w9 ⟨rfl, hS9, hK9⟩
 have hE9 := hE8.go hS9 hK9
 have hV9 := hV.kept hK9 (.inr rfl)
 have HK := Lib.hid (HK.out.trans (hK9.mono (fun i hi => .inl (.inl hi))))
 clear hS9 hK9 hV hE8
 refine hK.out _ _ ⟨hE9.sto.c0, hE9.xb⟩ (fun hHeld => ?_)
 clear hK K
 try simp only [Act.put, sA0, sB0, sC0]
 refine wpAnyH_done (by kernel_rfl) ?_ _
 clear hHeld
 have v0 := hV9.cell (κ := 0) (by decide)
 have v1 := hV9.cell (κ := 1) (by decide)
 have q0 := hE9.xr.cell 0
 have q1 := hE9.xr.cell 1
 have q2 := hE9.xr.frozen 0
 have q3 := hE9.xr.frozen 1
 simp at q0 q1
 have HV := Lib.hid ((hE9.xr.put 0 (.int .u64 (F 0))).put 1 (.int .u64 (F 1)))
 have HS := Lib.hid (hE9.sto)
 have HL := Lib.hid hE9.lt

 have HFF := Lib.hid hF
 clear hE9 hV9 hF
 go_wp2_with fail
 refine bodyPost_ret (v := .agg #[.int .u64 (F 0), .int .u64 (F 1)]) (results_one Tryz.results112 rfl (load_box HV.out Tryz.underlying175 rfl (by kernel_rfl))) rfl ?_
 have ho : Only (just (b + 1)) w9 ((w9.setCell ⟨b + 1, 0, none⟩ (.int .u64 (F 0))).setCell ⟨b + 1, 1, none⟩ (.int .u64 (F 1))) := ((Only.refl _ w9).setCell (p := ⟨b + 1, 0, none⟩) (.inl (just_self _)) _).setCell (p := ⟨b + 1, 1, none⟩) (.inl (just_self _)) _
 refine ⟨?_, ?_, HK.out.trans (ho.mono (fun i _ hi hl => ?_))⟩
 ·unfold topN
  rw [HM.out, HFF.out]
  rfl
 ·unfold SG.top
  rw [HM.out]
  exact (HS.out.far ho (fun i hi => by rw [show i = b + 1 from hi]; exact .inl (.inr (.inr rfl))) (fun i hi => by rw [show i = b + 1 from hi]; exact Nat.le_succ_of_le HL.out)).less (fun i hi => .inl (.inl hi))
 ·have := HLb.out i hl
  have e2 : i = b + 1 := hi
  have := HBb.out
  omega
end Go.Proofs.YtknnebhjldfkhaaGreat


namespace Go.Proofs.YtknnebhjldfkhaaGreat
set_option maxRecDepth 100000
open Go.RowKit Go.ChangeShapes Go.WideShapes Go.ChangeAt Go.Maps

theorem new_row (W : World) (t : TypeId) (l : List Value) {b : Nat} (hb : b = W.heap.size) : ∀ j u, l[j]? = some u → (W.alloc (.cells l.toArray t)).cell? ((⟨b, 0, none⟩ : Addr).add j) = some u := by
 subst hb
 intro j u h
 have hb := Box.new W t l.toArray
 have := hb.cell j
 rw [add_plain, Nat.zero_add, this, List.getElem?_toArray]
 exact h
theorem infoLvp : (Tryz.prog.info? 28).map (fun i => (i.zero, i.size, i.bytes)) = some (some (.pointer none), 1, 8) := by kernel_rfl
def ptL (lp : Nat → Nat) (k : Nat) : List Value := (List.range k).map fun j => .pointer (some ⟨lp j, 0, none⟩)
theorem ptL_at (lp : Nat → Nat) {k j : Nat} (h : j < k) : (ptL lp k)[j]? = some (.pointer (some ⟨lp j, 0, none⟩)) := by simp [ptL, h]
def updP (f : Nat → Nat) (k v : Nat) : Nat → Nat := fun j => if j = k then v else f j
theorem ptL_next (lp : Nat → Nat) (k v : Nat) : ptL (updP lp k v) (k + 1) = ptL lp k ++ [.pointer (some ⟨v, 0, none⟩)] := by
 unfold ptL
 rw [List.range_succ, List.map_append]
 congr 1
 ·refine List.map_congr_left fun j hj => ?_
  have := List.mem_range.1 hj
  unfold updP
  rw [if_neg (by omega)]
 ·simp [updP]
structure NwL (c : SC) (mp h l b : Nat) (B : Nat) (w : World) : Prop where
 lB : B ≤ l
 bB : B ≤ b
 box : Box w l 127 (LvA mp (c.r h) (c.N h) c.S c.T false (some b))
 map : w.ownsMap Tryz.prog 43 unitElem b 0 (setOf (.agg []) [] : DataW Unit)
structure NwA (c : SC) (bc bp : Nat) (w wr : World) : Prop where
 on : Only nobody w wr
 xc : Box wr bc 79 #[.int .i64 c.B, .int .i64 (c.S : Int), .int .i64 (c.T : Int), .int .i64 (c.n : Int)]
 xp : Box wr bp 166 #[.int .i64 (c.f : Int), .int .i64 c.B, .int .i64 (c.S : Int), .int .i64 (c.T : Int), .int .i64 (c.n : Int)]
structure NwAt (c : SC) (mp tp sp bc bp : Nat) (w : World) (k : Nat) (A : Option Addr) (cap : Nat) (lp bm : Nat → Nat) (wr : World) : Prop where
 on : Only nobody w wr
 xc : Box wr bc 79 #[.int .i64 c.B, .int .i64 (c.S : Int), .int .i64 (c.T : Int), .int .i64 (c.n : Int)]
 xp : Box wr bp 166 #[.int .i64 (c.f : Int), .int .i64 c.B, .int .i64 (c.S : Int), .int .i64 (c.T : Int), .int .i64 (c.n : Int)]
 xs : Box wr sp 170 #[.pointer (some ⟨mp, 0, none⟩), .pointer (some ⟨tp, 0, none⟩), .int .i64 (c.f : Int), .int .i64 c.B, .int .i64 (c.S : Int), .int .i64 (c.T : Int), .int .i64 (c.n : Int), .slice A k cap, .slice none 0 0]
 ws : w.heap.size ≤ sp
 row : wr.ownsRow w.heap.size 28 1 (.slice A k cap) k (ptL lp k)
 lev : ∀ h, h < k → NwL c mp h (lp h) (bm h) w.heap.size wr
 lpI : ∀ h h', h < k → h' < k → lp h = lp h' → h = h'
 bmI : ∀ h h', h < k → h' < k → bm h = bm h' → h = h'
theorem NwA.nob {c : SC} {bc bp : Nat} {w wr w' : World} (h : NwA c bc bp w wr) (ho : Only nobody wr w') : NwA c bc bp w w' := ⟨h.on.trans ho, h.xc.only ho (not_nobody _), h.xp.only ho (not_nobody _)⟩
section
variable {c : SC} {mp tp sp bc bp k : Nat} {A : Option Addr} {cap : Nat} {lp bm : Nat → Nat} {w wr w' : World}
theorem NwL.only {h l b B : Nat} {Y : Nat → Prop} (q : NwL c mp h l b B w) (ho : Only Y w w') (h1 : ¬ Y l) (h2 : ¬ Y b) : NwL c mp h l b B w' := ⟨q.lB, q.bB, q.box.only ho h1, map_only q.map ho h2⟩
theorem NwAt.nob (h : NwAt c mp tp sp bc bp w k A cap lp bm wr) (ho : Only nobody wr w') : NwAt c mp tp sp bc bp w k A cap lp bm w' :=
 ⟨h.on.trans ho, h.xc.only ho (not_nobody _), h.xp.only ho (not_nobody _), h.xs.only ho (not_nobody _), h.ws, own_block h.row (fun b hb => ho.block b (own_lt h.row hb).2 (not_nobody _)), fun j hj => (h.lev j hj).only ho (not_nobody _) (not_nobody _), h.lpI, h.bmI⟩
theorem NwAt.seven (h : NwAt c mp tp sp bc bp w k A cap lp bm wr) {w1 w8 : World} (h1 : Only nobody wr w1) (hgr : w1.grownBy w8 (Value.slice A k cap).ownBlock) : w8.cell? ⟨sp, 7, none⟩ = some (.slice A k cap) ∧ w8.frozen? ⟨sp, 7, none⟩ = false := by
 have ho1 : Only (fun i => (Value.slice A k cap).ownBlock = some i) wr w8 := (h1.mono (fun i _ hi => absurd hi (not_nobody _))).grown hgr (fun k e => .inl e)
 have hsp8 := h.xs.only ho1 (fun e => by
  obtain ⟨cur, hc⟩ := own_cells h.row e
  exact h.xs.ne hc (by decide) rfl)
 exact ⟨hsp8.cell 7, hsp8.frozen 7⟩
theorem NwAt.lt (h : NwAt c mp tp sp bc bp w k A cap lp bm wr) : ∀ j, j < k → lp j < wr.heap.size ∧ bm j < wr.heap.size := fun j hj => ⟨(h.lev j hj).box.lt, map_lt (h.lev j hj).map⟩
theorem NwAt.next (h : NwAt c mp tp sp bc bp w k A cap lp bm wr) {lp' bm' : Nat} (hL : NwL c mp k lp' bm' w.heap.size wr) (hl : ∀ j, j < k → lp j ≠ lp' ∧ bm j ≠ bm') {w1 w8 : World} {A2 : Option Addr} {cap2 : Nat} (h1 : Only nobody wr w1)
  (hown : w8.ownsRow w.heap.size 28 1 (.slice A2 (k + 1) cap2) (k + 1) (ptL lp k ++ [.pointer (some ⟨lp', 0, none⟩)])) (hgr : w1.grownBy w8 (Value.slice A k cap).ownBlock) :
  NwAt c mp tp sp bc bp w (k + 1) A2 cap2 (updP lp k lp') (updP bm k bm') (w8.setCell ⟨sp, 7, none⟩ (.slice A2 (k + 1) cap2)) := by
 have ho1 : Only (fun i => (Value.slice A k cap).ownBlock = some i) wr w8 := (h1.mono (fun i _ hi => absurd hi (not_nobody _))).grown hgr (fun k e => .inl e)
 have hne : ∀ {p : Nat} {t : TypeId} {cs : Array Value}, Box wr p t cs → t ≠ 28 → ¬ (Value.slice A k cap).ownBlock = some p := fun hb ht e => by
  obtain ⟨cur, hc⟩ := own_cells h.row e
  exact hb.ne hc ht rfl
 have hsp8 := h.xs.only ho1 (hne h.xs (by decide))
 have hw7 : ∀ i, (Value.slice A k cap).ownBlock = some i → w.heap.size ≤ i := fun i hi => (own_lt h.row hi).1
 have ho2 : Only (fun i => (Value.slice A k cap).ownBlock = some i ∨ i = sp) wr (w8.setCell ⟨sp, 7, none⟩ (.slice A2 (k + 1) cap2)) := (ho1.mono (fun i _ hi => .inl hi)).setCell (p := ⟨sp, 7, none⟩) (.inl (.inr rfl)) _
 have hn2 : ∀ {p : Nat} {t : TypeId} {cs : Array Value}, Box wr p t cs → t ≠ 28 → t ≠ 170 → ¬ ((Value.slice A k cap).ownBlock = some p ∨ p = sp) := fun hb ht hs e => e.elim (hne hb ht) (hb.ne h.xs hs)
 have hmn : ∀ {q : Nat}, wr.ownsMap Tryz.prog 43 unitElem q 0 (setOf (.agg []) [] : DataW Unit) → ¬ ((Value.slice A k cap).ownBlock = some q ∨ q = sp) := fun hm e => by
  rcases e with e | e
  ·obtain ⟨cur, hc⟩ := own_cells h.row e
   exact map_ne hm hc rfl
  ·exact map_ne hm h.xs e.symm
 refine ⟨h.on.then ho2 (fun i hi => .inr (hi.elim (hw7 i) (fun e => by rw [e]; exact h.ws))), h.xc.only ho2 (hn2 h.xc (by decide) (by decide)), h.xp.only ho2 (hn2 h.xp (by decide) (by decide)), ?_, h.ws, ?_, fun j hj => ?_, fun j j' hj hj' e => ?_, fun j j' hj hj' e => ?_⟩
 ·have := hsp8.put 7 (.slice A2 (k + 1) cap2)
  simpa using this
 ·rw [ptL_next]
  refine own_block hown (fun b hb' => Below.heap_setCell w8 ⟨sp, 7, none⟩ _ b (fun e => ?_))
  obtain ⟨cur, hc⟩ := own_cells hown hb'
  exact hsp8.ne hc (by decide) e.symm
 ·by_cases e : j = k
  ·subst e
   unfold updP
   rw [if_pos rfl, if_pos rfl]
   exact hL.only ho2 (hn2 hL.box (by decide) (by decide)) (hmn hL.map)
  ·unfold updP
   rw [if_neg e, if_neg e]
   have q := h.lev j (by omega)
   exact q.only ho2 (hn2 q.box (by decide) (by decide)) (hmn q.map)
 ·unfold updP at e
  split at e <;> split at e
  ·omega
  ·next e1 e2 => exact absurd e.symm (hl j' (by omega)).1
  ·next e1 e2 => exact absurd e (hl j (by omega)).1
  ·exact h.lpI j j' (by omega) (by omega) e
 ·unfold updP at e
  split at e <;> split at e
  ·omega
  ·next e1 e2 => exact absurd e.symm (hl j' (by omega)).2
  ·next e1 e2 => exact absurd e (hl j (by omega)).2
  ·exact h.bmI j j' (by omega) (by omega) e
end
set_option linter.unusedSimpArgs false in
set_option linter.unusedSimpArgs false in
set_option maxHeartbeats 4000000 in
theorem snew_of {c : SC} (hc : c.Ok) {M : MS} {mp tp tg nw : Nat} {z : Nat → Int} {X : Nat → Prop} {w0 w : World} (hO : Own w X mp M) (h0 : w0.heap.size ≤ w.heap.size) (hX0 : ∀ i, i < w0.heap.size → X i) (hXt : X tp ∧ X tg) (hT0 : w0.heap.size ≤ tp ∧ w0.heap.size ≤ tg) (hT : Tp w tp tg nw z 0) (hz : ∀ j, j < nw → 0 ≤ z j ∧ z j ≤ 18446744073709551615)
  (hM : ∀ h, h < c.n → LvM M (c.r h) c.S (c.D h) c.T (c.Q h)) (hwk : ∀ h, h < c.n → Wk c.S (c.D h) c.T (cellsE (c.r h) M.c)) (hes : M.es = []) (htop : c.f < M.k ∧ M.sz c.f = c.N (c.n - 1)) :
  Calls Tryz.prog 64 #[.pointer (some ⟨mp, 0, none⟩), .int .i64 (c.f : Int), .agg #[.int .i64 c.B, .int .i64 (c.S : Int), .int .i64 (c.T : Int), .int .i64 (c.n : Int)], .pointer (some ⟨tp, 0, none⟩)] w fun e w' =>
   ∃ a : SA, e = .returned (.tuple #[.pointer (some ⟨a.sp, 0, none⟩), .int .i64 0]) ∧ (a.mp = mp ∧ a.tp = tp) ∧ StoA c a ⟨M, fun _ => false, fun _ => [], nw, z, 0, []⟩ none 0 (fun i => w0.heap.size ≤ i ∧ i < w'.heap.size) 0 w' ∧ Only nobody w w' := by
 have hn4 := hc.n4
 have hn1 := hc.n1
 have hf := hc.f50
 have hcn := hc.conf 0 (by omega)
 have eA : scA c.b (c.S : Int) (c.T : Int) c.n = #[.int .i64 c.B, .int .i64 (c.S : Int), .int .i64 (c.T : Int), .int .i64 (c.n : Int)] := by unfold scA; rw [hc.bB]
 have HR := Lib.hid (fun W => sright_in c.b (c.S : Int) (c.T : Int) c.n W hc.b10 hn1 hn4)
 rw [eA, (isSt_iff _ _).2 ⟨⟨by have := hcn.s1; omega, by have := hcn.s8; omega⟩, by have := hcn.t1; omega, by have := hcn.t64; omega⟩] at HR
 have HTop := Lib.hid (fun W => topcells_any c.b (c.S : Int) (c.T : Int) c.n W hc.b10 hn1 (by omega))
 rw [eA] at HTop
 have HLc := Lib.hid (fun W (h : Nat) (hh : h ≤ 100) => lcfg_any c.b (c.S : Int) (c.T : Int) c.n h W hc.b10 hh)
 rw [eA] at HLc
 have HRg := Lib.hid (fun W (h : Nat) => plan_region c.f h c.B (c.S : Int) (c.T : Int) (c.n : Int) W)
 have hsz : M.size (c.f : Int) = c.N (c.n - 1) := by rw [size_nat htop.1, htop.2]
 have HSz : Hid (∀ W, Only nobody w W → Calls Tryz.prog 104 #[.pointer (some ⟨mp, 0, none⟩), .int .i64 (c.f : Int)] W fun e w' => e = .returned (.int .i64 ((c.N (c.n - 1) : Nat) : Int)) ∧ W = w') := Lib.hid fun W hW => by
  have := own_size _ _ _ _ (c.f : Int) (hO.none hW)
  rw [hsz] at this
  exact this
 have HNw := Lib.hid (fun W (hW : Only nobody w W) (h : Nat) (hh : h < c.n) => lnew_of (H := Unit) (hc.conf h hh) X mp (c.r h) M W (hM h hh) (by unfold SC.r; omega) (hO.none hW))
 have HFin : Hid (∀ (sp bc bp : Nat) (A : Option Addr) (cap : Nat) (lp bm : Nat → Nat) (w' : World), NwAt c mp tp sp bc bp w c.n A cap lp bm w' → ∃ a : SA, (a.sp = sp ∧ a.mp = mp ∧ a.tp = tp) ∧ StoA c a ⟨M, fun _ => false, fun _ => [], nw, z, 0, []⟩ none 0 (fun i => w0.heap.size ≤ i ∧ i < w'.heap.size) 0 w' ∧ Only nobody w w') := Lib.hid (by
  intro sp bc bp A cap lp bm w' h
  obtain ⟨F, hm, hF, hXl⟩ := hO
  have hmp := hm.fp
  have hG : ∀ i, F i → w0.heap.size ≤ i := fun i hi => by
   apply Classical.byContradiction
   intro hn
   exact hF i hi (hX0 i (by omega))
  rcases h.row.2 with ⟨_, e0⟩ | ⟨lg, lc, cur, e0, hlb, hlg, _⟩
  ·omega
  ·injection e0 with e1 e2 e3
   subst e1 e3
   have hs := h.on.size
   have hlr : ∀ j, j < c.n → cur[j]? = some (.pointer (some ⟨lp j, 0, none⟩)) := fun j hj => by
    have q := h.row.cells (g := lg) rfl j _ (ptL_at lp hj)
    rw [add_plain, Nat.zero_add] at q
    have hb : Box w' lg 28 cur := hlg
    exact (hb.cell j).symm.trans q
   have hT' : Tp w' tp tg nw z 0 := hT.only h.on (not_nobody _) (not_nobody _)
   have hlgB : Box w' lg 28 cur := hlg
   have hin : ∀ i, InS c ⟨mp, sp, tp, tg, lg, cap, lp, bm⟩ none i → (X i ∨ (w.heap.size ≤ i ∧ i < w'.heap.size)) ∧ w0.heap.size ≤ i ∧ i < w'.heap.size := fun i hi => by
    rcases hi with e | e | e | e | hi | ⟨j, hj, e | e⟩
    ·have e : i = sp := e
     rw [e]
     have q1 := h.xs.lt
     have q2 := h.ws
     exact ⟨.inr ⟨q2, q1⟩, by omega, q1⟩
    ·have e : i = tp := e
     rw [e]
     exact ⟨.inl hXt.1, hT0.1, hT'.box.lt⟩
    ·have e : i = tg := e
     rw [e]
     exact ⟨.inl hXt.2, hT0.2, hT'.row.lt⟩
    ·have e : i = lg := e
     rw [e]
     exact ⟨.inr ⟨hlb, hlgB.lt⟩, by omega, hlgB.lt⟩
    ·cases hi
    ·have e : i = lp j := e
     rw [e]
     have q := h.lev j hj
     have q1 := q.lB
     exact ⟨.inr ⟨q1, q.box.lt⟩, by omega, q.box.lt⟩
    ·have e : i = bm j := e
     rw [e]
     have q := h.lev j hj
     have q1 := q.bB
     exact ⟨.inr ⟨q1, map_lt q.map⟩, by omega, map_lt q.map⟩
   refine ⟨⟨mp, sp, tp, tg, lg, cap, lp, bm⟩, ⟨rfl, rfl, rfl⟩, ⟨fun i hi => hi.2, ?_, fun i hi => (hin i hi).2, h.xs, ⟨cur, hlgB, hlr⟩, World.ownsRow_nil _ _ _ _, hT', fun j hj => (h.lev j hj).box, fun j hj => ⟨0, Nat.le_refl _, (h.lev j hj).map⟩, hM, hwk, h.lpI, h.bmI, by show M.es.length ≤ _; rw [hes]; exact Nat.zero_le _, Nat.zero_le _, Nat.zero_le _, htop, hz⟩, h.on⟩
   have hO : Own w X mp M := ⟨F, hm, hF, hXl⟩
   refine (hO.grow h.on).weak fun i hi => ?_
   rcases hi with hi | hi
   ·exact .inl (hX0 i (by have := hi.1; have := hi.2; omega))
   ·exact (hin i hi).1)
 clear hc hcn eA hO hX0 hXt hT0 hT hz hM hwk hes htop hsz h0
 obtain ⟨bc, hbc⟩ : ∃ b, w.heap.size = b := ⟨_, rfl⟩
 obtain ⟨bp, hbp⟩ : ∃ b, bc + 1 = b := ⟨_, rfl⟩
 obtain ⟨w2, hw2⟩ : ∃ w2, ((w.alloc (.cells #[.int .i64 c.B, .int .i64 (c.S : Int), .int .i64 (c.T : Int), .int .i64 (c.n : Int)] 79)).alloc (.cells #[.int .i64 (c.f : Int), .int .i64 c.B, .int .i64 (c.S : Int), .int .i64 (c.T : Int), .int .i64 (c.n : Int)] 166)) = w2 := ⟨_, rfl⟩
 have hA : NwA c bc bp w w2 := by
  refine ⟨by rw [← hw2]; exact ((Only.refl _ w).alloc _).alloc _, by rw [← hw2, ← hbc]; exact (Box.new w _ _).alloc _, ?_⟩
  have q := Box.new (w.alloc (.cells #[.int .i64 c.B, .int .i64 (c.S : Int), .int .i64 (c.T : Int), .int .i64 (c.n : Int)] 79)) 166 #[.int .i64 (c.f : Int), .int .i64 c.B, .int .i64 (c.S : Int), .int .i64 (c.T : Int), .int .i64 (c.n : Int)]
  rw [World.size_alloc, hbc, hbp, hw2] at q
  exact q
 have HW2 := Lib.hid hw2
 have HBc := Lib.hid hbc
 have HBp := Lib.hid hbp
 have k0 := hA.xc.cell 0
 have k1 := hA.xc.cell 1
 have k2 := hA.xc.cell 2
 have k3 := hA.xc.cell 3
 simp at k0 k1 k2 k3
 clear hw2 hbc hbp
 go_enter Tryz.func64, Tryz.ntmps64
 go_upto_region 2 with fail
 simp only [HBc.out]
 try simp only [HBp.out]
 rw [HW2.out]
 refine held_s (S := fun u => NwA c bc bp w u) 12 rfl (by kernel_rfl) (hA.nob (Only.refl _ _).drew) (fun hHeld => ?_)
 simp only [qA0, qB0, qC0, List.nil_append, List.cons_append]
 generalize w2.drew = wc at *
 clear HW2 hA k0 k1 k2 k3
 refine tk1 0 18 (.agg #[.int .i64 c.B, .int .i64 (c.S : Int), .int .i64 (c.T : Int), .int .i64 (c.n : Int)]) rfl (Or.inl ⟨by rfl, fun w' hw => by (have y0 := hw.xc.cell 0; have y1 := hw.xc.cell 1; have y2 := hw.xc.cell 2; have y3 := hw.xc.cell 3; go_simp)⟩) hHeld ?_
 try simp only [Act.put, sA0, sB0, sC0]
 refine one_ready 1 rfl (by kernel_rfl) (fun K9 hK => ?_)
 go_simp
 refine (HR.out _).mono ?_
 rintro e w9 ⟨rfl, hb9⟩
 have ho := Only.of_below (S := nobody) hb9
 refine hK.out _ _ (hHeld.nob ho) (fun hHeld => ?_)
 clear hK K9 ho hb9
 generalize w9 = wc at *
 try simp only [sA0, sB0, sC0]
 refine tk1 2 20 (.bool false) rfl (Or.inl ⟨by rfl, fun w' hw => by go_simp⟩) hHeld ?_
 try simp only [Act.put, sA0, sB0, sC0]
 refine tk1 3 21 (.bool false) rfl (Or.inl ⟨by rfl, fun w' hw => by go_simp⟩) hHeld ?_
 try simp only [Act.put, sA0, sB0, sC0]
 refine tk1 4 22 (.pointer (some ⟨mp, 0, none⟩)) rfl (Or.inl ⟨by rfl, fun w' hw => by go_simp⟩) hHeld ?_
 try simp only [Act.put, sA0, sB0, sC0]
 refine tk1 5 23 (.agg #[.int .i64 (c.f : Int), .int .i64 c.B, .int .i64 (c.S : Int), .int .i64 (c.T : Int), .int .i64 (c.n : Int)]) rfl (Or.inl ⟨by rfl, fun w' hw => by (have y0 := hw.xp.cell 0; have y1 := hw.xp.cell 1; have y2 := hw.xp.cell 2; have y3 := hw.xp.cell 3; have y4 := hw.xp.cell 4; go_simp)⟩) hHeld ?_
 try simp only [Act.put, sA0, sB0, sC0]
 refine tk1 8 26 (.agg #[.int .i64 c.B, .int .i64 (c.S : Int), .int .i64 (c.T : Int), .int .i64 (c.n : Int)]) rfl (Or.inl ⟨by rfl, fun w' hw => by (have y0 := hw.xc.cell 0; have y1 := hw.xc.cell 1; have y2 := hw.xc.cell 2; have y3 := hw.xc.cell 3; go_simp)⟩) hHeld ?_
 try simp only [Act.put, sA0, sB0, sC0]
 refine one_ready 6 rfl (by kernel_rfl) (fun K9 hK => ?_)
 go_simp
 refine (plan_top (c.f : Int) c.B (c.S : Int) (c.T : Int) (c.n : Int) _).mono ?_
 rintro e w9 ⟨rfl, he9⟩
 have ho : Only nobody wc w9 := by rw [he9]; exact (Only.refl _ _).alloc _
 clear he9
 refine hK.out _ _ (hHeld.nob ho) (fun hHeld => ?_)
 clear hK K9 ho
 generalize w9 = wc at *
 try simp only [sA0, sB0, sC0]
 refine one_ready 7 rfl (by kernel_rfl) (fun K9 hK => ?_)
 go_simp
 refine (HSz.out _ hHeld.on).mono ?_
 rintro e w9 ⟨rfl, he9⟩
 rw [← he9]
 clear he9 w9
 refine hK.out _ _ hHeld (fun hHeld => ?_)
 clear hK K9
 try simp only [sA0, sB0, sC0]
 refine one_ready 9 rfl (by kernel_rfl) (fun K9 hK => ?_)
 go_simp
 refine (HTop.out _).mono ?_
 rintro e w9 ⟨rfl, hb9⟩
 have ho := Only.of_below (S := nobody) hb9
 refine hK.out _ _ (hHeld.nob ho) (fun hHeld => ?_)
 clear hK K9 ho hb9
 generalize w9 = wc at *
 try simp only [sA0, sB0, sC0]
 refine tk1 10 28 (.bool false) rfl (Or.inl ⟨by rfl, fun w' hw => by (go_simp; rfl)⟩) hHeld ?_
 try simp only [Act.put, sA0, sB0, sC0]
 refine tk1 11 29 (.bool false) rfl (Or.inl ⟨by rfl, fun w' hw => by go_simp⟩) hHeld ?_
 try simp only [Act.put, sA0, sB0, sC0]
 refine wpAnyH_done (by kernel_rfl) ?_ _
 have hA := hHeld
 clear hHeld HR HTop HSz
 obtain ⟨sp, hsp⟩ : ∃ b, wc.heap.size = b := ⟨_, rfl⟩
 obtain ⟨w3, hw3⟩ : ∃ w3, wc.alloc (.cells #[.pointer (some ⟨mp, 0, none⟩), .pointer (some ⟨tp, 0, none⟩), .int .i64 (c.f : Int), .int .i64 c.B, .int .i64 (c.S : Int), .int .i64 (c.T : Int), .int .i64 (c.n : Int), .slice none 0 0, .slice none 0 0] 170) = w3 := ⟨_, rfl⟩
 have ho3 : Only nobody wc w3 := by rw [← hw3]; exact (Only.refl _ wc).alloc _
 have HN0 : Hid (NwAt c mp tp sp bc bp w 0 none 0 (fun _ => 0) (fun _ => 0) w3) := Lib.hid ⟨hA.on.trans ho3, hA.xc.only ho3 (not_nobody _), hA.xp.only ho3 (not_nobody _), by rw [← hw3, ← hsp]; exact Box.new wc _ _, by rw [← hsp]; exact hA.on.size, World.ownsRow_nil _ _ _ _, fun h hh => absurd hh (by omega), fun h _ hh => absurd hh (by omega), fun h _ hh => absurd hh (by omega)⟩
 have HW3 := Lib.hid hw3
 have HSp := Lib.hid hsp
 have p0 := hA.xp.cell 0
 have p1 := hA.xp.cell 1
 have p2 := hA.xp.cell 2
 have p3 := hA.xp.cell 3
 have p4 := hA.xp.cell 4
 have k3 := (hA.xc.only ho3 (not_nobody _)).cell 3
 simp at p0 p1 p2 p3 p4 k3
 clear hw3 hsp hA ho3
 go_upto_region 5 with fail
 simp only [HSp.out]
 rw [HW3.out]
 clear p0 p1 p2 p3 p4
 go_wp2_with fail
 go_loopw [37] (fun i wr => ∃ k : Nat, i = .int .i64 k ∧ k ≤ c.n ∧ ∃ A cap lp bm, NwAt c mp tp sp bc bp w k A cap lp bm wr) (fun i _ => c.n - (intOf i).toNat)
 case atStart => exact ⟨0, rfl, by omega, _, _, _, _, HN0.out⟩
 case round =>
  obtain ⟨k, rfl, hk, A, cap, lp, bm, hN⟩ := hrel
  have HN := Lib.hid hN
  clear hN HN0 HW3 k3
  by_cases hlt : k < c.n
  ·go_upto_region 8 with fail
   refine held_s (S := fun u => NwAt c mp tp sp bc bp w k A cap lp bm u) 13 rfl (by kernel_rfl) (HN.out.nob (Only.refl _ _).drew) (fun hHeld => ?_)
   simp only [qA0, qB0, qC0, List.nil_append, List.cons_append]
   generalize wr.drew = wc at *
   clear HN
   refine tk1 0 41 (.pointer (some ⟨mp, 0, none⟩)) rfl (Or.inl ⟨by rfl, fun w' hw => by go_simp⟩) hHeld ?_
   try simp only [Act.put, sA0, sB0, sC0]
   refine tk1 1 42 (.agg #[.int .i64 (c.f : Int), .int .i64 c.B, .int .i64 (c.S : Int), .int .i64 (c.T : Int), .int .i64 (c.n : Int)]) rfl (Or.inl ⟨by rfl, fun w' hw => by (have y0 := hw.xp.cell 0; have y1 := hw.xp.cell 1; have y2 := hw.xp.cell 2; have y3 := hw.xp.cell 3; have y4 := hw.xp.cell 4; go_simp)⟩) hHeld ?_
   try simp only [Act.put, sA0, sB0, sC0]
   refine tk1 2 43 (.int .i64 (k : Int)) rfl (Or.inl ⟨by rfl, fun w' hw => by go_simp⟩) hHeld ?_
   try simp only [Act.put, sA0, sB0, sC0]
   refine tk1 4 45 (.agg #[.int .i64 c.B, .int .i64 (c.S : Int), .int .i64 (c.T : Int), .int .i64 (c.n : Int)]) rfl (Or.inl ⟨by rfl, fun w' hw => by (have y0 := hw.xc.cell 0; have y1 := hw.xc.cell 1; have y2 := hw.xc.cell 2; have y3 := hw.xc.cell 3; go_simp)⟩) hHeld ?_
   try simp only [Act.put, sA0, sB0, sC0]
   refine tk1 5 46 (.int .i64 (k : Int)) rfl (Or.inl ⟨by rfl, fun w' hw => by go_simp⟩) hHeld ?_
   try simp only [Act.put, sA0, sB0, sC0]
   refine one_ready 3 rfl (by kernel_rfl) (fun K9 hK => ?_)
   go_simp
   refine (HRg.out _ k (by omega) (by omega)).mono ?_
   rintro e w9 ⟨rfl, he9⟩
   have ho : Only nobody wc w9 := by rw [he9]; exact (Only.refl _ _).alloc _
   clear he9
   refine hK.out _ _ (hHeld.nob ho) (fun hHeld => ?_)
   clear hK K9 ho
   generalize w9 = wc at *
   try simp only [sA0, sB0, sC0]
   refine one_ready 6 rfl (by kernel_rfl) (fun K9 hK => ?_)
   go_simp
   refine (HLc.out _ k (by omega)).mono ?_
   rintro e w9 ⟨rfl, hb9⟩
   have ho := Only.of_below (S := nobody) hb9
   refine hK.out _ _ (hHeld.nob ho) (fun hHeld => ?_)
   clear hK K9 ho hb9
   generalize w9 = wc at *
   try simp only [sA0, sB0, sC0]
   refine one_ready 7 rfl (by kernel_rfl) (fun K9 hK => ?_)
   go_simp
   refine (HNw.out wc hHeld.on k hlt).mono ?_
   rintro e w9 ⟨lp', bm', rfl, ho, hl1, hl2, hB', hm'⟩
   have hs9 := hHeld.lt
   have hwx : w.heap.size ≤ wc.heap.size := hHeld.on.size
   refine hK.out _ _ (hHeld.nob ho) (fun hHeld => ?_)
   clear hK K9
   try simp only [sA0, sB0, sC0]
   refine tk1 8 40 (.tuple #[.pointer (some ⟨lp', 0, none⟩), .int .i64 0]) rfl (Or.inl ⟨by rfl, fun w' hw => by go_simp⟩) hHeld ?_
   try simp only [Act.put, sA0, sB0, sC0]
   refine tk1 9 49 (.pointer (some ⟨lp', 0, none⟩)) rfl (Or.inl ⟨by rfl, fun w' hw => by go_simp⟩) hHeld ?_
   try simp only [Act.put, sA0, sB0, sC0]
   refine tk1 10 50 (.int .i64 0) rfl (Or.inl ⟨by rfl, fun w' hw => by go_simp⟩) hHeld ?_
   try simp only [Act.put, sA0, sB0, sC0]
   refine tk1 11 13 (.pointer (some ⟨lp', 0, none⟩)) rfl (Or.inl ⟨by rfl, fun w' hw => by go_simp⟩) hHeld ?_
   try simp only [Act.put, sA0, sB0, sC0]
   refine tk1 12 14 (.int .i64 0) rfl (Or.inl ⟨by rfl, fun w' hw => by go_simp⟩) hHeld ?_
   try simp only [Act.put, sA0, sB0, sC0]
   refine wpAnyH_done (by kernel_rfl) ?_ _
   have HL' : Hid (NwL c mp k lp' bm' w.heap.size w9) := Lib.hid ⟨by omega, by omega, hB', hm'⟩
   have HNe : Hid (∀ j, j < k → lp j ≠ lp' ∧ bm j ≠ bm') := Lib.hid fun j hj => by have := hs9 j hj; omega
   have HN9 := Lib.hid hHeld
   have hsz9 := hHeld.on.size
   have hn7 := hHeld.xs.cell 7
   have hz7 := hHeld.xs.frozen 7
   have HOW : Hid (w9.ownsRow w.heap.size 28 1 (.slice A k cap) k (ptL lp k)) := Lib.hid hHeld.row
   have HS9 := Lib.hid hHeld.xs
   simp at hn7
   clear hHeld hB' hm' hs9 hl1 hl2 ho hwx
   go_wp2_with (with_reducible refine wpList_append_where _ rfl (.tmp 57) (.tmp 59) 167 rfl w.heap.size 28 (.pointer none) 1 8 Tryz.underlying167 infoLvp rfl (by decide) (.slice A k cap) k (ptL lp k) rfl (HOW.out.alloc _) ⟨w9.heap.size, 0, none⟩ 1 1 [.pointer (some ⟨lp', 0, none⟩)] rfl rfl ?c0 (by simp [Value.oneCell']) ?c2 ?c3 ?c4 ?_)
   case c0 => exact new_row w9 _ [.pointer (some ⟨lp', 0, none⟩)] rfl
   case c2 => simp only [maxLen]; omega
   case c3 => omega
   case c4 => simp; omega
   intro A2 cap2 w8 hown hgr _
   clear hsz9
   have HN8 := Lib.hid (HN9.out.next HL'.out HNe.out ((Only.refl _ w9).alloc _) hown hgr)
   obtain ⟨k7, f7⟩ := HN9.out.seven ((Only.refl _ w9).alloc _) hgr
   clear hown hgr hn7 hz7
   go_wp2_with fail
   go_roundw
   case rel => exact ⟨k + 1, by go_num, by omega, _, _, _, _, HN8.out⟩
   case measure => simp [intOf]; omega
  ·have ek : k = c.n := by omega
   subst ek
   obtain ⟨a, ha, hS, ho⟩ := HFin.out _ _ _ _ _ _ _ _ HN.out
   have HD : Hid (∃ a : SA, (a.sp = sp ∧ a.mp = mp ∧ a.tp = tp) ∧ StoA c a ⟨M, fun _ => false, fun _ => [], nw, z, 0, []⟩ none 0 (fun i => w0.heap.size ≤ i ∧ i < wr.heap.size) 0 wr ∧ Only nobody w wr) := Lib.hid ⟨a, ha, hS, ho⟩
   clear hS ho ha
   go_wp2_with fail
   go_ret2
   obtain ⟨a, ha, hS, ho⟩ := HD.out
   exact ⟨a, by rw [ha.1]; rfl, ha.2, hS, ho⟩
end Go.Proofs.YtknnebhjldfkhaaGreat

