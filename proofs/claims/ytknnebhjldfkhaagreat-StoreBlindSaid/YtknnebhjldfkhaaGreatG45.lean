import Derived.Test.YtknnebhjldfkhaaGreatG43
import Derived.Test.YtknnebhjldfkhaaGreatG31
namespace Go.Proofs.YtknnebhjldfkhaaGreat
set_option maxRecDepth 100000
open Go.RowKit Go.Shelf Go.ChangeShapes Go.WideShapes Go.ChangeAt
attribute [local go_sem] Oper.semAt_some

structure AcE (c : SC) (a : SA) (G0 : Nat → Prop) (w0 : World) (b : Nat) (op : Int) (id : Nat) (d : Nat → Int) (L : Nat → Prop) (g : SG) (k : Nat) (w : World) : Prop where
 sto : Sto c a G0 w0 L g k w
 xs : Box w b 82 #[.pointer (some ⟨a.sp, 0, none⟩)]
 xo : Box w (b + 1) 3 #[.int .i64 op]
 xi : Box w (b + 2) 43 #[.int .u64 (id : Int)]
 xd : Box w (b + 3) 48 (DA d)
 xr : Box w (b + 4) 48 (DA fun _ => 0)
 l : ∀ i, b ≤ i → i < b + 5 → L i
 lt : w0.heap.size ≤ b
section
variable {c : SC} {a : SA} {G0 : Nat → Prop} {w0 w w' : World} {b : Nat} {op : Int} {id : Nat} {d : Nat → Int} {L L' : Nat → Prop} {g g' : SG} {k k' : Nat}
theorem AcE.nob (h : AcE c a G0 w0 b op id d L g k w) (ho : Only nobody w w') : AcE c a G0 w0 b op id d L g k w' :=
 ⟨h.sto.nob' ho, h.xs.only ho (not_nobody _), h.xo.only ho (not_nobody _), h.xi.only ho (not_nobody _), h.xd.only ho (not_nobody _), h.xr.only ho (not_nobody _), h.l, h.lt⟩
theorem AcE.go (h : AcE c a G0 w0 b op id d L g k w) (hs : Sto c a G0 w0 L' g' k' w') (hk : Kept L w w') (hL : ∀ i, L i → L' i) : AcE c a G0 w0 b op id d L' g' k' w' :=
 ⟨hs, hk.box h.xs (h.l _ (by omega) (by omega)), hk.box h.xo (h.l _ (by omega) (by omega)), hk.box h.xi (h.l _ (by omega) (by omega)), hk.box h.xd (h.l _ (by omega) (by omega)), hk.box h.xr (h.l _ (by omega) (by omega)), fun i h1 h2 => hL i (h.l i h1 h2), h.lt⟩
theorem AcE.less (h : AcE c a G0 w0 b op id d L g k w) (hL : ∀ i, L' i → L i) (hl : ∀ i, b ≤ i → i < b + 5 → L' i) : AcE c a G0 w0 b op id d L' g k w := ⟨h.sto.less hL, h.xs, h.xo, h.xi, h.xd, h.xr, hl, h.lt⟩
end
theorem AcE.made {c : SC} {a : SA} {G0 : Nat → Prop} {w0 w w' : World} {b : Nat} {op : Int} {id : Nat} {d : Nat → Int} {L : Nat → Prop} {g : SG} {k : Nat} (h : AcE c a G0 w0 b op id d L g k w) (ho : Only nobody w w') {x : Nat} (h1 : w.heap.size ≤ x) (h2 : x < w'.heap.size) : ∃ L' : Nat → Prop, (∀ i, L i → L' i) ∧ L' x ∧ AcE c a G0 w0 b op id d L' g k w' := by
 have q := h.nob ho
 exact ⟨fun i => L i ∨ i = x, fun _ h => .inl h, .inr rfl, (h.sto.nob ho).less (fun i hi => hi.elim .inl (fun e => .inr (by omega))), q.xs, q.xo, q.xi, q.xd, q.xr, fun i a1 a2 => .inl (h.l i a1 a2), q.lt⟩
structure AcD (c : SC) (a : SA) (G0 : Nat → Prop) (w0 : World) (b : Nat) (op : Int) (id : Nat) (d : Nat → Int) (bd gd : Nat) (D : Dw) (L : Nat → Prop) (g : SG) (k : Nat) (w : World) : Prop where
 e : AcE c a G0 w0 b op id d L g k w
 xq : Box w bd 172 #[.slice (some ⟨gd, 0, none⟩) c.n c.n]
 row : w.rowIs gd 178 (c.n * 4) (dwV D)
 l2 : L bd ∧ L gd
section
variable {c : SC} {a : SA} {G0 : Nat → Prop} {w0 w w' : World} {b : Nat} {op : Int} {id : Nat} {d : Nat → Int} {bd gd : Nat} {D : Dw} {L L' : Nat → Prop} {g g' : SG} {k k' : Nat}
theorem AcD.nob (h : AcD c a G0 w0 b op id d bd gd D L g k w) (ho : Only nobody w w') : AcD c a G0 w0 b op id d bd gd D L g k w' := ⟨h.e.nob ho, h.xq.only ho (not_nobody _), ho.row h.row (not_nobody _), h.l2⟩
theorem AcD.go (h : AcD c a G0 w0 b op id d bd gd D L g k w) (hs : Sto c a G0 w0 L g' k' w') (hk : Kept L w w') : AcD c a G0 w0 b op id d bd gd D L g' k' w' := ⟨h.e.go hs hk (fun _ h => h), hk.box h.xq h.l2.1, hk.row h.row h.l2.2, h.l2⟩
theorem AcD.less (h : AcD c a G0 w0 b op id d bd gd D L g k w) (hL : ∀ i, L' i → L i) (hl : ∀ i, b ≤ i → i < b + 5 → L' i) (h2 : L' bd ∧ L' gd) : AcD c a G0 w0 b op id d bd gd D L' g k w := ⟨h.e.less hL hl, h.xq, h.row, h2⟩
theorem AcD.k0 (h : AcD c a G0 w0 b op id d bd gd D L g k w) : w.cell? ⟨b, 0, none⟩ = some (.pointer (some ⟨a.sp, 0, none⟩)) := h.e.xs.cell 0
theorem AcD.k1 (h : AcD c a G0 w0 b op id d bd gd D L g k w) : w.cell? ⟨b + 1, 0, none⟩ = some (.int .i64 op) := h.e.xo.cell 0
theorem AcD.k2 (h : AcD c a G0 w0 b op id d bd gd D L g k w) : w.cell? ⟨b + 2, 0, none⟩ = some (.int .u64 (id : Int)) := h.e.xi.cell 0
theorem AcD.k3 (h : AcD c a G0 w0 b op id d bd gd D L g k w) : w.cell? ⟨bd, 0, none⟩ = some (.slice (some ⟨gd, 0, none⟩) c.n c.n) := h.xq.cell 0
theorem AcD.made (h : AcD c a G0 w0 b op id d bd gd D L g k w) (ho : Only nobody w w') {x : Nat} (h1 : w.heap.size ≤ x) (h2 : x < w'.heap.size) : ∃ L' : Nat → Prop, (∀ i, L i → L' i) ∧ L' x ∧ AcD c a G0 w0 b op id d bd gd D L' g k w' := by
 have q := h.nob ho
 refine ⟨fun i => L i ∨ i = x, fun _ h => .inl h, .inr rfl, ⟨⟨(h.e.sto.nob ho).less (fun i hi => hi.elim .inl (fun e => .inr (by omega))), q.e.xs, q.e.xo, q.e.xi, q.e.xd, q.e.xr, fun i a1 a2 => .inl (h.e.l i a1 a2), q.e.lt⟩, q.xq, q.row, .inl h.l2.1, .inl h.l2.2⟩⟩
theorem AcD.far (h : AcD c a G0 w0 b op id d bd gd D L g k w) {x : Nat} (ho : Only (just x) w w') (hx : L x) (h0 : b + 5 ≤ x) (h1 : x ≠ bd) (h2 : x ≠ gd) : AcD c a G0 w0 b op id d bd gd D L g k w' := by
 have hl := h.e.lt
 exact ⟨⟨h.e.sto.far ho (fun i hi => by rw [show i = x from hi]; exact hx) (fun i hi => by rw [show i = x from hi]; omega), h.e.xs.only ho (just_ne (by omega)), h.e.xo.only ho (just_ne (by omega)), h.e.xi.only ho (just_ne (by omega)), h.e.xd.only ho (just_ne (by omega)), h.e.xr.only ho (just_ne (by omega)), h.e.l, h.e.lt⟩, h.xq.only ho (just_ne (fun e => h1 e.symm)), ho.row h.row (just_ne (fun e => h2 e.symm)), h.l2⟩
theorem AcE.wd0 (hc : c.Ok) (h : AcE c a G0 w0 b op id d L g k w) : g.M.wd := by
 obtain ⟨_, _, _, q, _⟩ := h.sto
 exact (q.lvm 0 (by have := hc.n1; omega)).wd
theorem AcD.up (h : AcD c a G0 w0 b op id d bd gd D L g k w) {k' : Nat} (hk : k ≤ k') : AcD c a G0 w0 b op id d bd gd D L g k' w := ⟨⟨h.e.sto.more hk, h.e.xs, h.e.xo, h.e.xi, h.e.xd, h.e.xr, h.e.l, h.e.lt⟩, h.xq, h.row, h.l2⟩
theorem AcD.many (h : AcD c a G0 w0 b op id d bd gd D L g k w) (ho : Only nobody w w') (S : Nat → Prop) (hS : ∀ i, S i → w.heap.size ≤ i ∧ i < w'.heap.size) : ∃ L' : Nat → Prop, (∀ i, L i → L' i) ∧ (∀ i, S i → L' i) ∧ AcD c a G0 w0 b op id d bd gd D L' g k w' := by
 have q := h.nob ho
 exact ⟨fun i => L i ∨ S i, fun _ h => .inl h, fun _ h => .inr h, ⟨⟨(h.e.sto.nob ho).less (fun i hi => hi.elim .inl (fun e => .inr (hS i e))), q.e.xs, q.e.xo, q.e.xi, q.e.xd, q.e.xr, fun i a1 a2 => .inl (h.e.l i a1 a2), q.e.lt⟩, q.xq, q.row, .inl h.l2.1, .inl h.l2.2⟩⟩
theorem AcD.with (h : AcD c a G0 w0 b op id d bd gd D L g k w) (hs : Sto c a G0 w0 L' g k w) (hL : ∀ i, L i → L' i) : AcD c a G0 w0 b op id d bd gd D L' g k w := ⟨⟨hs, h.e.xs, h.e.xo, h.e.xi, h.e.xd, h.e.xr, fun i a1 a2 => hL i (h.e.l i a1 a2), h.e.lt⟩, h.xq, h.row, hL _ h.l2.1, hL _ h.l2.2⟩
end
theorem cell_nob {w w' : World} (ho : Only nobody w w') {b o : Nat} {v : Value} (h : w.cell? ⟨b, o, none⟩ = some v) : w'.cell? ⟨b, o, none⟩ = some v :=
 (World.cell?_of_block (w := w) (ho.block b (World.block_lt_of_cell? w ⟨b, o, none⟩ h) (not_nobody _))).trans h
theorem froz_nob {w w' : World} (ho : Only nobody w w') {b o : Nat} (hb : b < w.heap.size) (h : w.frozen? ⟨b, o, none⟩ = false) : w'.frozen? ⟨b, o, none⟩ = false :=
 (World.frozen?_of_block (ho.block b hb (not_nobody _))).trans h
theorem Box.data {w : World} {b : Nat} {t : TypeId} {f : Nat → Int} (h : Box w b t (DA f)) (g : Nat → Int) : Box (w.setCells b 0 (DA g).toList) b t (DA g) := by
 have q := (((((((h.put 0 (.int .u64 (g 0))).put 1 (.int .u64 (g 1))).put 2 (.int .u64 (g 2))).put 3 (.int .u64 (g 3))).put 4 (.int .u64 (g 4))).put 5 (.int .u64 (g 5))).put 6 (.int .u64 (g 6))).put 7 (.int .u64 (g 7))
 simpa [World.setCells, DA] using q
def AcX (c : SC) (a : SA) (G0 : Nat → Prop) (w0 : World) (b : Nat) (op : Int) (id : Nat) (d : Nat → Int) (bd gd : Nat) (D : Dw) (w : World) : Prop := ∃ L g k, AcD c a G0 w0 b op id d bd gd D L g k w
theorem new_two (W : World) (t : TypeId) (x y : Value) {b : Nat} (hb : b = W.heap.size) : ∀ j u, [x, y][j]? = some u → (W.alloc (.cells #[x, y] t)).cell? ((⟨b, 0, none⟩ : Addr).add j) = some u := by
 intro j u h
 have hq := Box.new W t #[x, y]
 rw [← hb] at hq
 rw [add_plain, Nat.zero_add, hq.cell j]
 simpa using h
theorem infoNote : (Tryz.prog.info? 175).map (fun i => (i.zero, i.size, i.bytes)) = some (some (.agg #[.int .u64 0, .int .u64 0]), 2, 16) := by kernel_rfl
def SG.drew (g : SG) (c : SC) : SG := { g with u := g.u + 2 * c.n }
def drawn (c : SC) (g : SG) : Dw := drws g.nw g.z c.N g.u (downL c.n) noDw
structure AcI (c : SC) (a : SA) (G0 : Nat → Prop) (w0 : World) (b : Nat) (op : Int) (id : Nat) (d : Nat → Int) (bd gd bw bs bt : Nat) (D : Dw) (L : Nat → Prop) (B : Nat) (g : SG) (e : Nt) (r : Nat → Int) (t : Bool) (k : Nat) (w : World) : Prop where
 d : AcD c a G0 w0 b op id d bd gd D L g k w
 xw : Box w bw 175 (ntA e)
 xs : Box w bs 48 (DA r)
 xt : Box w bt 4 #[.bool t]
 l3 : L bw ∧ L bs ∧ L bt
 wn : WN e
 grd : ∃ ga gc G, StoA c a g ga gc G k w ∧ (∀ i, G i → G0 i ∨ w0.heap.size ≤ i) ∧ (∀ i, L i → i < w.heap.size ∧ ¬ G i) ∧ Only G0 w0 w ∧ ∀ i, G i → B ≤ i → cellsAt w i
section
variable {c : SC} {a : SA} {G0 : Nat → Prop} {w0 w w' : World} {b : Nat} {op : Int} {id : Nat} {d : Nat → Int} {bd gd bw bs bt : Nat} {D : Dw} {L L' : Nat → Prop} {B : Nat} {g g' : SG} {e : Nt} {r : Nat → Int} {t : Bool} {k k' : Nat}
theorem Sto.grd (h : Sto c a G0 w0 L g k w) (hB : ∀ j, j < c.n → a.bm j < B) : ∃ ga gc G, StoA c a g ga gc G k w ∧ (∀ i, G i → G0 i ∨ w0.heap.size ≤ i) ∧ (∀ i, L i → i < w.heap.size ∧ ¬ G i) ∧ Only G0 w0 w ∧ ∀ i, G i → B ≤ i → cellsAt w i := by
 obtain ⟨ga, gc, G, h1, h2, h3, h4⟩ := h
 refine ⟨ga, gc, fun i => G i ∧ (B ≤ i → cellsAt w i), h1.with (fun i hg hc => ⟨hg, fun _ => hc⟩) (fun i hi => ⟨h1.inG i hi, fun hb => ?_⟩) (fun i hi => h1.lt i hi.1), fun i hi => h2 i hi.1, fun i hi => ⟨(h3 i hi).1, fun k => (h3 i hi).2 k.1⟩, h4, fun i hi => hi.2⟩
 rcases h1.inCells hi with hc | ⟨j, hj, e⟩
 ·exact hc
 ·have := hB j hj; omega
theorem Sto.nonc (h : Sto c a G0 w0 L g k w) (hB : ∀ j, j < c.n → a.bm j < B) (hB0 : w0.heap.size ≤ B) (ho : Only (Go.Proofs.YtknnebhjldfkhaaGreat.nonc B w) w w') : Sto c a G0 w0 L g k w' := by
 obtain ⟨ga, gc, G, h1, h2, h3, h4, h5⟩ := h.grd hB
 have hk : ∀ i, G i → ¬ Go.Proofs.YtknnebhjldfkhaaGreat.nonc B w i := fun i hi hn => cells_not (B := B) (h5 i hi hn.1) hn
 exact ⟨ga, gc, G, h1.keep ho hk, h2, fun i hi => ⟨Nat.lt_of_lt_of_le (h3 i hi).1 ho.size, (h3 i hi).2⟩, h4.then ho (fun i hi => .inr (Nat.le_trans hB0 hi.1))⟩
theorem AcI.nonc (h : AcI c a G0 w0 b op id d bd gd bw bs bt D L B g e r t k w) (ho : Only (Go.Proofs.YtknnebhjldfkhaaGreat.nonc B w) w w') (hB : w0.heap.size ≤ B) : AcI c a G0 w0 b op id d bd gd bw bs bt D L B g e r t k w' := by
 obtain ⟨ga, gc, G, h1, h2, h3, h4, h5⟩ := h.grd
 have hk : ∀ i, G i → ¬ Go.Proofs.YtknnebhjldfkhaaGreat.nonc B w i := fun i hi hn => cells_not (B := B) (h5 i hi hn.1) hn
 have s1 := h1.keep ho hk
 have s3 : ∀ i, L i → i < w'.heap.size ∧ ¬ G i := fun i hi => ⟨Nat.lt_of_lt_of_le (h3 i hi).1 ho.size, (h3 i hi).2⟩
 have s4 : Only G0 w0 w' := h4.then ho (fun i hi => .inr (Nat.le_trans hB hi.1))
 have bx : ∀ {p : Nat} {ty : TypeId} {cs : Array Value}, Box w p ty cs → Box w' p ty cs := fun hb => hb.only ho (cells_not hb.cells)
 exact ⟨⟨⟨⟨ga, gc, G, s1, h2, s3, s4⟩, bx h.d.e.xs, bx h.d.e.xo, bx h.d.e.xi, bx h.d.e.xd, bx h.d.e.xr, h.d.e.l, h.d.e.lt⟩, bx h.d.xq, ho.row h.d.row (cells_not (rowIs_cells h.d.row)), h.d.l2⟩, bx h.xw, bx h.xs, bx h.xt, h.l3, h.wn,
  ⟨ga, gc, G, s1, h2, s3, s4, fun i hi hb => (h5 i hi hb).of (ho.block i (h1.lt i hi) (hk i hi))⟩⟩
end
theorem Sto.lastA {c : SC} {a : SA} {G0 : Nat → Prop} {w0 w : World} {L : Nat → Prop} {g' g0 : SG} {k : Nat} {D : Dw} {op : Int} {id : Nat} {d : Nat → Int} {e0 e fr : Nt} {l : List Nat} {r : Nat → Int} {t : Bool} (hc : c.Ok) (h : Sto c a G0 w0 L (g'.gon fr) k w) (hn : 0 < c.n) (hfr : orN e (D 0).2 = fr) (hR : Rn c D op id d g0 e0 l g' e r t) (hk : k < 20000)
  (hd : ∀ j, 0 ≤ d j ∧ d j ≤ 18446744073709551615) :
  Calls Tryz.prog 16 #[.pointer (some ⟨a.lp 0, 0, none⟩), .int .i64 op, .int .u64 (id : Int), .int .i64 0, .agg (DA d), .int .i64 (leafI fr.1), .int .i64 (leafI (D 0).1.1)] w fun e9 w' =>
   ∃ rr tt g2, e9 = .returned (.tuple #[.agg (DA rr), .bool tt]) ∧ Rn c D op id d g0 e0 (l ++ [0]) g2 e rr tt ∧ Sto c a G0 w0 L g2 (k + 1) w' ∧ Kept L w w' := by
 refine (h.level hc hn (askL D op id d fr) hk (Int.natCast_nonneg id) hd).mono ?_
 rintro e9 w' ⟨rfl, o, ho, hS, hK⟩
 subst hfr
 exact ⟨_, _, _, rfl, Rn.last o hR ho, hS, hK⟩
set_option pp.deepTerms true in
set_option pp.maxSteps 200000 in
set_option linter.unusedSimpArgs false in
set_option maxHeartbeats 8000000 in
theorem StoA.access {c : SC} {a : SA} {g : SG} {ga : Option Addr} {gc : Nat} {G : Nat → Prop} {k : Nat} {w : World} (hc : c.Ok) (hS : StoA c a g ga gc G k w) (op : Int) (id : Nat) (d : Nat → Int) (hop : isOp op id (2 ^ c.b) = true) (hd : ∀ j, 0 ≤ d j ∧ d j ≤ 18446744073709551615) (hk : k < 19900) :
  Calls Tryz.prog 41 #[.pointer (some ⟨a.sp, 0, none⟩), .int .i64 op, .int .u64 (id : Int), .agg (DA d)] w fun r w' =>
   ∃ g' e' rr t, Rn c (drawn c g) op id d ((g.drew c).top c id (drawn c g (c.n - 1)).1) (topN g c id) (downL c.n) g' e' rr t ∧ r = .returned (.tuple #[.agg (DA rr), .bool t]) ∧ Sto c a G w (fun i => i < w.heap.size ∧ ¬ G i) g' (k + 20) w' := by
 obtain ⟨b, hb⟩ : ∃ b, w.heap.size = b := ⟨_, rfl⟩
 have hid : id < 2 ^ c.b := by
  unfold isOp at hop
  simp only [Bool.and_eq_true, decide_eq_true_eq] at hop
  exact hop.2
 have hn4 := hc.n4
 have hn1 := hc.n1
 have hB2 := blN_le c.b 0 hc.b10
 have hidb : (id : Int) ≤ 2147483648 := by
  unfold blN at hB2
  simp at hB2
  omega
 have hbm : ∀ j, j < c.n → a.bm j < b := fun j hj => by
  have := hS.lt _ (hS.inG _ (hS.bmIn hj))
  omega
 have hu := hS.ul
 have HRi := Lib.hid (fun W => right_of c.b (c.S : Int) (c.T : Int) c.n op id W hc.b10)
 rw [show scA c.b (c.S : Int) (c.T : Int) c.n = #[.int .i64 c.B, .int .i64 (c.S : Int), .int .i64 (c.T : Int), .int .i64 (c.n : Int)] by unfold scA; rw [hc.bB], hop] at HRi
 have HLa := Lib.hid (fun W => SC.last hc W)
 have HTp := Lib.hid (fun (g : SG) (k : Nat) (L : Nat → Prop) (W : World) (h : Sto c a G w L g k W) (e : Nt) (he : WN e) (hk : k < 19990) => h.top hc id hid e he hk)
 have HPa := Lib.hid (fun (g : SG) (k : Nat) (L : Nat → Prop) (W : World) (h : Sto c a G w L g k W) (p gd : Nat) (hp : p + 1 < c.n) (fr : Nt) (D : Dw) (hD : ∀ j, WN (D j).1 ∧ WN (D j).2) (hrow : W.rowIs gd 178 (c.n * 4) (dwV D)) (hL : L gd) (hk : k < 19990) => h.part hc p id gd hp hid fr D hD hrow hL hk)
 obtain ⟨w1, hw1⟩ : ∃ x, ((((w.alloc (.cells #[.pointer (some ⟨a.sp, 0, none⟩)] 82)).alloc (.cells #[.int .i64 op] 3)).alloc (.cells #[.int .u64 (id : Int)] 43)).alloc (.cells (DA d) 48)).alloc (.cells #[.int .u64 0, .int .u64 0, .int .u64 0, .int .u64 0, .int .u64 0, .int .u64 0, .int .u64 0, .int .u64 0] 48) = x := ⟨_, rfl⟩
 have hO1 : Only nobody w w1 := by rw [← hw1]; exact (((((Only.refl _ w).alloc _).alloc _).alloc _).alloc _).alloc _
 have hsz1 : w1.heap.size = b + 5 := by rw [← hw1, World.size_alloc, World.size_alloc, World.size_alloc, World.size_alloc, World.size_alloc, hb]
 have hE : AcE c a G w b op id d (fun i => (i < w.heap.size ∧ ¬ G i) ∨ (b ≤ i ∧ i < b + 5)) g k w1 := by
  refine ⟨((Sto.start hS).nob hO1).less (fun i hi => hi.imp (fun h => h) (fun h => by omega)), ?_, ?_, ?_, ?_, ?_, fun i h1 h2 => .inr ⟨h1, h2⟩, by omega⟩
  ·rw [← hw1, ← hb]; exact ((((Box.new w _ _).alloc _).alloc _).alloc _).alloc _
  ·have q := (((Box.new (w.alloc (.cells #[.pointer (some ⟨a.sp, 0, none⟩)] 82)) 3 #[.int .i64 op]).alloc (.cells #[.int .u64 (id : Int)] 43)).alloc (.cells (DA d) 48)).alloc (.cells #[.int .u64 0, .int .u64 0, .int .u64 0, .int .u64 0, .int .u64 0, .int .u64 0, .int .u64 0, .int .u64 0] 48)
   rw [World.size_alloc, hb, hw1] at q
   exact q
  ·have q := ((Box.new ((w.alloc (.cells #[.pointer (some ⟨a.sp, 0, none⟩)] 82)).alloc (.cells #[.int .i64 op] 3)) 43 #[.int .u64 (id : Int)]).alloc (.cells (DA d) 48)).alloc (.cells #[.int .u64 0, .int .u64 0, .int .u64 0, .int .u64 0, .int .u64 0, .int .u64 0, .int .u64 0, .int .u64 0] 48)
   rw [World.size_alloc, World.size_alloc, hb, hw1] at q
   exact q
  ·have q := (Box.new (((w.alloc (.cells #[.pointer (some ⟨a.sp, 0, none⟩)] 82)).alloc (.cells #[.int .i64 op] 3)).alloc (.cells #[.int .u64 (id : Int)] 43)) 48 (DA d)).alloc (.cells #[.int .u64 0, .int .u64 0, .int .u64 0, .int .u64 0, .int .u64 0, .int .u64 0, .int .u64 0, .int .u64 0] 48)
   rw [World.size_alloc, World.size_alloc, World.size_alloc, hb, hw1] at q
   exact q
  ·have q := Box.new ((((w.alloc (.cells #[.pointer (some ⟨a.sp, 0, none⟩)] 82)).alloc (.cells #[.int .i64 op] 3)).alloc (.cells #[.int .u64 (id : Int)] 43)).alloc (.cells (DA d) 48)) 48 #[.int .u64 0, .int .u64 0, .int .u64 0, .int .u64 0, .int .u64 0, .int .u64 0, .int .u64 0, .int .u64 0]
   rw [World.size_alloc, World.size_alloc, World.size_alloc, World.size_alloc, hb, hw1] at q
   exact q
 have hDw : ∀ j, WN (drawn c g j).1 ∧ WN (drawn c g j).2 := drws_wd (fun h => SC.N_le hc h) _ _ _ (by rw [downL_len]; omega) noDw_wd
 have HDr := Lib.hid (fun (L : Nat → Prop) (W : World) (h : Sto c a G w L g k W) => h.tape (by omega) hc)
 have HW1 := Lib.hid hw1
 have HBb := Lib.hid hb
 have HDd := Lib.hid hDw
 obtain ⟨D, hD⟩ : ∃ D, drawn c g = D := ⟨_, rfl⟩
 have hD' : drws g.nw g.z c.N g.u (downL c.n) noDw = D := hD
 rw [hD] at HDd ⊢
 simp only [hD'] at HDr
 have hop3 : 0 ≤ op ∧ op ≤ 3 := by
  unfold isOp at hop
  simp only [Bool.and_eq_true, Bool.or_eq_true, beq_iff_eq] at hop
  omega
 have hwn : WN (topN g c id) := by
  have q := (hS.lvm 0 (by omega)).wd
  exact ⟨q _ _ 0, q _ _ 1⟩
 obtain ⟨e0, he0⟩ : ∃ e0, topN g c id = e0 := ⟨_, rfl⟩
 rw [he0] at hwn ⊢
 have HE0 : Hid (∀ g', g'.M = g.M → topN g' c id = e0) := Lib.hid (fun g' hg' => by rw [← he0]; unfold topN; rw [hg'])
 obtain ⟨m, hm⟩ : ∃ m, c.n - 1 = m := ⟨_, rfl⟩
 rw [hm] at HLa ⊢
 have hmn : m < c.n := by omega
 have hm1 : ¬ ((c.n : Int) ≤ (m : Int)) := by omega
 clear hw1 hb hO1 hS hD hDw hop hB2 hD' he0 hm
 obtain ⟨L, hLL, hE⟩ : ∃ L : Nat → Prop, (∀ i, (i < w.heap.size ∧ ¬ G i) → L i) ∧ AcE c a G w b op id d L g k w1 := ⟨_, fun i hi => .inl hi, hE⟩
 refine (callsIn_wide (n := 9)).1 ?_
 refine callsIn_of_wp_marks Tryz.func41 rfl trivial ?_ rfl
 simp only [Tryz.ntmps41, List.size_toArray, List.length_cons, List.length_nil, Nat.reduceAdd, Nat.reduceSub, qA0, qB0, qC0, List.append_toArray, List.nil_append, List.cons_append]
 refine calm_wp ?_
 gi_upto_region 1 with fail
 rw [HBb.out]
 simp only [HW1.out]
 have eb2 : b + 1 + 1 = b + 2 := rfl
 have eb3 : b + 1 + 1 + 1 = b + 3 := rfl
 have eb4 : b + 1 + 1 + 1 + 1 = b + 4 := rfl
 try simp only [eb4]
 try simp only [eb3]
 try simp only [eb2]
 have hE := hE.nob ((Only.refl nobody w1).drew)
 refine wide_held (S := (fun u => AcE c a G w b op id d L g k u)) 9 rfl (by kernel_rfl) (by rintro ⟨_, _, h⟩; exact h) hE (fun hHeld => ?_)
 simp only [qA0, qB0, qC0, List.nil_append, List.cons_append]
 generalize w1.drew = w2 at *
 refine tk1 0 16 (.pointer (some ⟨a.sp, 0, none⟩)) rfl (Or.inl ⟨by rfl, fun w' hw => by (have k0 := hw.xs.cell 0; have k1 := hw.xo.cell 0; have k2 := hw.xi.cell 0; have k3 := hw.sto.c3; have k4 := hw.sto.c4; have k5 := hw.sto.c5; have k6 := hw.sto.c6; simp at k0 k1 k2; go_simp)⟩) hHeld ?_
 try simp only [Act.put, sA0, sB0, sC0]
 refine tk1 1 17 (.pointer (some ⟨a.sp, 0, none⟩)) rfl (Or.inl ⟨by rfl, fun w' hw => by go_simp⟩) hHeld ?_
 try simp only [Act.put, sA0, sB0, sC0]
 refine tk1 2 18 (.pointer (some ⟨a.sp, 2, none⟩)) rfl (Or.inl ⟨by rfl, fun w' hw => by go_simp⟩) hHeld ?_
 try simp only [Act.put, sA0, sB0, sC0]
 refine tk1 3 19 (.pointer (some ⟨a.sp, 3, none⟩)) rfl (Or.inl ⟨by rfl, fun w' hw => by go_simp⟩) hHeld ?_
 try simp only [Act.put, sA0, sB0, sC0]
 refine tk1 4 20 (.agg #[.int .i64 c.B, .int .i64 (c.S : Int), .int .i64 (c.T : Int), .int .i64 (c.n : Int)]) rfl (Or.inl ⟨by rfl, fun w' hw => by (have k0 := hw.xs.cell 0; have k1 := hw.xo.cell 0; have k2 := hw.xi.cell 0; have k3 := hw.sto.c3; have k4 := hw.sto.c4; have k5 := hw.sto.c5; have k6 := hw.sto.c6; simp at k0 k1 k2; go_simp)⟩) hHeld ?_
 try simp only [Act.put, sA0, sB0, sC0]
 refine tk1 5 21 (.int .i64 op) rfl (Or.inl ⟨by rfl, fun w' hw => by (have k0 := hw.xs.cell 0; have k1 := hw.xo.cell 0; have k2 := hw.xi.cell 0; have k3 := hw.sto.c3; have k4 := hw.sto.c4; have k5 := hw.sto.c5; have k6 := hw.sto.c6; simp at k0 k1 k2; go_simp)⟩) hHeld ?_
 try simp only [Act.put, sA0, sB0, sC0]
 refine tk1 6 22 (.int .u64 (id : Int)) rfl (Or.inl ⟨by rfl, fun w' hw => by (have k0 := hw.xs.cell 0; have k1 := hw.xo.cell 0; have k2 := hw.xi.cell 0; have k3 := hw.sto.c3; have k4 := hw.sto.c4; have k5 := hw.sto.c5; have k6 := hw.sto.c6; simp at k0 k1 k2; go_simp)⟩) hHeld ?_
 try simp only [Act.put, sA0, sB0, sC0]
 refine one_ready 7 rfl (by kernel_rfl) (fun K hK => ?_)
 go_simp
 refine (HRi.out _).mono ?_
 rintro r9 w9 ⟨rfl, hb9⟩
 have ho : Only nobody w2 w9 := Only.of_below hb9
 have hE := hE.nob ho
 refine hK.out _ _ hE (fun hHeld => ?_)
 clear hK K ho hb9
 try simp only [Act.put, sA0, sB0, sC0]
 refine tk1 8 24 (.bool false) rfl (Or.inl ⟨by rfl, fun w' hw => by go_simp⟩) hHeld ?_
 try simp only [Act.put, sA0, sB0, sC0]
 refine wpAnyH_done (by kernel_rfl) ?_ _
 clear hHeld HRi
 have s0 := hE.xs.cell 0
 simp at s0
 gi_upto_region 4 with (refine ⟨trivial, ?_⟩; gi_at_call 111; refine (callsIn_wide.2 (HDr.out L _ hE.sto)).mono ?_; rintro r9 w10 ⟨gd, rfl, hgd, hrow, hS10, hK10⟩)
 rename_i K4 hK4
 have hgb : b + 5 ≤ gd := by have := hE.xr.lt; omega
 obtain ⟨L1, hL1, hLg, hE10⟩ : ∃ L1 : Nat → Prop, (∀ i, L i → L1 i) ∧ L1 gd ∧ AcE c a G w b op id d L1 (g.drew c) (k + 8) w10 := ⟨fun i => L i ∨ i = gd, fun _ h => .inl h, .inr rfl, hE.go hS10 hK10 (fun _ h => .inl h)⟩
 have hLL := fun i hi => hL1 i (hLL i hi)
 clear hS10 hK10 s0 hE hL1
 obtain ⟨bd, hbd⟩ : ∃ x, w10.heap.size = x := ⟨_, rfl⟩
 obtain ⟨w11, hw11⟩ : ∃ x, w10.alloc (.cells #[.slice (some ⟨gd, 0, none⟩) c.n c.n] 172) = x := ⟨_, rfl⟩
 have ho : Only nobody w10 w11 := by rw [← hw11]; exact (Only.refl nobody w10).alloc _
 have hs11 : w11.heap.size = bd + 1 := by rw [← hw11, World.size_alloc, hbd]
 have hgd2 : gd < bd := by rw [← hbd]; exact hrow.lt
 have xq : Box w11 bd 172 #[.slice (some ⟨gd, 0, none⟩) c.n c.n] := by rw [← hw11, ← hbd]; exact Box.new w10 _ _
 obtain ⟨L2, hLx, hLd, hE11⟩ := hE10.made ho (x := bd) (by omega) (by omega)
 have hE : AcD c a G w b op id d bd gd D L2 (g.drew c) (k + 8) w11 := ⟨hE11, xq, ho.row hrow (not_nobody _), hLd, hLx _ hLg⟩
 have hLL := fun i hi => hLx i (hLL i hi)
 rw [hbd, hw11]
 clear hbd hw11 ho hs11 xq hE11 hLd hE10 hrow hLx hLg hgd
 generalize L2 = L at *
 have REST4 : ∀ (wc : World) (bw : Nat) (L : Nat → Prop), AcD c a G w b op id d bd gd D L ((g.drew c).top c id (D m).1) (k + 8 + 2) wc → Box wc bw 175 (ntA e0) → (∀ i, (i < w.heap.size ∧ ¬ G i) → L i) → L bw → (bd < bw ∧ gd < bw ∧ b + 5 ≤ bw) → K4 { tmps := #[.pointer (some ⟨a.sp, 0, none⟩), .int .i64 op, .int .u64 (id : Int), .agg (DA d), .pointer (some ⟨b, 0, none⟩), .pointer (some ⟨b + 1, 0, none⟩), .pointer (some ⟨b + 2, 0, none⟩), .pointer (some ⟨b + 3, 0, none⟩), .pointer (some ⟨b + 4, 0, none⟩), .bool false, .pointer (some ⟨bd, 0, none⟩), .pointer (some ⟨bw, 0, none⟩), undef, undef, undef, undef, .pointer (some ⟨a.sp, 0, none⟩), .pointer (some ⟨a.sp, 0, none⟩), .pointer (some ⟨a.sp, 2, none⟩), .pointer (some ⟨a.sp, 3, none⟩), .agg #[.int .i64 c.B, .int .i64 (c.S : Int), .int .i64 (c.T : Int), .int .i64 (c.n : Int)], .int .i64 op, .int .u64 (id : Int), .bool true, .bool false, undef, .pointer (some ⟨a.sp, 0, none⟩), .slice (some ⟨gd, 0, none⟩) c.n c.n, .pointer (some ⟨a.sp, 0, none⟩), .int .u64 (id : Int), .slice (some ⟨gd, 0, none⟩) c.n c.n, .pointer (some ⟨a.sp, 0, none⟩), .pointer (some ⟨a.sp, 0, none⟩), .pointer (some ⟨a.sp, 2, none⟩), .pointer (some ⟨a.sp, 3, none⟩), .agg #[.int .i64 c.B, .int .i64 (c.S : Int), .int .i64 (c.T : Int), .int .i64 (c.n : Int)], .int .i64 (m : Int), .pointer (some ⟨gd, m * 4, none⟩), .pointer (some ⟨gd, m * 4, none⟩), .agg #[.int .u64 (D m).1.1, .int .u64 (D m).1.2], .agg (ntA e0), undef, undef, undef, undef, undef, undef, undef, undef, undef, undef, undef, undef, undef, undef, undef, undef, undef, undef, undef, undef, undef, undef, undef, undef, undef, undef, undef, undef, undef, undef, undef, undef, undef, undef, undef, undef, undef, undef, undef, undef, undef, undef, undef, undef, undef, undef, undef, undef, undef, undef, undef, undef, undef, undef], defers := [] } wc := by
  clear hE hLL
  clear L
  intro wc bw L hE xw hLL hLw hdx
  refine hK4 _ _ ?_
  dsimp only
  obtain ⟨g0, hg0⟩ : ∃ g0, (g.drew c).top c id (D m).1 = g0 := ⟨_, rfl⟩
  rw [hg0] at hE
  have HG0 := Lib.hid hg0
  clear hg0
  obtain ⟨bs, hbs⟩ : ∃ x, wc.heap.size = x := ⟨_, rfl⟩
  obtain ⟨w12, hw12⟩ : ∃ x, (wc.alloc (.cells #[.int .u64 0, .int .u64 0, .int .u64 0, .int .u64 0, .int .u64 0, .int .u64 0, .int .u64 0, .int .u64 0] 48)).alloc (.cells #[.bool false] 4) = x := ⟨_, rfl⟩
  have ho : Only nobody wc w12 := by rw [← hw12]; exact ((Only.refl nobody wc).alloc _).alloc _
  have hs12 : w12.heap.size = bs + 2 := by rw [← hw12, World.size_alloc, World.size_alloc, hbs]
  have xs : Box w12 bs 48 (DA fun _ => 0) := by rw [← hw12, ← hbs]; exact (Box.new wc _ _).alloc _
  have xt : Box w12 (bs + 1) 4 #[.bool false] := by
   have q := Box.new (wc.alloc (.cells #[.int .u64 0, .int .u64 0, .int .u64 0, .int .u64 0, .int .u64 0, .int .u64 0, .int .u64 0, .int .u64 0] 48)) 4 #[.bool false]
   rw [World.size_alloc, hbs, hw12] at q
   exact q
  have hwb : bw < bs := by rw [← hbs]; exact xw.lt
  have hdb : bd < bs := by rw [← hbs]; exact hE.xq.lt
  have hE12 := hE.nob ho
  have HW12 := Lib.hid hw12
  clear hw12
  gi_upto_region 7 with fail
  try rw [hbs]
  try simp only [HW12.out]
  have k0 := hE12.k0
  have s3 := hE12.e.sto.c3
  have s4 := hE12.e.sto.c4
  have s5 := hE12.e.sto.c5
  have s6 := hE12.e.sto.c6
  obtain ⟨bc, hbc⟩ : ∃ x, w12.heap.size = x := ⟨_, rfl⟩
  have HS12 := Lib.hid hs12
  clear hs12
  gi_wp2_with (refine ⟨trivial, ?_⟩; gi_at_call 114; refine (callsIn_wide.2 (fromLast_any _ _)).mono ?_; rintro e w3 ⟨rfl, rfl⟩)
  try rw [hbc]
  have hcb : bc = bs + 2 := by have := HS12.out; omega
  obtain ⟨W0, hW0⟩ : ∃ x, w12.alloc (.cells #[.int .i64 c.B, .int .i64 (c.S : Int), .int .i64 (c.T : Int), .int .i64 (c.n : Int)] 79) = x := ⟨_, rfl⟩
  have ho2 : Only nobody w12 W0 := by rw [← hW0]; exact (Only.refl nobody w12).alloc _
  have hsz0 : W0.heap.size = bc + 1 := by rw [← hW0, World.size_alloc, hbc]
  have bC : Box W0 bc 79 #[.int .i64 c.B, .int .i64 (c.S : Int), .int .i64 (c.T : Int), .int .i64 (c.n : Int)] := by rw [← hW0, ← hbc]; exact Box.new w12 _ _
  have ho3 : Only nobody wc W0 := ho.trans ho2
  obtain ⟨L3, hL3, hLS, hE3⟩ := hE.many ho3 (fun i => bs ≤ i ∧ i < bs + 3) (fun i hi => by omega)
  have hLL := fun i hi => hL3 i (hLL i hi)
  have hLw := hL3 _ hLw
  have xw := xw.only ho3 (not_nobody _)
  have xs := xs.only ho2 (not_nobody _)
  have xt := xt.only ho2 (not_nobody _)
  have hbmB : ∀ j, j < c.n → a.bm j < W0.heap.size := fun j hj => by have := hbm j hj; omega
  obtain ⟨bt, hbt⟩ : ∃ x, bs + 1 = x := ⟨_, rfl⟩
  have hI0 : AcI c a G w b op id d bd gd bw bs bt D L3 W0.heap.size g0 e0 (fun _ => 0) false (k + 10) W0 := ⟨hE3, xw, xs, (by rw [← hbt]; exact xt), ⟨hLw, hLS _ (by omega), (by rw [← hbt]; exact hLS _ (by omega))⟩, hwn, hE3.e.sto.grd hbmB⟩
  have hLc : L3 bc := hLS _ (by omega)
  have hwB : w.heap.size ≤ W0.heap.size := by have := HBb.out; omega
  rw [hW0]
  try rw [hbt]
  have HCb := Lib.hid hcb
  have hwb2 : bw < bc ∧ bs < bc ∧ bt < bc ∧ bd < bc ∧ gd < bc ∧ b + 5 ≤ bw ∧ bw < bs ∧ bs < bt := by omega
  clear hE hE12 hE3 hW0 ho ho2 ho3 k0 s3 s4 s5 s6 xw xs xt hL3 hLS HW12 hbc hbs hcb hbt
  generalize L3 = L at *
  refine wpIn_rangeFunc_ownG rfl (by decide) (gf := 154) (lb := #[.pointer (some ⟨bc, 0, none⟩)]) rfl trivial (enters_of Tryz.func154 (by kernel_rfl) rfl)
   (last_stops _ bc c.n c.B (c.S : Int) (c.T : Int) (by omega) _ bC) (fun h k => KC.trans h k) KC.book (Below.refl _ _) (fun _ => rfl)
   (fun pre W => ∃ g' e r t, Rn c D op id d g0 e0 (pre.map lvl) g' e r t ∧ AcI c a G w b op id d bd gd bw bs bt D L W0.heap.size g' e r t (k + 10 + 2 * pre.length) W)
   (fun _ _ _ => False)
   (fun pre X Y row hs hg hr => by obtain ⟨g', e, r, t, h1, h2⟩ := hs; exact ⟨g', e, r, t, h1, h2.nonc (only_nonc hg hr) (by omega)⟩)
   (fun _ _ _ _ _ hs _ _ => hs)
   ⟨g0, e0, _, _, Rn.nil, hI0⟩
   (fun x => { tmps := #[.pointer (some ⟨a.sp, 0, none⟩), .int .i64 op, .int .u64 (id : Int), .agg (DA d), .pointer (some ⟨b, 0, none⟩), .pointer (some ⟨b + 1, 0, none⟩), .pointer (some ⟨b + 2, 0, none⟩), .pointer (some ⟨b + 3, 0, none⟩), .pointer (some ⟨b + 4, 0, none⟩), .bool false, .pointer (some ⟨bd, 0, none⟩), .pointer (some ⟨bw, 0, none⟩), .pointer (some ⟨bs, 0, none⟩), .pointer (some ⟨bt, 0, none⟩), .int .i64 (lvl x : Int), undef, .pointer (some ⟨a.sp, 0, none⟩), .pointer (some ⟨a.sp, 0, none⟩), .pointer (some ⟨a.sp, 2, none⟩), .pointer (some ⟨a.sp, 3, none⟩), .agg #[.int .i64 c.B, .int .i64 (c.S : Int), .int .i64 (c.T : Int), .int .i64 (c.n : Int)], .int .i64 op, .int .u64 (id : Int), .bool true, .bool false, undef, .pointer (some ⟨a.sp, 0, none⟩), .slice (some ⟨gd, 0, none⟩) c.n c.n, .pointer (some ⟨a.sp, 0, none⟩), .int .u64 (id : Int), .slice (some ⟨gd, 0, none⟩) c.n c.n, .pointer (some ⟨a.sp, 0, none⟩), .pointer (some ⟨a.sp, 0, none⟩), .pointer (some ⟨a.sp, 2, none⟩), .pointer (some ⟨a.sp, 3, none⟩), .agg #[.int .i64 c.B, .int .i64 (c.S : Int), .int .i64 (c.T : Int), .int .i64 (c.n : Int)], .int .i64 (m : Int), .pointer (some ⟨gd, m * 4, none⟩), .pointer (some ⟨gd, m * 4, none⟩), .agg #[.int .u64 (D m).1.1, .int .u64 (D m).1.2], .agg (ntA e0), .pointer (some ⟨a.sp, 0, none⟩), .pointer (some ⟨a.sp, 0, none⟩), .pointer (some ⟨a.sp, 2, none⟩), .pointer (some ⟨a.sp, 3, none⟩), .agg #[.int .i64 c.B, .int .i64 (c.S : Int), .int .i64 (c.T : Int), .int .i64 (c.n : Int)], .func (.func 154) #[] #[.pointer (some ⟨bc, 0, none⟩)], .int .i64 (lvl x : Int), undef, undef, undef, undef, undef, undef, undef, undef, undef, undef, undef, undef, undef, undef, undef, undef, undef, undef, undef, undef, undef, undef, undef, undef, undef, undef, undef, undef, undef, undef, undef, undef, undef, undef, undef, undef, undef, undef, undef, undef, undef, undef, undef, undef, undef, undef, undef], defers := [] })
   ?assign ?body ?done ?stop
  case assign =>
   intro l x W K hK
   dsimp only [encV]
   rw [zip_one]
   simp only [List.set_cons_zero, List.set_cons_succ]
   gi_wp2
   exact hK
  case body =>
   rintro l pre x W ⟨g', e, r, t, hR, hI⟩ hlt
   dsimp only
   obtain ⟨h, hh⟩ : ∃ h, lvl x = h := ⟨_, rfl⟩
   have hx : h < c.n := by rw [← hh]; exact x.2
   rw [hh]
   have hhn : ¬ ((c.n : Int) ≤ (h : Int)) := by omega
   have hfin : (pre ++ [x]).map lvl = pre.map lvl ++ [h] := by rw [List.map_append, List.map_cons, List.map_nil, hh]
   have hlen : k + 10 + 2 * (pre ++ [x]).length = k + 10 + 2 * pre.length + 2 := by rw [List.length_append]; simp; omega
   obtain ⟨kk, hkk⟩ : ∃ kk, k + 10 + 2 * pre.length = kk := ⟨_, rfl⟩
   have hk9 : kk < 19950 := by omega
   rw [hkk] at hI hlen
   obtain ⟨N1, hN1⟩ : ∃ N1 : Nat → Prop, N1 = (fun i => (W0.heap.size ≤ i ∧ i < W.heap.size ∧ ¬ cellsAt W i) ∨ i = bc) := ⟨_, rfl⟩
   obtain ⟨L2, hLI, hN, hE⟩ : ∃ L2 : Nat → Prop, (∀ i, L i → L2 i) ∧ (∀ i, N1 i → L2 i) ∧ AcD c a G w b op id d bd gd D L2 g' kk W := by
    have hG := hI.d.e.sto.guard hbmB
    refine ⟨_, fun i hi => .inl hi, fun i hi => ?_, hI.d.with hG (fun i hi => .inl hi)⟩
    rw [hN1] at hi
    exact hi.elim .inr (fun e => .inl (by rw [e]; exact hLc))
   have hnc : ∀ {p : Nat} {ty : TypeId} {cs : Array Value}, Box W p ty cs → p ≠ bc → ¬ N1 p := fun hb hne hi => by
    rw [hN1] at hi
    exact hi.elim (fun h => h.2.2 hb.cells) hne
   have hnew : ∀ p, W.heap.size ≤ p → ¬ N1 p := fun p hp hi => by
    rw [hN1] at hi
    have h1 := hI.d.e.sto.ltL hLc
    exact hi.elim (fun h => by omega) (fun h => by omega)
   have nw := hnc hI.xw (by omega)
   have ns := hnc hI.xs (by omega)
   have nt := hnc hI.xt (by omega)
   have xw := hI.xw
   have xs := hI.xs
   have xt := hI.xt
   obtain ⟨lw, ls, lt⟩ := hI.l3
   have hl5 := hI.d.e.l
   have hl2 := hI.d.l2
   have hwe := hI.wn
   have HFIN : ∀ (w' : World) (g2 : SG) (e2 : Nt) (r2 : Nat → Int) (t2 : Bool), Rn c D op id d g0 e0 (pre.map lvl ++ [h]) g2 e2 r2 t2 → (∃ L2 : Nat → Prop, (∀ i, L i → L2 i) ∧ AcD c a G w b op id d bd gd D L2 g2 (kk + 2) w') → Box w' bw 175 (ntA e2) → Box w' bs 48 (DA r2) → Box w' bt 4 #[.bool t2] → WN e2 → Kept N1 W w' →
     KeepsFrom W0.heap.size W w' ∧ KC bc #[.int .i64 c.B, .int .i64 (c.S : Int), .int .i64 (c.T : Int), .int .i64 (c.n : Int)] W w' ∧ ∃ g' e r t, Rn c D op id d g0 e0 ((pre ++ [x]).map lvl) g' e r t ∧ AcI c a G w b op id d bd gd bw bs bt D L W0.heap.size g' e r t (k + 10 + 2 * (pre ++ [x]).length) w' := by
    rintro w' g2 e2 r2 t2 h1 ⟨L2, h2, h3⟩ h4 h5 h6 h7 h8
    refine ⟨⟨h8.size, fun i o hB ho hcs => (h8.block i (Array.getElem?_eq_some_iff.1 ho).1 (fun hk => hk ?_)).trans ho⟩, fun hb => h8.box hb (by rw [hN1]; exact .inr rfl), g2, e2, r2, t2, by rw [hfin]; exact h1, ?_⟩
    ·rw [hN1]
     exact .inl ⟨hB, (Array.getElem?_eq_some_iff.1 ho).1, fun hc2 => hc2.not ho hcs⟩
    ·rw [hlen]
     have h9 := h3.less h2 hl5 hl2
     exact ⟨h9, h4, h5, h6, ⟨lw, ls, lt⟩, h7, h9.e.sto.grd hbmB⟩
   have HRn := Lib.hid hR
   have HFn := Lib.hid HFIN
   have HNC := Lib.hid hnew
   have hF : Kept N1 W W := Kept.refl _ _
   have hWs : W.heap.size ≤ W.heap.size := Nat.le_refl _
   clear hI HFIN hnew hnc hN1 hR hh hfin hlen hkk hlt hl5 hl2
   obtain ⟨fr, hfr⟩ : ∃ fr, orN e (D h).2 = fr := ⟨_, rfl⟩
   have hwf : WN fr := by rw [← hfr]; exact orN_wd hwe (HDd.out h).2
   gi_upto_region 9 with fail
   rename_i K9 hK9
   have REST9 : ∀ (wc : World) (bf : Nat) (L2 : Nat → Prop), AcD c a G w b op id d bd gd D L2 g' kk wc → Box wc bw 175 (ntA e) → Box wc bs 48 (DA r) → Box wc bt 4 #[.bool t] → Box wc bf 175 (ntA fr) → (∀ i, L i → L2 i) → (∀ i, N1 i → L2 i) → L2 bf → (bd < bf ∧ gd < bf ∧ b + 5 ≤ bf ∧ bw < bf ∧ bs < bf ∧ bt < bf) → W.heap.size ≤ bf → Kept N1 W wc → K9 { tmps := #[.pointer (some ⟨a.sp, 0, none⟩), .int .i64 op, .int .u64 (id : Int), .agg (DA d), .pointer (some ⟨b, 0, none⟩), .pointer (some ⟨b + 1, 0, none⟩), .pointer (some ⟨b + 2, 0, none⟩), .pointer (some ⟨b + 3, 0, none⟩), .pointer (some ⟨b + 4, 0, none⟩), .bool false, .pointer (some ⟨bd, 0, none⟩), .pointer (some ⟨bw, 0, none⟩), .pointer (some ⟨bs, 0, none⟩), .pointer (some ⟨bt, 0, none⟩), .int .i64 (h : Int), .pointer (some ⟨bf, 0, none⟩), .pointer (some ⟨a.sp, 0, none⟩), .pointer (some ⟨a.sp, 0, none⟩), .pointer (some ⟨a.sp, 2, none⟩), .pointer (some ⟨a.sp, 3, none⟩), .agg #[.int .i64 c.B, .int .i64 (c.S : Int), .int .i64 (c.T : Int), .int .i64 (c.n : Int)], .int .i64 op, .int .u64 (id : Int), .bool true, .bool false, undef, .pointer (some ⟨a.sp, 0, none⟩), .slice (some ⟨gd, 0, none⟩) c.n c.n, .pointer (some ⟨a.sp, 0, none⟩), .int .u64 (id : Int), .slice (some ⟨gd, 0, none⟩) c.n c.n, .pointer (some ⟨a.sp, 0, none⟩), .pointer (some ⟨a.sp, 0, none⟩), .pointer (some ⟨a.sp, 2, none⟩), .pointer (some ⟨a.sp, 3, none⟩), .agg #[.int .i64 c.B, .int .i64 (c.S : Int), .int .i64 (c.T : Int), .int .i64 (c.n : Int)], .int .i64 (m : Int), .pointer (some ⟨gd, m * 4, none⟩), .pointer (some ⟨gd, m * 4, none⟩), .agg #[.int .u64 (D m).1.1, .int .u64 (D m).1.2], .agg (ntA e0), .pointer (some ⟨a.sp, 0, none⟩), .pointer (some ⟨a.sp, 0, none⟩), .pointer (some ⟨a.sp, 2, none⟩), .pointer (some ⟨a.sp, 3, none⟩), .agg #[.int .i64 c.B, .int .i64 (c.S : Int), .int .i64 (c.T : Int), .int .i64 (c.n : Int)], .func (.func 154) #[] #[.pointer (some ⟨bc, 0, none⟩)], .int .i64 (h : Int), .agg #[.int .u64 e.1, .int .u64 e.2], .slice (some ⟨gd, 0, none⟩) c.n c.n, .int .i64 (h : Int), .pointer (some ⟨gd, h * 4, none⟩), .pointer (some ⟨gd, h * 4 + 2, none⟩), .agg #[.int .u64 (D h).2.1, .int .u64 (D h).2.2], .agg (ntA fr), undef, undef, undef, undef, undef, undef, undef, undef, undef, undef, undef, undef, undef, undef, undef, undef, undef, undef, undef, undef, undef, undef, undef, undef, undef, undef, undef, undef, undef, undef, undef, undef, undef, undef, undef, undef, undef, undef, undef, undef], defers := [] } wc := by
    clear hE xw xs xt hF hWs hLI hN
    clear L2
    intro wc bf L2 hE xw xs xt xf hLI hN hLf hdf hWf hF
    refine hK9 _ _ ?_
    dsimp only
    obtain ⟨ga', gc', q8, f8, own8, HL8, HS8, hg8, HG⟩ := hE.e.sto.gone
    gi_upto_region 10 with fail
    rename_i K10 hK10
    have REST10 : ∀ (wc : World) (A2 : Option Addr) (cap2 sz : Nat), AcD c a G w b op id d bd gd D L2 (g'.gon fr) (kk + 1) wc → Box wc bw 175 (ntA e) → Box wc bs 48 (DA r) → Box wc bt 4 #[.bool t] → Box wc bf 175 (ntA fr) → Kept N1 W wc → K10 { tmps := #[.pointer (some ⟨a.sp, 0, none⟩), .int .i64 op, .int .u64 (id : Int), .agg (DA d), .pointer (some ⟨b, 0, none⟩), .pointer (some ⟨b + 1, 0, none⟩), .pointer (some ⟨b + 2, 0, none⟩), .pointer (some ⟨b + 3, 0, none⟩), .pointer (some ⟨b + 4, 0, none⟩), .bool false, .pointer (some ⟨bd, 0, none⟩), .pointer (some ⟨bw, 0, none⟩), .pointer (some ⟨bs, 0, none⟩), .pointer (some ⟨bt, 0, none⟩), .int .i64 (h : Int), .pointer (some ⟨bf, 0, none⟩), .pointer (some ⟨a.sp, 0, none⟩), .pointer (some ⟨a.sp, 0, none⟩), .pointer (some ⟨a.sp, 2, none⟩), .pointer (some ⟨a.sp, 3, none⟩), .agg #[.int .i64 c.B, .int .i64 (c.S : Int), .int .i64 (c.T : Int), .int .i64 (c.n : Int)], .int .i64 op, .int .u64 (id : Int), .bool true, .bool false, undef, .pointer (some ⟨a.sp, 0, none⟩), .slice (some ⟨gd, 0, none⟩) c.n c.n, .pointer (some ⟨a.sp, 0, none⟩), .int .u64 (id : Int), .slice (some ⟨gd, 0, none⟩) c.n c.n, .pointer (some ⟨a.sp, 0, none⟩), .pointer (some ⟨a.sp, 0, none⟩), .pointer (some ⟨a.sp, 2, none⟩), .pointer (some ⟨a.sp, 3, none⟩), .agg #[.int .i64 c.B, .int .i64 (c.S : Int), .int .i64 (c.T : Int), .int .i64 (c.n : Int)], .int .i64 (m : Int), .pointer (some ⟨gd, m * 4, none⟩), .pointer (some ⟨gd, m * 4, none⟩), .agg #[.int .u64 (D m).1.1, .int .u64 (D m).1.2], .agg (ntA e0), .pointer (some ⟨a.sp, 0, none⟩), .pointer (some ⟨a.sp, 0, none⟩), .pointer (some ⟨a.sp, 2, none⟩), .pointer (some ⟨a.sp, 3, none⟩), .agg #[.int .i64 c.B, .int .i64 (c.S : Int), .int .i64 (c.T : Int), .int .i64 (c.n : Int)], .func (.func 154) #[] #[.pointer (some ⟨bc, 0, none⟩)], .int .i64 (h : Int), .agg #[.int .u64 e.1, .int .u64 e.2], .slice (some ⟨gd, 0, none⟩) c.n c.n, .int .i64 (h : Int), .pointer (some ⟨gd, h * 4, none⟩), .pointer (some ⟨gd, h * 4 + 2, none⟩), .agg #[.int .u64 (D h).2.1, .int .u64 (D h).2.2], .agg (ntA fr), .pointer (some ⟨a.sp, 0, none⟩), .pointer (some ⟨a.sp, 0, none⟩), .pointer (some ⟨a.sp, 0, none⟩), .pointer (some ⟨a.sp, 8, none⟩), .slice ga' g'.gone.length gc', .agg #[.int .u64 fr.1, .int .u64 fr.2], .slice (some ⟨sz, 0, none⟩) 1 1, .slice A2 (g'.gone.length + 1) cap2, .pointer (some ⟨a.sp, 0, none⟩), .pointer (some ⟨a.sp, 8, none⟩), undef, undef, undef, undef, undef, undef, undef, undef, undef, undef, undef, undef, undef, undef, undef, undef, undef, undef, undef, undef, undef, undef, undef, undef, undef, undef, undef, undef, undef, undef], defers := [] } wc := by
     clear hE xw xs xt xf hF q8 f8 own8 HG HL8 HS8
     intro wc A2 cap2 sz hE xw xs xt xf hF
     refine hK10 _ _ ?_
     dsimp only
     cases h with
     | succ p =>
      have k0 := hE.k0
      have k2 := hE.k2
      have k3 := hE.k3
      have y0 := xf.cell 0
      have y1 := xf.cell 1
      simp [ntA] at y0 y1
      gi_wp2_with fail
      refine ⟨trivial, ?_⟩
      refine (calls_round (HPa.out _ _ _ _ hE.e.sto p gd hx fr D HDd.out hE.row hE.l2.2 (by omega))).mono ?_
      rintro r9 w9 ⟨rfl, o, hor, hS9, hK9'⟩
      have hE9 := hE.go hS9 hK9'
      have xw9 := hK9'.box xw (hLI _ lw)
      have xs9 := hK9'.box xs (hLI _ ls)
      have xt9 := hK9'.box xt (hLI _ lt)
      have hF9 := hF.trans (hK9'.mono hN)
      have hw1 : WN (partN c (g'.gon fr) D p id fr) := partN_wd (hE.e.wd0 hc)
      have hRn := Rn.part p o HRn.out hx (by rw [hfr]; exact hor)
      rw [hfr] at hRn
      obtain ⟨⟨x1, y1'⟩, he1⟩ : ∃ e1, partN c (g'.gon fr) D p id fr = e1 := ⟨_, rfl⟩
      rw [he1] at hw1 hRn ⊢
      simp only [ntA]
      have q0 := xw9.cell 0
      have q1 := xw9.cell 1
      have q2 := xw9.frozen 0
      have q3 := xw9.frozen 1
      simp [ntA] at q0 q1
      have HRN := Lib.hid hRn
      have HW1x := Lib.hid hw1
      have HF9 := Lib.hid hF9
      clear hRn he1 hw1 hS9 hK9' hor k0 k2 k3 y0 y1
      gi_wp2
      have ho : Only (just bw) w9 ((w9.setCell ⟨bw, 0, none⟩ (.int .u64 x1)).setCell ⟨bw, 1, none⟩ (.int .u64 y1')) := ((Only.refl _ w9).setCell (p := ⟨bw, 0, none⟩) (.inl (just_self _)) _).setCell (p := ⟨bw, 1, none⟩) (.inl (just_self _)) _
      exact HFn.out _ _ (x1, y1') r t HRN.out ⟨L2, hLI, (hE9.far ho (hLI _ lw) (by omega) (by omega) (by omega)).up (by omega)⟩ ((xw9.put 0 _).put 1 _) (xs9.only ho (just_ne (by omega))) (xt9.only ho (just_ne (by omega))) HW1x.out (HF9.out.trans (ho.mono (fun i _ hi hn => nw (by rw [← show i = bw from hi]; exact hn))))
     | zero =>
      gi_upto_region 13 with fail
      have hE := hE.nob ((Only.refl nobody wc).drew)
      refine round_held (S := (fun u => AcX c a G w b op id d bd gd D u ∧ Box u bf 175 (ntA fr))) 22 rfl (by kernel_rfl) (by kernel_rfl) (by rintro ⟨_, _, h⟩; exact h) ⟨⟨_, _, _, hE⟩, xf⟩ (fun hHeld => ?_)
      simp only [qA0, qB0, qC0, List.nil_append, List.cons_append]
      have hF := hF.trans (Kept.of_none (Only.refl nobody wc).drew)
      have xs := xs.drewN 1
      have xt := xt.drewN 1
      have xw := xw.drewN 1
      have xf := xf.drewN 1
      change Box wc.drew _ _ _ at xs xt xw xf
      generalize wc.drew = wc at *
      refine tk1 0 74 (.pointer (some ⟨a.sp, 0, none⟩)) rfl (Or.inl ⟨by rfl, fun w' hw => by (obtain ⟨⟨_, _, _, hw⟩, hbf⟩ := hw; have s0 := hw.e.sto.c0; have s2 := hw.e.sto.c2; have s3 := hw.e.sto.c3; have s4 := hw.e.sto.c4; have s5 := hw.e.sto.c5; have s6 := hw.e.sto.c6; have k0 := hw.k0; have k1 := hw.k1; have k2 := hw.k2; have k3 := hw.k3; have s7 := hw.e.sto.c7; have l0 := hw.e.sto.lvl hx; have y0 := hbf.cell 0; have y1 := hbf.cell 1; simp [ntA] at y0 y1; have r0 := row_d0 hw.row (j := 0) hx; have r1 := row_d1 hw.row (j := 0) hx; simp at r0 r1; go_simp)⟩) hHeld ?_
      try simp only [Act.put, sA0, sB0, sC0]
      refine tk1 1 75 (.pointer (some ⟨a.sp, 0, none⟩)) rfl (Or.inl ⟨by rfl, fun w' hw => by go_simp⟩) hHeld ?_
      try simp only [Act.put, sA0, sB0, sC0]
      refine tk1 2 76 (.pointer (some ⟨a.sp, 7, none⟩)) rfl (Or.inl ⟨by rfl, fun w' hw => by go_simp⟩) hHeld ?_
      try simp only [Act.put, sA0, sB0, sC0]
      refine tk1 3 77 (.slice (some ⟨a.lg, 0, none⟩) c.n a.lc) rfl (Or.inl ⟨by rfl, fun w' hw => by (obtain ⟨⟨_, _, _, hw⟩, hbf⟩ := hw; have s0 := hw.e.sto.c0; have s2 := hw.e.sto.c2; have s3 := hw.e.sto.c3; have s4 := hw.e.sto.c4; have s5 := hw.e.sto.c5; have s6 := hw.e.sto.c6; have k0 := hw.k0; have k1 := hw.k1; have k2 := hw.k2; have k3 := hw.k3; have s7 := hw.e.sto.c7; have l0 := hw.e.sto.lvl hx; have y0 := hbf.cell 0; have y1 := hbf.cell 1; simp [ntA] at y0 y1; have r0 := row_d0 hw.row (j := 0) hx; have r1 := row_d1 hw.row (j := 0) hx; simp at r0 r1; go_simp)⟩) hHeld ?_
      try simp only [Act.put, sA0, sB0, sC0]
      refine tk1 4 78 (.pointer (some ⟨a.lg, 0, none⟩)) rfl (Or.inl ⟨by rfl, fun w' hw => by (obtain ⟨⟨_, _, _, hw⟩, hbf⟩ := hw; have s0 := hw.e.sto.c0; have s2 := hw.e.sto.c2; have s3 := hw.e.sto.c3; have s4 := hw.e.sto.c4; have s5 := hw.e.sto.c5; have s6 := hw.e.sto.c6; have k0 := hw.k0; have k1 := hw.k1; have k2 := hw.k2; have k3 := hw.k3; have s7 := hw.e.sto.c7; have l0 := hw.e.sto.lvl hx; have y0 := hbf.cell 0; have y1 := hbf.cell 1; simp [ntA] at y0 y1; have r0 := row_d0 hw.row (j := 0) hx; have r1 := row_d1 hw.row (j := 0) hx; simp at r0 r1; go_simp)⟩) hHeld ?_
      try simp only [Act.put, sA0, sB0, sC0]
      refine tk1 5 79 (.pointer (some ⟨a.lp 0, 0, none⟩)) rfl (Or.inl ⟨by rfl, fun w' hw => by (obtain ⟨⟨_, _, _, hw⟩, hbf⟩ := hw; have s0 := hw.e.sto.c0; have s2 := hw.e.sto.c2; have s3 := hw.e.sto.c3; have s4 := hw.e.sto.c4; have s5 := hw.e.sto.c5; have s6 := hw.e.sto.c6; have k0 := hw.k0; have k1 := hw.k1; have k2 := hw.k2; have k3 := hw.k3; have s7 := hw.e.sto.c7; have l0 := hw.e.sto.lvl hx; have y0 := hbf.cell 0; have y1 := hbf.cell 1; simp [ntA] at y0 y1; have r0 := row_d0 hw.row (j := 0) hx; have r1 := row_d1 hw.row (j := 0) hx; simp at r0 r1; go_simp)⟩) hHeld ?_
      try simp only [Act.put, sA0, sB0, sC0]
      refine tk1 6 80 (.int .i64 op) rfl (Or.inl ⟨by rfl, fun w' hw => by (obtain ⟨⟨_, _, _, hw⟩, hbf⟩ := hw; have s0 := hw.e.sto.c0; have s2 := hw.e.sto.c2; have s3 := hw.e.sto.c3; have s4 := hw.e.sto.c4; have s5 := hw.e.sto.c5; have s6 := hw.e.sto.c6; have k0 := hw.k0; have k1 := hw.k1; have k2 := hw.k2; have k3 := hw.k3; have s7 := hw.e.sto.c7; have l0 := hw.e.sto.lvl hx; have y0 := hbf.cell 0; have y1 := hbf.cell 1; simp [ntA] at y0 y1; have r0 := row_d0 hw.row (j := 0) hx; have r1 := row_d1 hw.row (j := 0) hx; simp at r0 r1; go_simp)⟩) hHeld ?_
      try simp only [Act.put, sA0, sB0, sC0]
      refine tk1 7 81 (.int .u64 (id : Int)) rfl (Or.inl ⟨by rfl, fun w' hw => by (obtain ⟨⟨_, _, _, hw⟩, hbf⟩ := hw; have s0 := hw.e.sto.c0; have s2 := hw.e.sto.c2; have s3 := hw.e.sto.c3; have s4 := hw.e.sto.c4; have s5 := hw.e.sto.c5; have s6 := hw.e.sto.c6; have k0 := hw.k0; have k1 := hw.k1; have k2 := hw.k2; have k3 := hw.k3; have s7 := hw.e.sto.c7; have l0 := hw.e.sto.lvl hx; have y0 := hbf.cell 0; have y1 := hbf.cell 1; simp [ntA] at y0 y1; have r0 := row_d0 hw.row (j := 0) hx; have r1 := row_d1 hw.row (j := 0) hx; simp at r0 r1; go_simp)⟩) hHeld ?_
      try simp only [Act.put, sA0, sB0, sC0]
      refine take_row 8 (oi := ⟨some 82, _, _, _, _, _⟩) (DA d).toList rfl (by kernel_rfl) (by kernel_rfl) (by kernel_rfl) (fun _ _ _ h => h) (by rfl) _ _ rfl _ _ rfl _ (fun w' hw => by obtain ⟨⟨_, _, _, hw⟩, _⟩ := hw; exact hw.e.xd.range) Tryz.underlying48 rfl (infoData d) hHeld ?_
      try simp only [Act.put, sA0, sB0, sC0]
      refine tk1 9 83 (.agg #[.int .u64 fr.1, .int .u64 fr.2]) rfl (Or.inl ⟨by rfl, fun w' hw => by (obtain ⟨⟨_, _, _, hw⟩, hbf⟩ := hw; have s0 := hw.e.sto.c0; have s2 := hw.e.sto.c2; have s3 := hw.e.sto.c3; have s4 := hw.e.sto.c4; have s5 := hw.e.sto.c5; have s6 := hw.e.sto.c6; have k0 := hw.k0; have k1 := hw.k1; have k2 := hw.k2; have k3 := hw.k3; have s7 := hw.e.sto.c7; have l0 := hw.e.sto.lvl hx; have y0 := hbf.cell 0; have y1 := hbf.cell 1; simp [ntA] at y0 y1; have r0 := row_d0 hw.row (j := 0) hx; have r1 := row_d1 hw.row (j := 0) hx; simp at r0 r1; go_simp)⟩) hHeld ?_
      try simp only [Act.put, sA0, sB0, sC0]
      refine tk1 11 85 (.slice (some ⟨gd, 0, none⟩) c.n c.n) rfl (Or.inl ⟨by rfl, fun w' hw => by (obtain ⟨⟨_, _, _, hw⟩, hbf⟩ := hw; have s0 := hw.e.sto.c0; have s2 := hw.e.sto.c2; have s3 := hw.e.sto.c3; have s4 := hw.e.sto.c4; have s5 := hw.e.sto.c5; have s6 := hw.e.sto.c6; have k0 := hw.k0; have k1 := hw.k1; have k2 := hw.k2; have k3 := hw.k3; have s7 := hw.e.sto.c7; have l0 := hw.e.sto.lvl hx; have y0 := hbf.cell 0; have y1 := hbf.cell 1; simp [ntA] at y0 y1; have r0 := row_d0 hw.row (j := 0) hx; have r1 := row_d1 hw.row (j := 0) hx; simp at r0 r1; go_simp)⟩) hHeld ?_
      try simp only [Act.put, sA0, sB0, sC0]
      refine tk1 12 86 (.pointer (some ⟨gd, 0, none⟩)) rfl (Or.inl ⟨by rfl, fun w' hw => by (obtain ⟨⟨_, _, _, hw⟩, hbf⟩ := hw; have s0 := hw.e.sto.c0; have s2 := hw.e.sto.c2; have s3 := hw.e.sto.c3; have s4 := hw.e.sto.c4; have s5 := hw.e.sto.c5; have s6 := hw.e.sto.c6; have k0 := hw.k0; have k1 := hw.k1; have k2 := hw.k2; have k3 := hw.k3; have s7 := hw.e.sto.c7; have l0 := hw.e.sto.lvl hx; have y0 := hbf.cell 0; have y1 := hbf.cell 1; simp [ntA] at y0 y1; have r0 := row_d0 hw.row (j := 0) hx; have r1 := row_d1 hw.row (j := 0) hx; simp at r0 r1; go_simp)⟩) hHeld ?_
      try simp only [Act.put, sA0, sB0, sC0]
      refine tk1 13 87 (.pointer (some ⟨gd, 0, none⟩)) rfl (Or.inl ⟨by rfl, fun w' hw => by go_simp⟩) hHeld ?_
      try simp only [Act.put, sA0, sB0, sC0]
      refine tk1 14 88 (.agg #[.int .u64 (D 0).1.1, .int .u64 (D 0).1.2]) rfl (Or.inl ⟨by rfl, fun w' hw => by (obtain ⟨⟨_, _, _, hw⟩, hbf⟩ := hw; have s0 := hw.e.sto.c0; have s2 := hw.e.sto.c2; have s3 := hw.e.sto.c3; have s4 := hw.e.sto.c4; have s5 := hw.e.sto.c5; have s6 := hw.e.sto.c6; have k0 := hw.k0; have k1 := hw.k1; have k2 := hw.k2; have k3 := hw.k3; have s7 := hw.e.sto.c7; have l0 := hw.e.sto.lvl hx; have y0 := hbf.cell 0; have y1 := hbf.cell 1; simp [ntA] at y0 y1; have r0 := row_d0 hw.row (j := 0) hx; have r1 := row_d1 hw.row (j := 0) hx; simp at r0 r1; go_simp)⟩) hHeld ?_
      try simp only [Act.put, sA0, sB0, sC0]
      refine one_ready 10 rfl (by kernel_rfl) (fun K hK => ?_)
      go_simp
      refine (note_leaf fr _).mono ?_
      rintro r9 w9 ⟨rfl, rfl⟩
      have ho : Only nobody wc _ := (Only.refl nobody wc).alloc (.cells (ntA fr) 175)
      have hE := hE.nob ho
      have xw := xw.only ho (not_nobody _)
      have xs := xs.only ho (not_nobody _)
      have xt := xt.only ho (not_nobody _)
      have xf := xf.only ho (not_nobody _)
      have hF := hF.trans (Kept.of_none ho)
      refine hK.out _ _ ⟨⟨_, _, _, hE⟩, xf⟩ (fun hHeld => ?_)
      clear hK K ho
      generalize wc.alloc _ = wc at *
      try simp only [Act.put, sA0, sB0, sC0]
      refine one_ready 15 rfl (by kernel_rfl) (fun K hK => ?_)
      go_simp
      refine (note_leaf (D 0).1 _).mono ?_
      rintro r9 w9 ⟨rfl, rfl⟩
      have ho : Only nobody wc _ := (Only.refl nobody wc).alloc (.cells (ntA (D 0).1) 175)
      have hE := hE.nob ho
      have xw := xw.only ho (not_nobody _)
      have xs := xs.only ho (not_nobody _)
      have xt := xt.only ho (not_nobody _)
      have xf := xf.only ho (not_nobody _)
      have hF := hF.trans (Kept.of_none ho)
      refine hK.out _ _ ⟨⟨_, _, _, hE⟩, xf⟩ (fun hHeld => ?_)
      clear hK K ho
      generalize wc.alloc _ = wc at *
      try simp only [Act.put, sA0, sB0, sC0]
      refine one_ready 16 rfl (by kernel_rfl) (fun K hK => ?_)
      go_simp
      refine (hE.e.sto.lastA hc hx hfr HRn.out (by omega) hd).mono ?_
      rintro r9 w9 ⟨rr, tt, g2, rfl, hRn, hS9, hK9⟩
      have hE := hE.go hS9 hK9
      have xw := hK9.box xw (hLI _ lw)
      have xs := hK9.box xs (hLI _ ls)
      have xt := hK9.box xt (hLI _ lt)
      have xf := hK9.box xf hLf
      have hF := hF.trans (hK9.mono hN)
      refine hK.out _ _ ⟨⟨_, _, _, hE⟩, xf⟩ (fun hHeld => ?_)
      clear hK K hS9 hK9
      generalize w9 = wc at *
      try simp only [Act.put, sA0, sB0, sC0]
      refine tk1 17 73 (.tuple #[.agg (DA rr), .bool tt]) rfl (Or.inl ⟨by rfl, fun w' hw => by go_simp⟩) hHeld ?_
      try simp only [Act.put, sA0, sB0, sC0]
      refine tk1 18 91 (.agg (DA rr)) rfl (Or.inl ⟨by rfl, fun w' hw => by go_simp⟩) hHeld ?_
      try simp only [Act.put, sA0, sB0, sC0]
      refine tk1 19 92 (.bool tt) rfl (Or.inl ⟨by rfl, fun w' hw => by go_simp⟩) hHeld ?_
      try simp only [Act.put, sA0, sB0, sC0]
      refine one_ready 20 (o := ⟨none, _, _, _, _, _⟩) rfl (by kernel_rfl) (fun K hK => ?_)
      refine step_store_data rfl (.tmp 12) (.tmp 91) rfl bs 0 rfl rr rfl (xs.there 8 (by simp [DA])) ?_
      have ho : Only (just bs) wc (wc.setCells bs 0 (DA rr).toList) := only_setCells (S := just bs) _ 0 wc (Only.refl _ _) (.inl (just_self _))
      have hE := hE.far ho (hLI _ ls) (by omega) (by omega) (by omega)
      have xw := xw.only ho (just_ne (by omega))
      have xt := xt.only ho (just_ne (by omega))
      have xf := xf.only ho (just_ne (by omega))
      have xs := xs.data rr
      have hF := hF.trans (ho.mono (fun i _ hi hn => ns (by rw [← show i = bs from hi]; exact hn)))
      refine hK.out _ _ ⟨⟨_, _, _, hE⟩, xf⟩ (fun hHeld => ?_)
      clear hK K ho
      generalize World.setCells _ _ _ _ = wc at *
      try simp only [Act.put, sA0, sB0, sC0]
      refine one_ready 21 (o := ⟨none, _, _, _, _, _⟩) rfl (by kernel_rfl) (fun K hK => ?_)
      have q0 := xt.cell 0
      have q1 := xt.frozen 0
      simp at q0
      go_simp
      have ho : Only (just bt) wc (wc.setCell ⟨bt, 0, none⟩ (.bool tt)) := (Only.refl _ wc).setCell (p := ⟨bt, 0, none⟩) (.inl (just_self _)) _
      have hE := hE.far ho (hLI _ lt) (by omega) (by omega) (by omega)
      have xw := xw.only ho (just_ne (by omega))
      have xs := xs.only ho (just_ne (by omega))
      have xf := xf.only ho (just_ne (by omega))
      have xt : Box _ bt 4 #[.bool tt] := xt.put 0 (.bool tt)
      have hF := hF.trans (ho.mono (fun i _ hi hn => nt (by rw [← show i = bt from hi]; exact hn)))
      refine hK.out _ _ ⟨⟨_, _, _, hE⟩, xf⟩ (fun hHeld => ?_)
      clear hK K ho q0 q1
      generalize World.setCell _ _ _ = wc at *
      try simp only [Act.put, sA0, sB0, sC0]
      refine wpAnyH_done (by kernel_rfl) ?_ _
      have HRN := Lib.hid hRn
      have HF9 := Lib.hid hF
      clear hHeld hRn hF
      exact HFn.out _ _ e rr tt HRN.out ⟨L2, hLI, hE⟩ xw xs xt hwe HF9.out
    refine round_held (S := (fun u => u.cell? ⟨b, 0, none⟩ = some (.pointer (some ⟨a.sp, 0, none⟩)) ∧ Box u bf 175 (ntA fr))) 11 rfl (by kernel_rfl) (by kernel_rfl) (by rintro ⟨_, _, h⟩; exact h) ⟨hE.k0, xf⟩ (fun hHeld => ?_)
    simp only [qA0, qB0, qC0, List.nil_append, List.cons_append]
    have hod : Only nobody wc wc.drew := (Only.refl _ _).drew
    have q8 := cell_nob hod q8
    have f8 := froz_nob hod (World.block_lt_of_cell? wc ⟨a.sp, 8, none⟩ (by assumption)) f8
    have own8 := own_block own8 (w' := wc.drew) (fun b hb => hod.block b (own_lt own8 hb).2 (not_nobody _))
    generalize wc.drew = wd at *
    refine tk1 0 55 (.pointer (some ⟨a.sp, 0, none⟩)) rfl (Or.inl ⟨by rfl, fun w' hw => by (have k0 := hw.1; have y0 := hw.2.cell 0; have y1 := hw.2.cell 1; simp [ntA] at y0 y1; go_simp)⟩) hHeld ?_
    try simp only [Act.put, sA0, sB0, sC0]
    refine tk1 1 56 (.pointer (some ⟨a.sp, 0, none⟩)) rfl (Or.inl ⟨by rfl, fun w' hw => by (have k0 := hw.1; have y0 := hw.2.cell 0; have y1 := hw.2.cell 1; simp [ntA] at y0 y1; go_simp)⟩) hHeld ?_
    try simp only [Act.put, sA0, sB0, sC0]
    refine tk1 2 57 (.pointer (some ⟨a.sp, 0, none⟩)) rfl (Or.inl ⟨by rfl, fun w' hw => by go_simp⟩) hHeld ?_
    try simp only [Act.put, sA0, sB0, sC0]
    refine tk1 3 58 (.pointer (some ⟨a.sp, 8, none⟩)) rfl (Or.inl ⟨by rfl, fun w' hw => by go_simp⟩) hHeld ?_
    try simp only [Act.put, sA0, sB0, sC0]
    refine tk1 5 60 (.agg #[.int .u64 fr.1, .int .u64 fr.2]) rfl (Or.inl ⟨by rfl, fun w' hw => by (have k0 := hw.1; have y0 := hw.2.cell 0; have y1 := hw.2.cell 1; simp [ntA] at y0 y1; go_simp)⟩) hHeld ?_
    try simp only [Act.put, sA0, sB0, sC0]
    refine wpAnyH_ready (rs := [4, 6]) (by kernel_rfl) (by simp) (AllReadyH.cons rfl (fun K hK => ?_) (AllReadyH.cons rfl (fun K hK => ?_) (AllReadyH.nil)))
    ·go_simp
     refine hK.out _ _ hHeld (fun hHeld => ?_)
     clear hK K
     try simp only [Act.put, sA0, sB0, sC0]
     refine one_ready 6 rfl (by kernel_rfl) (fun K hK => ?_)
     go_simp
     obtain ⟨sz, hsz⟩ : ∃ x, wd.heap.size = x := ⟨_, rfl⟩
     obtain ⟨wa, hwa⟩ : ∃ x, wd.alloc (.cells #[.int .u64 fr.1, .int .u64 fr.2] 175) = x := ⟨_, rfl⟩
     have hoa : Only nobody wd wa := by rw [← hwa]; exact (Only.refl _ _).alloc _
     refine hK.out _ _ (by rw [hwa]; exact ⟨cell_nob hoa hHeld.1, hHeld.2.only hoa (not_nobody _)⟩) (fun hHeld => ?_)
     rw [hwa] at hHeld ⊢
     simp only [hsz]
     have f8 := froz_nob hoa (World.block_lt_of_cell? wd ⟨a.sp, 8, none⟩ q8) f8
     have q8 := cell_nob hoa q8
     have own8 := own_block own8 (w' := wa) (fun b hb => hoa.block b (own_lt own8 hb).2 (not_nobody _))
     have hod := hod.trans hoa
     clear hK K
     try simp only [Act.put, sA0, sB0, sC0]
     refine one_ready 7 rfl (by kernel_rfl) (fun K hK => ?_)
     refine step_append_where rfl (.tmp 59) (.tmp 61) 168 rfl 0 175 (.agg #[.int .u64 0, .int .u64 0]) 2 16 Tryz.underlying168 infoNote rfl (by decide) (.slice ga' g'.gone.length gc') g'.gone.length (ntL g'.gone) rfl own8 ⟨sz, 0, none⟩ 1 1 [.int .u64 fr.1, .int .u64 fr.2] rfl rfl ?c0 ?c1 ?c2 ?c3 ?c4 ?_
     case c0 => rw [← hwa]; exact new_two wd _ _ _ hsz.symm
     case c1 => simp [Value.oneCell']
     case c2 => simp only [maxLen]; omega
     case c3 => omega
     case c4 => omega
     intro A2 cap2 w7 hown hgr hwh
     have ho7 : Only (fun i => (Value.slice ga' g'.gone.length gc').ownBlock = some i) wa w7 := (Only.refl _ _).grown hgr (fun k e => .inl e)
     have q8 : w7.cell? ⟨a.sp, 8, none⟩ = some (.slice ga' g'.gone.length gc') := (World.cell?_of_block (w := wa) (ho7.block a.sp (World.block_lt_of_cell? wa ⟨a.sp, 8, none⟩ q8) HS8)).trans q8
     have f8 : w7.frozen? ⟨a.sp, 8, none⟩ = false := (World.frozen?_of_block (ho7.block a.sp (World.block_lt_of_cell? wa ⟨a.sp, 8, none⟩ (by assumption)) HS8)).trans f8
     refine hK.out _ _ ⟨(World.cell?_of_block (w := wa) (ho7.block b (World.block_lt_of_cell? wa ⟨b, 0, none⟩ hHeld.1) (HL8 b (hE.e.l b (Nat.le_refl _) (by omega))))).trans hHeld.1, hHeld.2.only ho7 (HL8 bf hLf)⟩ (fun hHeld => ?_)
     clear hK K
     try simp only [Act.put, sA0, sB0, sC0]
     refine tk1 8 63 (.pointer (some ⟨a.sp, 0, none⟩)) rfl (Or.inl ⟨by rfl, fun w' hw => by go_simp⟩) hHeld ?_
     try simp only [Act.put, sA0, sB0, sC0]
     refine tk1 9 64 (.pointer (some ⟨a.sp, 8, none⟩)) rfl (Or.inl ⟨by rfl, fun w' hw => by go_simp⟩) hHeld ?_
     try simp only [Act.put, sA0, sB0, sC0]
     refine one_ready 10 (o := ⟨none, _, _, _, _, _⟩) rfl (by kernel_rfl) (fun K hK => ?_)
     go_simp
     obtain ⟨w8, hw8⟩ : ∃ x, w7.setCell ⟨a.sp, 8, none⟩ (.slice A2 (g'.gone.length + 1) cap2) = x := ⟨_, rfl⟩
     obtain ⟨hS8, hK8⟩ := HG wa w7 w8 fr A2 cap2 hod hown hgr hwh hw8.symm
     have hE8 := hE.go hS8 hK8
     have xf8 := hK8.box xf hLf
     rw [hw8]
     refine hK.out _ _ ⟨hE8.k0, xf8⟩ (fun hHeld => ?_)
     clear hK K hHeld
     try simp only [Act.put, sA0, sB0, sC0]
     refine wpAnyH_done (by kernel_rfl) ?_ _
     exact REST10 w8 A2 cap2 sz hE8 (hK8.box xw (hLI _ lw)) (hK8.box xs (hLI _ ls)) (hK8.box xt (hLI _ lt)) xf8 (hF.trans (hK8.mono hN))
    ·go_simp
     obtain ⟨sz, hsz⟩ : ∃ x, wd.heap.size = x := ⟨_, rfl⟩
     obtain ⟨wa, hwa⟩ : ∃ x, wd.alloc (.cells #[.int .u64 fr.1, .int .u64 fr.2] 175) = x := ⟨_, rfl⟩
     have hoa : Only nobody wd wa := by rw [← hwa]; exact (Only.refl _ _).alloc _
     refine hK.out _ _ (by rw [hwa]; exact ⟨cell_nob hoa hHeld.1, hHeld.2.only hoa (not_nobody _)⟩) (fun hHeld => ?_)
     rw [hwa] at hHeld ⊢
     simp only [hsz]
     have f8 := froz_nob hoa (World.block_lt_of_cell? wd ⟨a.sp, 8, none⟩ q8) f8
     have q8 := cell_nob hoa q8
     have own8 := own_block own8 (w' := wa) (fun b hb => hoa.block b (own_lt own8 hb).2 (not_nobody _))
     have hod := hod.trans hoa
     clear hK K
     try simp only [Act.put, sA0, sB0, sC0]
     refine one_ready 4 rfl (by kernel_rfl) (fun K hK => ?_)
     go_simp
     refine hK.out _ _ hHeld (fun hHeld => ?_)
     clear hK K
     try simp only [Act.put, sA0, sB0, sC0]
     refine one_ready 7 rfl (by kernel_rfl) (fun K hK => ?_)
     refine step_append_where rfl (.tmp 59) (.tmp 61) 168 rfl 0 175 (.agg #[.int .u64 0, .int .u64 0]) 2 16 Tryz.underlying168 infoNote rfl (by decide) (.slice ga' g'.gone.length gc') g'.gone.length (ntL g'.gone) rfl own8 ⟨sz, 0, none⟩ 1 1 [.int .u64 fr.1, .int .u64 fr.2] rfl rfl ?c0 ?c1 ?c2 ?c3 ?c4 ?_
     case c0 => rw [← hwa]; exact new_two wd _ _ _ hsz.symm
     case c1 => simp [Value.oneCell']
     case c2 => simp only [maxLen]; omega
     case c3 => omega
     case c4 => omega
     intro A2 cap2 w7 hown hgr hwh
     have ho7 : Only (fun i => (Value.slice ga' g'.gone.length gc').ownBlock = some i) wa w7 := (Only.refl _ _).grown hgr (fun k e => .inl e)
     have q8 : w7.cell? ⟨a.sp, 8, none⟩ = some (.slice ga' g'.gone.length gc') := (World.cell?_of_block (w := wa) (ho7.block a.sp (World.block_lt_of_cell? wa ⟨a.sp, 8, none⟩ q8) HS8)).trans q8
     have f8 : w7.frozen? ⟨a.sp, 8, none⟩ = false := (World.frozen?_of_block (ho7.block a.sp (World.block_lt_of_cell? wa ⟨a.sp, 8, none⟩ (by assumption)) HS8)).trans f8
     refine hK.out _ _ ⟨(World.cell?_of_block (w := wa) (ho7.block b (World.block_lt_of_cell? wa ⟨b, 0, none⟩ hHeld.1) (HL8 b (hE.e.l b (Nat.le_refl _) (by omega))))).trans hHeld.1, hHeld.2.only ho7 (HL8 bf hLf)⟩ (fun hHeld => ?_)
     clear hK K
     try simp only [Act.put, sA0, sB0, sC0]
     refine tk1 8 63 (.pointer (some ⟨a.sp, 0, none⟩)) rfl (Or.inl ⟨by rfl, fun w' hw => by go_simp⟩) hHeld ?_
     try simp only [Act.put, sA0, sB0, sC0]
     refine tk1 9 64 (.pointer (some ⟨a.sp, 8, none⟩)) rfl (Or.inl ⟨by rfl, fun w' hw => by go_simp⟩) hHeld ?_
     try simp only [Act.put, sA0, sB0, sC0]
     refine one_ready 10 (o := ⟨none, _, _, _, _, _⟩) rfl (by kernel_rfl) (fun K hK => ?_)
     go_simp
     obtain ⟨w8, hw8⟩ : ∃ x, w7.setCell ⟨a.sp, 8, none⟩ (.slice A2 (g'.gone.length + 1) cap2) = x := ⟨_, rfl⟩
     obtain ⟨hS8, hK8⟩ := HG wa w7 w8 fr A2 cap2 hod hown hgr hwh hw8.symm
     have hE8 := hE.go hS8 hK8
     have xf8 := hK8.box xf hLf
     rw [hw8]
     refine hK.out _ _ ⟨hE8.k0, xf8⟩ (fun hHeld => ?_)
     clear hK K hHeld
     try simp only [Act.put, sA0, sB0, sC0]
     refine wpAnyH_done (by kernel_rfl) ?_ _
     exact REST10 w8 A2 cap2 sz hE8 (hK8.box xw (hLI _ lw)) (hK8.box xs (hLI _ ls)) (hK8.box xt (hLI _ lt)) xf8 (hF.trans (hK8.mono hN))
   generalize hWc : W = wc at hE xw xs xt
   have hF : Kept N1 W wc := by rw [← hWc]; exact Kept.refl _ _
   have hWs : W.heap.size ≤ wc.heap.size := by rw [← hWc]; exact Nat.le_refl _
   have hE := hE.nob ((Only.refl nobody wc).drew)
   refine round_held (S := (fun u => AcX c a G w b op id d bd gd D u ∧ Box u bw 175 (ntA e))) 9 rfl (by kernel_rfl) (by kernel_rfl) (by rintro ⟨_, _, h⟩; exact h) ⟨⟨_, _, _, hE⟩, xw⟩ (fun hHeld => ?_)
   simp only [qA0, qB0, qC0, List.nil_append, List.cons_append]
   have hF := hF.trans (Kept.of_none (Only.refl nobody wc).drew)
   have xs := xs.drewN 1
   have xt := xt.drewN 1
   have xw := xw.drewN 1
   change Box wc.drew _ _ _ at xs xt xw
   change W.heap.size ≤ wc.drew.heap.size at hWs
   clear hWc
   generalize wc.drew = wc at *
   refine tk1 0 48 (.agg #[.int .u64 e.1, .int .u64 e.2]) rfl (Or.inl ⟨by rfl, fun w' hw => by (obtain ⟨⟨_, _, _, hw⟩, hbw⟩ := hw; have s0 := hw.e.sto.c0; have s2 := hw.e.sto.c2; have s3 := hw.e.sto.c3; have s4 := hw.e.sto.c4; have s5 := hw.e.sto.c5; have s6 := hw.e.sto.c6; have k0 := hw.k0; have k1 := hw.k1; have k2 := hw.k2; have k3 := hw.k3; have w0' := hbw.cell 0; have w1' := hbw.cell 1; simp [ntA] at w0' w1'; have r2 := row_d2 hw.row (j := h) hx; have r3 := row_d3 hw.row (j := h) hx; go_simp)⟩) hHeld ?_
   try simp only [Act.put, sA0, sB0, sC0]
   refine tk1 1 49 (.slice (some ⟨gd, 0, none⟩) c.n c.n) rfl (Or.inl ⟨by rfl, fun w' hw => by (obtain ⟨⟨_, _, _, hw⟩, hbw⟩ := hw; have s0 := hw.e.sto.c0; have s2 := hw.e.sto.c2; have s3 := hw.e.sto.c3; have s4 := hw.e.sto.c4; have s5 := hw.e.sto.c5; have s6 := hw.e.sto.c6; have k0 := hw.k0; have k1 := hw.k1; have k2 := hw.k2; have k3 := hw.k3; have w0' := hbw.cell 0; have w1' := hbw.cell 1; simp [ntA] at w0' w1'; have r2 := row_d2 hw.row (j := h) hx; have r3 := row_d3 hw.row (j := h) hx; go_simp)⟩) hHeld ?_
   try simp only [Act.put, sA0, sB0, sC0]
   refine tk1 2 50 (.int .i64 (h : Int)) rfl (Or.inl ⟨by rfl, fun w' hw => by go_simp⟩) hHeld ?_
   try simp only [Act.put, sA0, sB0, sC0]
   refine tk1 3 51 (.pointer (some ⟨gd, h * 4, none⟩)) rfl (Or.inl ⟨by rfl, fun w' hw => by (obtain ⟨⟨_, _, _, hw⟩, hbw⟩ := hw; have s0 := hw.e.sto.c0; have s2 := hw.e.sto.c2; have s3 := hw.e.sto.c3; have s4 := hw.e.sto.c4; have s5 := hw.e.sto.c5; have s6 := hw.e.sto.c6; have k0 := hw.k0; have k1 := hw.k1; have k2 := hw.k2; have k3 := hw.k3; have w0' := hbw.cell 0; have w1' := hbw.cell 1; simp [ntA] at w0' w1'; have r2 := row_d2 hw.row (j := h) hx; have r3 := row_d3 hw.row (j := h) hx; go_simp)⟩) hHeld ?_
   try simp only [Act.put, sA0, sB0, sC0]
   refine tk1 4 52 (.pointer (some ⟨gd, h * 4 + 2, none⟩)) rfl (Or.inl ⟨by rfl, fun w' hw => by go_simp⟩) hHeld ?_
   try simp only [Act.put, sA0, sB0, sC0]
   refine tk1 5 53 (.agg #[.int .u64 (D h).2.1, .int .u64 (D h).2.2]) rfl (Or.inl ⟨by rfl, fun w' hw => by (obtain ⟨⟨_, _, _, hw⟩, hbw⟩ := hw; have s0 := hw.e.sto.c0; have s2 := hw.e.sto.c2; have s3 := hw.e.sto.c3; have s4 := hw.e.sto.c4; have s5 := hw.e.sto.c5; have s6 := hw.e.sto.c6; have k0 := hw.k0; have k1 := hw.k1; have k2 := hw.k2; have k3 := hw.k3; have w0' := hbw.cell 0; have w1' := hbw.cell 1; simp [ntA] at w0' w1'; have r2 := row_d2 hw.row (j := h) hx; have r3 := row_d3 hw.row (j := h) hx; go_simp)⟩) hHeld ?_
   try simp only [Act.put, sA0, sB0, sC0]
   refine wpAnyH_ready (rs := [6, 7]) (by kernel_rfl) (by simp) (AllReadyH.cons rfl (fun K hK => ?_) (AllReadyH.cons rfl (fun K hK => ?_) (AllReadyH.nil)))
   ·go_simp
    refine (or_any e (D h).2 _ hwe (HDd.out h).2).mono ?_
    rintro r9 w9 ⟨rfl, ho⟩
    rw [hfr]
    have hE := hE.nob ho
    have xw := xw.only ho (not_nobody _)
    have xs := xs.only ho (not_nobody _)
    have xt := xt.only ho (not_nobody _)
    have hF := hF.trans (Kept.of_none ho)
    have hWs : W.heap.size ≤ w9.heap.size := Nat.le_trans hWs ho.size
    refine hK.out _ _ ⟨⟨_, _, _, hE⟩, xw⟩ (fun hHeld => ?_)
    clear hK K ho
    generalize w9 = wc at *
    try simp only [Act.put, sA0, sB0, sC0]

    refine one_ready 7 rfl (by kernel_rfl) (fun K hK => ?_)
    go_simp
    obtain ⟨bf, hxbf⟩ : ∃ x, wc.heap.size = x := ⟨_, rfl⟩
    obtain ⟨w7, hw7⟩ : ∃ x, wc.alloc (.cells #[.int .u64 0, .int .u64 0] 175) = x := ⟨_, rfl⟩
    have ho : Only nobody wc w7 := by rw [← hw7]; exact (Only.refl nobody wc).alloc _
    have hs7 : w7.heap.size = bf + 1 := by rw [← hw7, World.size_alloc, hxbf]
    have hB : Box w7 bf 175 #[.int .u64 0, .int .u64 0] := by rw [← hw7, ← hxbf]; exact Box.new wc _ _
    have hdf : bd < bf ∧ gd < bf ∧ b + 5 ≤ bf ∧ bw < bf ∧ bs < bf ∧ bt < bf := by have h1 := hE.xq.lt; have h2 := hE.row.lt; have h3 := hE.e.xr.lt; have h4 := xw.lt; have h5 := xs.lt; have h6 := xt.lt; omega
    have hWf : W.heap.size ≤ bf := by omega
    obtain ⟨L3, hLx, hLf, hE⟩ := hE.made ho (x := bf) (by omega) (by omega)
    have hLI := fun i hi => hLx i (hLI i hi)
    have hN := fun i hi => hLx i (hN i hi)
    have xw := xw.only ho (not_nobody _)
    have xs := xs.only ho (not_nobody _)
    have xt := xt.only ho (not_nobody _)
    have hF := hF.trans (Kept.of_none ho)
    have hWs : W.heap.size ≤ w7.heap.size := by omega
    refine hK.out _ _ (by rw [hw7]; exact ⟨⟨_, _, _, hE⟩, xw⟩) (fun hHeld => ?_)
    rw [hw7] at hHeld ⊢
    simp only [hxbf]
    clear hK K hw7 ho hxbf hs7 hLx
    generalize w7 = wc at *
    generalize L3 = L2 at *
    try simp only [Act.put, sA0, sB0, sC0]

    refine one_ready 8 (o := ⟨none, _, _, _, _, _⟩) rfl (by kernel_rfl) (fun K hK => ?_)
    have q0 := hB.cell 0
    have q1 := hB.cell 1
    have q2 := hB.frozen 0
    have q3 := hB.frozen 1
    simp at q0 q1
    simp only [ntA]
    go_simp
    have ho : Only (just bf) wc ((wc.setCell ⟨bf, 0, none⟩ (.int .u64 fr.1)).setCell ⟨bf, 1, none⟩ (.int .u64 fr.2)) := ((Only.refl _ wc).setCell (p := ⟨bf, 0, none⟩) (.inl (just_self _)) _).setCell (p := ⟨bf, 1, none⟩) (.inl (just_self _)) _
    have hB2 : Box ((wc.setCell ⟨bf, 0, none⟩ (.int .u64 fr.1)).setCell ⟨bf, 1, none⟩ (.int .u64 fr.2)) bf 175 (ntA fr) := (hB.put 0 _).put 1 _
    have hE := hE.far ho hLf hdf.2.2.1 (by omega) (by omega)
    have xw := xw.only ho (just_ne (by omega))
    have xs := xs.only ho (just_ne (by omega))
    have xt := xt.only ho (just_ne (by omega))
    have hF := hF.trans (ho.mono (fun i _ hi hn => HNC.out i (by rw [show i = bf from hi]; exact hWf) hn))
    refine hK.out _ _ ⟨⟨_, _, _, hE⟩, xw⟩ (fun hHeld => ?_)
    clear hK K ho hB q0 q1 q2 q3 hHeld hWs
    generalize World.setCell _ _ _ = wc at *
    try simp only [Act.put, sA0, sB0, sC0]
    refine wpAnyH_done (by kernel_rfl) ?_ _
    exact REST9 wc bf L2 hE xw xs xt hB2 hLI hN hLf hdf hWf hF
   ·go_simp
    obtain ⟨bf, hxbf⟩ : ∃ x, wc.heap.size = x := ⟨_, rfl⟩
    obtain ⟨w7, hw7⟩ : ∃ x, wc.alloc (.cells #[.int .u64 0, .int .u64 0] 175) = x := ⟨_, rfl⟩
    have ho : Only nobody wc w7 := by rw [← hw7]; exact (Only.refl nobody wc).alloc _
    have hs7 : w7.heap.size = bf + 1 := by rw [← hw7, World.size_alloc, hxbf]
    have hB : Box w7 bf 175 #[.int .u64 0, .int .u64 0] := by rw [← hw7, ← hxbf]; exact Box.new wc _ _
    have hdf : bd < bf ∧ gd < bf ∧ b + 5 ≤ bf ∧ bw < bf ∧ bs < bf ∧ bt < bf := by have h1 := hE.xq.lt; have h2 := hE.row.lt; have h3 := hE.e.xr.lt; have h4 := xw.lt; have h5 := xs.lt; have h6 := xt.lt; omega
    have hWf : W.heap.size ≤ bf := by omega
    obtain ⟨L3, hLx, hLf, hE⟩ := hE.made ho (x := bf) (by omega) (by omega)
    have hLI := fun i hi => hLx i (hLI i hi)
    have hN := fun i hi => hLx i (hN i hi)
    have xw := xw.only ho (not_nobody _)
    have xs := xs.only ho (not_nobody _)
    have xt := xt.only ho (not_nobody _)
    have hF := hF.trans (Kept.of_none ho)
    have hWs : W.heap.size ≤ w7.heap.size := by omega
    refine hK.out _ _ (by rw [hw7]; exact ⟨⟨_, _, _, hE⟩, xw⟩) (fun hHeld => ?_)
    rw [hw7] at hHeld ⊢
    simp only [hxbf]
    clear hK K hw7 ho hxbf hs7 hLx
    generalize w7 = wc at *
    generalize L3 = L2 at *
    try simp only [Act.put, sA0, sB0, sC0]

    refine one_ready 6 rfl (by kernel_rfl) (fun K hK => ?_)
    go_simp
    refine (or_any e (D h).2 _ hwe (HDd.out h).2).mono ?_
    rintro r9 w9 ⟨rfl, ho⟩
    rw [hfr]
    have hE := hE.nob ho
    have xw := xw.only ho (not_nobody _)
    have xs := xs.only ho (not_nobody _)
    have xt := xt.only ho (not_nobody _)
    have hF := hF.trans (Kept.of_none ho)
    have hWs : W.heap.size ≤ w9.heap.size := Nat.le_trans hWs ho.size
    have hB := hB.only ho (not_nobody _)
    refine hK.out _ _ ⟨⟨_, _, _, hE⟩, xw⟩ (fun hHeld => ?_)
    clear hK K ho
    generalize w9 = wc at *
    try simp only [Act.put, sA0, sB0, sC0]

    refine one_ready 8 (o := ⟨none, _, _, _, _, _⟩) rfl (by kernel_rfl) (fun K hK => ?_)
    have q0 := hB.cell 0
    have q1 := hB.cell 1
    have q2 := hB.frozen 0
    have q3 := hB.frozen 1
    simp at q0 q1
    simp only [ntA]
    go_simp
    have ho : Only (just bf) wc ((wc.setCell ⟨bf, 0, none⟩ (.int .u64 fr.1)).setCell ⟨bf, 1, none⟩ (.int .u64 fr.2)) := ((Only.refl _ wc).setCell (p := ⟨bf, 0, none⟩) (.inl (just_self _)) _).setCell (p := ⟨bf, 1, none⟩) (.inl (just_self _)) _
    have hB2 : Box ((wc.setCell ⟨bf, 0, none⟩ (.int .u64 fr.1)).setCell ⟨bf, 1, none⟩ (.int .u64 fr.2)) bf 175 (ntA fr) := (hB.put 0 _).put 1 _
    have hE := hE.far ho hLf hdf.2.2.1 (by omega) (by omega)
    have xw := xw.only ho (just_ne (by omega))
    have xs := xs.only ho (just_ne (by omega))
    have xt := xt.only ho (just_ne (by omega))
    have hF := hF.trans (ho.mono (fun i _ hi hn => HNC.out i (by rw [show i = bf from hi]; exact hWf) hn))
    refine hK.out _ _ ⟨⟨_, _, _, hE⟩, xw⟩ (fun hHeld => ?_)
    clear hK K ho hB q0 q1 q2 q3 hHeld hWs
    generalize World.setCell _ _ _ = wc at *
    try simp only [Act.put, sA0, sB0, sC0]
    refine wpAnyH_done (by kernel_rfl) ?_ _
    exact REST9 wc bf L2 hE xw xs xt hB2 hLI hN hLf hdf hWf hF
  case done =>
   rintro D1 ys W hD hS ⟨g', e, r, t, hR, hI⟩ hdf
   rw [hS, ← HG0.out] at hR
   have hl : ys.length = c.n := by
    have := congrArg List.length hS
    rwa [List.length_map, downL_len] at this
   rw [hl] at hI
   gi_upto_region 14 with fail
   have hbb := HBb.out
   have hdl : D1 < W.heap.size := (Array.getElem?_eq_some_iff.1 hdf).1
   have hdf : W.drew.heap[D1]? = some (Obj.deferred (some [])) := hdf
   have hSt := hI.d.e.sto.nob' ((Only.refl nobody W).drew)
   have hxr : Box W.drew (b + 4) 48 (DA fun _ => 0) := hI.d.e.xr.drewN 1
   have hl4 := hI.d.e.l (b + 4) (by omega) (by omega)
   refine wide_held (S := (fun u => Box u bs 48 (DA r) ∧ Box u bt 4 #[.bool t])) 4 rfl (by kernel_rfl) (by rintro ⟨_, _, h⟩; exact h) ⟨hI.xs.drewN 1, hI.xt.drewN 1⟩ (fun hHeld => ?_)
   simp only [qA0, qB0, qC0, List.nil_append, List.cons_append]
   clear hI
   have hdl : D1 < W.drew.heap.size := hdl
   generalize W.drew = wc at *
   refine take_row 0 (oi := ⟨some 93, _, _, _, _, _⟩) (DA r).toList rfl (by kernel_rfl) (by kernel_rfl) (by kernel_rfl) (fun _ _ _ h => h) (by rfl) _ _ rfl _ _ rfl _ (fun w' hw => hw.1.range) Tryz.underlying48 rfl (infoData r) hHeld ?_
   try simp only [Act.put, sA0, sB0, sC0]
   refine tk1 1 94 (.bool t) rfl (Or.inl ⟨by rfl, fun w' hw => by (have z0 := hw.2.cell 0; simp at z0; go_simp)⟩) hHeld ?_
   try simp only [Act.put, sA0, sB0, sC0]
   refine one_ready 2 (o := ⟨none, _, _, _, _, _⟩) rfl (by kernel_rfl) (fun K hK => ?_)
   refine step_store_data rfl (.tmp 8) (.tmp 93) rfl (b + 4) 0 rfl r rfl (hxr.there 8 (by simp [DA])) ?_
   have ho : Only (just (b + 4)) wc (wc.setCells (b + 4) 0 (DA r).toList) := only_setCells (S := just (b + 4)) _ 0 wc (Only.refl _ _) (.inl (just_self _))
   have hSt := hSt.far ho (fun i hi => by rw [show i = b + 4 from hi]; exact hl4) (fun i hi => by rw [show i = b + 4 from hi]; omega)
   have hdf := (ho.block D1 hdl (just_ne (by omega))).trans hdf
   have xr := hxr.data r
   refine hK.out _ _ ⟨hHeld.1.only ho (just_ne (by omega)), hHeld.2.only ho (just_ne (by omega))⟩ (fun hHeld => ?_)
   clear hK K ho hxr hdl
   generalize World.setCells _ _ _ _ = wc at *
   try simp only [Act.put, sA0, sB0, sC0]
   refine tk1 3 9 (.bool t) rfl (Or.inl ⟨by rfl, fun w' hw => by go_simp⟩) hHeld ?_
   try simp only [Act.put, sA0, sB0, sC0]
   refine wpAnyH_done (by kernel_rfl) ?_ _
   have ho := only_nonc (B := W0.heap.size) (grownBy_putObj' wc D1 (.deferred none)) (fun r e => by cases e; exact ⟨hD, _, hdf, rfl⟩)
   have hSt2 := (hSt.nonc hbmB hwB ho).less hLL
   have hSt3 := hSt2.more (show k + 10 + 2 * c.n ≤ k + 20 by omega)
   have hxr2 := (xr.only ho (cells_not xr.cells)).range
   clear hHeld hSt hSt2 ho
   gi_wp2
   refine ⟨by simp, .inl ⟨_, _, rfl, run_takeDeferred hdf, ?_⟩⟩
   exact ⟨_, results_ct Tryz.results41 rfl rfl (load_range hxr2 Tryz.underlying48 rfl (infoData r)), g', e, r, t, hR, rfl, hSt3⟩
  case stop =>
   rintro D c pre W _ _ h _
   exact h.elim
 have hE := hE.nob ((Only.refl nobody w11).drew)
 refine wide_held (S := (fun u => AcX c a G w b op id d bd gd D u)) 15 rfl (by kernel_rfl) (by rintro ⟨_, _, h⟩; exact h) ⟨_, _, _, hE⟩ (fun hHeld => ?_)
 simp only [qA0, qB0, qC0, List.nil_append, List.cons_append]
 generalize w11.drew = wc at *
 refine tk1 0 28 (.pointer (some ⟨a.sp, 0, none⟩)) rfl (Or.inl ⟨by rfl, fun w' hw => by (obtain ⟨_, _, _, hw⟩ := hw; have s0 := hw.e.sto.c0; have s2 := hw.e.sto.c2; have s3 := hw.e.sto.c3; have s4 := hw.e.sto.c4; have s5 := hw.e.sto.c5; have s6 := hw.e.sto.c6; have k0 := hw.k0; have k1 := hw.k1; have k2 := hw.k2; have k3 := hw.k3; have r0 := row_d0 hw.row (j := m) hmn; have r1 := row_d1 hw.row (j := m) hmn; go_simp)⟩) hHeld ?_
 try simp only [Act.put, sA0, sB0, sC0]
 refine tk1 1 29 (.int .u64 (id : Int)) rfl (Or.inl ⟨by rfl, fun w' hw => by (obtain ⟨_, _, _, hw⟩ := hw; have s0 := hw.e.sto.c0; have s2 := hw.e.sto.c2; have s3 := hw.e.sto.c3; have s4 := hw.e.sto.c4; have s5 := hw.e.sto.c5; have s6 := hw.e.sto.c6; have k0 := hw.k0; have k1 := hw.k1; have k2 := hw.k2; have k3 := hw.k3; have r0 := row_d0 hw.row (j := m) hmn; have r1 := row_d1 hw.row (j := m) hmn; go_simp)⟩) hHeld ?_
 try simp only [Act.put, sA0, sB0, sC0]
 refine tk1 2 30 (.slice (some ⟨gd, 0, none⟩) c.n c.n) rfl (Or.inl ⟨by rfl, fun w' hw => by (obtain ⟨_, _, _, hw⟩ := hw; have s0 := hw.e.sto.c0; have s2 := hw.e.sto.c2; have s3 := hw.e.sto.c3; have s4 := hw.e.sto.c4; have s5 := hw.e.sto.c5; have s6 := hw.e.sto.c6; have k0 := hw.k0; have k1 := hw.k1; have k2 := hw.k2; have k3 := hw.k3; have r0 := row_d0 hw.row (j := m) hmn; have r1 := row_d1 hw.row (j := m) hmn; go_simp)⟩) hHeld ?_
 try simp only [Act.put, sA0, sB0, sC0]
 refine tk1 3 31 (.pointer (some ⟨a.sp, 0, none⟩)) rfl (Or.inl ⟨by rfl, fun w' hw => by (obtain ⟨_, _, _, hw⟩ := hw; have s0 := hw.e.sto.c0; have s2 := hw.e.sto.c2; have s3 := hw.e.sto.c3; have s4 := hw.e.sto.c4; have s5 := hw.e.sto.c5; have s6 := hw.e.sto.c6; have k0 := hw.k0; have k1 := hw.k1; have k2 := hw.k2; have k3 := hw.k3; have r0 := row_d0 hw.row (j := m) hmn; have r1 := row_d1 hw.row (j := m) hmn; go_simp)⟩) hHeld ?_
 try simp only [Act.put, sA0, sB0, sC0]
 refine tk1 4 32 (.pointer (some ⟨a.sp, 0, none⟩)) rfl (Or.inl ⟨by rfl, fun w' hw => by go_simp⟩) hHeld ?_
 try simp only [Act.put, sA0, sB0, sC0]
 refine tk1 5 33 (.pointer (some ⟨a.sp, 2, none⟩)) rfl (Or.inl ⟨by rfl, fun w' hw => by go_simp⟩) hHeld ?_
 try simp only [Act.put, sA0, sB0, sC0]
 refine tk1 6 34 (.pointer (some ⟨a.sp, 3, none⟩)) rfl (Or.inl ⟨by rfl, fun w' hw => by go_simp⟩) hHeld ?_
 try simp only [Act.put, sA0, sB0, sC0]
 refine tk1 7 35 (.agg #[.int .i64 c.B, .int .i64 (c.S : Int), .int .i64 (c.T : Int), .int .i64 (c.n : Int)]) rfl (Or.inl ⟨by rfl, fun w' hw => by (obtain ⟨_, _, _, hw⟩ := hw; have s0 := hw.e.sto.c0; have s2 := hw.e.sto.c2; have s3 := hw.e.sto.c3; have s4 := hw.e.sto.c4; have s5 := hw.e.sto.c5; have s6 := hw.e.sto.c6; have k0 := hw.k0; have k1 := hw.k1; have k2 := hw.k2; have k3 := hw.k3; have r0 := row_d0 hw.row (j := m) hmn; have r1 := row_d1 hw.row (j := m) hmn; go_simp)⟩) hHeld ?_
 try simp only [Act.put, sA0, sB0, sC0]
 refine wpAnyH_ready (rs := [8, 13]) (by kernel_rfl) (by simp) (AllReadyH.cons rfl (fun K hK => ?_) (AllReadyH.cons rfl (fun K hK => ?_) (AllReadyH.nil)))
 ·go_simp
  refine (HLa.out _).mono ?_
  rintro r9 w9 ⟨rfl, rfl⟩
  have ho : Only nobody wc _ := (Only.refl nobody wc).alloc (.cells #[.int .i64 c.B, .int .i64 (c.S : Int), .int .i64 (c.T : Int), .int .i64 (c.n : Int)] 79)
  have hE := hE.nob ho
  refine hK.out _ _ ⟨_, _, _, hE⟩ (fun hHeld => ?_)
  clear hK K ho
  generalize wc.alloc _ = wc at *
  try simp only [Act.put, sA0, sB0, sC0]
  refine tk1 9 37 (.pointer (some ⟨gd, m * 4, none⟩)) rfl (Or.inl ⟨by rfl, fun w' hw => by (obtain ⟨_, _, _, hw⟩ := hw; have s0 := hw.e.sto.c0; have s2 := hw.e.sto.c2; have s3 := hw.e.sto.c3; have s4 := hw.e.sto.c4; have s5 := hw.e.sto.c5; have s6 := hw.e.sto.c6; have k0 := hw.k0; have k1 := hw.k1; have k2 := hw.k2; have k3 := hw.k3; have r0 := row_d0 hw.row (j := m) hmn; have r1 := row_d1 hw.row (j := m) hmn; go_simp)⟩) hHeld ?_
  try simp only [Act.put, sA0, sB0, sC0]
  refine tk1 10 38 (.pointer (some ⟨gd, m * 4, none⟩)) rfl (Or.inl ⟨by rfl, fun w' hw => by go_simp⟩) hHeld ?_
  try simp only [Act.put, sA0, sB0, sC0]
  refine tk1 11 39 (.agg #[.int .u64 (D m).1.1, .int .u64 (D m).1.2]) rfl (Or.inl ⟨by rfl, fun w' hw => by (obtain ⟨_, _, _, hw⟩ := hw; have s0 := hw.e.sto.c0; have s2 := hw.e.sto.c2; have s3 := hw.e.sto.c3; have s4 := hw.e.sto.c4; have s5 := hw.e.sto.c5; have s6 := hw.e.sto.c6; have k0 := hw.k0; have k1 := hw.k1; have k2 := hw.k2; have k3 := hw.k3; have r0 := row_d0 hw.row (j := m) hmn; have r1 := row_d1 hw.row (j := m) hmn; go_simp)⟩) hHeld ?_
  try simp only [Act.put, sA0, sB0, sC0]
  refine wpAnyH_ready (rs := [12, 13]) (by kernel_rfl) (by simp) (AllReadyH.cons rfl (fun K hK => ?_) (AllReadyH.cons rfl (fun K hK => ?_) (AllReadyH.nil)))
  ·go_simp
   refine (HTp.out _ _ _ _ hE.e.sto (D m).1 (HDd.out m).1 (by omega)).mono ?_
   rintro r9 w9 ⟨rfl, hS9, hK9⟩
   rw [HE0.out (g.drew c) rfl]
   have hE := hE.go hS9 hK9
   refine hK.out _ _ ⟨_, _, _, hE⟩ (fun hHeld => ?_)
   clear hK K hS9 hK9
   generalize w9 = wc at *
   try simp only [Act.put, sA0, sB0, sC0]

   refine one_ready 13 rfl (by kernel_rfl) (fun K hK => ?_)
   go_simp
   obtain ⟨bw, hxbw⟩ : ∃ x, wc.heap.size = x := ⟨_, rfl⟩
   obtain ⟨w7, hw7⟩ : ∃ x, wc.alloc (.cells #[.int .u64 0, .int .u64 0] 175) = x := ⟨_, rfl⟩
   have ho : Only nobody wc w7 := by rw [← hw7]; exact (Only.refl nobody wc).alloc _
   have hs7 : w7.heap.size = bw + 1 := by rw [← hw7, World.size_alloc, hxbw]
   have hB : Box w7 bw 175 #[.int .u64 0, .int .u64 0] := by rw [← hw7, ← hxbw]; exact Box.new wc _ _
   have hdx : bd < bw ∧ gd < bw ∧ b + 5 ≤ bw := by have h1 := hE.xq.lt; have h2 := hE.row.lt; have h3 := hE.e.xr.lt; omega
   obtain ⟨L2, hLx, hLw, hE⟩ := hE.made ho (x := bw) (by omega) (by omega)
   have hLL := fun i hi => hLx i (hLL i hi)
   refine hK.out _ _ (by rw [hw7]; exact ⟨_, _, _, hE⟩) (fun hHeld => ?_)
   rw [hw7] at hHeld ⊢
   simp only [hxbw]
   clear hK K hw7 ho hxbw hs7 hLx
   generalize w7 = wc at *
   generalize L2 = L at *
   try simp only [Act.put, sA0, sB0, sC0]

   refine one_ready 14 (o := ⟨none, _, _, _, _, _⟩) rfl (by kernel_rfl) (fun K hK => ?_)
   have q0 := hB.cell 0
   have q1 := hB.cell 1
   have q2 := hB.frozen 0
   have q3 := hB.frozen 1
   simp at q0 q1
   simp only [ntA]
   go_simp
   have ho : Only (just bw) wc ((wc.setCell ⟨bw, 0, none⟩ (.int .u64 e0.1)).setCell ⟨bw, 1, none⟩ (.int .u64 e0.2)) := ((Only.refl _ wc).setCell (p := ⟨bw, 0, none⟩) (.inl (just_self _)) _).setCell (p := ⟨bw, 1, none⟩) (.inl (just_self _)) _
   have hB2 : Box ((wc.setCell ⟨bw, 0, none⟩ (.int .u64 e0.1)).setCell ⟨bw, 1, none⟩ (.int .u64 e0.2)) bw 175 (ntA e0) := (hB.put 0 _).put 1 _
   have hE := hE.far ho hLw hdx.2.2 (by omega) (by omega)
   refine hK.out _ _ ⟨_, _, _, hE⟩ (fun hHeld => ?_)
   clear hK K ho hB q0 q1 q2 q3 hHeld
   generalize World.setCell _ _ _ = wc at *
   try simp only [Act.put, sA0, sB0, sC0]
   refine wpAnyH_done (by kernel_rfl) ?_ _
   exact REST4 wc bw L hE hB2 hLL hLw hdx
  ·go_simp
   obtain ⟨bw, hxbw⟩ : ∃ x, wc.heap.size = x := ⟨_, rfl⟩
   obtain ⟨w7, hw7⟩ : ∃ x, wc.alloc (.cells #[.int .u64 0, .int .u64 0] 175) = x := ⟨_, rfl⟩
   have ho : Only nobody wc w7 := by rw [← hw7]; exact (Only.refl nobody wc).alloc _
   have hs7 : w7.heap.size = bw + 1 := by rw [← hw7, World.size_alloc, hxbw]
   have hB : Box w7 bw 175 #[.int .u64 0, .int .u64 0] := by rw [← hw7, ← hxbw]; exact Box.new wc _ _
   have hdx : bd < bw ∧ gd < bw ∧ b + 5 ≤ bw := by have h1 := hE.xq.lt; have h2 := hE.row.lt; have h3 := hE.e.xr.lt; omega
   obtain ⟨L2, hLx, hLw, hE⟩ := hE.made ho (x := bw) (by omega) (by omega)
   have hLL := fun i hi => hLx i (hLL i hi)
   refine hK.out _ _ (by rw [hw7]; exact ⟨_, _, _, hE⟩) (fun hHeld => ?_)
   rw [hw7] at hHeld ⊢
   simp only [hxbw]
   clear hK K hw7 ho hxbw hs7 hLx
   generalize w7 = wc at *
   generalize L2 = L at *
   try simp only [Act.put, sA0, sB0, sC0]

   refine one_ready 12 rfl (by kernel_rfl) (fun K hK => ?_)
   go_simp
   refine (HTp.out _ _ _ _ hE.e.sto (D m).1 (HDd.out m).1 (by omega)).mono ?_
   rintro r9 w9 ⟨rfl, hS9, hK9⟩
   rw [HE0.out (g.drew c) rfl]
   have hE := hE.go hS9 hK9
   have hB := hK9.box hB hLw
   refine hK.out _ _ ⟨_, _, _, hE⟩ (fun hHeld => ?_)
   clear hK K hS9 hK9
   generalize w9 = wc at *
   try simp only [Act.put, sA0, sB0, sC0]

   refine one_ready 14 (o := ⟨none, _, _, _, _, _⟩) rfl (by kernel_rfl) (fun K hK => ?_)
   have q0 := hB.cell 0
   have q1 := hB.cell 1
   have q2 := hB.frozen 0
   have q3 := hB.frozen 1
   simp at q0 q1
   simp only [ntA]
   go_simp
   have ho : Only (just bw) wc ((wc.setCell ⟨bw, 0, none⟩ (.int .u64 e0.1)).setCell ⟨bw, 1, none⟩ (.int .u64 e0.2)) := ((Only.refl _ wc).setCell (p := ⟨bw, 0, none⟩) (.inl (just_self _)) _).setCell (p := ⟨bw, 1, none⟩) (.inl (just_self _)) _
   have hB2 : Box ((wc.setCell ⟨bw, 0, none⟩ (.int .u64 e0.1)).setCell ⟨bw, 1, none⟩ (.int .u64 e0.2)) bw 175 (ntA e0) := (hB.put 0 _).put 1 _
   have hE := hE.far ho hLw hdx.2.2 (by omega) (by omega)
   refine hK.out _ _ ⟨_, _, _, hE⟩ (fun hHeld => ?_)
   clear hK K ho hB q0 q1 q2 q3 hHeld
   generalize World.setCell _ _ _ = wc at *
   try simp only [Act.put, sA0, sB0, sC0]
   refine wpAnyH_done (by kernel_rfl) ?_ _
   exact REST4 wc bw L hE hB2 hLL hLw hdx
 ·go_simp
  obtain ⟨bw, hxbw⟩ : ∃ x, wc.heap.size = x := ⟨_, rfl⟩
  obtain ⟨w7, hw7⟩ : ∃ x, wc.alloc (.cells #[.int .u64 0, .int .u64 0] 175) = x := ⟨_, rfl⟩
  have ho : Only nobody wc w7 := by rw [← hw7]; exact (Only.refl nobody wc).alloc _
  have hs7 : w7.heap.size = bw + 1 := by rw [← hw7, World.size_alloc, hxbw]
  have hB : Box w7 bw 175 #[.int .u64 0, .int .u64 0] := by rw [← hw7, ← hxbw]; exact Box.new wc _ _
  have hdx : bd < bw ∧ gd < bw ∧ b + 5 ≤ bw := by have h1 := hE.xq.lt; have h2 := hE.row.lt; have h3 := hE.e.xr.lt; omega
  obtain ⟨L2, hLx, hLw, hE⟩ := hE.made ho (x := bw) (by omega) (by omega)
  have hLL := fun i hi => hLx i (hLL i hi)
  refine hK.out _ _ (by rw [hw7]; exact ⟨_, _, _, hE⟩) (fun hHeld => ?_)
  rw [hw7] at hHeld ⊢
  simp only [hxbw]
  clear hK K hw7 ho hxbw hs7 hLx
  generalize w7 = wc at *
  generalize L2 = L at *
  try simp only [Act.put, sA0, sB0, sC0]

  refine one_ready 8 rfl (by kernel_rfl) (fun K hK => ?_)
  go_simp
  refine (HLa.out _).mono ?_
  rintro r9 w9 ⟨rfl, rfl⟩
  have ho : Only nobody wc _ := (Only.refl nobody wc).alloc (.cells #[.int .i64 c.B, .int .i64 (c.S : Int), .int .i64 (c.T : Int), .int .i64 (c.n : Int)] 79)
  have hE := hE.nob ho
  have hB := hB.only ho (not_nobody _)
  refine hK.out _ _ ⟨_, _, _, hE⟩ (fun hHeld => ?_)
  clear hK K ho
  generalize wc.alloc _ = wc at *
  try simp only [Act.put, sA0, sB0, sC0]
  refine tk1 9 37 (.pointer (some ⟨gd, m * 4, none⟩)) rfl (Or.inl ⟨by rfl, fun w' hw => by (obtain ⟨_, _, _, hw⟩ := hw; have s0 := hw.e.sto.c0; have s2 := hw.e.sto.c2; have s3 := hw.e.sto.c3; have s4 := hw.e.sto.c4; have s5 := hw.e.sto.c5; have s6 := hw.e.sto.c6; have k0 := hw.k0; have k1 := hw.k1; have k2 := hw.k2; have k3 := hw.k3; have r0 := row_d0 hw.row (j := m) hmn; have r1 := row_d1 hw.row (j := m) hmn; go_simp)⟩) hHeld ?_
  try simp only [Act.put, sA0, sB0, sC0]
  refine tk1 10 38 (.pointer (some ⟨gd, m * 4, none⟩)) rfl (Or.inl ⟨by rfl, fun w' hw => by go_simp⟩) hHeld ?_
  try simp only [Act.put, sA0, sB0, sC0]
  refine tk1 11 39 (.agg #[.int .u64 (D m).1.1, .int .u64 (D m).1.2]) rfl (Or.inl ⟨by rfl, fun w' hw => by (obtain ⟨_, _, _, hw⟩ := hw; have s0 := hw.e.sto.c0; have s2 := hw.e.sto.c2; have s3 := hw.e.sto.c3; have s4 := hw.e.sto.c4; have s5 := hw.e.sto.c5; have s6 := hw.e.sto.c6; have k0 := hw.k0; have k1 := hw.k1; have k2 := hw.k2; have k3 := hw.k3; have r0 := row_d0 hw.row (j := m) hmn; have r1 := row_d1 hw.row (j := m) hmn; go_simp)⟩) hHeld ?_
  try simp only [Act.put, sA0, sB0, sC0]
  refine one_ready 12 rfl (by kernel_rfl) (fun K hK => ?_)
  go_simp
  refine (HTp.out _ _ _ _ hE.e.sto (D m).1 (HDd.out m).1 (by omega)).mono ?_
  rintro r9 w9 ⟨rfl, hS9, hK9⟩
  rw [HE0.out (g.drew c) rfl]
  have hE := hE.go hS9 hK9
  have hB := hK9.box hB hLw
  refine hK.out _ _ ⟨_, _, _, hE⟩ (fun hHeld => ?_)
  clear hK K hS9 hK9
  generalize w9 = wc at *
  try simp only [Act.put, sA0, sB0, sC0]

  refine one_ready 14 (o := ⟨none, _, _, _, _, _⟩) rfl (by kernel_rfl) (fun K hK => ?_)
  have q0 := hB.cell 0
  have q1 := hB.cell 1
  have q2 := hB.frozen 0
  have q3 := hB.frozen 1
  simp at q0 q1
  simp only [ntA]
  go_simp
  have ho : Only (just bw) wc ((wc.setCell ⟨bw, 0, none⟩ (.int .u64 e0.1)).setCell ⟨bw, 1, none⟩ (.int .u64 e0.2)) := ((Only.refl _ wc).setCell (p := ⟨bw, 0, none⟩) (.inl (just_self _)) _).setCell (p := ⟨bw, 1, none⟩) (.inl (just_self _)) _
  have hB2 : Box ((wc.setCell ⟨bw, 0, none⟩ (.int .u64 e0.1)).setCell ⟨bw, 1, none⟩ (.int .u64 e0.2)) bw 175 (ntA e0) := (hB.put 0 _).put 1 _
  have hE := hE.far ho hLw hdx.2.2 (by omega) (by omega)
  refine hK.out _ _ ⟨_, _, _, hE⟩ (fun hHeld => ?_)
  clear hK K ho hB q0 q1 q2 q3 hHeld
  generalize World.setCell _ _ _ = wc at *
  try simp only [Act.put, sA0, sB0, sC0]
  refine wpAnyH_done (by kernel_rfl) ?_ _
  exact REST4 wc bw L hE hB2 hLL hLw hdx
end Go.Proofs.YtknnebhjldfkhaaGreat

