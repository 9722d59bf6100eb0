import Derived.Test.YtknnebhjldfkhaaGreatG38
import Derived.Test.YtknnebhjldfkhaaGreatG42
import Derived.Test.YtknnebhjldfkhaaGreatG32
import Derived.Test.YtknnebhjldfkhaaGreatG41
import Derived.Test.YtknnebhjldfkhaaGreatG2
namespace Go.Proofs.YtknnebhjldfkhaaGreat
set_option maxRecDepth 100000
open Go.RowKit Go.ChangeShapes Go.WideShapes Go.ChangeAt

theorem cell_far {w : World} {b o g i : Nat} {u v : Value} (h : b ≠ g) (hc : w.cell? ⟨b, o, none⟩ = some u) : (w.setCell ⟨g, i, none⟩ v).cell? ⟨b, o, none⟩ = some u :=
 (World.cell?_setCell_far w _ _ v (fun e => h e.symm)).trans hc
def prA (id p : Nat) : Nat := 2 * (id / 4 ^ p % 4)
theorem prA_le (id p : Nat) : prA id p ≤ 6 := by unfold prA; omega
def askP (D : Dw) (p id : Nat) (fr : Nt) : Ask := ⟨2, ((id / 4 ^ (p + 1) : Nat) : Int), ((prA id p : Nat) : Int), fun i => if i = 0 then (D p).1.1 else if i = 1 then (D p).1.2 else 0, leafI fr.1, leafI (D (p + 1)).1.1⟩
def partN (c : SC) (g : SG) (D : Dw) (p id : Nat) (fr : Nt) : Nt :=
 (acW (c.N (p + 1)) c.S (c.D (p + 1)) c.T (c.r (p + 1)) (askP D p id fr) g.M (3 + prA id p), acW (c.N (p + 1)) c.S (c.D (p + 1)) c.T (c.r (p + 1)) (askP D p id fr) g.M (3 + (prA id p + 1)))
structure PtS (a : SA) (n p b cb gd : Nat) (lc : Nat) (fr : Nt) (D : Dw) (w : World) : Prop where
 k7 : w.cell? ⟨a.sp, 7, none⟩ = some (.slice (some ⟨a.lg, 0, none⟩) n lc)
 kl : w.cell? ⟨a.lg, p + 1, none⟩ = some (.pointer (some ⟨a.lp (p + 1), 0, none⟩))
 xb : Box w b 175 (ntA fr)
 xc : Box w cb 175 (ntA (D p).1)
 row : w.rowIs gd 178 (n * 4) (dwV D)
theorem PtS.b0 {a : SA} {n p b cb gd lc : Nat} {fr : Nt} {D : Dw} {w : World} (h : PtS a n p b cb gd lc fr D w) : w.cell? ⟨b, 0, none⟩ = some (.int .u64 fr.1) := h.xb.cell 0
theorem PtS.b1 {a : SA} {n p b cb gd lc : Nat} {fr : Nt} {D : Dw} {w : World} (h : PtS a n p b cb gd lc fr D w) : w.cell? ⟨b, 1, none⟩ = some (.int .u64 fr.2) := h.xb.cell 1
theorem PtS.q0 {a : SA} {n p b cb gd lc : Nat} {fr : Nt} {D : Dw} {w : World} (h : PtS a n p b cb gd lc fr D w) : w.cell? ⟨cb, 0, none⟩ = some (.int .u64 (D p).1.1) := h.xc.cell 0
theorem PtS.q1 {a : SA} {n p b cb gd lc : Nat} {fr : Nt} {D : Dw} {w : World} (h : PtS a n p b cb gd lc fr D w) : w.cell? ⟨cb, 1, none⟩ = some (.int .u64 (D p).1.2) := h.xc.cell 1
theorem dwV_0 (D : Dw) (h : Nat) : dwV D (h * 4) = .int .u64 (D h).1.1 := by unfold dwV; rw [if_pos (by omega), show h * 4 / 4 = h by omega]
theorem dwV_1 (D : Dw) (h : Nat) : dwV D (h * 4 + 1) = .int .u64 (D h).1.2 := by unfold dwV; rw [if_neg (by omega), if_pos (by omega), show (h * 4 + 1) / 4 = h by omega]
theorem dwV_2 (D : Dw) (h : Nat) : dwV D (h * 4 + 2) = .int .u64 (D h).2.1 := by unfold dwV; rw [if_neg (by omega), if_neg (by omega), if_pos (by omega), show (h * 4 + 2) / 4 = h by omega]
theorem dwV_3 (D : Dw) (h : Nat) : dwV D (h * 4 + 3) = .int .u64 (D h).2.2 := by unfold dwV; rw [if_neg (by omega), if_neg (by omega), if_neg (by omega), show (h * 4 + 3) / 4 = h by omega]
theorem row_d0 {w : World} {gd n : Nat} {D : Dw} (h : w.rowIs gd 178 (n * 4) (dwV D)) {j : Nat} (hj : j < n) : w.cell? ⟨gd, j * 4, none⟩ = some (.int .u64 (D j).1.1) := (h.cell (by omega)).trans (by rw [dwV_0])
theorem row_d1 {w : World} {gd n : Nat} {D : Dw} (h : w.rowIs gd 178 (n * 4) (dwV D)) {j : Nat} (hj : j < n) : w.cell? ⟨gd, j * 4 + 1, none⟩ = some (.int .u64 (D j).1.2) := (h.cell (by omega)).trans (by rw [dwV_1])
theorem row_d2 {w : World} {gd n : Nat} {D : Dw} (h : w.rowIs gd 178 (n * 4) (dwV D)) {j : Nat} (hj : j < n) : w.cell? ⟨gd, j * 4 + 2, none⟩ = some (.int .u64 (D j).2.1) := (h.cell (by omega)).trans (by rw [dwV_2])
theorem row_d3 {w : World} {gd n : Nat} {D : Dw} (h : w.rowIs gd 178 (n * 4) (dwV D)) {j : Nat} (hj : j < n) : w.cell? ⟨gd, j * 4 + 3, none⟩ = some (.int .u64 (D j).2.2) := (h.cell (by omega)).trans (by rw [dwV_3])
structure PtE (c : SC) (a : SA) (G0 : Nat → Prop) (w0 : World) (p b cb gd : Nat) (fr : Nt) (D : Dw) (g : SG) (k : Nat) (L : Nat → Prop) (w : World) : Prop where
 sto : Sto c a G0 w0 L g k w
 xb : Box w b 175 (ntA fr)
 xr : Box w (b + 1) 175 #[.int .u64 0, .int .u64 0]
 xc : Box w cb 175 (ntA (D p).1)
 row : w.rowIs gd 178 (c.n * 4) (dwV D)
 l : L b ∧ L (b + 1) ∧ L cb ∧ L gd
 lt : w0.heap.size ≤ b
section
variable {c : SC} {a : SA} {G0 : Nat → Prop} {w0 w w' : World} {L L' : Nat → Prop} {g g' : SG} {k k' p b cb gd : Nat} {fr : Nt} {D : Dw}
theorem PtE.nob (h : PtE c a G0 w0 p b cb gd fr D g k L w) (ho : Only nobody w w') : PtE c a G0 w0 p b cb gd fr D g k L w' := ⟨h.sto.nob' ho, h.xb.only ho (not_nobody _), h.xr.only ho (not_nobody _), h.xc.only ho (not_nobody _), ho.row h.row (not_nobody _), h.l, h.lt⟩
theorem PtE.go (h : PtE c a G0 w0 p b cb gd fr D g k L w) (hs : Sto c a G0 w0 L g' k' w') (hk : Kept L w w') : PtE c a G0 w0 p b cb gd fr D g' k' L w' := ⟨hs, hk.box h.xb h.l.1, hk.box h.xr h.l.2.1, hk.box h.xc h.l.2.2.1, hk.row h.row h.l.2.2.2, h.l, h.lt⟩
theorem PtE.far (h : PtE c a G0 w0 p b cb gd fr D g k L w) {d : Nat} (ho : Only (just d) w w') (hd : L d) (h0 : w0.heap.size ≤ d) (hne : b ≠ d ∧ b + 1 ≠ d ∧ cb ≠ d ∧ gd ≠ d) : PtE c a G0 w0 p b cb gd fr D g k L w' :=
 ⟨h.sto.far ho (fun i hi => by rw [show i = d from hi]; exact hd) (fun i hi => by rw [show i = d from hi]; exact h0), h.xb.only ho (just_ne hne.1), h.xr.only ho (just_ne hne.2.1), h.xc.only ho (just_ne hne.2.2.1), ho.row h.row (just_ne hne.2.2.2), h.l, h.lt⟩
theorem PtE.made {P : Nat → Prop} (h : PtE c a G0 w0 p b cb gd fr D g k (fun i => L i ∨ P i) w) (ho : Only nobody w w') {d : Nat} (h1 : w.heap.size ≤ d) (h2 : d < w'.heap.size) : ∃ P' : Nat → Prop, P' d ∧ PtE c a G0 w0 p b cb gd fr D g k (fun i => L i ∨ P' i) w' := by
 have q := h.nob ho
 exact ⟨fun i => P i ∨ i = d, .inr rfl, (h.sto.nob ho).less (fun i hi => hi.elim (fun h => .inl (.inl h)) (fun h => h.elim (fun h => .inl (.inr h)) (fun e => .inr (by omega)))), q.xb, q.xr, q.xc, q.row, ⟨q.l.1.imp (fun h => h) .inl, q.l.2.1.imp (fun h => h) .inl, q.l.2.2.1.imp (fun h => h) .inl, q.l.2.2.2.imp (fun h => h) .inl⟩, q.lt⟩
theorem PtE.s (h : PtE c a G0 w0 p b cb gd fr D g k L w) (hp : p + 1 < c.n) : PtS a c.n p b cb gd a.lc fr D w := ⟨h.sto.c7, h.sto.lvl hp, h.xb, h.xc, h.row⟩
end
set_option linter.unusedSimpArgs false in
set_option maxHeartbeats 4000000 in
theorem Sto.part {c : SC} {a : SA} {G0 : Nat → Prop} {w0 w : World} {L : Nat → Prop} {g : SG} {k : Nat} (hc : c.Ok) (h : Sto c a G0 w0 L g k w) (p id gd : Nat) (hp : p + 1 < c.n) (hid : id < 2 ^ c.b) (fr : Nt) (D : Dw) (hD : ∀ j, WN (D j).1 ∧ WN (D j).2) (hrow : w.rowIs gd 178 (c.n * 4) (dwV D)) (hLg : L gd) (hk : k < 19990) :
  Calls Tryz.prog 116 #[.pointer (some ⟨a.sp, 0, none⟩), .int .i64 ((p : Int) + 1), .int .u64 (id : Int), .agg (ntA fr), .slice (some ⟨gd, 0, none⟩) c.n c.n] w fun r w' =>
   r = .returned (.agg (ntA (partN c g D p id fr))) ∧ ∃ o, ((askP D p id fr).ok (c.N (p + 1)) = true → IsOrd (acT c.S (c.D (p + 1)) c.T (c.r (p + 1)) (c.m (p + 1)) (c.P (p + 1)) (askP D p id fr) g.M) (c.m (p + 1)) o) ∧ Sto c a G0 w0 L (g.lev c (p + 1) (askP D p id fr) o) (k + 1) w' ∧ Kept L w w' := by
 obtain ⟨b, hb⟩ : ∃ b, w.heap.size = b := ⟨_, rfl⟩
 have hn4 := hc.n4
 have hidb : (id : Int) ≤ 2147483648 := by
  have := blN_le c.b 0 hc.b10
  unfold blN at this
  simp at this
  omega
 have h0s : w0.heap.size ≤ w.heap.size := h.only0.size
 obtain ⟨w1, hw1⟩ : ∃ x, (w.alloc (.cells (ntA fr) 175)).alloc (.cells #[.int .u64 0, .int .u64 0] 175) = x := ⟨_, rfl⟩
 obtain ⟨w2, hw2⟩ : ∃ x, w1.alloc (.cells (ntA (D p).1) 175) = x := ⟨_, rfl⟩
 have hO1 : Only nobody w w1 := by rw [← hw1]; exact ((Only.refl _ w).alloc _).alloc _
 have hO2 : Only nobody w w2 := by rw [← hw2]; exact hO1.alloc _
 have hsz1 : w1.heap.size = b + 2 := by rw [← hw1, World.size_alloc, World.size_alloc, hb]
 have hsz2 : w2.heap.size = b + 3 := by rw [← hw2, World.size_alloc, hsz1]
 have xb1 : Box w1 b 175 (ntA fr) := by rw [← hw1, ← hb]; exact (Box.new w _ _).alloc _
 have xr1 : Box w1 (b + 1) 175 #[.int .u64 0, .int .u64 0] := by
  have := Box.new (w.alloc (.cells (ntA fr) 175)) 175 #[.int .u64 0, .int .u64 0]
  rw [World.size_alloc, hb, hw1] at this
  exact this
 have hE : PtE c a G0 w0 p b (b + 2) gd fr D g k (fun i => L i ∨ (b ≤ i ∧ i < b + 3)) w2 := by
  refine ⟨(h.nob hO2).less (fun i hi => hi.imp (fun h => h) (fun hi => by omega)), ?_, ?_, ?_, hO2.row hrow (not_nobody _), ⟨.inr (by omega), .inr (by omega), .inr (by omega), .inl hLg⟩, by omega⟩
  ·rw [← hw2]; exact xb1.alloc _
  ·rw [← hw2]; exact xr1.alloc _
  ·have := Box.new w1 175 (ntA (D p).1)
   rw [hsz1, hw2] at this
   exact this
 have r0 := row_d0 (hO1.row hrow (not_nobody _)) (j := p) (by omega)
 have r1 := row_d1 (hO1.row hrow (not_nobody _)) (j := p) (by omega)
 have HK : Hid (Kept L w w2) := Lib.hid (Kept.of_none hO2)
 have HLb := Lib.hid (fun i hi => h.ltL (i := i) hi)
 have HMp := Lib.hid (fun W => meant_any id p W (by omega) (by omega))
 have HMq := Lib.hid (fun W => meant_any id (p + 1) W (by omega) (by omega))
 have e3 : ((p + 1 : Nat) : Int) = (p : Int) + 1 := by omega
 rw [e3] at HMq
 have hp1 : (0 : Int) ≤ (p : Int) + 1 := by omega
 have hp2 : ¬ ((c.n : Int) ≤ (p : Int) + 1) := by omega
 have hgb := (hO2.row hrow (not_nobody _)).lt
 have hgw := hrow.lt
 have hm1 : (2 * (((id / 4 ^ p : Nat) : Int) % 4)) = ((prA id p : Nat) : Int) := by unfold prA; omega
 have hm3 : ((id / 4 ^ p : Nat) : Int) ≤ 2147483648 := by have := Nat.div_le_self id (4 ^ p); omega
 have HAc := Lib.hid (fun (L : Nat → Prop) (W : World) (h : Sto c a G0 w0 L g k W) => h.level hc hp (askP D p id fr) (by omega) (Int.natCast_nonneg _) (by
  intro j
  show 0 ≤ (if j = 0 then (D p).1.1 else if j = 1 then (D p).1.2 else 0) ∧ (if j = 0 then (D p).1.1 else if j = 1 then (D p).1.2 else 0) ≤ (18446744073709551615 : Int)
  have := (hD p).1
  split
  ·exact this.1
  ·split
   ·exact this.2
   ·omega))
 have HA6 := prA_le id p
 have HQ : Hid (partN c g D p id fr = (acW (c.N (p + 1)) c.S (c.D (p + 1)) c.T (c.r (p + 1)) (askP D p id fr) g.M (3 + prA id p), acW (c.N (p + 1)) c.S (c.D (p + 1)) c.T (c.r (p + 1)) (askP D p id fr) g.M (3 + (prA id p + 1)))) := Lib.hid rfl
 obtain ⟨q, hq⟩ : ∃ q, askP D p id fr = q := ⟨_, rfl⟩
 have HQq := Lib.hid hq
 have hqi : q.id = ((id / 4 ^ (p + 1) : Nat) : Int) := by rw [← hq]; rfl
 have hqa : q.at' = ((prA id p : Nat) : Int) := by rw [← hq]; rfl
 have hqo : q.op = 2 := by rw [← hq]; rfl
 have hql : q.lf = leafI fr.1 := by rw [← hq]; rfl
 have hqt : q.to = leafI (D (p + 1)).1.1 := by rw [← hq]; rfl
 have hqd : DA q.d = #[.int .u64 (D p).1.1, .int .u64 (D p).1.2, .int .u64 0, .int .u64 0, .int .u64 0, .int .u64 0, .int .u64 0, .int .u64 0] := by rw [← hq]; rfl
 rw [hq] at HQ HAc ⊢
 rw [hqi, hqa, hqo, hql, hqt, hqd] at HAc
 clear e3
 generalize prA id p = A at *
 generalize id / 4 ^ p = m at *
 generalize id / 4 ^ (p + 1) = m' at *
 have HW1 := Lib.hid hw1
 have HW2 := Lib.hid hw2
 have HBb := Lib.hid hb
 clear h hw1 hw2 hb hO1 hO2 hrow xb1 xr1 hq hqi hqa hqo hql hqt hqd
 go_enter Tryz.func116, Tryz.ntmps116
 go_upto_region 1 with fail
 rw [HBb.out]
 simp only [HW1.out]
 go_upto_region 2 with (go_at_call 151; refine (HMp.out _).mono ?_; rintro r9 w9 ⟨rfl, hw9⟩; rw [hw9]; clear hw9 w9)
 go_upto_region 3 with fail
 have e2 : w1.alloc (.cells #[.int .u64 (D p).1.1, .int .u64 (D p).1.2] 175) = w2 := HW2.out
 rw [e2]
 clear e2 r0 r1
 obtain ⟨P, hE⟩ : ∃ P : Nat → Prop, PtE c a G0 w0 p b (b + 2) gd fr D g k (fun i => L i ∨ P i) w2 := ⟨_, hE⟩
 have hE := hE.nob ((Only.refl nobody w2).drew)
 refine held_s (S := (fun u => PtS a c.n p b (b + 2) gd a.lc fr D u)) 31 rfl (by kernel_rfl) (hE.s hp) (fun hHeld => ?_)
 simp only [qA0, qB0, qC0, List.nil_append, List.cons_append]
 have HK := Lib.hid (HK.out.trans (Kept.of_none (Only.refl nobody w2).drew))
 generalize w2.drew = wc at *
 refine tk1 0 29 (.pointer (some ⟨a.sp, 0, none⟩)) rfl (Or.inl ⟨by rfl, fun w' hw => by go_simp⟩) hHeld ?_
 try simp only [Act.put, sA0, sB0, sC0]
 refine tk1 1 30 (.pointer (some ⟨a.sp, 0, none⟩)) rfl (Or.inl ⟨by rfl, fun w' hw => by go_simp⟩) hHeld ?_
 try simp only [Act.put, sA0, sB0, sC0]
 refine tk1 2 31 (.pointer (some ⟨a.sp, 7, none⟩)) rfl (Or.inl ⟨by rfl, fun w' hw => by go_simp⟩) hHeld ?_
 try simp only [Act.put, sA0, sB0, sC0]
 refine tk1 3 32 (.slice (some ⟨a.lg, 0, none⟩) c.n a.lc) rfl (Or.inl ⟨by rfl, fun w' hw => by (have f0 := hw.k7; have f1 := hw.kl; have f2 := hw.b0; have f3 := hw.b1; have f4 := hw.q0; have f5 := hw.q1; have f6 := row_d0 hw.row (j := p + 1) hp; have f7 := row_d1 hw.row (j := p + 1) hp; go_simp)⟩) hHeld ?_
 try simp only [Act.put, sA0, sB0, sC0]
 refine tk1 4 33 (.int .i64 ((p : Int) + 1)) rfl (Or.inl ⟨by rfl, fun w' hw => by go_simp⟩) hHeld ?_
 try simp only [Act.put, sA0, sB0, sC0]
 refine tk1 5 34 (.pointer (some ⟨a.lg, p + 1, none⟩)) rfl (Or.inl ⟨by rfl, fun w' hw => by (have f0 := hw.k7; have f1 := hw.kl; have f2 := hw.b0; have f3 := hw.b1; have f4 := hw.q0; have f5 := hw.q1; have f6 := row_d0 hw.row (j := p + 1) hp; have f7 := row_d1 hw.row (j := p + 1) hp; go_simp)⟩) hHeld ?_
 try simp only [Act.put, sA0, sB0, sC0]
 refine tk1 6 35 (.pointer (some ⟨a.lp (p + 1), 0, none⟩)) rfl (Or.inl ⟨by rfl, fun w' hw => by (have f0 := hw.k7; have f1 := hw.kl; have f2 := hw.b0; have f3 := hw.b1; have f4 := hw.q0; have f5 := hw.q1; have f6 := row_d0 hw.row (j := p + 1) hp; have f7 := row_d1 hw.row (j := p + 1) hp; go_simp)⟩) hHeld ?_
 try simp only [Act.put, sA0, sB0, sC0]
 refine tk1 7 36 (.int .u64 (id : Int)) rfl (Or.inl ⟨by rfl, fun w' hw => by go_simp⟩) hHeld ?_
 try simp only [Act.put, sA0, sB0, sC0]
 refine tk1 8 37 (.int .i64 ((p : Int) + 1)) rfl (Or.inl ⟨by rfl, fun w' hw => by go_simp⟩) hHeld ?_
 try simp only [Act.put, sA0, sB0, sC0]
 refine tk1 10 39 (.int .i64 (A : Int)) rfl (Or.inl ⟨by rfl, fun w' hw => by go_simp⟩) hHeld ?_
 try simp only [Act.put, sA0, sB0, sC0]
 refine tk1 11 40 (.pointer (some ⟨b + 2, 0, none⟩)) rfl (Or.inl ⟨by rfl, fun w' hw => by go_simp⟩) hHeld ?_
 try simp only [Act.put, sA0, sB0, sC0]
 refine tk1 12 41 (.int .u64 (D p).1.1) rfl (Or.inl ⟨by rfl, fun w' hw => by (have f0 := hw.k7; have f1 := hw.kl; have f2 := hw.b0; have f3 := hw.b1; have f4 := hw.q0; have f5 := hw.q1; have f6 := row_d0 hw.row (j := p + 1) hp; have f7 := row_d1 hw.row (j := p + 1) hp; go_simp)⟩) hHeld ?_
 try simp only [Act.put, sA0, sB0, sC0]
 refine tk1 13 42 (.pointer (some ⟨b + 2, 1, none⟩)) rfl (Or.inl ⟨by rfl, fun w' hw => by go_simp⟩) hHeld ?_
 try simp only [Act.put, sA0, sB0, sC0]
 refine tk1 14 43 (.int .u64 (D p).1.2) rfl (Or.inl ⟨by rfl, fun w' hw => by (have f0 := hw.k7; have f1 := hw.kl; have f2 := hw.b0; have f3 := hw.b1; have f4 := hw.q0; have f5 := hw.q1; have f6 := row_d0 hw.row (j := p + 1) hp; have f7 := row_d1 hw.row (j := p + 1) hp; go_simp)⟩) hHeld ?_
 try simp only [Act.put, sA0, sB0, sC0]
 refine tk1 15 44 (.agg #[.int .u64 (D p).1.1, .int .u64 (D p).1.2, .int .u64 0, .int .u64 0, .int .u64 0, .int .u64 0, .int .u64 0, .int .u64 0]) rfl (Or.inl ⟨by rfl, fun w' hw => by go_simp⟩) hHeld ?_
 try simp only [Act.put, sA0, sB0, sC0]
 refine tk1 16 45 (.agg #[.int .u64 fr.1, .int .u64 fr.2]) rfl (Or.inl ⟨by rfl, fun w' hw => by (have f0 := hw.k7; have f1 := hw.kl; have f2 := hw.b0; have f3 := hw.b1; have f4 := hw.q0; have f5 := hw.q1; have f6 := row_d0 hw.row (j := p + 1) hp; have f7 := row_d1 hw.row (j := p + 1) hp; go_simp)⟩) hHeld ?_
 try simp only [Act.put, sA0, sB0, sC0]
 refine tk1 18 47 (.slice (some ⟨gd, 0, none⟩) c.n c.n) rfl (Or.inl ⟨by rfl, fun w' hw => by go_simp⟩) hHeld ?_
 try simp only [Act.put, sA0, sB0, sC0]
 refine tk1 19 48 (.int .i64 ((p : Int) + 1)) rfl (Or.inl ⟨by rfl, fun w' hw => by go_simp⟩) hHeld ?_
 try simp only [Act.put, sA0, sB0, sC0]
 refine tk1 20 49 (.pointer (some ⟨gd, (p + 1) * 4, none⟩)) rfl (Or.inl ⟨by rfl, fun w' hw => by (have f0 := hw.k7; have f1 := hw.kl; have f2 := hw.b0; have f3 := hw.b1; have f4 := hw.q0; have f5 := hw.q1; have f6 := row_d0 hw.row (j := p + 1) hp; have f7 := row_d1 hw.row (j := p + 1) hp; go_simp)⟩) hHeld ?_
 try simp only [Act.put, sA0, sB0, sC0]
 refine tk1 21 50 (.pointer (some ⟨gd, (p + 1) * 4, none⟩)) rfl (Or.inl ⟨by rfl, fun w' hw => by go_simp⟩) hHeld ?_
 try simp only [Act.put, sA0, sB0, sC0]
 refine tk1 22 51 (.agg #[.int .u64 (D (p + 1)).1.1, .int .u64 (D (p + 1)).1.2]) rfl (Or.inl ⟨by rfl, fun w' hw => by (have f0 := hw.k7; have f1 := hw.kl; have f2 := hw.b0; have f3 := hw.b1; have f4 := hw.q0; have f5 := hw.q1; have f6 := row_d0 hw.row (j := p + 1) hp; have f7 := row_d1 hw.row (j := p + 1) hp; go_simp)⟩) hHeld ?_
 try simp only [Act.put, sA0, sB0, sC0]
 refine wpAnyH_ready (rs := [9, 28]) (by kernel_rfl) (by simp) (AllReadyH.cons rfl (fun K hK => ?_) (AllReadyH.cons rfl (fun K hK => ?_) (AllReadyH.nil)))
 ·go_simp
  refine (HMq.out _).mono ?_
  rintro r9 w9 ⟨rfl, hw9⟩
  rw [hw9]
  refine hK.out _ _ hHeld (fun hHeld => ?_)
  clear hK K hw9 w9
  try simp only [Act.put, sA0, sB0, sC0]

  refine wpAnyH_ready (rs := [17, 28]) (by kernel_rfl) (by simp) (AllReadyH.cons rfl (fun K hK => ?_) (AllReadyH.cons rfl (fun K hK => ?_) (AllReadyH.nil)))
  ·go_simp
   refine (note_leaf fr _).mono ?_
   rintro r9 w9 ⟨rfl, rfl⟩
   have ho : Only nobody wc _ := (Only.refl nobody wc).alloc (.cells (ntA fr) 175)
   have hE := hE.nob ho
   have HK := Lib.hid (HK.out.trans (Kept.of_none ho))
   refine hK.out _ _ (hE.s hp) (fun hHeld => ?_)
   clear hK K ho
   generalize wc.alloc _ = wc at *
   try simp only [Act.put, sA0, sB0, sC0]

   refine wpAnyH_ready (rs := [23, 28]) (by kernel_rfl) (by simp) (AllReadyH.cons rfl (fun K hK => ?_) (AllReadyH.cons rfl (fun K hK => ?_) (AllReadyH.nil)))
   ·go_simp
    refine (note_leaf (D (p + 1)).1 _).mono ?_
    rintro r9 w9 ⟨rfl, rfl⟩
    have ho : Only nobody wc _ := (Only.refl nobody wc).alloc (.cells (ntA (D (p + 1)).1) 175)
    have hE := hE.nob ho
    have HK := Lib.hid (HK.out.trans (Kept.of_none ho))
    refine hK.out _ _ (hE.s hp) (fun hHeld => ?_)
    clear hK K ho
    generalize wc.alloc _ = wc at *
    try simp only [Act.put, sA0, sB0, sC0]

    refine wpAnyH_ready (rs := [24, 28]) (by kernel_rfl) (by simp) (AllReadyH.cons rfl (fun K hK => ?_) (AllReadyH.cons rfl (fun K hK => ?_) (AllReadyH.nil)))
    ·go_simp
     refine (HAc.out _ _ hE.sto).mono ?_
     rintro r9 w6 ⟨rfl, o, hor, hS6, hK6⟩
     have hE := hE.go hS6 hK6
     have HK := Lib.hid (HK.out.trans (hK6.mono (fun i hi => .inl hi)))
     have HOr := Lib.hid hor
     refine hK.out _ _ (hE.s hp) (fun hHeld => ?_)
     clear hK K hS6 hK6 hor
     generalize w6 = wc at *
     try simp only [Act.put, sA0, sB0, sC0]
     refine tk1 25 28 (.tuple #[.agg (DA (fun i => acW (c.N (p + 1)) c.S (c.D (p + 1)) c.T (c.r (p + 1)) q g.M (3 + i))), .bool (acW (c.N (p + 1)) c.S (c.D (p + 1)) c.T (c.r (p + 1)) q g.M 0 == 1)]) rfl (Or.inl ⟨by rfl, fun w' hw => by go_simp⟩) hHeld ?_
     try simp only [Act.put, sA0, sB0, sC0]
     refine tk1 26 54 (.agg (DA (fun i => acW (c.N (p + 1)) c.S (c.D (p + 1)) c.T (c.r (p + 1)) q g.M (3 + i)))) rfl (Or.inl ⟨by rfl, fun w' hw => by go_simp⟩) hHeld ?_
     try simp only [Act.put, sA0, sB0, sC0]
     refine tk1 27 55 (.bool (acW (c.N (p + 1)) c.S (c.D (p + 1)) c.T (c.r (p + 1)) q g.M 0 == 1)) rfl (Or.inl ⟨by rfl, fun w' hw => by go_simp⟩) hHeld ?_
     try simp only [Act.put, sA0, sB0, sC0]
     refine one_ready 28 rfl (by kernel_rfl) (fun K hK => ?_)
     go_simp
     obtain ⟨db, hdb⟩ : ∃ x, wc.heap.size = x := ⟨_, rfl⟩
     obtain ⟨w7, hw7⟩ : ∃ x, wc.alloc (.cells #[.int .u64 0, .int .u64 0, .int .u64 0, .int .u64 0, .int .u64 0, .int .u64 0, .int .u64 0, .int .u64 0] 48) = x := ⟨_, rfl⟩
     have ho : Only nobody wc w7 := by rw [← hw7]; exact (Only.refl nobody wc).alloc _
     have hs7 : w7.heap.size = db + 1 := by rw [← hw7, World.size_alloc, hdb]
     have hB : Box w7 db 48 (DA fun _ => 0) := by rw [← hw7, ← hdb]; exact Box.new wc _ _
     have hdb2 : b + 2 < db := by rw [← hdb]; exact hE.xc.lt
     have hgd2 : gd ≠ db := by have := hE.row.lt; omega
     obtain ⟨P, hPd, hE⟩ := hE.made ho (d := db) (by omega) (by omega)
     have HK := Lib.hid (HK.out.trans (Kept.of_none ho))
     refine hK.out _ _ (by rw [hw7]; exact hE.s hp) (fun hHeld => ?_)
     rw [hw7] at hHeld ⊢
     simp only [hdb]
     clear hK K hw7 ho hdb hs7
     generalize w7 = wc at *
     try simp only [Act.put, sA0, sB0, sC0]

     refine one_ready 29 (o := ⟨none, _, _, _, _, _⟩) rfl (by kernel_rfl) (fun K hK => ?_)
     refine step_store_data rfl (.tmp 13) (.tmp 54) rfl db 0 rfl (fun i => acW (c.N (p + 1)) c.S (c.D (p + 1)) c.T (c.r (p + 1)) q g.M (3 + i)) rfl (hB.there 8 (by decide)) ?_
     have ho : Only (just db) wc (wc.setCells db 0 (DA (fun i => acW (c.N (p + 1)) c.S (c.D (p + 1)) c.T (c.r (p + 1)) q g.M (3 + i))).toList) := only_setCells (S := just db) _ 0 wc (Only.refl _ _) (.inl (just_self _))
     have hV := World.rangeAt_setCells_same wc db 0 (DA (fun i => acW (c.N (p + 1)) c.S (c.D (p + 1)) c.T (c.r (p + 1)) q g.M (3 + i))).toList (hB.there 8 (by decide))
     have hE := hE.far ho (.inr hPd) (by have := hE.lt; omega) ⟨by omega, by omega, by omega, hgd2⟩
     have HK := Lib.hid (HK.out.trans (ho.mono (fun i _ hi hl => by have h1 := HLb.out i hl; have h2 : i = db := hi; have h3 := HBb.out; omega)))
     refine hK.out _ _ (hE.s hp) (fun hHeld => ?_)
     clear hK K ho hB
     generalize World.setCells _ _ _ _ = wc at *
     try simp only [Act.put, sA0, sB0, sC0]
     refine tk1 30 14 (.bool (acW (c.N (p + 1)) c.S (c.D (p + 1)) c.T (c.r (p + 1)) q g.M 0 == 1)) rfl (Or.inl ⟨by rfl, fun w' hw => by go_simp⟩) hHeld ?_
     try simp only [Act.put, sA0, sB0, sC0]
     refine wpAnyH_done (by kernel_rfl) ?_ _
     clear hHeld
     have hv0 : wc.cell? ⟨db, A, none⟩ = some (.int .u64 (acW (c.N (p + 1)) c.S (c.D (p + 1)) c.T (c.r (p + 1)) q g.M (3 + A))) := by
      have := hV A _ (by rw [Array.getElem?_toList]; exact DA_at _ A (by omega))
      rwa [Nat.zero_add] at this
     have hv1 : wc.cell? ⟨db, A + 1, none⟩ = some (.int .u64 (acW (c.N (p + 1)) c.S (c.D (p + 1)) c.T (c.r (p + 1)) q g.M (3 + (A + 1)))) := by
      have := hV (A + 1) _ (by rw [Array.getElem?_toList]; exact DA_at _ (A + 1) (by omega))
      rwa [Nat.zero_add] at this
     have i1 : ¬ (8 : Int) ≤ (A : Int) := by omega
     have i2 : ¬ (8 : Int) ≤ (A : Int) + 1 := by omega
     have i3 : (0 : Int) ≤ (A : Int) + 1 := by omega
     go_upto_region 4 with fail
     have hE := hE.nob ((Only.refl nobody wc).drew)
     refine held_s (S := fun u => u.cell? ⟨db, A, none⟩ = some (.int .u64 (acW (c.N (p + 1)) c.S (c.D (p + 1)) c.T (c.r (p + 1)) q g.M (3 + A))) ∧ u.cell? ⟨db, A + 1, none⟩ = some (.int .u64 (acW (c.N (p + 1)) c.S (c.D (p + 1)) c.T (c.r (p + 1)) q g.M (3 + (A + 1))))) 9 rfl (by kernel_rfl) ⟨hv0, hv1⟩ (fun hHeld => ?_)
     simp only [qA0, qB0, qC0, List.nil_append, List.cons_append]
     have HK := Lib.hid (HK.out.trans (Kept.of_none (Only.refl nobody wc).drew))
     clear hv0 hv1 hV
     generalize wc.drew = wc at *
     refine tk1 0 56 (.int .i64 (A : Int)) rfl (Or.inl ⟨by rfl, fun w' hw => by go_simp⟩) hHeld ?_
     try simp only [Act.put, sA0, sB0, sC0]
     refine tk1 1 57 (.pointer (some ⟨db, A, none⟩)) rfl (Or.inl ⟨by rfl, fun w' hw => by go_simp⟩) hHeld ?_
     try simp only [Act.put, sA0, sB0, sC0]
     refine tk1 2 58 (.int .u64 (acW (c.N (p + 1)) c.S (c.D (p + 1)) c.T (c.r (p + 1)) q g.M (3 + A))) rfl (Or.inl ⟨by rfl, fun w' hw => by (have f0 := hw.1; have f1 := hw.2; go_simp)⟩) hHeld ?_
     try simp only [Act.put, sA0, sB0, sC0]
     refine tk1 3 59 (.int .i64 (A : Int)) rfl (Or.inl ⟨by rfl, fun w' hw => by go_simp⟩) hHeld ?_
     try simp only [Act.put, sA0, sB0, sC0]
     refine tk1 4 60 (.int .i64 ((A : Int) + 1)) rfl (Or.inl ⟨by rfl, fun w' hw => by (go_simp; rw [IntKind.wrap_i64]; omega)⟩) hHeld ?_
     try simp only [Act.put, sA0, sB0, sC0]
     refine tk1 5 61 (.pointer (some ⟨db, A + 1, none⟩)) rfl (Or.inl ⟨by rfl, fun w' hw => by go_simp⟩) hHeld ?_
     try simp only [Act.put, sA0, sB0, sC0]
     refine tk1 6 62 (.int .u64 (acW (c.N (p + 1)) c.S (c.D (p + 1)) c.T (c.r (p + 1)) q g.M (3 + (A + 1)))) rfl (Or.inl ⟨by rfl, fun w' hw => by (have f0 := hw.1; have f1 := hw.2; go_simp)⟩) hHeld ?_
     try simp only [Act.put, sA0, sB0, sC0]
     refine tk1 7 63 (.agg #[.int .u64 (acW (c.N (p + 1)) c.S (c.D (p + 1)) c.T (c.r (p + 1)) q g.M (3 + A)), .int .u64 (acW (c.N (p + 1)) c.S (c.D (p + 1)) c.T (c.r (p + 1)) q g.M (3 + (A + 1)))]) rfl (Or.inl ⟨by rfl, fun w' hw => by go_simp⟩) hHeld ?_
     try simp only [Act.put, sA0, sB0, sC0]
     refine one_ready 8 (o := ⟨none, _, _, _, _, _⟩) rfl (by kernel_rfl) (fun K hK => ?_)
     have q0 := hE.xr.cell 0
     have q1 := hE.xr.cell 1
     have q2 := hE.xr.frozen 0
     have q3 := hE.xr.frozen 1
     simp at q0 q1
     go_simp
     have HV := Lib.hid ((hE.xr.put 0 (.int .u64 (acW (c.N (p + 1)) c.S (c.D (p + 1)) c.T (c.r (p + 1)) q g.M (3 + A)))).put 1 (.int .u64 (acW (c.N (p + 1)) c.S (c.D (p + 1)) c.T (c.r (p + 1)) q g.M (3 + (A + 1)))))
     have ho : Only (just (b + 1)) wc ((wc.setCell ⟨b + 1, 0, none⟩ (.int .u64 (acW (c.N (p + 1)) c.S (c.D (p + 1)) c.T (c.r (p + 1)) q g.M (3 + A)))).setCell ⟨b + 1, 1, none⟩ (.int .u64 (acW (c.N (p + 1)) c.S (c.D (p + 1)) c.T (c.r (p + 1)) q g.M (3 + (A + 1))))) := ((Only.refl _ wc).setCell (p := ⟨b + 1, 0, none⟩) (.inl (just_self _)) _).setCell (p := ⟨b + 1, 1, none⟩) (.inl (just_self _)) _
     have HS := Lib.hid ((hE.sto.far ho (fun i hi => by rw [show i = b + 1 from hi]; exact hE.l.2.1) (fun i hi => by rw [show i = b + 1 from hi]; exact Nat.le_succ_of_le hE.lt)).less (L' := L) (fun i hi => .inl hi))
     have HK := Lib.hid (HK.out.trans (ho.mono (fun i _ hi hl => by have h1 := HLb.out i hl; have h2 : i = b + 1 := hi; have h3 := HBb.out; omega)))
     refine hK.out _ _ ⟨cell_far (by omega) (cell_far (by omega) hHeld.1), cell_far (by omega) (cell_far (by omega) hHeld.2)⟩ (fun hHeld => ?_)
     clear hK K ho q0 q1 q2 q3 hHeld hE
     generalize World.setCell _ _ _ = wc at *
     try simp only [Act.put, sA0, sB0, sC0]
     refine wpAnyH_done (by kernel_rfl) ?_ _
     clear hHeld
     go_wp2_with fail
     refine bodyPost_ret (v := .agg #[.int .u64 (acW (c.N (p + 1)) c.S (c.D (p + 1)) c.T (c.r (p + 1)) q g.M (3 + A)), .int .u64 (acW (c.N (p + 1)) c.S (c.D (p + 1)) c.T (c.r (p + 1)) q g.M (3 + (A + 1)))]) (results_one Tryz.results116 rfl (load_box HV.out Tryz.underlying175 rfl (by kernel_rfl))) rfl ?_
     refine ⟨?_, o, HOr.out, HS.out, HK.out⟩
     rw [HQ.out]
     rfl
    ·go_simp
     obtain ⟨db, hdb⟩ : ∃ x, wc.heap.size = x := ⟨_, rfl⟩
     obtain ⟨w7, hw7⟩ : ∃ x, wc.alloc (.cells #[.int .u64 0, .int .u64 0, .int .u64 0, .int .u64 0, .int .u64 0, .int .u64 0, .int .u64 0, .int .u64 0] 48) = x := ⟨_, rfl⟩
     have ho : Only nobody wc w7 := by rw [← hw7]; exact (Only.refl nobody wc).alloc _
     have hs7 : w7.heap.size = db + 1 := by rw [← hw7, World.size_alloc, hdb]
     have hB : Box w7 db 48 (DA fun _ => 0) := by rw [← hw7, ← hdb]; exact Box.new wc _ _
     have hdb2 : b + 2 < db := by rw [← hdb]; exact hE.xc.lt
     have hgd2 : gd ≠ db := by have := hE.row.lt; omega
     obtain ⟨P, hPd, hE⟩ := hE.made ho (d := db) (by omega) (by omega)
     have HK := Lib.hid (HK.out.trans (Kept.of_none ho))
     refine hK.out _ _ (by rw [hw7]; exact hE.s hp) (fun hHeld => ?_)
     rw [hw7] at hHeld ⊢
     simp only [hdb]
     clear hK K hw7 ho hdb hs7
     generalize w7 = wc at *
     try simp only [Act.put, sA0, sB0, sC0]

     refine one_ready 24 rfl (by kernel_rfl) (fun K hK => ?_)
     go_simp
     refine (HAc.out _ _ hE.sto).mono ?_
     rintro r9 w6 ⟨rfl, o, hor, hS6, hK6⟩
     have hE := hE.go hS6 hK6
     have HK := Lib.hid (HK.out.trans (hK6.mono (fun i hi => .inl hi)))
     have HOr := Lib.hid hor
     have hB := hK6.box hB (.inr hPd)
     refine hK.out _ _ (hE.s hp) (fun hHeld => ?_)
     clear hK K hS6 hK6 hor
     generalize w6 = wc at *
     try simp only [Act.put, sA0, sB0, sC0]
     refine tk1 25 28 (.tuple #[.agg (DA (fun i => acW (c.N (p + 1)) c.S (c.D (p + 1)) c.T (c.r (p + 1)) q g.M (3 + i))), .bool (acW (c.N (p + 1)) c.S (c.D (p + 1)) c.T (c.r (p + 1)) q g.M 0 == 1)]) rfl (Or.inl ⟨by rfl, fun w' hw => by go_simp⟩) hHeld ?_
     try simp only [Act.put, sA0, sB0, sC0]
     refine tk1 26 54 (.agg (DA (fun i => acW (c.N (p + 1)) c.S (c.D (p + 1)) c.T (c.r (p + 1)) q g.M (3 + i)))) rfl (Or.inl ⟨by rfl, fun w' hw => by go_simp⟩) hHeld ?_
     try simp only [Act.put, sA0, sB0, sC0]
     refine tk1 27 55 (.bool (acW (c.N (p + 1)) c.S (c.D (p + 1)) c.T (c.r (p + 1)) q g.M 0 == 1)) rfl (Or.inl ⟨by rfl, fun w' hw => by go_simp⟩) hHeld ?_
     try simp only [Act.put, sA0, sB0, sC0]
     refine one_ready 29 (o := ⟨none, _, _, _, _, _⟩) rfl (by kernel_rfl) (fun K hK => ?_)
     refine step_store_data rfl (.tmp 13) (.tmp 54) rfl db 0 rfl (fun i => acW (c.N (p + 1)) c.S (c.D (p + 1)) c.T (c.r (p + 1)) q g.M (3 + i)) rfl (hB.there 8 (by decide)) ?_
     have ho : Only (just db) wc (wc.setCells db 0 (DA (fun i => acW (c.N (p + 1)) c.S (c.D (p + 1)) c.T (c.r (p + 1)) q g.M (3 + i))).toList) := only_setCells (S := just db) _ 0 wc (Only.refl _ _) (.inl (just_self _))
     have hV := World.rangeAt_setCells_same wc db 0 (DA (fun i => acW (c.N (p + 1)) c.S (c.D (p + 1)) c.T (c.r (p + 1)) q g.M (3 + i))).toList (hB.there 8 (by decide))
     have hE := hE.far ho (.inr hPd) (by have := hE.lt; omega) ⟨by omega, by omega, by omega, hgd2⟩
     have HK := Lib.hid (HK.out.trans (ho.mono (fun i _ hi hl => by have h1 := HLb.out i hl; have h2 : i = db := hi; have h3 := HBb.out; omega)))
     refine hK.out _ _ (hE.s hp) (fun hHeld => ?_)
     clear hK K ho hB
     generalize World.setCells _ _ _ _ = wc at *
     try simp only [Act.put, sA0, sB0, sC0]
     refine tk1 30 14 (.bool (acW (c.N (p + 1)) c.S (c.D (p + 1)) c.T (c.r (p + 1)) q g.M 0 == 1)) rfl (Or.inl ⟨by rfl, fun w' hw => by go_simp⟩) hHeld ?_
     try simp only [Act.put, sA0, sB0, sC0]
     refine wpAnyH_done (by kernel_rfl) ?_ _
     clear hHeld
     have hv0 : wc.cell? ⟨db, A, none⟩ = some (.int .u64 (acW (c.N (p + 1)) c.S (c.D (p + 1)) c.T (c.r (p + 1)) q g.M (3 + A))) := by
      have := hV A _ (by rw [Array.getElem?_toList]; exact DA_at _ A (by omega))
      rwa [Nat.zero_add] at this
     have hv1 : wc.cell? ⟨db, A + 1, none⟩ = some (.int .u64 (acW (c.N (p + 1)) c.S (c.D (p + 1)) c.T (c.r (p + 1)) q g.M (3 + (A + 1)))) := by
      have := hV (A + 1) _ (by rw [Array.getElem?_toList]; exact DA_at _ (A + 1) (by omega))
      rwa [Nat.zero_add] at this
     have i1 : ¬ (8 : Int) ≤ (A : Int) := by omega
     have i2 : ¬ (8 : Int) ≤ (A : Int) + 1 := by omega
     have i3 : (0 : Int) ≤ (A : Int) + 1 := by omega
     go_upto_region 4 with fail
     have hE := hE.nob ((Only.refl nobody wc).drew)
     refine held_s (S := fun u => u.cell? ⟨db, A, none⟩ = some (.int .u64 (acW (c.N (p + 1)) c.S (c.D (p + 1)) c.T (c.r (p + 1)) q g.M (3 + A))) ∧ u.cell? ⟨db, A + 1, none⟩ = some (.int .u64 (acW (c.N (p + 1)) c.S (c.D (p + 1)) c.T (c.r (p + 1)) q g.M (3 + (A + 1))))) 9 rfl (by kernel_rfl) ⟨hv0, hv1⟩ (fun hHeld => ?_)
     simp only [qA0, qB0, qC0, List.nil_append, List.cons_append]
     have HK := Lib.hid (HK.out.trans (Kept.of_none (Only.refl nobody wc).drew))
     clear hv0 hv1 hV
     generalize wc.drew = wc at *
     refine tk1 0 56 (.int .i64 (A : Int)) rfl (Or.inl ⟨by rfl, fun w' hw => by go_simp⟩) hHeld ?_
     try simp only [Act.put, sA0, sB0, sC0]
     refine tk1 1 57 (.pointer (some ⟨db, A, none⟩)) rfl (Or.inl ⟨by rfl, fun w' hw => by go_simp⟩) hHeld ?_
     try simp only [Act.put, sA0, sB0, sC0]
     refine tk1 2 58 (.int .u64 (acW (c.N (p + 1)) c.S (c.D (p + 1)) c.T (c.r (p + 1)) q g.M (3 + A))) rfl (Or.inl ⟨by rfl, fun w' hw => by (have f0 := hw.1; have f1 := hw.2; go_simp)⟩) hHeld ?_
     try simp only [Act.put, sA0, sB0, sC0]
     refine tk1 3 59 (.int .i64 (A : Int)) rfl (Or.inl ⟨by rfl, fun w' hw => by go_simp⟩) hHeld ?_
     try simp only [Act.put, sA0, sB0, sC0]
     refine tk1 4 60 (.int .i64 ((A : Int) + 1)) rfl (Or.inl ⟨by rfl, fun w' hw => by (go_simp; rw [IntKind.wrap_i64]; omega)⟩) hHeld ?_
     try simp only [Act.put, sA0, sB0, sC0]
     refine tk1 5 61 (.pointer (some ⟨db, A + 1, none⟩)) rfl (Or.inl ⟨by rfl, fun w' hw => by go_simp⟩) hHeld ?_
     try simp only [Act.put, sA0, sB0, sC0]
     refine tk1 6 62 (.int .u64 (acW (c.N (p + 1)) c.S (c.D (p + 1)) c.T (c.r (p + 1)) q g.M (3 + (A + 1)))) rfl (Or.inl ⟨by rfl, fun w' hw => by (have f0 := hw.1; have f1 := hw.2; go_simp)⟩) hHeld ?_
     try simp only [Act.put, sA0, sB0, sC0]
     refine tk1 7 63 (.agg #[.int .u64 (acW (c.N (p + 1)) c.S (c.D (p + 1)) c.T (c.r (p + 1)) q g.M (3 + A)), .int .u64 (acW (c.N (p + 1)) c.S (c.D (p + 1)) c.T (c.r (p + 1)) q g.M (3 + (A + 1)))]) rfl (Or.inl ⟨by rfl, fun w' hw => by go_simp⟩) hHeld ?_
     try simp only [Act.put, sA0, sB0, sC0]
     refine one_ready 8 (o := ⟨none, _, _, _, _, _⟩) rfl (by kernel_rfl) (fun K hK => ?_)
     have q0 := hE.xr.cell 0
     have q1 := hE.xr.cell 1
     have q2 := hE.xr.frozen 0
     have q3 := hE.xr.frozen 1
     simp at q0 q1
     go_simp
     have HV := Lib.hid ((hE.xr.put 0 (.int .u64 (acW (c.N (p + 1)) c.S (c.D (p + 1)) c.T (c.r (p + 1)) q g.M (3 + A)))).put 1 (.int .u64 (acW (c.N (p + 1)) c.S (c.D (p + 1)) c.T (c.r (p + 1)) q g.M (3 + (A + 1)))))
     have ho : Only (just (b + 1)) wc ((wc.setCell ⟨b + 1, 0, none⟩ (.int .u64 (acW (c.N (p + 1)) c.S (c.D (p + 1)) c.T (c.r (p + 1)) q g.M (3 + A)))).setCell ⟨b + 1, 1, none⟩ (.int .u64 (acW (c.N (p + 1)) c.S (c.D (p + 1)) c.T (c.r (p + 1)) q g.M (3 + (A + 1))))) := ((Only.refl _ wc).setCell (p := ⟨b + 1, 0, none⟩) (.inl (just_self _)) _).setCell (p := ⟨b + 1, 1, none⟩) (.inl (just_self _)) _
     have HS := Lib.hid ((hE.sto.far ho (fun i hi => by rw [show i = b + 1 from hi]; exact hE.l.2.1) (fun i hi => by rw [show i = b + 1 from hi]; exact Nat.le_succ_of_le hE.lt)).less (L' := L) (fun i hi => .inl hi))
     have HK := Lib.hid (HK.out.trans (ho.mono (fun i _ hi hl => by have h1 := HLb.out i hl; have h2 : i = b + 1 := hi; have h3 := HBb.out; omega)))
     refine hK.out _ _ ⟨cell_far (by omega) (cell_far (by omega) hHeld.1), cell_far (by omega) (cell_far (by omega) hHeld.2)⟩ (fun hHeld => ?_)
     clear hK K ho q0 q1 q2 q3 hHeld hE
     generalize World.setCell _ _ _ = wc at *
     try simp only [Act.put, sA0, sB0, sC0]
     refine wpAnyH_done (by kernel_rfl) ?_ _
     clear hHeld
     go_wp2_with fail
     refine bodyPost_ret (v := .agg #[.int .u64 (acW (c.N (p + 1)) c.S (c.D (p + 1)) c.T (c.r (p + 1)) q g.M (3 + A)), .int .u64 (acW (c.N (p + 1)) c.S (c.D (p + 1)) c.T (c.r (p + 1)) q g.M (3 + (A + 1)))]) (results_one Tryz.results116 rfl (load_box HV.out Tryz.underlying175 rfl (by kernel_rfl))) rfl ?_
     refine ⟨?_, o, HOr.out, HS.out, HK.out⟩
     rw [HQ.out]
     rfl
   ·go_simp
    obtain ⟨db, hdb⟩ : ∃ x, wc.heap.size = x := ⟨_, rfl⟩
    obtain ⟨w7, hw7⟩ : ∃ x, wc.alloc (.cells #[.int .u64 0, .int .u64 0, .int .u64 0, .int .u64 0, .int .u64 0, .int .u64 0, .int .u64 0, .int .u64 0] 48) = x := ⟨_, rfl⟩
    have ho : Only nobody wc w7 := by rw [← hw7]; exact (Only.refl nobody wc).alloc _
    have hs7 : w7.heap.size = db + 1 := by rw [← hw7, World.size_alloc, hdb]
    have hB : Box w7 db 48 (DA fun _ => 0) := by rw [← hw7, ← hdb]; exact Box.new wc _ _
    have hdb2 : b + 2 < db := by rw [← hdb]; exact hE.xc.lt
    have hgd2 : gd ≠ db := by have := hE.row.lt; omega
    obtain ⟨P, hPd, hE⟩ := hE.made ho (d := db) (by omega) (by omega)
    have HK := Lib.hid (HK.out.trans (Kept.of_none ho))
    refine hK.out _ _ (by rw [hw7]; exact hE.s hp) (fun hHeld => ?_)
    rw [hw7] at hHeld ⊢
    simp only [hdb]
    clear hK K hw7 ho hdb hs7
    generalize w7 = wc at *
    try simp only [Act.put, sA0, sB0, sC0]

    refine one_ready 23 rfl (by kernel_rfl) (fun K hK => ?_)
    go_simp
    refine (note_leaf (D (p + 1)).1 _).mono ?_
    rintro r9 w9 ⟨rfl, rfl⟩
    have ho : Only nobody wc _ := (Only.refl nobody wc).alloc (.cells (ntA (D (p + 1)).1) 175)
    have hE := hE.nob ho
    have HK := Lib.hid (HK.out.trans (Kept.of_none ho))
    have hB := hB.only ho (not_nobody _)
    refine hK.out _ _ (hE.s hp) (fun hHeld => ?_)
    clear hK K ho
    generalize wc.alloc _ = wc at *
    try simp only [Act.put, sA0, sB0, sC0]

    refine one_ready 24 rfl (by kernel_rfl) (fun K hK => ?_)
    go_simp
    refine (HAc.out _ _ hE.sto).mono ?_
    rintro r9 w6 ⟨rfl, o, hor, hS6, hK6⟩
    have hE := hE.go hS6 hK6
    have HK := Lib.hid (HK.out.trans (hK6.mono (fun i hi => .inl hi)))
    have HOr := Lib.hid hor
    have hB := hK6.box hB (.inr hPd)
    refine hK.out _ _ (hE.s hp) (fun hHeld => ?_)
    clear hK K hS6 hK6 hor
    generalize w6 = wc at *
    try simp only [Act.put, sA0, sB0, sC0]
    refine tk1 25 28 (.tuple #[.agg (DA (fun i => acW (c.N (p + 1)) c.S (c.D (p + 1)) c.T (c.r (p + 1)) q g.M (3 + i))), .bool (acW (c.N (p + 1)) c.S (c.D (p + 1)) c.T (c.r (p + 1)) q g.M 0 == 1)]) rfl (Or.inl ⟨by rfl, fun w' hw => by go_simp⟩) hHeld ?_
    try simp only [Act.put, sA0, sB0, sC0]
    refine tk1 26 54 (.agg (DA (fun i => acW (c.N (p + 1)) c.S (c.D (p + 1)) c.T (c.r (p + 1)) q g.M (3 + i)))) rfl (Or.inl ⟨by rfl, fun w' hw => by go_simp⟩) hHeld ?_
    try simp only [Act.put, sA0, sB0, sC0]
    refine tk1 27 55 (.bool (acW (c.N (p + 1)) c.S (c.D (p + 1)) c.T (c.r (p + 1)) q g.M 0 == 1)) rfl (Or.inl ⟨by rfl, fun w' hw => by go_simp⟩) hHeld ?_
    try simp only [Act.put, sA0, sB0, sC0]
    refine one_ready 29 (o := ⟨none, _, _, _, _, _⟩) rfl (by kernel_rfl) (fun K hK => ?_)
    refine step_store_data rfl (.tmp 13) (.tmp 54) rfl db 0 rfl (fun i => acW (c.N (p + 1)) c.S (c.D (p + 1)) c.T (c.r (p + 1)) q g.M (3 + i)) rfl (hB.there 8 (by decide)) ?_
    have ho : Only (just db) wc (wc.setCells db 0 (DA (fun i => acW (c.N (p + 1)) c.S (c.D (p + 1)) c.T (c.r (p + 1)) q g.M (3 + i))).toList) := only_setCells (S := just db) _ 0 wc (Only.refl _ _) (.inl (just_self _))
    have hV := World.rangeAt_setCells_same wc db 0 (DA (fun i => acW (c.N (p + 1)) c.S (c.D (p + 1)) c.T (c.r (p + 1)) q g.M (3 + i))).toList (hB.there 8 (by decide))
    have hE := hE.far ho (.inr hPd) (by have := hE.lt; omega) ⟨by omega, by omega, by omega, hgd2⟩
    have HK := Lib.hid (HK.out.trans (ho.mono (fun i _ hi hl => by have h1 := HLb.out i hl; have h2 : i = db := hi; have h3 := HBb.out; omega)))
    refine hK.out _ _ (hE.s hp) (fun hHeld => ?_)
    clear hK K ho hB
    generalize World.setCells _ _ _ _ = wc at *
    try simp only [Act.put, sA0, sB0, sC0]
    refine tk1 30 14 (.bool (acW (c.N (p + 1)) c.S (c.D (p + 1)) c.T (c.r (p + 1)) q g.M 0 == 1)) rfl (Or.inl ⟨by rfl, fun w' hw => by go_simp⟩) hHeld ?_
    try simp only [Act.put, sA0, sB0, sC0]
    refine wpAnyH_done (by kernel_rfl) ?_ _
    clear hHeld
    have hv0 : wc.cell? ⟨db, A, none⟩ = some (.int .u64 (acW (c.N (p + 1)) c.S (c.D (p + 1)) c.T (c.r (p + 1)) q g.M (3 + A))) := by
     have := hV A _ (by rw [Array.getElem?_toList]; exact DA_at _ A (by omega))
     rwa [Nat.zero_add] at this
    have hv1 : wc.cell? ⟨db, A + 1, none⟩ = some (.int .u64 (acW (c.N (p + 1)) c.S (c.D (p + 1)) c.T (c.r (p + 1)) q g.M (3 + (A + 1)))) := by
     have := hV (A + 1) _ (by rw [Array.getElem?_toList]; exact DA_at _ (A + 1) (by omega))
     rwa [Nat.zero_add] at this
    have i1 : ¬ (8 : Int) ≤ (A : Int) := by omega
    have i2 : ¬ (8 : Int) ≤ (A : Int) + 1 := by omega
    have i3 : (0 : Int) ≤ (A : Int) + 1 := by omega
    go_upto_region 4 with fail
    have hE := hE.nob ((Only.refl nobody wc).drew)
    refine held_s (S := fun u => u.cell? ⟨db, A, none⟩ = some (.int .u64 (acW (c.N (p + 1)) c.S (c.D (p + 1)) c.T (c.r (p + 1)) q g.M (3 + A))) ∧ u.cell? ⟨db, A + 1, none⟩ = some (.int .u64 (acW (c.N (p + 1)) c.S (c.D (p + 1)) c.T (c.r (p + 1)) q g.M (3 + (A + 1))))) 9 rfl (by kernel_rfl) ⟨hv0, hv1⟩ (fun hHeld => ?_)
    simp only [qA0, qB0, qC0, List.nil_append, List.cons_append]
    have HK := Lib.hid (HK.out.trans (Kept.of_none (Only.refl nobody wc).drew))
    clear hv0 hv1 hV
    generalize wc.drew = wc at *
    refine tk1 0 56 (.int .i64 (A : Int)) rfl (Or.inl ⟨by rfl, fun w' hw => by go_simp⟩) hHeld ?_
    try simp only [Act.put, sA0, sB0, sC0]
    refine tk1 1 57 (.pointer (some ⟨db, A, none⟩)) rfl (Or.inl ⟨by rfl, fun w' hw => by go_simp⟩) hHeld ?_
    try simp only [Act.put, sA0, sB0, sC0]
    refine tk1 2 58 (.int .u64 (acW (c.N (p + 1)) c.S (c.D (p + 1)) c.T (c.r (p + 1)) q g.M (3 + A))) rfl (Or.inl ⟨by rfl, fun w' hw => by (have f0 := hw.1; have f1 := hw.2; go_simp)⟩) hHeld ?_
    try simp only [Act.put, sA0, sB0, sC0]
    refine tk1 3 59 (.int .i64 (A : Int)) rfl (Or.inl ⟨by rfl, fun w' hw => by go_simp⟩) hHeld ?_
    try simp only [Act.put, sA0, sB0, sC0]
    refine tk1 4 60 (.int .i64 ((A : Int) + 1)) rfl (Or.inl ⟨by rfl, fun w' hw => by (go_simp; rw [IntKind.wrap_i64]; omega)⟩) hHeld ?_
    try simp only [Act.put, sA0, sB0, sC0]
    refine tk1 5 61 (.pointer (some ⟨db, A + 1, none⟩)) rfl (Or.inl ⟨by rfl, fun w' hw => by go_simp⟩) hHeld ?_
    try simp only [Act.put, sA0, sB0, sC0]
    refine tk1 6 62 (.int .u64 (acW (c.N (p + 1)) c.S (c.D (p + 1)) c.T (c.r (p + 1)) q g.M (3 + (A + 1)))) rfl (Or.inl ⟨by rfl, fun w' hw => by (have f0 := hw.1; have f1 := hw.2; go_simp)⟩) hHeld ?_
    try simp only [Act.put, sA0, sB0, sC0]
    refine tk1 7 63 (.agg #[.int .u64 (acW (c.N (p + 1)) c.S (c.D (p + 1)) c.T (c.r (p + 1)) q g.M (3 + A)), .int .u64 (acW (c.N (p + 1)) c.S (c.D (p + 1)) c.T (c.r (p + 1)) q g.M (3 + (A + 1)))]) rfl (Or.inl ⟨by rfl, fun w' hw => by go_simp⟩) hHeld ?_
    try simp only [Act.put, sA0, sB0, sC0]
    refine one_ready 8 (o := ⟨none, _, _, _, _, _⟩) rfl (by kernel_rfl) (fun K hK => ?_)
    have q0 := hE.xr.cell 0
    have q1 := hE.xr.cell 1
    have q2 := hE.xr.frozen 0
    have q3 := hE.xr.frozen 1
    simp at q0 q1
    go_simp
    have HV := Lib.hid ((hE.xr.put 0 (.int .u64 (acW (c.N (p + 1)) c.S (c.D (p + 1)) c.T (c.r (p + 1)) q g.M (3 + A)))).put 1 (.int .u64 (acW (c.N (p + 1)) c.S (c.D (p + 1)) c.T (c.r (p + 1)) q g.M (3 + (A + 1)))))
    have ho : Only (just (b + 1)) wc ((wc.setCell ⟨b + 1, 0, none⟩ (.int .u64 (acW (c.N (p + 1)) c.S (c.D (p + 1)) c.T (c.r (p + 1)) q g.M (3 + A)))).setCell ⟨b + 1, 1, none⟩ (.int .u64 (acW (c.N (p + 1)) c.S (c.D (p + 1)) c.T (c.r (p + 1)) q g.M (3 + (A + 1))))) := ((Only.refl _ wc).setCell (p := ⟨b + 1, 0, none⟩) (.inl (just_self _)) _).setCell (p := ⟨b + 1, 1, none⟩) (.inl (just_self _)) _
    have HS := Lib.hid ((hE.sto.far ho (fun i hi => by rw [show i = b + 1 from hi]; exact hE.l.2.1) (fun i hi => by rw [show i = b + 1 from hi]; exact Nat.le_succ_of_le hE.lt)).less (L' := L) (fun i hi => .inl hi))
    have HK := Lib.hid (HK.out.trans (ho.mono (fun i _ hi hl => by have h1 := HLb.out i hl; have h2 : i = b + 1 := hi; have h3 := HBb.out; omega)))
    refine hK.out _ _ ⟨cell_far (by omega) (cell_far (by omega) hHeld.1), cell_far (by omega) (cell_far (by omega) hHeld.2)⟩ (fun hHeld => ?_)
    clear hK K ho q0 q1 q2 q3 hHeld hE
    generalize World.setCell _ _ _ = wc at *
    try simp only [Act.put, sA0, sB0, sC0]
    refine wpAnyH_done (by kernel_rfl) ?_ _
    clear hHeld
    go_wp2_with fail
    refine bodyPost_ret (v := .agg #[.int .u64 (acW (c.N (p + 1)) c.S (c.D (p + 1)) c.T (c.r (p + 1)) q g.M (3 + A)), .int .u64 (acW (c.N (p + 1)) c.S (c.D (p + 1)) c.T (c.r (p + 1)) q g.M (3 + (A + 1)))]) (results_one Tryz.results116 rfl (load_box HV.out Tryz.underlying175 rfl (by kernel_rfl))) rfl ?_
    refine ⟨?_, o, HOr.out, HS.out, HK.out⟩
    rw [HQ.out]
    rfl
  ·go_simp
   obtain ⟨db, hdb⟩ : ∃ x, wc.heap.size = x := ⟨_, rfl⟩
   obtain ⟨w7, hw7⟩ : ∃ x, wc.alloc (.cells #[.int .u64 0, .int .u64 0, .int .u64 0, .int .u64 0, .int .u64 0, .int .u64 0, .int .u64 0, .int .u64 0] 48) = x := ⟨_, rfl⟩
   have ho : Only nobody wc w7 := by rw [← hw7]; exact (Only.refl nobody wc).alloc _
   have hs7 : w7.heap.size = db + 1 := by rw [← hw7, World.size_alloc, hdb]
   have hB : Box w7 db 48 (DA fun _ => 0) := by rw [← hw7, ← hdb]; exact Box.new wc _ _
   have hdb2 : b + 2 < db := by rw [← hdb]; exact hE.xc.lt
   have hgd2 : gd ≠ db := by have := hE.row.lt; omega
   obtain ⟨P, hPd, hE⟩ := hE.made ho (d := db) (by omega) (by omega)
   have HK := Lib.hid (HK.out.trans (Kept.of_none ho))
   refine hK.out _ _ (by rw [hw7]; exact hE.s hp) (fun hHeld => ?_)
   rw [hw7] at hHeld ⊢
   simp only [hdb]
   clear hK K hw7 ho hdb hs7
   generalize w7 = wc at *
   try simp only [Act.put, sA0, sB0, sC0]

   refine one_ready 17 rfl (by kernel_rfl) (fun K hK => ?_)
   go_simp
   refine (note_leaf fr _).mono ?_
   rintro r9 w9 ⟨rfl, rfl⟩
   have ho : Only nobody wc _ := (Only.refl nobody wc).alloc (.cells (ntA fr) 175)
   have hE := hE.nob ho
   have HK := Lib.hid (HK.out.trans (Kept.of_none ho))
   have hB := hB.only ho (not_nobody _)
   refine hK.out _ _ (hE.s hp) (fun hHeld => ?_)
   clear hK K ho
   generalize wc.alloc _ = wc at *
   try simp only [Act.put, sA0, sB0, sC0]

   refine one_ready 23 rfl (by kernel_rfl) (fun K hK => ?_)
   go_simp
   refine (note_leaf (D (p + 1)).1 _).mono ?_
   rintro r9 w9 ⟨rfl, rfl⟩
   have ho : Only nobody wc _ := (Only.refl nobody wc).alloc (.cells (ntA (D (p + 1)).1) 175)
   have hE := hE.nob ho
   have HK := Lib.hid (HK.out.trans (Kept.of_none ho))
   have hB := hB.only ho (not_nobody _)
   refine hK.out _ _ (hE.s hp) (fun hHeld => ?_)
   clear hK K ho
   generalize wc.alloc _ = wc at *
   try simp only [Act.put, sA0, sB0, sC0]

   refine one_ready 24 rfl (by kernel_rfl) (fun K hK => ?_)
   go_simp
   refine (HAc.out _ _ hE.sto).mono ?_
   rintro r9 w6 ⟨rfl, o, hor, hS6, hK6⟩
   have hE := hE.go hS6 hK6
   have HK := Lib.hid (HK.out.trans (hK6.mono (fun i hi => .inl hi)))
   have HOr := Lib.hid hor
   have hB := hK6.box hB (.inr hPd)
   refine hK.out _ _ (hE.s hp) (fun hHeld => ?_)
   clear hK K hS6 hK6 hor
   generalize w6 = wc at *
   try simp only [Act.put, sA0, sB0, sC0]
   refine tk1 25 28 (.tuple #[.agg (DA (fun i => acW (c.N (p + 1)) c.S (c.D (p + 1)) c.T (c.r (p + 1)) q g.M (3 + i))), .bool (acW (c.N (p + 1)) c.S (c.D (p + 1)) c.T (c.r (p + 1)) q g.M 0 == 1)]) rfl (Or.inl ⟨by rfl, fun w' hw => by go_simp⟩) hHeld ?_
   try simp only [Act.put, sA0, sB0, sC0]
   refine tk1 26 54 (.agg (DA (fun i => acW (c.N (p + 1)) c.S (c.D (p + 1)) c.T (c.r (p + 1)) q g.M (3 + i)))) rfl (Or.inl ⟨by rfl, fun w' hw => by go_simp⟩) hHeld ?_
   try simp only [Act.put, sA0, sB0, sC0]
   refine tk1 27 55 (.bool (acW (c.N (p + 1)) c.S (c.D (p + 1)) c.T (c.r (p + 1)) q g.M 0 == 1)) rfl (Or.inl ⟨by rfl, fun w' hw => by go_simp⟩) hHeld ?_
   try simp only [Act.put, sA0, sB0, sC0]
   refine one_ready 29 (o := ⟨none, _, _, _, _, _⟩) rfl (by kernel_rfl) (fun K hK => ?_)
   refine step_store_data rfl (.tmp 13) (.tmp 54) rfl db 0 rfl (fun i => acW (c.N (p + 1)) c.S (c.D (p + 1)) c.T (c.r (p + 1)) q g.M (3 + i)) rfl (hB.there 8 (by decide)) ?_
   have ho : Only (just db) wc (wc.setCells db 0 (DA (fun i => acW (c.N (p + 1)) c.S (c.D (p + 1)) c.T (c.r (p + 1)) q g.M (3 + i))).toList) := only_setCells (S := just db) _ 0 wc (Only.refl _ _) (.inl (just_self _))
   have hV := World.rangeAt_setCells_same wc db 0 (DA (fun i => acW (c.N (p + 1)) c.S (c.D (p + 1)) c.T (c.r (p + 1)) q g.M (3 + i))).toList (hB.there 8 (by decide))
   have hE := hE.far ho (.inr hPd) (by have := hE.lt; omega) ⟨by omega, by omega, by omega, hgd2⟩
   have HK := Lib.hid (HK.out.trans (ho.mono (fun i _ hi hl => by have h1 := HLb.out i hl; have h2 : i = db := hi; have h3 := HBb.out; omega)))
   refine hK.out _ _ (hE.s hp) (fun hHeld => ?_)
   clear hK K ho hB
   generalize World.setCells _ _ _ _ = wc at *
   try simp only [Act.put, sA0, sB0, sC0]
   refine tk1 30 14 (.bool (acW (c.N (p + 1)) c.S (c.D (p + 1)) c.T (c.r (p + 1)) q g.M 0 == 1)) rfl (Or.inl ⟨by rfl, fun w' hw => by go_simp⟩) hHeld ?_
   try simp only [Act.put, sA0, sB0, sC0]
   refine wpAnyH_done (by kernel_rfl) ?_ _
   clear hHeld
   have hv0 : wc.cell? ⟨db, A, none⟩ = some (.int .u64 (acW (c.N (p + 1)) c.S (c.D (p + 1)) c.T (c.r (p + 1)) q g.M (3 + A))) := by
    have := hV A _ (by rw [Array.getElem?_toList]; exact DA_at _ A (by omega))
    rwa [Nat.zero_add] at this
   have hv1 : wc.cell? ⟨db, A + 1, none⟩ = some (.int .u64 (acW (c.N (p + 1)) c.S (c.D (p + 1)) c.T (c.r (p + 1)) q g.M (3 + (A + 1)))) := by
    have := hV (A + 1) _ (by rw [Array.getElem?_toList]; exact DA_at _ (A + 1) (by omega))
    rwa [Nat.zero_add] at this
   have i1 : ¬ (8 : Int) ≤ (A : Int) := by omega
   have i2 : ¬ (8 : Int) ≤ (A : Int) + 1 := by omega
   have i3 : (0 : Int) ≤ (A : Int) + 1 := by omega
   go_upto_region 4 with fail
   have hE := hE.nob ((Only.refl nobody wc).drew)
   refine held_s (S := fun u => u.cell? ⟨db, A, none⟩ = some (.int .u64 (acW (c.N (p + 1)) c.S (c.D (p + 1)) c.T (c.r (p + 1)) q g.M (3 + A))) ∧ u.cell? ⟨db, A + 1, none⟩ = some (.int .u64 (acW (c.N (p + 1)) c.S (c.D (p + 1)) c.T (c.r (p + 1)) q g.M (3 + (A + 1))))) 9 rfl (by kernel_rfl) ⟨hv0, hv1⟩ (fun hHeld => ?_)
   simp only [qA0, qB0, qC0, List.nil_append, List.cons_append]
   have HK := Lib.hid (HK.out.trans (Kept.of_none (Only.refl nobody wc).drew))
   clear hv0 hv1 hV
   generalize wc.drew = wc at *
   refine tk1 0 56 (.int .i64 (A : Int)) rfl (Or.inl ⟨by rfl, fun w' hw => by go_simp⟩) hHeld ?_
   try simp only [Act.put, sA0, sB0, sC0]
   refine tk1 1 57 (.pointer (some ⟨db, A, none⟩)) rfl (Or.inl ⟨by rfl, fun w' hw => by go_simp⟩) hHeld ?_
   try simp only [Act.put, sA0, sB0, sC0]
   refine tk1 2 58 (.int .u64 (acW (c.N (p + 1)) c.S (c.D (p + 1)) c.T (c.r (p + 1)) q g.M (3 + A))) rfl (Or.inl ⟨by rfl, fun w' hw => by (have f0 := hw.1; have f1 := hw.2; go_simp)⟩) hHeld ?_
   try simp only [Act.put, sA0, sB0, sC0]
   refine tk1 3 59 (.int .i64 (A : Int)) rfl (Or.inl ⟨by rfl, fun w' hw => by go_simp⟩) hHeld ?_
   try simp only [Act.put, sA0, sB0, sC0]
   refine tk1 4 60 (.int .i64 ((A : Int) + 1)) rfl (Or.inl ⟨by rfl, fun w' hw => by (go_simp; rw [IntKind.wrap_i64]; omega)⟩) hHeld ?_
   try simp only [Act.put, sA0, sB0, sC0]
   refine tk1 5 61 (.pointer (some ⟨db, A + 1, none⟩)) rfl (Or.inl ⟨by rfl, fun w' hw => by go_simp⟩) hHeld ?_
   try simp only [Act.put, sA0, sB0, sC0]
   refine tk1 6 62 (.int .u64 (acW (c.N (p + 1)) c.S (c.D (p + 1)) c.T (c.r (p + 1)) q g.M (3 + (A + 1)))) rfl (Or.inl ⟨by rfl, fun w' hw => by (have f0 := hw.1; have f1 := hw.2; go_simp)⟩) hHeld ?_
   try simp only [Act.put, sA0, sB0, sC0]
   refine tk1 7 63 (.agg #[.int .u64 (acW (c.N (p + 1)) c.S (c.D (p + 1)) c.T (c.r (p + 1)) q g.M (3 + A)), .int .u64 (acW (c.N (p + 1)) c.S (c.D (p + 1)) c.T (c.r (p + 1)) q g.M (3 + (A + 1)))]) rfl (Or.inl ⟨by rfl, fun w' hw => by go_simp⟩) hHeld ?_
   try simp only [Act.put, sA0, sB0, sC0]
   refine one_ready 8 (o := ⟨none, _, _, _, _, _⟩) rfl (by kernel_rfl) (fun K hK => ?_)
   have q0 := hE.xr.cell 0
   have q1 := hE.xr.cell 1
   have q2 := hE.xr.frozen 0
   have q3 := hE.xr.frozen 1
   simp at q0 q1
   go_simp
   have HV := Lib.hid ((hE.xr.put 0 (.int .u64 (acW (c.N (p + 1)) c.S (c.D (p + 1)) c.T (c.r (p + 1)) q g.M (3 + A)))).put 1 (.int .u64 (acW (c.N (p + 1)) c.S (c.D (p + 1)) c.T (c.r (p + 1)) q g.M (3 + (A + 1)))))
   have ho : Only (just (b + 1)) wc ((wc.setCell ⟨b + 1, 0, none⟩ (.int .u64 (acW (c.N (p + 1)) c.S (c.D (p + 1)) c.T (c.r (p + 1)) q g.M (3 + A)))).setCell ⟨b + 1, 1, none⟩ (.int .u64 (acW (c.N (p + 1)) c.S (c.D (p + 1)) c.T (c.r (p + 1)) q g.M (3 + (A + 1))))) := ((Only.refl _ wc).setCell (p := ⟨b + 1, 0, none⟩) (.inl (just_self _)) _).setCell (p := ⟨b + 1, 1, none⟩) (.inl (just_self _)) _
   have HS := Lib.hid ((hE.sto.far ho (fun i hi => by rw [show i = b + 1 from hi]; exact hE.l.2.1) (fun i hi => by rw [show i = b + 1 from hi]; exact Nat.le_succ_of_le hE.lt)).less (L' := L) (fun i hi => .inl hi))
   have HK := Lib.hid (HK.out.trans (ho.mono (fun i _ hi hl => by have h1 := HLb.out i hl; have h2 : i = b + 1 := hi; have h3 := HBb.out; omega)))
   refine hK.out _ _ ⟨cell_far (by omega) (cell_far (by omega) hHeld.1), cell_far (by omega) (cell_far (by omega) hHeld.2)⟩ (fun hHeld => ?_)
   clear hK K ho q0 q1 q2 q3 hHeld hE
   generalize World.setCell _ _ _ = wc at *
   try simp only [Act.put, sA0, sB0, sC0]
   refine wpAnyH_done (by kernel_rfl) ?_ _
   clear hHeld
   go_wp2_with fail
   refine bodyPost_ret (v := .agg #[.int .u64 (acW (c.N (p + 1)) c.S (c.D (p + 1)) c.T (c.r (p + 1)) q g.M (3 + A)), .int .u64 (acW (c.N (p + 1)) c.S (c.D (p + 1)) c.T (c.r (p + 1)) q g.M (3 + (A + 1)))]) (results_one Tryz.results116 rfl (load_box HV.out Tryz.underlying175 rfl (by kernel_rfl))) rfl ?_
   refine ⟨?_, o, HOr.out, HS.out, HK.out⟩
   rw [HQ.out]
   rfl
 ·go_simp
  obtain ⟨db, hdb⟩ : ∃ x, wc.heap.size = x := ⟨_, rfl⟩
  obtain ⟨w7, hw7⟩ : ∃ x, wc.alloc (.cells #[.int .u64 0, .int .u64 0, .int .u64 0, .int .u64 0, .int .u64 0, .int .u64 0, .int .u64 0, .int .u64 0] 48) = x := ⟨_, rfl⟩
  have ho : Only nobody wc w7 := by rw [← hw7]; exact (Only.refl nobody wc).alloc _
  have hs7 : w7.heap.size = db + 1 := by rw [← hw7, World.size_alloc, hdb]
  have hB : Box w7 db 48 (DA fun _ => 0) := by rw [← hw7, ← hdb]; exact Box.new wc _ _
  have hdb2 : b + 2 < db := by rw [← hdb]; exact hE.xc.lt
  have hgd2 : gd ≠ db := by have := hE.row.lt; omega
  obtain ⟨P, hPd, hE⟩ := hE.made ho (d := db) (by omega) (by omega)
  have HK := Lib.hid (HK.out.trans (Kept.of_none ho))
  refine hK.out _ _ (by rw [hw7]; exact hE.s hp) (fun hHeld => ?_)
  rw [hw7] at hHeld ⊢
  simp only [hdb]
  clear hK K hw7 ho hdb hs7
  generalize w7 = wc at *
  try simp only [Act.put, sA0, sB0, sC0]

  refine one_ready 9 rfl (by kernel_rfl) (fun K hK => ?_)
  go_simp
  refine (HMq.out _).mono ?_
  rintro r9 w9 ⟨rfl, hw9⟩
  rw [hw9]
  refine hK.out _ _ hHeld (fun hHeld => ?_)
  clear hK K hw9 w9
  try simp only [Act.put, sA0, sB0, sC0]

  refine one_ready 17 rfl (by kernel_rfl) (fun K hK => ?_)
  go_simp
  refine (note_leaf fr _).mono ?_
  rintro r9 w9 ⟨rfl, rfl⟩
  have ho : Only nobody wc _ := (Only.refl nobody wc).alloc (.cells (ntA fr) 175)
  have hE := hE.nob ho
  have HK := Lib.hid (HK.out.trans (Kept.of_none ho))
  have hB := hB.only ho (not_nobody _)
  refine hK.out _ _ (hE.s hp) (fun hHeld => ?_)
  clear hK K ho
  generalize wc.alloc _ = wc at *
  try simp only [Act.put, sA0, sB0, sC0]

  refine one_ready 23 rfl (by kernel_rfl) (fun K hK => ?_)
  go_simp
  refine (note_leaf (D (p + 1)).1 _).mono ?_
  rintro r9 w9 ⟨rfl, rfl⟩
  have ho : Only nobody wc _ := (Only.refl nobody wc).alloc (.cells (ntA (D (p + 1)).1) 175)
  have hE := hE.nob ho
  have HK := Lib.hid (HK.out.trans (Kept.of_none ho))
  have hB := hB.only ho (not_nobody _)
  refine hK.out _ _ (hE.s hp) (fun hHeld => ?_)
  clear hK K ho
  generalize wc.alloc _ = wc at *
  try simp only [Act.put, sA0, sB0, sC0]

  refine one_ready 24 rfl (by kernel_rfl) (fun K hK => ?_)
  go_simp
  refine (HAc.out _ _ hE.sto).mono ?_
  rintro r9 w6 ⟨rfl, o, hor, hS6, hK6⟩
  have hE := hE.go hS6 hK6
  have HK := Lib.hid (HK.out.trans (hK6.mono (fun i hi => .inl hi)))
  have HOr := Lib.hid hor
  have hB := hK6.box hB (.inr hPd)
  refine hK.out _ _ (hE.s hp) (fun hHeld => ?_)
  clear hK K hS6 hK6 hor
  generalize w6 = wc at *
  try simp only [Act.put, sA0, sB0, sC0]
  refine tk1 25 28 (.tuple #[.agg (DA (fun i => acW (c.N (p + 1)) c.S (c.D (p + 1)) c.T (c.r (p + 1)) q g.M (3 + i))), .bool (acW (c.N (p + 1)) c.S (c.D (p + 1)) c.T (c.r (p + 1)) q g.M 0 == 1)]) rfl (Or.inl ⟨by rfl, fun w' hw => by go_simp⟩) hHeld ?_
  try simp only [Act.put, sA0, sB0, sC0]
  refine tk1 26 54 (.agg (DA (fun i => acW (c.N (p + 1)) c.S (c.D (p + 1)) c.T (c.r (p + 1)) q g.M (3 + i)))) rfl (Or.inl ⟨by rfl, fun w' hw => by go_simp⟩) hHeld ?_
  try simp only [Act.put, sA0, sB0, sC0]
  refine tk1 27 55 (.bool (acW (c.N (p + 1)) c.S (c.D (p + 1)) c.T (c.r (p + 1)) q g.M 0 == 1)) rfl (Or.inl ⟨by rfl, fun w' hw => by go_simp⟩) hHeld ?_
  try simp only [Act.put, sA0, sB0, sC0]
  refine one_ready 29 (o := ⟨none, _, _, _, _, _⟩) rfl (by kernel_rfl) (fun K hK => ?_)
  refine step_store_data rfl (.tmp 13) (.tmp 54) rfl db 0 rfl (fun i => acW (c.N (p + 1)) c.S (c.D (p + 1)) c.T (c.r (p + 1)) q g.M (3 + i)) rfl (hB.there 8 (by decide)) ?_
  have ho : Only (just db) wc (wc.setCells db 0 (DA (fun i => acW (c.N (p + 1)) c.S (c.D (p + 1)) c.T (c.r (p + 1)) q g.M (3 + i))).toList) := only_setCells (S := just db) _ 0 wc (Only.refl _ _) (.inl (just_self _))
  have hV := World.rangeAt_setCells_same wc db 0 (DA (fun i => acW (c.N (p + 1)) c.S (c.D (p + 1)) c.T (c.r (p + 1)) q g.M (3 + i))).toList (hB.there 8 (by decide))
  have hE := hE.far ho (.inr hPd) (by have := hE.lt; omega) ⟨by omega, by omega, by omega, hgd2⟩
  have HK := Lib.hid (HK.out.trans (ho.mono (fun i _ hi hl => by have h1 := HLb.out i hl; have h2 : i = db := hi; have h3 := HBb.out; omega)))
  refine hK.out _ _ (hE.s hp) (fun hHeld => ?_)
  clear hK K ho hB
  generalize World.setCells _ _ _ _ = wc at *
  try simp only [Act.put, sA0, sB0, sC0]
  refine tk1 30 14 (.bool (acW (c.N (p + 1)) c.S (c.D (p + 1)) c.T (c.r (p + 1)) q g.M 0 == 1)) rfl (Or.inl ⟨by rfl, fun w' hw => by go_simp⟩) hHeld ?_
  try simp only [Act.put, sA0, sB0, sC0]
  refine wpAnyH_done (by kernel_rfl) ?_ _
  clear hHeld
  have hv0 : wc.cell? ⟨db, A, none⟩ = some (.int .u64 (acW (c.N (p + 1)) c.S (c.D (p + 1)) c.T (c.r (p + 1)) q g.M (3 + A))) := by
   have := hV A _ (by rw [Array.getElem?_toList]; exact DA_at _ A (by omega))
   rwa [Nat.zero_add] at this
  have hv1 : wc.cell? ⟨db, A + 1, none⟩ = some (.int .u64 (acW (c.N (p + 1)) c.S (c.D (p + 1)) c.T (c.r (p + 1)) q g.M (3 + (A + 1)))) := by
   have := hV (A + 1) _ (by rw [Array.getElem?_toList]; exact DA_at _ (A + 1) (by omega))
   rwa [Nat.zero_add] at this
  have i1 : ¬ (8 : Int) ≤ (A : Int) := by omega
  have i2 : ¬ (8 : Int) ≤ (A : Int) + 1 := by omega
  have i3 : (0 : Int) ≤ (A : Int) + 1 := by omega
  go_upto_region 4 with fail
  have hE := hE.nob ((Only.refl nobody wc).drew)
  refine held_s (S := fun u => u.cell? ⟨db, A, none⟩ = some (.int .u64 (acW (c.N (p + 1)) c.S (c.D (p + 1)) c.T (c.r (p + 1)) q g.M (3 + A))) ∧ u.cell? ⟨db, A + 1, none⟩ = some (.int .u64 (acW (c.N (p + 1)) c.S (c.D (p + 1)) c.T (c.r (p + 1)) q g.M (3 + (A + 1))))) 9 rfl (by kernel_rfl) ⟨hv0, hv1⟩ (fun hHeld => ?_)
  simp only [qA0, qB0, qC0, List.nil_append, List.cons_append]
  have HK := Lib.hid (HK.out.trans (Kept.of_none (Only.refl nobody wc).drew))
  clear hv0 hv1 hV
  generalize wc.drew = wc at *
  refine tk1 0 56 (.int .i64 (A : Int)) rfl (Or.inl ⟨by rfl, fun w' hw => by go_simp⟩) hHeld ?_
  try simp only [Act.put, sA0, sB0, sC0]
  refine tk1 1 57 (.pointer (some ⟨db, A, none⟩)) rfl (Or.inl ⟨by rfl, fun w' hw => by go_simp⟩) hHeld ?_
  try simp only [Act.put, sA0, sB0, sC0]
  refine tk1 2 58 (.int .u64 (acW (c.N (p + 1)) c.S (c.D (p + 1)) c.T (c.r (p + 1)) q g.M (3 + A))) rfl (Or.inl ⟨by rfl, fun w' hw => by (have f0 := hw.1; have f1 := hw.2; go_simp)⟩) hHeld ?_
  try simp only [Act.put, sA0, sB0, sC0]
  refine tk1 3 59 (.int .i64 (A : Int)) rfl (Or.inl ⟨by rfl, fun w' hw => by go_simp⟩) hHeld ?_
  try simp only [Act.put, sA0, sB0, sC0]
  refine tk1 4 60 (.int .i64 ((A : Int) + 1)) rfl (Or.inl ⟨by rfl, fun w' hw => by (go_simp; rw [IntKind.wrap_i64]; omega)⟩) hHeld ?_
  try simp only [Act.put, sA0, sB0, sC0]
  refine tk1 5 61 (.pointer (some ⟨db, A + 1, none⟩)) rfl (Or.inl ⟨by rfl, fun w' hw => by go_simp⟩) hHeld ?_
  try simp only [Act.put, sA0, sB0, sC0]
  refine tk1 6 62 (.int .u64 (acW (c.N (p + 1)) c.S (c.D (p + 1)) c.T (c.r (p + 1)) q g.M (3 + (A + 1)))) rfl (Or.inl ⟨by rfl, fun w' hw => by (have f0 := hw.1; have f1 := hw.2; go_simp)⟩) hHeld ?_
  try simp only [Act.put, sA0, sB0, sC0]
  refine tk1 7 63 (.agg #[.int .u64 (acW (c.N (p + 1)) c.S (c.D (p + 1)) c.T (c.r (p + 1)) q g.M (3 + A)), .int .u64 (acW (c.N (p + 1)) c.S (c.D (p + 1)) c.T (c.r (p + 1)) q g.M (3 + (A + 1)))]) rfl (Or.inl ⟨by rfl, fun w' hw => by go_simp⟩) hHeld ?_
  try simp only [Act.put, sA0, sB0, sC0]
  refine one_ready 8 (o := ⟨none, _, _, _, _, _⟩) rfl (by kernel_rfl) (fun K hK => ?_)
  have q0 := hE.xr.cell 0
  have q1 := hE.xr.cell 1
  have q2 := hE.xr.frozen 0
  have q3 := hE.xr.frozen 1
  simp at q0 q1
  go_simp
  have HV := Lib.hid ((hE.xr.put 0 (.int .u64 (acW (c.N (p + 1)) c.S (c.D (p + 1)) c.T (c.r (p + 1)) q g.M (3 + A)))).put 1 (.int .u64 (acW (c.N (p + 1)) c.S (c.D (p + 1)) c.T (c.r (p + 1)) q g.M (3 + (A + 1)))))
  have ho : Only (just (b + 1)) wc ((wc.setCell ⟨b + 1, 0, none⟩ (.int .u64 (acW (c.N (p + 1)) c.S (c.D (p + 1)) c.T (c.r (p + 1)) q g.M (3 + A)))).setCell ⟨b + 1, 1, none⟩ (.int .u64 (acW (c.N (p + 1)) c.S (c.D (p + 1)) c.T (c.r (p + 1)) q g.M (3 + (A + 1))))) := ((Only.refl _ wc).setCell (p := ⟨b + 1, 0, none⟩) (.inl (just_self _)) _).setCell (p := ⟨b + 1, 1, none⟩) (.inl (just_self _)) _
  have HS := Lib.hid ((hE.sto.far ho (fun i hi => by rw [show i = b + 1 from hi]; exact hE.l.2.1) (fun i hi => by rw [show i = b + 1 from hi]; exact Nat.le_succ_of_le hE.lt)).less (L' := L) (fun i hi => .inl hi))
  have HK := Lib.hid (HK.out.trans (ho.mono (fun i _ hi hl => by have h1 := HLb.out i hl; have h2 : i = b + 1 := hi; have h3 := HBb.out; omega)))
  refine hK.out _ _ ⟨cell_far (by omega) (cell_far (by omega) hHeld.1), cell_far (by omega) (cell_far (by omega) hHeld.2)⟩ (fun hHeld => ?_)
  clear hK K ho q0 q1 q2 q3 hHeld hE
  generalize World.setCell _ _ _ = wc at *
  try simp only [Act.put, sA0, sB0, sC0]
  refine wpAnyH_done (by kernel_rfl) ?_ _
  clear hHeld
  go_wp2_with fail
  refine bodyPost_ret (v := .agg #[.int .u64 (acW (c.N (p + 1)) c.S (c.D (p + 1)) c.T (c.r (p + 1)) q g.M (3 + A)), .int .u64 (acW (c.N (p + 1)) c.S (c.D (p + 1)) c.T (c.r (p + 1)) q g.M (3 + (A + 1)))]) (results_one Tryz.results116 rfl (load_box HV.out Tryz.underlying175 rfl (by kernel_rfl))) rfl ?_
  refine ⟨?_, o, HOr.out, HS.out, HK.out⟩
  rw [HQ.out]
  rfl
end Go.Proofs.YtknnebhjldfkhaaGreat


namespace Go.Proofs.YtknnebhjldfkhaaGreat
set_option maxRecDepth 100000
open Go.RowKit Go.ChangeShapes Go.WideShapes Go.ChangeAt

def SG.gon (g : SG) (e : Nt) : SG := { g with gone := g.gone ++ [e] }
theorem stA_put (c : SC) (a : SA) (ga : Option Addr) (gn gc : Nat) (A : Option Addr) (n cap : Nat) : (stA c a ga gn gc).setIfInBounds 8 (.slice A n cap) = stA c a A n cap := by simp [stA]
theorem StoA.gone {c : SC} {a : SA} {g : SG} {ga : Option Addr} {gc : Nat} {G : Nat → Prop} {k : Nat} {w w' w2 : World} (hS : StoA c a g ga gc G k w) {e : Nt} {A : Option Addr} {cap : Nat}
  (hown : w'.ownsRow 0 175 2 (.slice A (g.gone.length + 1) cap) (g.gone.length + 1) (ntL g.gone ++ [.int .u64 e.1, .int .u64 e.2])) (hgr : w.grownBy w' (Value.slice ga g.gone.length gc).ownBlock)
  (hwh : (Value.slice A (g.gone.length + 1) cap).ownBlock = (Value.slice ga g.gone.length gc).ownBlock ∨ (Value.slice A (g.gone.length + 1) cap).ownBlock = some w.heap.size)
  (hw2 : w2 = w'.setCell ⟨a.sp, 8, none⟩ (.slice A (g.gone.length + 1) cap)) :
  StoA c a (g.gon e) A cap (grG G w w2) (k + 1) w2 ∧ Only G w w2 := by
 have ho1 : Only (fun i => (Value.slice ga g.gone.length gc).ownBlock = some i) w w' := (Only.refl _ w).grown hgr (fun k e => .inl e)
 have ho : Only (fun i => i = a.sp ∨ (Value.slice ga g.gone.length gc).ownBlock = some i) w w2 := by
  rw [hw2]
  exact (ho1.mono (fun i _ hi => .inr hi)).setCell (p := ⟨a.sp, 8, none⟩) (.inl (.inl rfl)) _
 have hYX : ∀ i, (i = a.sp ∨ (Value.slice ga g.gone.length gc).ownBlock = some i) → InS c a ga i := fun i hi => by
  rcases hi with rfl | hi
  ·exact hS.sp
  ·exact .inr (.inr (.inr (.inr (.inl (own_blk hi)))))
 have hOG : Only G w w2 := ho.mono (fun i _ hi => hS.inG i (hYX i hi))
 have hsz := ho.size
 have hb : ∀ {p : Nat} {t : TypeId} {cs : Array Value}, Box w p t cs → t ≠ 170 → t ≠ 175 → ¬ (p = a.sp ∨ (Value.slice ga g.gone.length gc).ownBlock = some p) := fun h1 h2 h3 h4 => by
  rcases h4 with e | h4
  ·exact h1.ne hS.box h2 e
  ·obtain ⟨cur, h5⟩ := own_cells hS.gon h4
   exact h1.ne h5 h3 rfl
 have hspb : ¬ (Value.slice ga g.gone.length gc).ownBlock = some a.sp := fun h4 => by
  obtain ⟨cur, h5⟩ := own_cells hS.gon h4
  exact hS.box.ne h5 (by decide) rfl
 obtain ⟨gt, gs, gi⟩ := hS.tp.row
 have hgt : Box w a.tg 43 gt := gs
 have hsp2 : Box w' a.sp 170 (stA c a ga g.gone.length gc) := hS.box.only ho1 hspb
 have hAsp : ∀ b, (Value.slice A (g.gone.length + 1) cap).ownBlock = some b → b ≠ a.sp := fun b hb' e => by
  obtain ⟨cur, h5⟩ := own_cells hown hb'
  exact h5.ne hsp2 (by decide) e
 have hnew : ∀ i, InS c a A i → InS c a ga i ∨ (i = w.heap.size ∧ i < w2.heap.size) := fun i hi => by
  rcases hi with rfl | rfl | rfl | rfl | hi | hi
  ·exact .inl hS.sp
  ·exact .inl hS.tpIn
  ·exact .inl hS.tgIn
  ·exact .inl hS.lgIn
  ·have hi' : (Value.slice A (g.gone.length + 1) cap).ownBlock = some i := own_blk hi
   rcases hwh with h1 | h1
   ·exact .inl (.inr (.inr (.inr (.inr (.inl (own_blk (h1 ▸ hi')))))))
   ·rw [h1] at hi'
    injection hi' with hi'
    obtain ⟨cur, h5⟩ := own_cells hown (i := i) (by rw [h1, hi'])
    have h6 : i < w'.heap.size := h5.lt
    refine .inr ⟨hi'.symm, ?_⟩
    rw [hw2]
    simpa [World.setCell] using h6
  ·exact .inl (.inr (.inr (.inr (.inr (.inr hi)))))
 refine ⟨⟨?_, ?_, ?_, ?_, ?_, ?_, ?_, ?_, ?_, hS.lvm, hS.wk, hS.lpI, hS.bmI, by have := hS.es; show g.M.es.length ≤ _; omega, ?_, by have := hS.ul; show g.u ≤ _; omega, hS.top, hS.zw⟩, hOG⟩
 ·intro i hi
  rcases hi with hi | hi
  ·exact Nat.lt_of_lt_of_le (hS.lt i hi) hsz
  ·exact hi.2
 ·obtain ⟨F, hm, hF, hX⟩ := hS.own
  refine ⟨F, hm.only ho (fun i hi hy => hF i hi (.inr (hYX i hy))), fun i hi hx => ?_, fun i hi => ?_⟩
  ·have hil := hm.lt i hi
   rcases hx with ⟨h1, h2⟩ | hx
   ·exact hF i hi (.inl ⟨hil, fun h3 => h2 (.inl h3)⟩)
   ·rcases hnew i hx with h3 | ⟨h3, _⟩
    ·exact hF i hi (.inr h3)
    ·omega
  ·rcases hi with ⟨h1, _⟩ | hi
   ·exact h1
   ·rcases hnew i hi with h3 | ⟨_, h3⟩
    ·exact Nat.lt_of_lt_of_le (hS.lt i (hS.inG i h3)) hsz
    ·exact h3
 ·intro i hi
  rcases hnew i hi with h3 | ⟨h3, h4⟩
  ·exact .inl (hS.inG i h3)
  ·exact .inr ⟨by omega, h4⟩
 ·have := hsp2.put 8 (.slice A (g.gone.length + 1) cap)
  rw [stA_put, ← hw2] at this
  show Box w2 a.sp _ (stA c a A (g.gone ++ [e]).length cap)
  rw [List.length_append]
  exact this
 ·obtain ⟨cur, h1, h2⟩ := hS.lrow
  exact ⟨cur, h1.only ho (hb h1 (by decide) (by decide)), h2⟩
 ·show w2.ownsRow 0 _ 2 (.slice A (g.gone ++ [e]).length cap) (g.gone ++ [e]).length (ntL (g.gone ++ [e]))
  rw [ntL_append, List.length_append]
  refine own_block hown (fun b hb' => ?_)
  rw [hw2]
  exact Below.heap_setCell w' ⟨a.sp, 8, none⟩ _ b (hAsp b hb')
 ·exact hS.tp.only ho (hb hS.tp.box (by decide) (by decide)) (hb hgt (by decide) (by decide))
 ·exact fun j hj => (hS.lev j hj).only ho (hb (hS.lev j hj) (by decide) (by decide))
 ·intro j hj
  obtain ⟨nm, h1, h2⟩ := hS.map j hj
  refine ⟨nm, by omega, map_only h2 ho (fun h4 => ?_)⟩
  rcases h4 with e | h4
  ·exact map_ne h2 hS.box e.symm
  ·obtain ⟨cur, h5⟩ := own_cells hS.gon h4
   exact map_ne h2 h5 rfl
 ·show (g.gone ++ [e]).length ≤ _
  rw [List.length_append]
  have := hS.gl
  simp
  omega
def askL (D : Dw) (op : Int) (id : Nat) (d : Nat → Int) (fr : Nt) : Ask := ⟨op, (id : Int), 0, d, leafI fr.1, leafI (D 0).1.1⟩
theorem acW_wd {N S D T f : Nat} {q : Ask} {M : MS} (h : M.wd) : Wd (acW N S D T f q M) := by
 unfold acW
 split
 ·unfold wasA
  exact wasC_wd (fun j => h _ _) _ _
 ·exact wd_zero
theorem partN_wd {c : SC} {g : SG} {D : Dw} {p id : Nat} {fr : Nt} (h : g.M.wd) : WN (partN c g D p id fr) := ⟨acW_wd h _, acW_wd h _⟩
def Ord (c : SC) (g : SG) (h : Nat) (q : Ask) (o : List Nat) : Prop := q.ok (c.N h) = true → IsOrd (acT c.S (c.D h) c.T (c.r h) (c.m h) (c.P h) q g.M) (c.m h) o
inductive Rn (c : SC) (D : Dw) (op : Int) (id : Nat) (d : Nat → Int) (g0 : SG) (e0 : Nt) : List Nat → SG → Nt → (Nat → Int) → Bool → Prop
 | nil : Rn c D op id d g0 e0 [] g0 e0 (fun _ => 0) false
 | part {l : List Nat} {g : SG} {e : Nt} {r : Nat → Int} {t : Bool} (p : Nat) (o : List Nat) (h : Rn c D op id d g0 e0 l g e r t) (hp : p + 1 < c.n) (ho : Ord c (g.gon (orN e (D (p + 1)).2)) (p + 1) (askP D p id (orN e (D (p + 1)).2)) o) :
   Rn c D op id d g0 e0 (l ++ [p + 1]) ((g.gon (orN e (D (p + 1)).2)).lev c (p + 1) (askP D p id (orN e (D (p + 1)).2)) o) (partN c (g.gon (orN e (D (p + 1)).2)) D p id (orN e (D (p + 1)).2)) r t
 | last {l : List Nat} {g : SG} {e : Nt} {r : Nat → Int} {t : Bool} (o : List Nat) (h : Rn c D op id d g0 e0 l g e r t) (ho : Ord c (g.gon (orN e (D 0).2)) 0 (askL D op id d (orN e (D 0).2)) o) :
   Rn c D op id d g0 e0 (l ++ [0]) ((g.gon (orN e (D 0).2)).lev c 0 (askL D op id d (orN e (D 0).2)) o) e
    (fun i => acW (c.N 0) c.S (c.D 0) c.T (c.r 0) (askL D op id d (orN e (D 0).2)) (g.gon (orN e (D 0).2)).M (3 + i)) (acW (c.N 0) c.S (c.D 0) c.T (c.r 0) (askL D op id d (orN e (D 0).2)) (g.gon (orN e (D 0).2)).M 0 == 1)
section
variable {c : SC} {a : SA} {G0 : Nat → Prop} {w0 w w' w2 : World} {L : Nat → Prop} {g : SG} {k : Nat}
theorem Sto.gone (h : Sto c a G0 w0 L g k w) : ∃ ga gc, w.cell? ⟨a.sp, 8, none⟩ = some (.slice ga g.gone.length gc) ∧ w.frozen? ⟨a.sp, 8, none⟩ = false ∧ w.ownsRow 0 175 2 (.slice ga g.gone.length gc) g.gone.length (ntL g.gone) ∧ (∀ i, L i → (Value.slice ga g.gone.length gc).ownBlock ≠ some i) ∧ (Value.slice ga g.gone.length gc).ownBlock ≠ some a.sp ∧ g.gone.length ≤ k ∧
  ∀ (w1 w' w2 : World) (e : Nt) (A : Option Addr) (cap : Nat), Only nobody w w1 → w'.ownsRow 0 175 2 (.slice A (g.gone.length + 1) cap) (g.gone.length + 1) (ntL g.gone ++ [.int .u64 e.1, .int .u64 e.2]) → w1.grownBy w' (Value.slice ga g.gone.length gc).ownBlock →
   ((Value.slice A (g.gone.length + 1) cap).ownBlock = (Value.slice ga g.gone.length gc).ownBlock ∨ (Value.slice A (g.gone.length + 1) cap).ownBlock = some w1.heap.size) → w2 = w'.setCell ⟨a.sp, 8, none⟩ (.slice A (g.gone.length + 1) cap) →
   Sto c a G0 w0 L (g.gon e) (k + 1) w2 ∧ Kept L w w2 := by
 obtain ⟨ga, gc, G, h1, h2, h3, h4⟩ := h
 refine ⟨ga, gc, h1.box.cell 8, h1.box.frozen 8, h1.gon, fun i hi hb => (h3 i hi).2 (h1.inG i (.inr (.inr (.inr (.inr (.inl (own_blk hb))))))), fun hb => by obtain ⟨cur, h5⟩ := own_cells h1.gon hb; exact h1.box.ne h5 (by decide) rfl, h1.gl, fun w1 w' w2 e A cap ho hown hgr hwh hw2 => ?_⟩
 obtain ⟨r1, r2⟩ := (h1.nob ho).gone hown hgr hwh hw2
 have h3' : ∀ i, L i → i < w1.heap.size ∧ ¬ G i := fun i hi => ⟨Nat.lt_of_lt_of_le (h3 i hi).1 ho.size, (h3 i hi).2⟩
 have h4' : Only G0 w0 w1 := h4.then ho (fun i hi => absurd hi (not_nobody _))
 obtain ⟨r3, r4⟩ := Sto.opened h2 h3' h4' r1 r2
 exact ⟨r3, (Kept.of_none ho).trans r4⟩
theorem Sto.tape (h : Sto c a G0 w0 L g k w) (hu : g.u ≤ 1000000000) (hc : c.Ok) : Calls Tryz.prog 111 #[.pointer (some ⟨a.sp, 0, none⟩)] w fun r w' =>
  ∃ gd, r = .returned (.slice (some ⟨gd, 0, none⟩) c.n c.n) ∧ w.heap.size ≤ gd ∧ w'.rowIs gd 178 (c.n * 4) (dwV (drws g.nw g.z c.N g.u (downL c.n) noDw)) ∧ Sto c a G0 w0 (fun i => L i ∨ i = gd) { g with u := g.u + 2 * c.n } (k + 8) w' ∧ Kept L w w' := by
 obtain ⟨ga, gc, G, h1, h2, h3, h4⟩ := h
 have hn4 := hc.n4
 refine (draw_any a.sp a.tp a.tg g.nw g.u c.b c.n (c.S : Int) (c.T : Int) g.z _ w hc.b10 (by omega) hu h1.zw h1.box rfl (by rw [hc.bB]; rfl) rfl rfl rfl h1.tp).mono ?_
 rintro r w' ⟨gd, rfl, hgd, hrow, hT, hO⟩
 have htG : G a.tp := h1.inG _ h1.tpIn
 have hin : ∀ i, InS c a ga i → i ≠ a.tp → ¬ just a.tp i := fun i _ hne => hne
 have hbx : ∀ {p : Nat} {t : TypeId} {cs : Array Value}, Box w p t cs → t ≠ 192 → Box w' p t cs := fun hb ht => hb.only hO (just_ne (hb.ne h1.tp.box ht))
 refine ⟨gd, rfl, hgd, hrow, ⟨ga, gc, G, ⟨fun i hi => Nat.lt_of_lt_of_le (h1.lt i hi) hO.size, ?_, h1.inG, hbx h1.box (by decide), ?_, ?_, hT, fun j hj => hbx (h1.lev j hj) (by decide), ?_, h1.lvm, h1.wk, h1.lpI, h1.bmI, by have := h1.es; show g.M.es.length ≤ _; omega, by have := h1.gl; show g.gone.length ≤ _; omega, by have := h1.ul; show g.u + 2 * c.n ≤ _; omega, h1.top, h1.zw⟩, h2, ?_, h4.then hO (fun i hi => by rw [show i = a.tp from hi]; exact h2 _ htG)⟩, ?_⟩
 ·obtain ⟨F, hm, hF, hX⟩ := h1.own
  have hFG : ∀ i, F i → G i := fun i hi => by
   apply Classical.byContradiction
   intro hn
   exact hF i hi (.inl ⟨hm.lt i hi, hn⟩)
  refine ⟨F, hm.only hO (fun i hi hy => hF i hi (.inr (by rw [show i = a.tp from hy]; exact h1.tpIn))), fun i hi k => ?_, fun i hi => ?_⟩
  ·rcases k with k | k
   ·exact k.2 (hFG i hi)
   ·exact hF i hi (.inr k)
  ·rcases hi with hi | hi
   ·exact hi.1
   ·exact Nat.lt_of_lt_of_le (h1.lt i (h1.inG i hi)) hO.size
 ·obtain ⟨cur, q1, q2⟩ := h1.lrow
  exact ⟨cur, hbx q1 (by decide), q2⟩
 ·refine own_block h1.gon (fun b hb => ?_)
  obtain ⟨cur, hb2⟩ := own_cells h1.gon hb
  exact hO.block b hb2.lt (just_ne (hb2.ne h1.tp.box (by decide)))
 ·intro j hj
  obtain ⟨nm, q1, q2⟩ := h1.map j hj
  exact ⟨nm, by omega, map_only q2 hO (just_ne (map_ne q2 h1.tp.box).symm)⟩
 ·intro i hi
  rcases hi with hi | rfl
  ·exact ⟨Nat.lt_of_lt_of_le (h3 i hi).1 hO.size, (h3 i hi).2⟩
  ·exact ⟨hrow.lt, fun k => by have := h1.lt i k; omega⟩
 ·exact hO.mono (fun i _ hi hl => (h3 i hl).2 (by rw [show i = a.tp from hi]; exact htG))
end
end Go.Proofs.YtknnebhjldfkhaaGreat

