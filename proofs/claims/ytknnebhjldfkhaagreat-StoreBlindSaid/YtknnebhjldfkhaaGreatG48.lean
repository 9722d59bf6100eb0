import Derived.Test.YtknnebhjldfkhaaGreatG47
import Derived.Test.YtknnebhjldfkhaaGreatG23
import Derived.Test.YtknnebhjldfkhaaGreatG10
import Derived.Test.YtknnebhjldfkhaaGreatG35
import Derived.Test.YtknnebhjldfkhaaGreatG46
import Derived.Test.YtknnebhjldfkhaaGreatG40
import Derived.Test.YtknnebhjldfkhaaGreatG17
import Derived.Test.YtknnebhjldfkhaaGreatG16
namespace Go.Proofs.YtknnebhjldfkhaaGreat
set_option maxRecDepth 100000
open Go.RowKit Go.ChangeShapes Go.WideShapes Go.ChangeAt Go.Maps

def shZ (j : Nat) : Int := [3, 1, 4, 1, 5, 9].getD j 0
theorem shZ_rng (j : Nat) (h : j < 6) : 0 ≤ shZ j ∧ shZ j ≤ 18446744073709551615 := by
 have : j = 0 ∨ j = 1 ∨ j = 2 ∨ j = 3 ∨ j = 4 ∨ j = 5 := by omega
 rcases this with rfl | rfl | rfl | rfl | rfl | rfl <;> decide
theorem shZ_nums (w : World) : Nums .u64 (w.alloc (.cells #[.int .u64 3, .int .u64 1, .int .u64 4, .int .u64 1, .int .u64 5, .int .u64 9] 43)) (w.alloc (.cells #[.int .u64 3, .int .u64 1, .int .u64 4, .int .u64 1, .int .u64 5, .int .u64 9] 43)).heap.size (some ⟨w.heap.size, 0, none⟩) 6 shZ := fun _ => by
 have hb := Box.new w 43 #[.int .u64 3, .int .u64 1, .int .u64 4, .int .u64 1, .int .u64 5, .int .u64 9]
 refine ⟨w.heap.size, 0, rfl, hb.lt, fun j hj => ?_⟩
 rw [Nat.zero_add]
 have : j = 0 ∨ j = 1 ∨ j = 2 ∨ j = 3 ∨ j = 4 ∨ j = 5 := by omega
 rcases this with rfl | rfl | rfl | rfl | rfl | rfl
 ·exact hb.cell 0
 ·exact hb.cell 1
 ·exact hb.cell 2
 ·exact hb.cell 3
 ·exact hb.cell 4
 ·exact hb.cell 5
set_option linter.unusedSimpArgs false in
set_option maxRecDepth 100000 in
set_option linter.unusedSimpArgs false in
set_option maxHeartbeats 4000000 in
theorem sshown_of (w : World) : Calls Tryz.prog 35 #[] w fun e w' => e = .returned (.bool true) ∧ Below w.heap.size w w' := by
 obtain ⟨c, hc, hb, hS, hT, hn, hf, hQ⟩ := sc_mk 2 2 4 1 1 (by omega) (by omega) (by omega) (by omega) (by omega) (by omega) (by omega) (by omega)
 have eB : c.B = 4 := by rw [← hc.bB, hb]; rfl
 have eS : (c.S : Int) = 2 := by rw [hS]; rfl
 have eT : (c.T : Int) = 4 := by rw [hT]; rfl
 have en : (c.n : Int) = 1 := by rw [hn]; rfl
 have q1 : c.b ≤ 5 := by rw [hb]; decide
 have q2 : c.S ≤ 3 := by rw [hS]; decide
 have q3 : c.T ≤ 8 := by rw [hT]; decide
 have q4 : c.n ≤ 3 := by rw [hn]; decide
 have HMd := Lib.hid (fun (W : World) (A : Option Addr) (nz cz : Nat) (z : Nat → Int) (hz : Nums .u64 W W.heap.size A nz z) (hnz : nz ≤ 1000) (hzr : ∀ j, j < nz → 0 ≤ z j ∧ z j ≤ 18446744073709551615) => smade_of hc hf q1 q2 q3 q4 hQ A nz cz z W hz hnz hzr)
 rw [eB, eS, eT, en] at HMd
 have HOp : Hid (∀ op : Int, (op = 0 ∨ op = 1) → ∀ id, id < 4 → isOp op id (2 ^ c.b) = true) := Lib.hid (by
  intro op hop id hid
  rw [hb]
  unfold isOp
  rcases hop with rfl | rfl <;> simp [hid])
 have HNo : Hid (∀ g, IdOk c g → NoO c g) := Lib.hid (by
  intro g hg
  refine .inr fun h hh => ?_
  have h0 : h = 0 := by omega
  subst h0
  refine Nat.le_trans (hg.len 0) ?_
  unfold SC.N
  rw [hb, hT]
  decide)
 have HB0 := Lib.hid (stB_new c 6 shZ)
 have HI0 := Lib.hid (idOk_new c 6 shZ)
 have HC := Lib.hid hc
 clear hc hb hS hT hn hf hQ eB eS eT en q1 q2 q3 q4
 obtain ⟨w1, hw1⟩ : ∃ w1, w.alloc (.cells #[.int .u64 3, .int .u64 1, .int .u64 4, .int .u64 1, .int .u64 5, .int .u64 9] 43) = w1 := ⟨_, rfl⟩
 have HZ1 : Hid (Nums .u64 w1 w1.heap.size (some ⟨w.heap.size, 0, none⟩) 6 shZ) := Lib.hid (by rw [← hw1]; exact shZ_nums w)
 have HB1 : Hid (Below w.heap.size w w1) := Lib.hid (by rw [← hw1]; exact (Below.refl _ w).alloc (Nat.le_refl _) _)
 go_enter Tryz.func35, Tryz.ntmps35
 go_wp2_with fail
 try rw [hw1]
 refine (HMd.out _ _ 6 6 shZ HZ1.out (by decide) shZ_rng).mono ?_
 rintro e w2 ⟨a, rfl, hSt, ho2⟩
 have hE : StS c a w (fun i => i < w1.heap.size) (fun _ => True) (sg0 c 6 shZ) 0 w2 := StS.made hSt ho2 HB1.out trivial (fun _ _ _ _ _ => trivial)
 have HE2 := Lib.hid hE
 clear hE hSt ho2 hw1 HMd HZ1 HB1
 generalize (fun i => i < w1.heap.size) = Z at *
 generalize sg0 c 6 shZ = g0 at *
 clear w1
 go_wp2_with fail
 refine (sdata_of 5 _).mono ?_
 rintro e w3 ⟨rfl, hb3⟩
 have HE3 := Lib.hid (HE2.out.nob (Only.of_below hb3))
 clear hb3 HE2
 go_wp2_with fail
 refine (HE3.out.step HC.out 1 3 (dw 5) (HOp.out 1 (.inr rfl) 3 (by decide)) (fun j => dw_rng 5 j) (by decide)).mono ?_
 rintro e w4 ⟨g1, rr, t, rfl, hG1, hI1, hN1, hE4⟩
 clear hG1
 have HI1 := Lib.hid (hI1 HI0.out)
 obtain ⟨e1, f2, e3⟩ := hN1 (HNo.out _ HI1.out) _ HB0.out
 clear e1
 have e2 : t = false := f2
 clear f2
 subst e2
 have HB1 : Hid (StB c g1 (setD (fun _ => none) 3 (some (dw 5)))) := Lib.hid e3
 have HE4 := Lib.hid hE4
 clear hE4 hI1 hN1 e3 HE3 HB0 HI0
 go_upto_region 5 with (refine wpList_store_newD rfl (.tmp 4) (.tmp 23) rfl rfl _ rfl rfl ?_)
 have HE5 := Lib.hid (HE4.out.nob ((Only.refl nobody w4).alloc (.cells (DA rr) 48)))
 generalize w4.heap.size = nb at *
 clear HE4
 generalize w4.alloc (.cells (DA rr) 48) = w5 at *
 go_wp2_with fail
 refine (HE5.out.step HC.out 0 3 (fun _ => 0) (HOp.out 0 (.inl rfl) 3 (by decide)) (fun _ => ⟨Int.le_refl 0, by show (0 : Int) ≤ 18446744073709551615; decide⟩) (by decide)).mono ?_
 rintro e w6 ⟨g2, rr2, t, rfl, hG2, hI2, hN2, hE6⟩
 clear hG2
 have HI2 := Lib.hid (hI2 HI1.out)
 obtain ⟨e1, f2, e3⟩ := hN2 (HNo.out _ HI2.out) _ HB1.out
 have e2 : t = true := f2
 clear f2
 subst e2
 have g1' : DA rr2 = DA (dw 5) := e1
 rw [g1']
 clear g1'
 have HB2 := Lib.hid e3
 have HE6 := Lib.hid hE6
 clear hE6 hI2 hN2 e3 e1 HE5 HB1 HI1
 have HBZ0 : (setD (setD (fun _ => none) 3 (some (dw 5))) 3 (nxD 0 (fun _ => 0) (setD (fun _ => none) 3 (some (dw 5)) 3)) ((2 : Nat) : Int)).isSome = false := by simp [setD]
 have HBZ1 := Lib.hid HBZ0
 clear HBZ0
 go_upto_region 6 with (refine wpList_store_newD rfl (.tmp 6) (.tmp 29) rfl rfl _ rfl rfl ?_)
 obtain ⟨nx, hnx⟩ : ∃ b, w6.heap.size = b := ⟨_, rfl⟩
 have HE7 := Lib.hid (HE6.out.box 48 (DA (dw 5)) hnx)
 rw [hnx]
 clear HE6 hnx
 generalize w6.alloc (.cells (DA (dw 5)) 48) = w7 at *
 go_wp2_with fail
 refine (HE7.out.step HC.out 0 2 (fun _ => 0) (HOp.out 0 (.inl rfl) 2 (by decide)) (fun _ => ⟨Int.le_refl 0, by show (0 : Int) ≤ 18446744073709551615; decide⟩) (by decide)).mono ?_
 rintro e w8 ⟨g3, rr3, t, rfl, hG3, hI3, hN3, hE8⟩
 clear hG3
 obtain ⟨e1, f2, e3⟩ := hN3 (HNo.out _ (hI3 HI2.out)) _ HB2.out
 clear e1
 have e2 : t = false := f2.trans HBZ1.out
 clear f2
 subst e2
 have HOv := Lib.hid e3.ovn
 have HE8 := Lib.hid hE8
 clear hE8 hI3 hN3 e3 HE7 HB2 HI2
 go_upto_region 7 with (refine wpList_store_newD rfl (.tmp 8) (.tmp 35) rfl rfl _ rfl rfl ?_)
 have hE := (HE8.out.nob ((Only.refl nobody w8).alloc (.cells (DA rr3) 48))).drew
 generalize w8.heap.size = nz at *
 clear HE8
 generalize w8.alloc (.cells (DA rr3) 48) = w9 at *
 refine held_s (S := fun u => Box u nx 48 (DA (dw 5))) 20 rfl (by kernel_rfl) hE.hF.2 (fun hHeld => ?_)
 simp only [qA0, qB0, qC0, List.nil_append, List.cons_append]
 generalize w9.drew = wd at *
 refine tk1 0 37 (.bool false) rfl (Or.inl ⟨by rfl, fun w' hw => by go_simp⟩) hHeld ?_
 try simp only [Act.put, sA0, sB0, sC0]
 refine tk1 1 38 (.bool true) rfl (Or.inl ⟨by rfl, fun w' hw => by go_simp⟩) hHeld ?_
 try simp only [Act.put, sA0, sB0, sC0]
 refine tk1 2 39 (.bool true) rfl (Or.inl ⟨by rfl, fun w' hw => by go_simp⟩) hHeld ?_
 try simp only [Act.put, sA0, sB0, sC0]
 refine tk1 3 40 (.bool true) rfl (Or.inl ⟨by rfl, fun w' hw => by go_simp⟩) hHeld ?_
 try simp only [Act.put, sA0, sB0, sC0]
 refine tk1 4 41 (.bool true) rfl (Or.inl ⟨by rfl, fun w' hw => by go_simp⟩) hHeld ?_
 try simp only [Act.put, sA0, sB0, sC0]
 refine tk1 5 42 (.bool true) rfl (Or.inl ⟨by rfl, fun w' hw => by go_simp⟩) hHeld ?_
 try simp only [Act.put, sA0, sB0, sC0]
 refine take_row 6 (oi := ⟨some 43, _, _, _, _, _⟩) (DA (dw 5)).toList rfl (by kernel_rfl) (by kernel_rfl) (by kernel_rfl) (fun _ _ _ h => h) (by rfl) _ _ rfl _ _ rfl _ (fun w' hw => hw.range) Tryz.underlying48 rfl (infoData (dw 5)) hHeld ?_
 try simp only [Act.put, sA0, sB0, sC0]
 refine one_ready 7 rfl (by kernel_rfl) (fun K hK => ?_)
 go_simp
 refine (sdata_of 5 _).mono ?_
 rintro e w13 ⟨rfl, hb⟩
 have ho : Only nobody _ w13 := Only.of_below hb
 have hE := hE.nob ho
 refine hK.out _ _ hE.hF.2 (fun hHeld => ?_)
 clear hK K ho hb
 try simp only [Act.put, sA0, sB0, sC0]
 refine tk1 8 45 (.bool true) rfl (Or.inl ⟨by rfl, fun w' hw => by (have q1 := eql_data (dw 5) (dw 5); rw [deq_self] at q1; go_simp)⟩) hHeld ?_
 try simp only [Act.put, sA0, sB0, sC0]
 refine tk1 9 46 (.bool true) rfl (Or.inl ⟨by rfl, fun w' hw => by go_simp⟩) hHeld ?_
 try simp only [Act.put, sA0, sB0, sC0]
 refine tk1 10 47 (.bool true) rfl (Or.inl ⟨by rfl, fun w' hw => by go_simp⟩) hHeld ?_
 try simp only [Act.put, sA0, sB0, sC0]
 refine tk1 11 48 (.bool false) rfl (Or.inl ⟨by rfl, fun w' hw => by go_simp⟩) hHeld ?_
 try simp only [Act.put, sA0, sB0, sC0]
 refine tk1 12 49 (.bool true) rfl (Or.inl ⟨by rfl, fun w' hw => by go_simp⟩) hHeld ?_
 try simp only [Act.put, sA0, sB0, sC0]
 refine tk1 13 50 (.bool true) rfl (Or.inl ⟨by rfl, fun w' hw => by go_simp⟩) hHeld ?_
 try simp only [Act.put, sA0, sB0, sC0]
 refine tk1 14 51 (.bool true) rfl (Or.inl ⟨by rfl, fun w' hw => by go_simp⟩) hHeld ?_
 try simp only [Act.put, sA0, sB0, sC0]
 refine tk1 15 52 (.pointer (some ⟨a.sp, 0, none⟩)) rfl (Or.inl ⟨by rfl, fun w' hw => by go_simp⟩) hHeld ?_
 try simp only [Act.put, sA0, sB0, sC0]
 refine one_ready 16 rfl (by kernel_rfl) (fun K hK => ?_)
 go_simp
 refine (hE.over HC.out).mono ?_
 rintro e w13 ⟨rfl, he⟩
 rw [he, HOv.out]
 refine hK.out _ _ hHeld (fun hHeld => ?_)
 clear hK K he w13
 try simp only [Act.put, sA0, sB0, sC0]
 refine tk1 17 54 (.bool true) rfl (Or.inl ⟨by rfl, fun w' hw => by go_simp⟩) hHeld ?_
 try simp only [Act.put, sA0, sB0, sC0]
 refine tk1 18 55 (.bool true) rfl (Or.inl ⟨by rfl, fun w' hw => by go_simp⟩) hHeld ?_
 try simp only [Act.put, sA0, sB0, sC0]
 refine tk1 19 0 (.bool true) rfl (Or.inl ⟨by rfl, fun w' hw => by go_simp⟩) hHeld ?_
 try simp only [Act.put, sA0, sB0, sC0]
 refine wpAnyH_done (by kernel_rfl) ?_ _
 go_wp2_with fail
 go_ret
 exact ⟨rfl, hE.kp⟩
end Go.Proofs.YtknnebhjldfkhaaGreat


namespace Go.Proofs.YtknnebhjldfkhaaGreat
set_option maxRecDepth 100000
open Go.RowKit Go.ChangeShapes Go.WideShapes Go.ChangeAt Go.Maps Go.Deep

def sfA (c : SC) : Array Value := #[.int .i64 c.B, .int .i64 (c.S : Int), .int .i64 (c.T : Int), .int .i64 (c.n : Int)]
theorem infoCfgS (c : SC) : (Tryz.prog.info? 79).map (·.size) = some (sfA c).size := by kernel_rfl
theorem wpList_store_newS {ops : Array Oper} {rest : List Oper} {op : Oper} {a : Act} {w : World} {Q : Exit → Act → World → Prop} (hgd : op.guard = none) (x y : Operand) (ho : op.op = .store 79 x y)
  (hx : a.eval x = .pointer (some ⟨w.heap.size, 0, none⟩)) (c : SC) (hy : a.eval y = .agg (sfA c)) {cs : Array Value} (hc : cs.size = 4)
  (h : wpList Tryz.prog ops Q rest (a.put op.dst undef) (w.alloc (.cells (sfA c) 79))) : wpList Tryz.prog ops Q (op :: rest) a (w.alloc (.cells cs 79)) := by
 refine wpList_plain hgd fun K hK => ?_
 have hr := run_storeAt_new (P := Tryz.prog) w 79 cs (sfA c) (infoCfgS c) (by rw [hc]; rfl) (by simp [sfA, Value.oneCell'])
 unfold Oper.wp execOp
 simp only [ho, hx, hy, Sem.run_bind, Result.andThen_ok, hr, Sem.run_pure]
 exact hK _ _ h
section
variable {w : World} {cb : Nat} {c : SC}
theorem sc_0 (h : Box w cb 79 (sfA c)) : w.cell? ⟨cb, 0, none⟩ = some (.int .i64 c.B) := h.cell 0
theorem sc_1 (h : Box w cb 79 (sfA c)) : w.cell? ⟨cb, 1, none⟩ = some (.int .i64 (c.S : Int)) := h.cell 1
theorem sc_2 (h : Box w cb 79 (sfA c)) : w.cell? ⟨cb, 2, none⟩ = some (.int .i64 (c.T : Int)) := h.cell 2
theorem sc_3 (h : Box w cb 79 (sfA c)) : w.cell? ⟨cb, 3, none⟩ = some (.int .i64 (c.n : Int)) := h.cell 3
end
theorem sp_cells {w : World} {b o : Nat} {y : Sp3} (h : w.rangeAt b o (s3c y).toList) : w.cell? ⟨b, o, none⟩ = some (.int .i64 y.1) ∧ w.cell? ⟨b, o + 1, none⟩ = some (.int .u64 y.2.1) ∧ w.cell? ⟨b, o + 2, none⟩ = some (.int .u64 y.2.2) := ⟨h 0 _ rfl, h 1 _ rfl, h 2 _ rfl⟩
theorem Sp3Ok.rng {y : Sp3} (h : Sp3Ok y) : (-9223372036854775808 ≤ y.1 ∧ y.1 ≤ 9223372036854775807) ∧ (0 ≤ y.2.1 ∧ y.2.1 ≤ 18446744073709551615) ∧ (0 ≤ y.2.2 ∧ y.2.2 ≤ 18446744073709551615) := ⟨i64_rng h.1, u64_rng h.2.1, u64_rng h.2.2⟩
def idM (c : SC) (x : Int) : Nat := x.toNat % 2 ^ c.b
theorem idM_lt (c : SC) (x : Int) : idM c x < 2 ^ c.b := Nat.mod_lt _ (Nat.two_pow_pos _)
theorem idM_op (c : SC) (n x : Int) : isOp (opI n) (idM c x) (2 ^ c.b) = true := by
 have h1 := idM_lt c x
 unfold isOp
 rcases opI_ok n with e | e | e <;> rw [e] <;> simp [h1]
end Go.Proofs.YtknnebhjldfkhaaGreat


namespace Go.Proofs.YtknnebhjldfkhaaGreat
set_option maxRecDepth 100000
open Go.RowKit Go.ChangeShapes Go.WideShapes Go.ChangeAt

section
variable {c : SC} {g : SG} {m : Nat → Bm}
structure Wy (c : SC) (D : Dw) (id : Nat) (W : Nat → Nt) (G0 : List Nt) (l : List Nat) (q : Nat) (g : SG) (e : Nt) (m : Nat → Bm) : Prop where
 inv : SIe c g m (fun h i => h = q ∧ i = id / 4 ^ q)
 eok : okN (c.N q) e
 efm : ∀ lf d, m q ((id / 4 ^ q : Nat) : Int) = some (lf, d) → e.1 = (lf : Int) + 1
 eW : e = W q
 past : ∀ h, q ≤ h → h < c.n → whN c g m h (id / 4 ^ h) = (D h).1
 todo : ∀ h, h < q → whN c g m h (id / 4 ^ h) = W h
 gone : g.gone = G0 ++ l.map fun h => orN (W h) (D h).2
theorem Rn.used {D : Dw} {op : Int} {id : Nat} {d : Nat → Int} {g0 : SG} {e0 : Nt} {l : List Nat} {g : SG} {e : Nt} {r : Nat → Int} {t : Bool} (h : Rn c D op id d g0 e0 l g e r t) : g.u = g0.u ∧ g.nw = g0.nw ∧ g.z = g0.z := by
 induction h with
 | nil => exact ⟨rfl, rfl, rfl⟩
 | part p o h hp ho ih => exact ih
 | last o h ho ih => exact ih
end
end Go.Proofs.YtknnebhjldfkhaaGreat


namespace Go.Proofs.YtknnebhjldfkhaaGreat
set_option maxRecDepth 100000
open Go.RowKit Go.ChangeShapes Go.WideShapes Go.ChangeAt Go.Maps

theorem ntL_at : ∀ (l : List Nt) (i : Nat) (hi : i < l.length), (ntL l)[i * 2]? = some (.int .u64 (l[i]).1) ∧ (ntL l)[i * 2 + 1]? = some (.int .u64 (l[i]).2)
 | e :: l, 0, _ => ⟨rfl, rfl⟩
 | e :: l, i + 1, hi => by
  have h := ntL_at l i (by simpa using hi)
  rw [show (i + 1) * 2 = i * 2 + 1 + 1 by omega]
  exact h
def toldL (f : Nt → Int) (l : List Nt) (k : Nat) : List Int := (l.take k).map f
theorem toldL_len {f : Nt → Int} {l : List Nt} {k : Nat} (h : k ≤ l.length) : (toldL f l k).length = k := by unfold toldL; rw [List.length_map, List.length_take]; omega
theorem toldL_next {f : Nt → Int} {l : List Nt} {k : Nat} (h : k < l.length) : toldL f l (k + 1) = toldL f l k ++ [f (l.getD k (0, 0))] := by
 rw [List.getD_eq_getElem?_getD, List.getElem?_eq_getElem h]
 unfold toldL
 rw [List.take_add_one, List.getElem?_eq_getElem h, List.map_append]
 rfl
theorem toldL_all {f : Nt → Int} {l : List Nt} : toldL f l l.length = l.map f := by unfold toldL; rw [List.take_length]
section
variable {c : SC} {a : SA} {g : SG} {ga : Option Addr} {gc : Nat} {G : Nat → Prop} {k : Nat} {w : World}
theorem StoA.gonAt (hS : StoA c a g ga gc G k w) {i : Nat} (hi : i < g.gone.length) : ∃ gb, ga = some ⟨gb, 0, none⟩ ∧ w.cell? ⟨gb, i * 2, none⟩ = some (.int .u64 (g.gone.getD i (0, 0)).1) ∧ w.cell? ⟨gb, i * 2 + 1, none⟩ = some (.int .u64 (g.gone.getD i (0, 0)).2) := by
 rw [List.getD_eq_getElem?_getD, List.getElem?_eq_getElem hi]
 rcases hS.gon.2 with ⟨_, e0⟩ | ⟨gb, cap, cur, e0, _⟩
 ·omega
 ·injection e0 with e1 e2 e3
  subst e1
  obtain ⟨h1, h2⟩ := ntL_at g.gone i hi
  have q1 := hS.gon.cells (g := gb) rfl _ _ h1
  have q2 := hS.gon.cells (g := gb) rfl _ _ h2
  rw [add_plain, Nat.zero_add] at q1 q2
  exact ⟨gb, rfl, q1, q2⟩
set_option linter.unusedSimpArgs false in
set_option maxHeartbeats 2000000 in
theorem StoA.sources (hS : StoA c a g ga gc G k w) (hk : k < 20000) : Calls Tryz.prog 54 #[.pointer (some ⟨a.sp, 0, none⟩)] w (SzPost w (g.gone.map (fun e : Nt => placeI e.2))) := by
 have k8 : w.cell? ⟨a.sp, 8, none⟩ = some (.slice ga g.gone.length gc) := hS.box.cell 8
 have hgl := hS.gl
 have HG := Lib.hid (fun W (hW : Only nobody w W) i (hi : i < g.gone.length) => (hS.nob hW).gonAt hi)
 obtain ⟨n, hn⟩ : ∃ n, g.gone.length = n := ⟨_, rfl⟩
 have HV : Hid (∀ j, (hj : j < n) → toldL (fun e : Nt => placeI e.2) g.gone (j + 1) = toldL (fun e : Nt => placeI e.2) g.gone j ++ [(fun e : Nt => placeI e.2) (g.gone.getD j (0, 0))]) := Lib.hid fun j hj => toldL_next (by omega)
 have HLn : Hid (∀ j, j ≤ n → (toldL (fun e : Nt => placeI e.2) g.gone j).length = j) := Lib.hid fun j hj => toldL_len (by omega)
 have HAll : Hid (toldL (fun e : Nt => placeI e.2) g.gone n = g.gone.map (fun e : Nt => placeI e.2)) := Lib.hid (by rw [← hn]; exact toldL_all)
 have HV0 : Hid (toldL (fun e : Nt => placeI e.2) g.gone 0 = []) := Lib.hid rfl
 have HNn := Lib.hid hn
 rw [hn] at k8 hgl
 clear hn
 generalize a.sp = sp at *
 go_enter Tryz.func54, Tryz.ntmps54
 go_wp2_with fail
 go_loopw [3, 11] (fun v i wr => ∃ k : Nat, i = .int .i64 k ∧ k ≤ n ∧ IrAt w v (toldL (fun e : Nt => placeI e.2) g.gone k) wr) (fun _ i _ => n - (intOf i).toNat)
 case atStart => exact ⟨0, rfl, by omega, by rw [HV0.out]; exact IrAt.nil w⟩
 case round =>
  obtain ⟨j, rfl, hj, hI⟩ := hrel
  have HI := Lib.hid hI
  clear hI k8
  by_cases hlt : j < n
  ·have hv := HV.out j hlt
   have hw := HG.out wr (Only.of_below HI.out.below) j (by rw [HNn.out]; exact hlt)
   obtain ⟨⟨x, y⟩, he⟩ : ∃ e, g.gone.getD j (0, 0) = e := ⟨_, rfl⟩
   rw [he] at hv hw
   obtain ⟨gb, hga, q1, q2⟩ := hw
   subst hga
   have HVx := Lib.hid hv
   have HOW : Hid (wr.ownsRow w.heap.size 3 1 u3 j (irow (toldL (fun e : Nt => placeI e.2) g.gone j))) := Lib.hid (by have := HI.out.own; rwa [HLn.out j hj] at this)
   have hsz := HI.out.below.size
   have hnn : (j : Int) < (n : Int) := by omega
   clear hv he
   go_wp2_with fail
   refine (note_place (x, y) _).mono ?_
   rintro e w1 ⟨rfl, hw1⟩
   have hb1 : Below wr.heap.size wr w1 := by rw [hw1]; exact ((Below.refl _ wr).alloc (Nat.le_refl _) _).alloc (by simp) _
   have HI1 := Lib.hid (HI.out.more hb1)
   have HOW1 : Hid (w1.ownsRow w.heap.size 3 1 u3 j (irow (toldL (fun e : Nt => placeI e.2) g.gone j))) := Lib.hid (by have := HI1.out.own; rwa [HLn.out j hj] at this)
   have hsz1 := HI1.out.below.size
   clear hw1 hb1 q1 q2 HOW hsz
   go_wp2_with (with_reducible refine wpList_append_where _ rfl (.tmp 15) (.tmp 18) 39 rfl w.heap.size 3 (.int .i64 0) 1 8 Tryz.underlying39 infoI64 rfl (by decide) u3 j (irow (toldL (fun e : Nt => placeI e.2) g.gone j)) rfl (HOW1.out.alloc _) ⟨w1.heap.size, 0, none⟩ 1 1 (irow [(fun e : Nt => placeI e.2) (x, y)]) rfl rfl ?c0 (irow_one _) ?c2 ?c3 ?c4 ?_)
   case c0 => first | exact irow_new w1 _ [(fun e : Nt => placeI e.2) (x, y)] rfl | exact fun j u h => h
   case c2 => simp only [maxLen]; omega
   case c3 => omega
   case c4 => simp; omega
   intro A2 cap2 w8 hown hgr _
   have HN2 : Hid (IrAt w (.slice A2 (j + 1) cap2) (toldL (fun e : Nt => placeI e.2) g.gone (j + 1)) w8) := by
    have h := HI1.out.next (m := [(fun e : Nt => placeI e.2) (x, y)]) (Below.refl _ w1) (by rw [HLn.out j hj]; exact hown) hgr
    rw [HLn.out j hj] at h
    rw [HVx.out]
    exact Lib.hid h
   clear hown hgr
   go_wp2_with fail
   go_roundw
   case rel => exact ⟨j + 1, by go_num, by omega, HN2.out⟩
   case measure => simp [intOf]; omega
  ·have ej : j = n := by omega
   have hnn : ¬ (j : Int) < (n : Int) := by omega
   have HD : Hid (SzPost w (g.gone.map (fun e : Nt => placeI e.2)) (.returned u3) wr) := Lib.hid ⟨_, rfl, by rw [← HAll.out, ← ej]; exact HI.out⟩
   go_wp2_with fail
   go_ret
   exact HD.out
set_option linter.unusedSimpArgs false in
set_option maxHeartbeats 2000000 in
theorem StoA.leaves (hS : StoA c a g ga gc G k w) (hk : k < 20000) : Calls Tryz.prog 55 #[.pointer (some ⟨a.sp, 0, none⟩)] w (SzPost w (g.gone.map (fun e : Nt => leafI e.1))) := by
 have k8 : w.cell? ⟨a.sp, 8, none⟩ = some (.slice ga g.gone.length gc) := hS.box.cell 8
 have hgl := hS.gl
 have HG := Lib.hid (fun W (hW : Only nobody w W) i (hi : i < g.gone.length) => (hS.nob hW).gonAt hi)
 obtain ⟨n, hn⟩ : ∃ n, g.gone.length = n := ⟨_, rfl⟩
 have HV : Hid (∀ j, (hj : j < n) → toldL (fun e : Nt => leafI e.1) g.gone (j + 1) = toldL (fun e : Nt => leafI e.1) g.gone j ++ [(fun e : Nt => leafI e.1) (g.gone.getD j (0, 0))]) := Lib.hid fun j hj => toldL_next (by omega)
 have HLn : Hid (∀ j, j ≤ n → (toldL (fun e : Nt => leafI e.1) g.gone j).length = j) := Lib.hid fun j hj => toldL_len (by omega)
 have HAll : Hid (toldL (fun e : Nt => leafI e.1) g.gone n = g.gone.map (fun e : Nt => leafI e.1)) := Lib.hid (by rw [← hn]; exact toldL_all)
 have HV0 : Hid (toldL (fun e : Nt => leafI e.1) g.gone 0 = []) := Lib.hid rfl
 have HNn := Lib.hid hn
 rw [hn] at k8 hgl
 clear hn
 generalize a.sp = sp at *
 go_enter Tryz.func55, Tryz.ntmps55
 go_wp2_with fail
 go_loopw [3, 11] (fun v i wr => ∃ k : Nat, i = .int .i64 k ∧ k ≤ n ∧ IrAt w v (toldL (fun e : Nt => leafI e.1) g.gone k) wr) (fun _ i _ => n - (intOf i).toNat)
 case atStart => exact ⟨0, rfl, by omega, by rw [HV0.out]; exact IrAt.nil w⟩
 case round =>
  obtain ⟨j, rfl, hj, hI⟩ := hrel
  have HI := Lib.hid hI
  clear hI k8
  by_cases hlt : j < n
  ·have hv := HV.out j hlt
   have hw := HG.out wr (Only.of_below HI.out.below) j (by rw [HNn.out]; exact hlt)
   obtain ⟨⟨x, y⟩, he⟩ : ∃ e, g.gone.getD j (0, 0) = e := ⟨_, rfl⟩
   rw [he] at hv hw
   obtain ⟨gb, hga, q1, q2⟩ := hw
   subst hga
   have HVx := Lib.hid hv
   have HOW : Hid (wr.ownsRow w.heap.size 3 1 u3 j (irow (toldL (fun e : Nt => leafI e.1) g.gone j))) := Lib.hid (by have := HI.out.own; rwa [HLn.out j hj] at this)
   have hsz := HI.out.below.size
   have hnn : (j : Int) < (n : Int) := by omega
   clear hv he
   go_wp2_with fail
   refine (note_leaf (x, y) _).mono ?_
   rintro e w1 ⟨rfl, hw1⟩
   have hb1 : Below wr.heap.size wr w1 := by rw [hw1]; exact ((Below.refl _ wr).alloc (Nat.le_refl _) _).alloc (by simp) _
   have HI1 := Lib.hid (HI.out.more hb1)
   have HOW1 : Hid (w1.ownsRow w.heap.size 3 1 u3 j (irow (toldL (fun e : Nt => leafI e.1) g.gone j))) := Lib.hid (by have := HI1.out.own; rwa [HLn.out j hj] at this)
   have hsz1 := HI1.out.below.size
   clear hw1 hb1 q1 q2 HOW hsz
   go_wp2_with (with_reducible refine wpList_append_where _ rfl (.tmp 15) (.tmp 18) 39 rfl w.heap.size 3 (.int .i64 0) 1 8 Tryz.underlying39 infoI64 rfl (by decide) u3 j (irow (toldL (fun e : Nt => leafI e.1) g.gone j)) rfl (HOW1.out.alloc _) ⟨w1.heap.size, 0, none⟩ 1 1 (irow [(fun e : Nt => leafI e.1) (x, y)]) rfl rfl ?c0 (irow_one _) ?c2 ?c3 ?c4 ?_)
   case c0 => first | exact irow_new w1 _ [(fun e : Nt => leafI e.1) (x, y)] rfl | exact fun j u h => h
   case c2 => simp only [maxLen]; omega
   case c3 => omega
   case c4 => simp; omega
   intro A2 cap2 w8 hown hgr _
   have HN2 : Hid (IrAt w (.slice A2 (j + 1) cap2) (toldL (fun e : Nt => leafI e.1) g.gone (j + 1)) w8) := by
    have h := HI1.out.next (m := [(fun e : Nt => leafI e.1) (x, y)]) (Below.refl _ w1) (by rw [HLn.out j hj]; exact hown) hgr
    rw [HLn.out j hj] at h
    rw [HVx.out]
    exact Lib.hid h
   clear hown hgr
   go_wp2_with fail
   go_roundw
   case rel => exact ⟨j + 1, by go_num, by omega, HN2.out⟩
   case measure => simp [intOf]; omega
  ·have ej : j = n := by omega
   have hnn : ¬ (j : Int) < (n : Int) := by omega
   have HD : Hid (SzPost w (g.gone.map (fun e : Nt => leafI e.1)) (.returned u3) wr) := Lib.hid ⟨_, rfl, by rw [← HAll.out, ← ej]; exact HI.out⟩
   go_wp2_with fail
   go_ret
   exact HD.out
end
end Go.Proofs.YtknnebhjldfkhaaGreat


namespace Go.Proofs.YtknnebhjldfkhaaGreat
set_option maxRecDepth 100000
open Go.RowKit Go.ChangeShapes Go.WideShapes Go.ChangeAt Go.Maps Go.Deep

section
variable {c : SC} {a : SA} {Z : Nat → Prop} {F : World → Prop} {W : World} {g : SG} {k : Nat} {wr : World}
theorem StS.leaves (h : StS c a W Z F g k wr) (hk : k < 20000) : Calls Tryz.prog 55 #[.pointer (some ⟨a.sp, 0, none⟩)] wr (SzPost wr (g.gone.map (fun e : Nt => leafI e.1))) := by
 obtain ⟨_, _, _, h1, _⟩ := h.sk
 exact h1.leaves hk
theorem StS.used (h : StS c a W Z F g k wr) : Calls Tryz.prog 49 #[.pointer (some ⟨a.tp, 0, none⟩)] wr fun e w' => e = .returned (.int .i64 (g.u : Int)) ∧ w' = wr := by
 obtain ⟨_, _, _, h1, _⟩ := h.sk
 exact (tape_used _ _ _ _ _ _ h1.tp).mono fun _ _ hh => ⟨hh.1, hh.2.symm⟩
end
section
variable {k : IntKind} {Z Z' : Nat → Prop} {w w' : World} {a : Option Addr} {n : Nat} {z : Nat → Int}
end
structure WyP (c : SC) (nz : Nat) (z : Nat → Int) (L us : Nat) (P : Nat → Nat) (Q : Nat → Nat) : Prop where
 lt : ∀ i, i < L → P i < us
 ne : ∀ i j, i < L → j < L → P i = P j → i = j
 lf : ∀ i, i < L → Q i = (told nz z (P i)).toNat % c.N (c.n - 1 - i % c.n)
 lv : ∀ i, i < L → P i % (2 * c.n) / 2 = i % c.n
 rd : ∀ i, i < L → P i / (2 * c.n) ≤ i / c.n
theorem Uk.ways {c : SC} {g : SG} {k : Nat} (hc : c.Ok) (h : Uk c g k) (hu : g.u ≤ 1000000) : ∃ P Q : Nat → Nat, WyP c g.nw g.z (c.n * k) g.u P Q ∧ (∀ i, i < c.n * k → (g.gone.map (fun e : Nt => placeI e.2)).getD i 0 = (P i : Int)) ∧ ∀ i, i < c.n * k → (g.gone.map (fun e : Nt => leafI e.1)).getD i 0 = (Q i : Int) := by
 have hn1 := hc.n1
 have key : ∀ i, i < c.n * k → ∃ p : Nat, ∃ e : Nt, g.gone[i]? = some e ∧ p < g.u ∧ IsW c g.nw g.z (c.n - 1 - i % c.n) p e ∧ p / (2 * c.n) ≤ i / c.n := fun i hi => by
  have hl : i < g.gone.length := by rw [h.len]; exact hi
  obtain ⟨p, h1, h2, h3⟩ := h.us.uq.gok i _ (List.getElem?_eq_getElem hl)
  exact ⟨p, _, List.getElem?_eq_getElem hl, by rw [h.u]; exact h1, h2, h3⟩
 refine ⟨fun i => (g.gone.getD i (0, 0)).2.toNat, fun i => ((g.gone.getD i (0, 0)).1 - 1).toNat, ⟨fun i hi => ?_, fun i j hi hj e => ?_, fun i hi => ?_, fun i hi => ?_, fun i hi => ?_⟩, fun i hi => ?_, fun i hi => ?_⟩
 ·obtain ⟨p, e, h1, h2, h3, h4⟩ := key i hi
  rw [List.getD_eq_getElem?_getD, h1]
  show e.2.toNat < _
  rw [h3.place]; simpa using h2
 ·obtain ⟨p, e1, h1, h2, h3, h4⟩ := key i hi
  obtain ⟨p', e2, h1', h2', h3', h4'⟩ := key j hj
  simp only [List.getD_eq_getElem?_getD, h1, h1', Option.getD_some, h3.place, h3'.place, Int.toNat_natCast] at e
  exact h.us.uq.gnd i j _ _ h1 h1' (by rw [h3.place, h3'.place, e])
 ·obtain ⟨p, e, h1, h2, h3, h4⟩ := key i hi
  rw [List.getD_eq_getElem?_getD, h1]
  show (e.1 - 1).toNat = _ % _
  rw [Option.getD_some, h3.place, h3.1, Int.toNat_natCast]
  unfold tkN
  dsimp only
  omega
 ·obtain ⟨p, e, h1, h2, h3, h4⟩ := key i hi
  rw [List.getD_eq_getElem?_getD, h1, Option.getD_some, h3.place, Int.toNat_natCast, h3.2]
  have := Nat.mod_lt i hn1
  omega
 ·obtain ⟨p, e, h1, h2, h3, h4⟩ := key i hi
  rw [List.getD_eq_getElem?_getD, h1, Option.getD_some, h3.place, Int.toNat_natCast]
  exact h4
 ·obtain ⟨p, e, h1, h2, h3, h4⟩ := key i hi
  have q : g.gone.getD i (0, 0) = e := by rw [List.getD_eq_getElem?_getD, h1]; rfl
  rw [List.getD_eq_getElem?_getD, List.getElem?_map, h1]
  show placeI e.2 = (((g.gone.getD i (0, 0)).2.toNat : Nat) : Int)
  rw [q, h3.place]
  unfold placeI
  rw [wrap64_self (by omega) (by omega)]
  simp
 ·obtain ⟨p, e, h1, h2, h3, h4⟩ := key i hi
  have hN := SC.N_le hc (c.n - 1 - i % c.n)
  have hm := Nat.mod_lt (told g.nw g.z p).toNat hN.1
  have q : g.gone.getD i (0, 0) = e := by rw [List.getD_eq_getElem?_getD, h1]; rfl
  rw [List.getD_eq_getElem?_getD, List.getElem?_map, h1]
  show leafI e.1 = ((((g.gone.getD i (0, 0)).1 - 1).toNat : Nat) : Int)
  rw [q, h3.1]
  unfold tkN
  dsimp only
  rw [leafI_small (by omega) (by omega)]
  omega
theorem uk_new (c : SC) (nz : Nat) (z : Nat → Int) : Uk c (sg0 c nz z) 0 := by
 have h0 : ∀ x, ntAt c (sg0 c nz z).M.c x = (0, 0) := fun x => by
  unfold ntAt
  split
  ·rfl
  ·unfold ntc; split <;> rfl
 refine ⟨⟨⟨fun x _ h => absurd (by rw [h0]) h, fun x y _ _ h => absurd (by rw [h0]) h, fun i a h => by simp [sg0] at h, fun i j a b h => by simp [sg0] at h, fun i a x h => by simp [sg0] at h, fun h => absurd rfl h, fun h => absurd rfl h, fun h => absurd rfl h⟩, fun h _ q _ => .inl rfl⟩, ?_, ?_⟩
 ·show 0 = 2 * c.n * 0
  omega
 ·show 0 = c.n * 0
  omega
end Go.Proofs.YtknnebhjldfkhaaGreat


namespace Go.Proofs.YtknnebhjldfkhaaGreat
set_option maxRecDepth 100000
open Go.RowKit Go.ChangeShapes Go.WideShapes Go.ChangeAt Go.Maps Go.Deep

def Ue (c : SC) (g : SG) (n : Nat) : Prop := Uk c g n ∧ g.M.es = evAll c (lfG g) n
theorem ue_new (c : SC) (nz : Nat) (z : Nat → Int) : Ue c (sg0 c nz z) 0 := ⟨uk_new c nz z, rfl⟩
section
variable {c : SC} {a : SA} {Z : Nat → Prop} {F : World → Prop} {W : World} {g : SG} {k : Nat} {wr : World}
theorem StS.evs (hc : c.Ok) (h : StS c a W Z F g k wr) (op : Int) (id : Nat) (d : Nat → Int) (hop : isOp op id (2 ^ c.b) = true) (hd : ∀ j, 0 ≤ d j ∧ d j ≤ 18446744073709551615) (hk : k < 19900) {n : Nat} (hU : Ue c g n) (hu : g.u ≤ 1000000000) :
  Calls Tryz.prog 41 #[.pointer (some ⟨a.sp, 0, none⟩), .int .i64 op, .int .u64 (id : Int), .agg (DA d)] wr fun r w' =>
   ∃ g' rr t, r = .returned (.tuple #[.agg (DA rr), .bool t]) ∧ Ue c g' (n + 1) ∧ StS c a W Z F g' (k + 20) w' := by
 obtain ⟨ga, gc, G, h1, h2⟩ := h.sk
 obtain ⟨hop1, hid⟩ := isOp_is hop
 refine (h1.access hc op id d hop hd hk).mono ?_
 rintro r w' ⟨g', e', rr, t, hR, rfl, ga', gc', G', s1, s2, s3, s4⟩
 have hK : Kept Z wr w' := s4.mono (fun i _ hi hz => (h2 i hz).2 hi)
 obtain ⟨u1, u2, u3⟩ := hR.used
 exact ⟨g', rr, t, rfl, ⟨Rn.uk hc hU.1 hu hid hd hR u1, Rn.evk hc hU.1 hu hU.2 hop1 hid hd hR⟩, ⟨ga', gc', G', s1, fun i hi => s3 i (h2 i hi)⟩, h.hz, h.st _ _ h.kp.size hK h.hF, h.st, h.kp.trans ((hK.mono h.hz).below h.kp.size (fun _ h => h))⟩
theorem StS.trace (h : StS c a W Z F g k wr) (hk : k < 20000) : Calls Tryz.prog 53 #[.pointer (some ⟨a.mp, 0, none⟩)] wr fun e w' =>
  ∃ A cap, e = .returned (.slice A g.M.es.length cap) ∧ IView w' A (g.M.es.map evI) ∧ Only nobody wr w' := by
 obtain ⟨_, _, _, h1, _⟩ := h.sk
 refine (own_trace (h := h1.own) (hl := by have := h1.es; omega)).mono ?_
 rintro e w' ⟨A, cap, rfl, ht, ho, _⟩
 exact ⟨A, cap, rfl, ht.view.i, ho⟩
end
theorem Ue.ways {c : SC} {g : SG} {k : Nat} (hc : c.Ok) (h : Ue c g k) (hu : g.u ≤ 1000000) : ∃ Q : Nat → Nat, (∀ i, i < c.n * k → Q i < c.N (c.n - 1 - i % c.n)) ∧ (∀ i, i < c.n * k → (g.gone.map (fun e : Nt => leafI e.1)).getD i 0 = (Q i : Int)) ∧
  g.M.es = evAll c (fun j => ((Q j : Nat) : Int)) k ∧ (g.gone.map (fun e : Nt => leafI e.1)).length = c.n * k := by
 obtain ⟨P, Q, hW, _, h2⟩ := h.1.ways hc hu
 refine ⟨Q, fun i hi => by rw [hW.lf i hi]; exact Nat.mod_lt _ (SC.N_le hc _).1, h2, ?_, by rw [List.length_map]; exact h.1.len⟩
 rw [h.2]
 refine (evAll_congr k (fun x hx => ?_)).symm
 have h3 := h2 x hx
 rw [← h3]
 unfold lfG
 have hl : x < g.gone.length := by rw [h.1.len]; exact hx
 simp only [List.getD_eq_getElem?_getD, List.getElem?_map, List.getElem?_eq_getElem hl, Option.map_some, Option.getD_some]
def FW (c : SC) (cb : Nat) (W : World) (a : Option Addr) (nl : Nat) (y : Nat → Sp3) (u : World) : Prop := Box u cb 79 (sfA c) ∧ Sps3 u W.heap.size a nl y
theorem Sps3.rng {W u : World} {b o : Nat} {nl : Nat} {y : Nat → Sp3} (f : Sps3 u W.heap.size (some ⟨b, o, none⟩) nl y) {i : Nat} (hi : i < nl) : u.rangeAt b (o + i * 3) (s3c (y i)).toList := by
 obtain ⟨b', o', e, _, hr⟩ := f.at hi
 injection e with e
 injection e with e1 e2
 rw [e1, e2]
 exact hr
theorem slaw_config1 (n : Int) (h0 : -9223372036854775808 ≤ n) (h1 : n ≤ 9223372036854775807) : ∃ c : SC, c.Ok ∧ c.f = 1 ∧ (c.b ≤ 5 ∧ c.S ≤ 3 ∧ c.T ≤ 8 ∧ c.n ≤ 3) ∧
  (∀ w, Calls Tryz.prog 36 #[.int .i64 n] w fun e w' => e = .returned (.agg (sfA c)) ∧ Below w.heap.size w w') ∧
  ∀ (W : World) (A : Option Addr) (nz cz : Nat) (z : Nat → Int), Nums .u64 W W.heap.size A nz z → nz ≤ 1000 → (∀ j, j < nz → 0 ≤ z j ∧ z j ≤ 18446744073709551615) →
   Calls Tryz.prog 37 #[.agg (sfA c), .slice A nz cz] W fun e w' =>
    ∃ a : SA, e = .returned (.tuple #[.pointer (some ⟨a.mp, 0, none⟩), .pointer (some ⟨a.tp, 0, none⟩), .pointer (some ⟨a.sp, 0, none⟩)]) ∧ StoA c a (sg0 c nz z) none 0 (fun i => W.heap.size ≤ i ∧ i < w'.heap.size) 0 w' ∧ Only nobody W w' := by
 obtain ⟨r1, ⟨r2, r3⟩, ⟨r4, r5⟩, r6, r7⟩ := sc_rng n
 obtain ⟨c, hc, hb, hS, hT, hn, hf, hQ⟩ := sc_mk (scb n) (scS n) (scT n) (scn n) 1 (by omega) r2 (by omega) r4 (by omega) r6 (by omega) (by omega)
 have q1 : c.b ≤ 5 := by rw [hb]; exact r1
 have q2 : c.S ≤ 3 := by rw [hS]; exact r3
 have q3 : c.T ≤ 8 := by rw [hT]; exact r5
 have q4 : c.n ≤ 3 := by rw [hn]; exact r7
 have eA : scA (scb n) (scS n : Int) (scT n : Int) (scn n) = sfA c := by
  unfold scA sfA
  rw [← hc.bB, hb, hS, hT, hn]
 refine ⟨c, hc, hf, ⟨q1, q2, q3, q4⟩, fun w => ?_, fun W A nz cz z hz hnz hzr => smade_of hc hf q1 q2 q3 q4 hQ A nz cz z W hz hnz hzr⟩
 have := sconfig_of n w h0 h1
 rw [eA] at this
 exact this
end Go.Proofs.YtknnebhjldfkhaaGreat


namespace Go.Proofs.YtknnebhjldfkhaaGreat
set_option maxRecDepth 100000
open Go.RowKit Go.ChangeShapes Go.WideShapes Go.ChangeAt Go.Maps Go.Deep

theorem SzPost.ev {c : SC} (hc : c.Ok) {w w' : World} {l : List Int} {e : Ending} {k : Nat} {Q : Nat → Nat} (h : SzPost w l e w') (hk : k ≤ 16) (hl : l.length = c.n * k) (hQ : ∀ i, i < c.n * k → l.getD i 0 = (Q i : Int)) (hlf : ∀ i, i < c.n * k → Q i < c.N (c.n - 1 - i % c.n)) :
  ∃ A cap, e = .returned (.slice A (c.n * k) cap) ∧ Below w.heap.size w w' ∧ ∀ W, Only nobody w' W → Calls Tryz.prog 60 #[.int .i64 (c.f : Int), .agg (sfA c), .slice A (c.n * k) cap] W (EvPost W ((evAll c (fun j => ((Q j : Nat) : Int)) k).map evI)) := by
 obtain ⟨v, rfl, hI⟩ := h
 rcases hI.own.2 with ⟨rfl, h0⟩ | ⟨g, cap, cur, rfl, _, h2, h3, _⟩
 ·have hn1 := hc.n1
  have k0 : k = 0 := by
   rcases Nat.eq_zero_or_pos k with h | h
   ·exact h
   ·have := Nat.mul_le_mul hn1 h
    omega
  subst k0
  exact ⟨none, 0, by rw [Nat.mul_zero], hI.below, fun W _ => by rw [Nat.mul_zero]; exact sevents_none hc W⟩
 ·refine ⟨some ⟨g, 0, none⟩, cap, by rw [hl], hI.below, fun W ho => ?_⟩
  rw [hl] at h3
  have hg : g < w'.heap.size := (Array.getElem?_eq_some_iff.1 h2).1
  refine sevents_right hc W hk h3 (Nat.lt_of_lt_of_le hg ho.size) (fun j hj => ?_) hlf
  refine (World.cell?_of_block (ho.block g hg (not_nobody g))).trans ?_
  obtain ⟨g', cap', e1, _, hr⟩ := hI.out (by omega) (fun j => l.getD j 0) (fun j hj => by simp [List.getD_eq_getElem?_getD, hj])
  injection e1 with e1 _ _
  injection e1 with e1
  injection e1 with e1
  subst e1
  rw [hr.cell j (by omega), hQ j hj]
end Go.Proofs.YtknnebhjldfkhaaGreat

