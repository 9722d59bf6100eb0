import Derived.Test.YtknnebhjldfkhaaGreatG38
import Derived.Test.YtknnebhjldfkhaaGreatG40
import Derived.Test.YtknnebhjldfkhaaGreatG16
import Derived.Test.YtknnebhjldfkhaaGreatG31
import Derived.Test.YtknnebhjldfkhaaGreatG23
import Derived.Test.YtknnebhjldfkhaaGreatG14
import Derived.Test.YtknnebhjldfkhaaGreatG10
namespace Go.Proofs.YtknnebhjldfkhaaGreat
set_option maxRecDepth 100000
open Go.RowKit Go.ChangeShapes Go.WideShapes Go.ChangeAt

theorem IrAt.join {w1 : World} {v : Value} {l m : List Int} {A : Option Addr} {cap : Nat} {wr wx w7 : World} (h : IrAt w1 v l wr) (hx : Below wr.heap.size wr wx)
  (ho : w7.ownsRow w1.heap.size 3 1 (.slice A (l.length + m.length) cap) (l.length + m.length) (irow l ++ irow m)) (hg : wx.grownBy w7 v.ownBlock) :
  IrAt w1 (.slice A (l.length + m.length) cap) (l ++ m) w7 := by
 constructor
 ·rw [List.length_append, irow_append]
  exact ho
 ·have hb : Below w1.heap.size w1 wx := h.below.trans (hx.mono h.below.size)
  refine hb.grown hg (by have := hb.size; omega) (fun b e => ?_)
  rcases h.own.2 with ⟨rfl, _⟩ | ⟨g, cap, cur, rfl, hb, _⟩
  ·simp [Value.ownBlock] at e
  ·obtain rfl : g = b := by simpa [Value.ownBlock] using e
   exact hb
def szM (c : SC) : List Int := 1 :: szS c.b c.S c.T c.n
theorem szM_len (c : SC) : (szM c).length = 3 * c.n + 2 := by unfold szM; rw [List.length_cons, szS_len]
def szF (c : SC) (i : Nat) : Nat := ((szM c).getD i 0).toNat
def mdS (c : SC) : MS := MS.new (3 * c.n + 2) (szF c)
theorem szL_at (b S T : Nat) : ∀ n h j, h < n → j < 3 → (szL b S T n)[3 * h + j]? = (szOf b S T h)[j]?
 | 0, h, j, hh, _ => absurd hh (by omega)
 | n + 1, h, j, hh, hj => by
  rw [szL]
  by_cases e : h = n
  ·subst e
   rw [List.getElem?_append_right (by rw [szL_len]; omega), szL_len, show 3 * h + j - 3 * h = j by omega]
  ·rw [List.getElem?_append_left (by rw [szL_len]; omega)]
   exact szL_at b S T n h j (by omega) hj
theorem szF_lv {c : SC} {h j : Nat} (hh : h < c.n) (hj : j < 3) (x : Int) (hx : (szOf c.b c.S c.T h)[j]? = some x) : szF c (2 + 3 * h + j) = x.toNat := by
 unfold szF szM szS
 rw [List.getD_eq_getElem?_getD, show 2 + 3 * h + j = (3 * h + j) + 1 + 1 by omega, List.getElem?_cons_succ, List.getElem?_cons_succ, szL_at _ _ _ _ _ _ hh hj, hx]
 rfl
theorem mdS_lvm {c : SC} (hf : c.f = 1) (hQ : ∀ h, qOf (c.b - 2 * h) c.S c.T = (c.Q h : Int)) {h : Nat} (hh : h < c.n) : LvM (mdS c) (c.r h) c.S (c.D h) c.T (c.Q h) := by
 have er : c.r h = 2 + 3 * h := by unfold SC.r; rw [hf]
 rw [er]
 refine ⟨by show 2 + 3 * h + 2 < 3 * c.n + 2; omega, ?_, ?_, ?_, fun _ _ => wd_zero, by show ([] : List Ev).length < 900000000; decide⟩
 ·show _ ≤ szF c (2 + 3 * h + 0)
  rw [szF_lv (j := 0) hh (by decide) _ rfl]
  exact Nat.le_refl _
 ·show _ ≤ szF c (2 + 3 * h + 1)
  rw [szF_lv (j := 1) hh (by decide) _ rfl]
  exact Nat.le_refl _
 ·show _ ≤ szF c (2 + 3 * h + 2)
  rw [szF_lv (j := 2) hh (by decide) _ rfl, hQ]
  exact Nat.le_refl _
theorem mdS_fits {c : SC} (hb5 : c.b ≤ 5) (s1 : 1 ≤ c.S) (s3 : c.S ≤ 3) (t1 : 1 ≤ c.T) (t8 : c.T ≤ 8) (hn : c.n ≤ 3) : Fits (3 * c.n + 2) (fun i => (szF c i : Int)) ∧ ∀ j, (hj : j < (szM c).length) → (szM c)[j] = (szF c j : Int) := by
 have hall : ∀ x ∈ szM c, 1 ≤ x ∧ x ≤ 4096 := fun x hx => by
  rcases List.mem_cons.1 hx with rfl | hx
  ·decide
  ·rcases List.mem_cons.1 hx with rfl | hx
   ·have h1 := blN_le c.b (c.n - 1) (by omega)
    have h2 := blN_pos c.b (c.n - 1)
    omega
   ·have : ∀ n, x ∈ szL c.b c.S c.T n → 1 ≤ x ∧ x ≤ 4096 := fun n => by
     induction n with
     | zero => intro h; exact absurd h List.not_mem_nil
     | succ n ih =>
      intro h
      rcases List.mem_append.1 h with h | h
      ·exact ih h
      ·obtain ⟨Q, P, _, hq, q1, q2⟩ := conf_of (D := c.b - 2 * n) (S := c.S) (H := c.T) (by omega) (by omega) (by omega) (by omega) (by omega)
       have h1 : 2 ^ (c.b - 2 * n) ≤ 2 ^ 5 := Nat.pow_le_pow_right (by decide) (by omega)
       have h2 := Nat.two_pow_pos (c.b - 2 * n)
       have h3 : c.S * (2 * 2 ^ (c.b - 2 * n) - 1) ≤ 3 * 63 := Nat.mul_le_mul s3 (by omega)
       have h4 : 1 * 1 ≤ c.S * (2 * 2 ^ (c.b - 2 * n) - 1) := Nat.mul_le_mul s1 (by omega)
       unfold szOf at h
       rw [hq] at h
       simp only [List.mem_cons, List.not_mem_nil, or_false] at h
       rcases h with rfl | rfl | rfl <;> omega
    exact this _ hx
 have hat : ∀ j, (hj : j < (szM c).length) → (szM c)[j] = (szF c j : Int) := fun j hj => by
  have h1 := hall _ (List.getElem_mem hj)
  unfold szF
  rw [List.getD_eq_getElem?_getD, List.getElem?_eq_getElem hj, Option.getD_some]
  omega
 refine ⟨⟨by omega, by omega, fun i hi => ?_⟩, hat⟩
 have hi' : i < (szM c).length := by rw [szM_len]; exact hi
 have := hall _ (List.getElem_mem hi')
 rw [hat i hi'] at this
 exact this
def sg0 (c : SC) (nz : Nat) (z : Nat → Int) : SG := ⟨mdS c, fun _ => false, fun _ => [], nz, z, 0, []⟩
set_option linter.unusedSimpArgs false in
set_option maxHeartbeats 4000000 in
theorem smade_of {c : SC} (hc : c.Ok) (hf : c.f = 1) (hb5 : c.b ≤ 5) (hS3 : c.S ≤ 3) (hT8 : c.T ≤ 8) (hn3 : c.n ≤ 3) (hQ : ∀ h, qOf (c.b - 2 * h) c.S c.T = (c.Q h : Int)) (A : Option Addr) (nz cz : Nat) (z : Nat → Int) (w : World) (hz : Nums .u64 w w.heap.size A nz z) (hnz : nz ≤ 1000) (hzr : ∀ j, j < nz → 0 ≤ z j ∧ z j ≤ 18446744073709551615) :
  Calls Tryz.prog 37 #[.agg #[.int .i64 c.B, .int .i64 (c.S : Int), .int .i64 (c.T : Int), .int .i64 (c.n : Int)], .slice A nz cz] w fun e w' =>
   ∃ a : SA, e = .returned (.tuple #[.pointer (some ⟨a.mp, 0, none⟩), .pointer (some ⟨a.tp, 0, none⟩), .pointer (some ⟨a.sp, 0, none⟩)]) ∧ StoA c a (sg0 c nz z) none 0 (fun i => w.heap.size ≤ i ∧ i < w'.heap.size) 0 w' ∧ Only nobody w w' := by
 have hn1 := hc.n1
 have hcn := hc.conf 0 (by omega)
 have s1 := hcn.s1
 have t1 := hcn.t1
 have eA : scA c.b (c.S : Int) (c.T : Int) c.n = #[.int .i64 c.B, .int .i64 (c.S : Int), .int .i64 (c.T : Int), .int .i64 (c.n : Int)] := by unfold scA; rw [hc.bB]
 have HZ := Lib.hid (fun W => ssizes_in c.b c.S c.T c.n W (by omega) s1 (by omega) t1 (by omega) hn1 (by omega))
 rw [eA] at HZ
 obtain ⟨hfit, hat⟩ := mdS_fits hb5 s1 hS3 t1 hT8 hn3
 have hlv := fun h (hh : h < c.n) => mdS_lvm hf hQ hh
 have htop : c.f < (mdS c).k ∧ (mdS c).sz c.f = c.N (c.n - 1) := by
  rw [hf]
  exact ⟨by show 1 < 3 * c.n + 2; omega, by
   show szF c 1 = _
   unfold szF szM szS
   rfl⟩
 have HNew := Lib.hid (fun (W : World) (a : Option Addr) (cap B : Nat) (hN : Nums .i64 W B a (3 * c.n + 2) (fun i => (szF c i : Int))) (hB : B ≤ W.heap.size) => new_yes a (3 * c.n + 2) cap B (fun i => (szF c i : Int)) (szF c) W hN hB hfit (fun i _ => rfl))
 have HT := Lib.hid (fun (W : World) (hN : Nums .u64 W W.heap.size A nz z) => tape_new A nz cz z W (by omega) hN)
 have HSt := Lib.hid (fun (W : World) (X : Nat → Prop) (mp tp tg : Nat) (hO : Own W X mp (mdS c)) (h0 : w.heap.size ≤ W.heap.size) (hX0 : ∀ i, i < w.heap.size → X i) (hXt : X tp ∧ X tg) (hT0 : w.heap.size ≤ tp ∧ w.heap.size ≤ tg) (hT : Tp W tp tg nz z 0) =>
  snew_of hc hO h0 hX0 hXt hT0 hT hzr hlv (fun _ _ _ _ => .inl rfl) rfl htop)
 rw [hf] at HSt
 have HAt := Lib.hid hat
 have HLs : Hid ((szS c.b c.S c.T c.n).length = 3 * c.n + 1) := Lib.hid (szS_len _ _ _ _)
 have HM : Hid (szM c = [1] ++ szS c.b c.S c.T c.n) := Lib.hid rfl
 have HZz := Lib.hid hz
 clear hz hzr hlv htop hfit hat eA hcn s1 t1 hQ hf hb5 hS3 hT8 hc
 generalize szS c.b c.S c.T c.n = ls at *
 obtain ⟨b, hb⟩ : ∃ b, w.heap.size = b := ⟨_, rfl⟩
 obtain ⟨w2, hw2⟩ : ∃ w2, w.alloc (.cells #[.int .i64 c.B, .int .i64 (c.S : Int), .int .i64 (c.T : Int), .int .i64 (c.n : Int)] 79) = w2 := ⟨_, rfl⟩
 have hx : Box w2 b 79 #[.int .i64 c.B, .int .i64 (c.S : Int), .int .i64 (c.T : Int), .int .i64 (c.n : Int)] := by rw [← hw2, ← hb]; exact Box.new w _ _
 have hbl : Below w.heap.size w w2 := by rw [← hw2]; exact (Below.refl _ w).alloc (Nat.le_refl _) _
 have k0 := hx.cell 0
 have k1 := hx.cell 1
 have k2 := hx.cell 2
 have k3 := hx.cell 3
 simp at k0 k1 k2 k3
 have HX := Lib.hid hx
 have HB := Lib.hid hbl
 have HW2 := Lib.hid hw2
 have HBb := Lib.hid hb
 clear hx hbl hw2
 go_enter Tryz.func37, Tryz.ntmps37
 go_upto_region 1 with fail
 try simp only [HBb.out]
 try rw [HW2.out]
 obtain ⟨v0, hv0⟩ : ∃ v0 : Value, (.slice (some ⟨w2.heap.size, 0, none⟩) 1 1 : Value) = v0 := ⟨_, rfl⟩
 obtain ⟨w3, hw3⟩ : ∃ w3, (w2.alloc (.cells #[.int .i64 1] 3)) = w3 := ⟨_, rfl⟩
 have HI : Hid (IrAt w v0 [1] w3) := Lib.hid (by rw [← hw3, ← hv0]; exact IrAt.one _ HB.out)
 have HX3 : Hid (Box w3 b 79 #[.int .i64 c.B, .int .i64 (c.S : Int), .int .i64 (c.T : Int), .int .i64 (c.n : Int)]) := Lib.hid (by rw [← hw3]; exact HX.out.alloc _)
 clear HX HB k0 k1 k2 k3
 have k0 := HX3.out.cell 0
 have k1 := HX3.out.cell 1
 have k2 := HX3.out.cell 2
 have k3 := HX3.out.cell 3
 simp at k0 k1 k2 k3
 go_wp2_with fail
 try rw [hw3]
 try rw [hv0]
 refine (HZ.out _).mono ?_
 rename_i hKc
 rintro e w4 ⟨v, rfl, hI4⟩
 have hls := HLs.out
 obtain ⟨g, cap, rfl, _, hIr⟩ := hI4.out (by omega) (fun j => (ls.getD j 0)) (fun j hj => by rw [List.getD_eq_getElem?_getD, List.getElem?_eq_getElem hj]; rfl)
 have hcells := hI4.own.cells (g := g) rfl
 have HC4 := Lib.hid hcells
 have HI4 := Lib.hid (HI.out.more hI4.below)
 have HX4 := Lib.hid (HX3.out.of (hI4.below.block _ HX3.out.lt))
 have HOW : Hid (w4.ownsRow w.heap.size 3 1 v0 1 (irow [1])) := Lib.hid HI4.out.own
 have hsz := HI4.out.below.size
 clear hI4 hIr hcells HX3 HI k0 k1 k2 k3 hw3 hv0
 dsimp only
 refine hKc _ _ ?_
 refine wpList_append_where _ rfl (.tmp 13) (.tmp 15) 39 rfl w.heap.size 3 (.int .i64 0) 1 8 Tryz.underlying39 infoI64 rfl (by decide) v0 1 (irow [1]) rfl HOW.out ⟨g, 0, none⟩ ls.length cap (irow ls) rfl (by rw [irow_len, Nat.mul_one]) ?c0 (irow_one _) ?c2 ?c3 ?c4 ?_
 case c0 => exact HC4.out
 case c2 => simp only [maxLen]; omega
 case c3 => omega
 case c4 => omega
 intro A2 cap2 w8 hown hgr _
 have HJ : Hid (IrAt w (.slice A2 (1 + ls.length) cap2) ([1] ++ ls) w8) := Lib.hid (HI4.out.join (Below.refl _ w4) hown hgr)
 have HX8 : Hid (Box w8 b 79 #[.int .i64 c.B, .int .i64 (c.S : Int), .int .i64 (c.T : Int), .int .i64 (c.n : Int)]) := Lib.hid (HX4.out.of (hgr.block b HX4.out.lt (fun e => by
  rcases HI4.out.own.2 with ⟨e0, _⟩ | ⟨g, cap, cur, e0, _, hg, _⟩
  ·rw [e0] at e; cases e
  ·rw [e0] at e
   obtain rfl : g = b := by simpa [Value.ownBlock] using e.symm
   exact absurd rfl (Box.ne (cs' := cur) HX4.out hg (by decide)))))
 clear hown hgr HOW HI4 HX4 HC4 hsz
 have hJl : ([1] ++ ls : List Int).length = 3 * c.n + 2 := by simp; omega
 obtain ⟨g2, cap3, ea, _, hIr⟩ := HJ.out.out (by omega) (fun i => (szF c i : Int)) (fun j hj => by
  have := HAt.out j (by rw [HM.out]; exact hj)
  rw [← this]
  congr 1
  exact HM.out.symm)
 injection ea with ea1 ea2 ea3
 subst ea1 ea3
 have elen : 1 + ls.length = 3 * c.n + 2 := by omega
 have hNn := hIr.nums (m := 3 * c.n + 2) (by omega)
 have hb8 := HJ.out.below
 have HN8 := Lib.hid hNn
 have HB8 := Lib.hid hb8
 clear hIr hNn hb8 HJ hJl
 rw [elen]
 go_wp2_with fail
 refine (HNew.out _ _ _ _ HN8.out (Nat.le_refl _)).mono ?_
 rintro e w9 ⟨mp, F, rfl, hMm, ho9, hF⟩
 have HO9 := Lib.hid (show Own w9 (fun i => i < w8.heap.size) mp (mdS c) from ⟨F, hMm, fun i hi hx => by have := hF i hi; omega, fun i hi => by have := ho9.size; omega⟩)
 have HX9 := Lib.hid (HX8.out.only ho9 (not_nobody _))
 have HB9 := Lib.hid (below_only HB8.out ho9 HB8.out.size (fun _ _ h => h))
 have hs89 := ho9.size
 have hs08 := HB8.out.size
 clear hMm ho9 hF HX8 HN8 HB8
 go_wp2_with fail
 refine (HT.out _ ((HZz.out.below HB9.out).more (by omega))).mono ?_
 rintro e w10 ⟨tp, tg, rfl, htp, htg, ho10, hT⟩
 have HO10 := Lib.hid (HO9.out.grow ho10)
 have HX10 := Lib.hid (HX9.out.only ho10 (not_nobody _))
 have HT10 := Lib.hid hT
 have HTl : Hid ((w9.heap.size ≤ tp ∧ tp < w10.heap.size) ∧ (w9.heap.size ≤ tg ∧ tg < w10.heap.size)) := Lib.hid ⟨⟨htp, hT.box.lt⟩, htg, hT.row.lt⟩
 have HB10 := Lib.hid (below_only HB9.out ho10 HB9.out.size (fun _ _ h => h))
 have hs910 := ho10.size
 clear ho10 hT htp htg HO9 HX9 HB9 HT HNew HZ
 have k0 := HX10.out.cell 0
 have k1 := HX10.out.cell 1
 have k2 := HX10.out.cell 2
 have k3 := HX10.out.cell 3
 simp at k0 k1 k2 k3
 go_wp2_with fail
 refine (HSt.out w10 _ mp tp tg HO10.out (by omega) (fun i hi => .inl (by omega)) ⟨.inr HTl.out.1, .inr HTl.out.2⟩ (by have := HTl.out; omega) HT10.out).mono ?_
 rintro e w11 ⟨a, rfl, ⟨ha1, ha2⟩, hS, ho11⟩
 have HS := Lib.hid hS
 have HOO : Hid (Only nobody w w11) := Lib.hid ((Only.of_below HB10.out).trans ho11)
 subst ha1 ha2
 clear hS ho11 k0 k1 k2 k3 HX10 HO10 HT10 HTl HB10 HSt
 go_wp2_with fail
 go_ret3
 exact ⟨a, rfl, HS.out, HOO.out⟩
end Go.Proofs.YtknnebhjldfkhaaGreat


namespace Go.Proofs.YtknnebhjldfkhaaGreat
set_option maxRecDepth 100000
open Go.RowKit Go.ChangeShapes Go.WideShapes Go.ChangeAt Go.Maps

def ovN (g : SG) : Nat → Bool
 | 0 => false
 | n + 1 => ovN g n || g.ov n
theorem ovN_iff (g : SG) : ∀ n, ovN g n = false ↔ ∀ h, h < n → g.ov h = false
 | 0 => ⟨fun _ _ h => absurd h (by omega), fun _ => rfl⟩
 | n + 1 => by
  rw [ovN, Bool.or_eq_false_iff, ovN_iff g n]
  constructor
  ·rintro ⟨h1, h2⟩ h hh
   by_cases e : h = n
   ·subst e; exact h2
   ·exact h1 h (by omega)
  ·intro h
   exact ⟨fun j hj => h j (by omega), h n (by omega)⟩
section
variable {c : SC} {a : SA} {g : SG} {ga : Option Addr} {gc : Nat} {G : Nat → Prop} {k : Nat} {w : World}
theorem StoA.lvp (hS : StoA c a g ga gc G k w) {j : Nat} (hj : j < c.n) : w.cell? ⟨a.lg, j, none⟩ = some (.pointer (some ⟨a.lp j, 0, none⟩)) := by
 obtain ⟨cur, h1, h2⟩ := hS.lrow
 exact (h1.cell j).trans (h2 j hj)
set_option maxHeartbeats 1000000 in
theorem StoA.over (hc : c.Ok) (hS : StoA c a g ga gc G k w) : Calls Tryz.prog 44 #[.pointer (some ⟨a.sp, 0, none⟩)] w fun e w' => e = .returned (.bool (ovN g c.n)) ∧ w' = w := by
 have k7 : w.cell? ⟨a.sp, 7, none⟩ = some (.slice (some ⟨a.lg, 0, none⟩) c.n a.lc) := hS.box.cell 7
 have HL := Lib.hid (fun j (hj : j < c.n) => hS.lvp hj)
 have HO := Lib.hid (fun j (hj : j < c.n) => over_of _ _ _ _ _ _ (hS.lev j hj))
 have HV : Hid (∀ j, ovN g (j + 1) = (ovN g j || g.ov j)) := Lib.hid fun _ => rfl
 have hn := hc.n4
 have HV0 : Hid (ovN g 0 = false) := Lib.hid rfl
 clear hS hc
 generalize c.n = n at *
 generalize a.lp = lp at *
 generalize a.lg = lg at *
 generalize a.sp = sp at *
 generalize a.lc = lc at *
 generalize ovN g = ov at *
 generalize g.ov = gv at *
 have HM : Hid (∀ j, j < n → gv j = true → ∀ i, i ≤ n → j < i → ov i = true) := Lib.hid (by
  intro j hj hv i
  induction i with
  | zero => intro _ h; omega
  | succ i ih =>
   intro h1 h2
   rw [HV.out]
   by_cases e : j = i
   ·subst e; rw [hv, Bool.or_true]
   ·rw [ih (by omega) (by omega), Bool.true_or])
 go_enter Tryz.func44, Tryz.ntmps44
 go_wp2_with fail
 go_loopw [10] (fun i wr => ∃ k : Nat, i = .int .i64 k ∧ k ≤ n ∧ ov k = false ∧ wr = w) (fun i _ => n - (intOf i).toNat)
 case atStart => exact ⟨0, rfl, by omega, HV0.out, rfl⟩
 case round =>
  obtain ⟨k, rfl, hk, hov, rfl⟩ := hrel
  have HOv := Lib.hid hov
  clear hov
  by_cases hlt : k < n
  ·have e1 := HL.out k hlt
   obtain ⟨b, hb⟩ : ∃ b, gv k = b := ⟨_, rfl⟩
   have HO2 := Lib.hid (HO.out k hlt)
   rw [hb] at HO2
   have HBk := Lib.hid hb
   clear hb HO
   go_wp2_with fail
   refine HO2.out.mono ?_
   rintro e w1 ⟨rfl, rfl⟩
   cases b
   ·go_wp2_with fail
    go_roundw
    case rel => exact ⟨k + 1, by go_num, by omega, by rw [HV.out, HOv.out, HBk.out]; rfl, by first | trivial | rfl⟩
    case measure => simp [intOf]; omega
   ·go_wp2_with fail
    go_ret
    have e9 := HM.out k hlt HBk.out n (Nat.le_refl _) hlt
    exact ⟨by rw [e9]; rfl, by first | trivial | rfl⟩
  ·obtain rfl : k = n := by omega
   have e2 := HOv.out
   go_wp2_with fail
   go_ret
   exact ⟨by rw [e2]; rfl, by first | trivial | rfl⟩
end
end Go.Proofs.YtknnebhjldfkhaaGreat


namespace Go.Proofs.YtknnebhjldfkhaaGreat
set_option maxRecDepth 100000
open Go.RowKit Go.ChangeShapes Go.WideShapes Go.ChangeAt

theorem sc_mk (b s t n f : Nat) (hb : b ≤ 10) (s1 : 1 ≤ s) (s8 : s ≤ 8) (t1 : 1 ≤ t) (t64 : t ≤ 64) (n1 : 1 ≤ n) (n4 : n ≤ 4) (hf : f ≤ 50) : ∃ c : SC, c.Ok ∧ c.b = b ∧ c.S = s ∧ c.T = t ∧ c.n = n ∧ c.f = f ∧ ∀ h, qOf (c.b - 2 * h) c.S c.T = (c.Q h : Int) := by
 have hx : ∀ h : Nat, ∃ Q P, Conf (2 ^ (b - 2 * h)) s t (b - 2 * h) ((b - 2 * h + 1) * s) ((b - 2 * h + 1) * s + t + 1) Q P ∧ qOf (b - 2 * h) s t = (Q : Int) ∧ 3 ≤ Q ∧ Q ≤ 256 := fun h => conf_of (D := b - 2 * h) (by omega) s1 s8 t1 t64
 refine ⟨⟨b, ((2 ^ b : Nat) : Int), s, t, n, f, fun h => (b - 2 * h + 1) * s, fun h => (b - 2 * h + 1) * s + t + 1, fun h => (hx h).choose, fun h => (hx h).choose_spec.choose⟩, ⟨hb, rfl, n1, n4, hf, fun h _ => (hx h).choose_spec.choose_spec.1⟩, rfl, rfl, rfl, rfl, rfl, fun h => (hx h).choose_spec.choose_spec.2.1⟩
def opI (n : Int) : Int := if pik n 4 = 0 then 0 else if pik n 4 = 3 then 3 else 1
theorem opI_ok (n : Int) : opI n = 0 ∨ opI n = 1 ∨ opI n = 3 := by
 unfold opI
 split
 ·exact .inl rfl
 ·split
  ·exact .inr (.inr rfl)
  ·exact .inr (.inl rfl)
theorem sop_of (n : Int) (w : World) (h0 : -9223372036854775808 ≤ n) (h1 : n ≤ 9223372036854775807) : Calls Tryz.prog 65 #[.int .i64 n] w fun e w' => e = .returned (.int .i64 (opI n)) ∧ Below w.heap.size w w' := by
 have HP := Lib.hid (fun W => spik_any n 4 W (by decide) (by decide) h0 h1)
 have hp4 := pik_lt n (n := 4) (by decide)
 unfold opI
 generalize pik n 4 = p at *
 have hc : p = 0 ∨ p = 1 ∨ p = 2 ∨ p = 3 := by omega
 rcases hc with rfl | rfl | rfl | rfl
 ·go_enter Tryz.func65, Tryz.ntmps65
  go_wp2_with fail
  refine (HP.out _).mono ?_
  rintro e w1 ⟨rfl, rfl⟩
  have q := irow_new w 3 [0, 1, 1, 3] rfl 0 (.int .i64 0) rfl
  rw [add_plain] at q
  simp [irow] at q
  go_wp2_with fail
  go_ret
  exact ⟨rfl, (Below.refl _ w).alloc (Nat.le_refl _) _⟩
 ·go_enter Tryz.func65, Tryz.ntmps65
  go_wp2_with fail
  refine (HP.out _).mono ?_
  rintro e w1 ⟨rfl, rfl⟩
  have q := irow_new w 3 [0, 1, 1, 3] rfl 1 (.int .i64 1) rfl
  rw [add_plain] at q
  simp [irow] at q
  go_wp2_with fail
  go_ret
  exact ⟨rfl, (Below.refl _ w).alloc (Nat.le_refl _) _⟩
 ·go_enter Tryz.func65, Tryz.ntmps65
  go_wp2_with fail
  refine (HP.out _).mono ?_
  rintro e w1 ⟨rfl, rfl⟩
  have q := irow_new w 3 [0, 1, 1, 3] rfl 2 (.int .i64 1) rfl
  rw [add_plain] at q
  simp [irow] at q
  go_wp2_with fail
  go_ret
  exact ⟨rfl, (Below.refl _ w).alloc (Nat.le_refl _) _⟩
 ·go_enter Tryz.func65, Tryz.ntmps65
  go_wp2_with fail
  refine (HP.out _).mono ?_
  rintro e w1 ⟨rfl, rfl⟩
  have q := irow_new w 3 [0, 1, 1, 3] rfl 3 (.int .i64 3) rfl
  rw [add_plain] at q
  simp [irow] at q
  go_wp2_with fail
  go_ret
  exact ⟨rfl, (Below.refl _ w).alloc (Nat.le_refl _) _⟩
def scb (n : Int) : Nat := pik n 6
def scS (n : Int) : Nat := 1 + pik (Int.tdiv n 6) 3
def scT (n : Int) : Nat := 1 + pik (Int.tdiv n 18) 8
def scn (n : Int) : Nat := 1 + pik (Int.tdiv n 144) 3
theorem sc_rng (n : Int) : scb n ≤ 5 ∧ (1 ≤ scS n ∧ scS n ≤ 3) ∧ (1 ≤ scT n ∧ scT n ≤ 8) ∧ (1 ≤ scn n ∧ scn n ≤ 3) := by
 have h1 := pik_lt n (n := 6) (by decide)
 have h2 := pik_lt (Int.tdiv n 6) (n := 3) (by decide)
 have h3 := pik_lt (Int.tdiv n 18) (n := 8) (by decide)
 have h4 := pik_lt (Int.tdiv n 144) (n := 3) (by decide)
 unfold scb scS scT scn
 omega
set_option maxRecDepth 100000 in
set_option linter.unusedSimpArgs false in
set_option maxHeartbeats 2000000 in
theorem sconfig_of (n : Int) (w : World) (h0 : -9223372036854775808 ≤ n) (h1 : n ≤ 9223372036854775807) : Calls Tryz.prog 36 #[.int .i64 n] w fun e w' => e = .returned (.agg (scA (scb n) (scS n : Int) (scT n : Int) (scn n))) ∧ Below w.heap.size w w' := by
 have hq6 := tdiv_rng n 6 (by decide) h0 h1
 have hq18 := tdiv_rng n 18 (by decide) h0 h1
 have hq144 := tdiv_rng n 144 (by decide) h0 h1
 have r1 := pik_lt n (n := 6) (by decide)
 have r2 := pik_lt (Int.tdiv n 6) (n := 3) (by decide)
 have r3 := pik_lt (Int.tdiv n 18) (n := 8) (by decide)
 have r4 := pik_lt (Int.tdiv n 144) (n := 3) (by decide)
 have H1 := Lib.hid (fun W => spik_any n 6 W (by decide) (by decide) h0 h1)
 have H2 := Lib.hid (fun W => spik_any (Int.tdiv n 6) 3 W (by decide) (by decide) hq6.1 hq6.2)
 have H3 := Lib.hid (fun W => spik_any (Int.tdiv n 18) 8 W (by decide) (by decide) hq18.1 hq18.2)
 have H4 := Lib.hid (fun W => spik_any (Int.tdiv n 144) 3 W (by decide) (by decide) hq144.1 hq144.2)
 unfold scb scS scT scn scA
 obtain ⟨b, hb⟩ : ∃ b, w.heap.size = b := ⟨_, rfl⟩
 obtain ⟨w2, hw2⟩ : ∃ w2, w.alloc (.cells #[.int .i64 0, .int .i64 0, .int .i64 0, .int .i64 0] 79) = w2 := ⟨_, rfl⟩
 have hx : Box w2 b 79 #[.int .i64 0, .int .i64 0, .int .i64 0, .int .i64 0] := by rw [← hw2, ← hb]; exact Box.new w _ _
 have hbl : Below w.heap.size w w2 := by rw [← hw2]; exact (Below.refl _ w).alloc (Nat.le_refl _) _
 have hw6 : IntKind.i64.wrap (Int.tdiv n 6) = Int.tdiv n 6 := by rw [IntKind.wrap_i64]; omega
 have hw18 : IntKind.i64.wrap (Int.tdiv n 18) = Int.tdiv n 18 := by rw [IntKind.wrap_i64]; omega
 have hw144 : IntKind.i64.wrap (Int.tdiv n 144) = Int.tdiv n 144 := by rw [IntKind.wrap_i64]; omega
 generalize pik (Int.tdiv n 6) 3 = q at *
 generalize pik (Int.tdiv n 18) 8 = r at *
 generalize pik (Int.tdiv n 144) 3 = s at *
 generalize pik n 6 = p at *
 have hsh := shl_tree p (2 ^ p) rfl (by have : 2 ^ p ≤ 2 ^ 5 := Nat.pow_le_pow_right (by decide) (by omega); omega)
 have hp0 : ¬ (p : Int) < 0 := by omega
 have hshw : IntKind.i64.wrap ((2 : Int) ^ p) = (2 : Int) ^ p := by rw [IntWalk.i64_left, hsh]; exact pow_cast p
 go_enter Tryz.func36, Tryz.ntmps36
 go_upto_region 1 with fail
 try simp only [hb]
 try rw [hw2]
 refine held_s (S := fun w' => Below w.heap.size w w') 17 rfl (by kernel_rfl) (hbl.trans ((Below.refl _ _).drew)) (fun hHeld => ?_)
 simp only [qA0, qB0, qC0, List.nil_append, List.cons_append]
 have hx : Box w2.drew b 79 #[.int .i64 0, .int .i64 0, .int .i64 0, .int .i64 0] := hx.drewN 1
 clear hbl hw2
 generalize w2.drew = w3 at *
 refine tk1 0 3 (.int .i64 n) rfl (Or.inl ⟨by rfl, fun w' hw => by go_simp⟩) hHeld ?_
 try simp only [Act.put, sA0, sB0, sC0]
 refine tk1 3 6 (.int .i64 n) rfl (Or.inl ⟨by rfl, fun w' hw => by go_simp⟩) hHeld ?_
 try simp only [Act.put, sA0, sB0, sC0]
 refine tk1 4 7 (.int .i64 (Int.tdiv n 6)) rfl (Or.inl ⟨by rfl, fun w' hw => by go_simp⟩) hHeld ?_
 try simp only [Act.put, sA0, sB0, sC0]
 refine tk1 7 10 (.int .i64 n) rfl (Or.inl ⟨by rfl, fun w' hw => by go_simp⟩) hHeld ?_
 try simp only [Act.put, sA0, sB0, sC0]
 refine tk1 8 11 (.int .i64 (Int.tdiv n 18)) rfl (Or.inl ⟨by rfl, fun w' hw => by go_simp⟩) hHeld ?_
 try simp only [Act.put, sA0, sB0, sC0]
 refine tk1 11 14 (.int .i64 n) rfl (Or.inl ⟨by rfl, fun w' hw => by go_simp⟩) hHeld ?_
 try simp only [Act.put, sA0, sB0, sC0]
 refine tk1 12 15 (.int .i64 (Int.tdiv n 144)) rfl (Or.inl ⟨by rfl, fun w' hw => by go_simp⟩) hHeld ?_
 try simp only [Act.put, sA0, sB0, sC0]
 refine one_ready 1 rfl (by kernel_rfl) (fun K9 hK => ?_)
 go_simp
 refine (H1.out _).mono ?_
 rintro e w6 ⟨rfl, he⟩
 rw [he]
 clear he w6
 refine hK.out _ _ hHeld (fun hHeld => ?_)
 clear hK K9
 try simp only [sA0, sB0, sC0]
 refine tk1 2 5 (.int .i64 ((2 ^ p : Nat) : Int)) rfl (Or.inl ⟨by rfl, fun w' hw => by (go_simp; first | done | exact hshw)⟩) hHeld ?_
 try simp only [Act.put, sA0, sB0, sC0]
 refine one_ready 5 rfl (by kernel_rfl) (fun K9 hK => ?_)
 go_simp
 refine (H2.out _).mono ?_
 rintro e w6 ⟨rfl, he⟩
 rw [he]
 clear he w6
 refine hK.out _ _ hHeld (fun hHeld => ?_)
 clear hK K9
 try simp only [sA0, sB0, sC0]
 refine tk1 6 9 (.int .i64 ((1 + q : Nat) : Int)) rfl (Or.inl ⟨by rfl, fun w' hw => by (go_simp; rw [IntKind.wrap_i64]; omega)⟩) hHeld ?_
 try simp only [Act.put, sA0, sB0, sC0]
 refine one_ready 9 rfl (by kernel_rfl) (fun K9 hK => ?_)
 go_simp
 refine (H3.out _).mono ?_
 rintro e w6 ⟨rfl, he⟩
 rw [he]
 clear he w6
 refine hK.out _ _ hHeld (fun hHeld => ?_)
 clear hK K9
 try simp only [sA0, sB0, sC0]
 refine tk1 10 13 (.int .i64 ((1 + r : Nat) : Int)) rfl (Or.inl ⟨by rfl, fun w' hw => by (go_simp; rw [IntKind.wrap_i64]; omega)⟩) hHeld ?_
 try simp only [Act.put, sA0, sB0, sC0]
 refine one_ready 13 rfl (by kernel_rfl) (fun K9 hK => ?_)
 go_simp
 refine (H4.out _).mono ?_
 rintro e w6 ⟨rfl, he⟩
 rw [he]
 clear he w6
 refine hK.out _ _ hHeld (fun hHeld => ?_)
 clear hK K9
 try simp only [sA0, sB0, sC0]
 refine tk1 14 17 (.int .i64 ((1 + s : Nat) : Int)) rfl (Or.inl ⟨by rfl, fun w' hw => by (go_simp; rw [IntKind.wrap_i64]; omega)⟩) hHeld ?_
 try simp only [Act.put, sA0, sB0, sC0]
 refine tk1 15 18 (.agg #[.int .i64 ((2 ^ p : Nat) : Int), .int .i64 ((1 + q : Nat) : Int), .int .i64 ((1 + r : Nat) : Int), .int .i64 ((1 + s : Nat) : Int)]) rfl (Or.inl ⟨by rfl, fun w' hw => by go_simp⟩) hHeld ?_
 try simp only [Act.put, sA0, sB0, sC0]
 refine one_ready 16 (o := ⟨none, _, _, _, _, _⟩) rfl (by kernel_rfl) (fun K hK => ?_)
 have c0 := hx.cell 0
 have c1 := hx.cell 1
 have c2 := hx.cell 2
 have c3 := hx.cell 3
 have f0 := hx.frozen 0
 have f1 := hx.frozen 1
 have f2 := hx.frozen 2
 have f3 := hx.frozen 3
 go_simp
 have hz : Box _ b 79 #[.int .i64 ((2 : Int) ^ p), .int .i64 (1 + (q : Int)), .int .i64 (1 + (r : Int)), .int .i64 (1 + (s : Int))] := (((hx.put 0 (.int .i64 ((2 : Int) ^ p))).put 1 (.int .i64 (1 + (q : Int)))).put 2 (.int .i64 (1 + (r : Int)))).put 3 (.int .i64 (1 + (s : Int)))
 have ho : Only (just b) w3 ((((w3.setCell ⟨b, 0, none⟩ (.int .i64 ((2 : Int) ^ p))).setCell ⟨b, 1, none⟩ (.int .i64 (1 + (q : Int)))).setCell ⟨b, 2, none⟩ (.int .i64 (1 + (r : Int)))).setCell ⟨b, 3, none⟩ (.int .i64 (1 + (s : Int)))) := ((((Only.refl (just b) w3).setCell (p := ⟨b, 0, none⟩) (.inl (just_self _)) _).setCell (p := ⟨b, 1, none⟩) (.inl (just_self _)) _).setCell (p := ⟨b, 2, none⟩) (.inl (just_self _)) _).setCell (p := ⟨b, 3, none⟩) (.inl (just_self _)) _
 have hE := below_only hHeld ho hHeld.size (fun i hi e => by have e : i = b := e; omega)
 refine hK.out _ _ hE (fun hHeld => ?_)
 clear hK K c0 c1 c2 c3 f0 f1 f2 f3 ho hHeld
 simp only [sA0, sB0, sC0]
 refine wpAnyH_done (by kernel_rfl) ?_ _
 have HZ := Lib.hid hz
 have HE := Lib.hid hE
 clear hz hE hx
 go_wp2_with fail
 exact bodyPost_ret (v := .agg #[.int .i64 ((2 : Int) ^ p), .int .i64 (1 + (q : Int)), .int .i64 (1 + (r : Int)), .int .i64 (1 + (s : Int))]) (results_one Tryz.results36 rfl (load_box HZ.out Tryz.underlying79 rfl (by kernel_rfl))) rfl ⟨by simp, by have hq := HE.out; rw [hb] at hq; exact hq⟩
end Go.Proofs.YtknnebhjldfkhaaGreat

