import Derived.Test.YtknnebhjldfkhaaGreatG29
import Derived.Test.YtknnebhjldfkhaaGreatG28
namespace Go.Proofs.YtknnebhjldfkhaaGreat
set_option maxRecDepth 100000
open Go.RowKit Go.ChangeShapes Go.WideShapes Go.ChangeAt

theorem new_item (W : World) (t : TypeId) (a b : Value) {k : Nat} (hk : k = W.heap.size) : ∀ j u, [a, b][j]? = some u → (W.alloc (.cells #[a, b] t)).cell? ((⟨k, 0, none⟩ : Addr).add j) = some u := by
 subst hk
 intro j u h
 have hb := Box.new W t #[a, b]
 have := hb.cell j
 rw [add_plain, Nat.zero_add, this]
 simpa using h
structure NuIn (W : World) (bl bf bi lp mp f N S T : Nat) (ov : Bool) (mb : Option Nat) (lf base : Nat) (v : Value) (l : List It) : Prop where
 xl : Box W bl 28 #[.pointer (some ⟨lp, 0, none⟩)]
 xf : Box W bf 3 #[.int .i64 (lf : Int)]
 xp : Box W lp 127 (LvA mp f N S T ov mb)
 xi : Box W bi 196 #[v]
 own : W.ownsRow base 222 2 v l.length (itl l)
 lt : bl < base ∧ bf < base ∧ lp < base ∧ bi < base
 ne : bi ≠ bl ∧ bi ≠ bf ∧ bi ≠ lp
 size : base ≤ W.heap.size
section
variable {W W' : World} {bl bf bi lp mp f N S T : Nat} {ov : Bool} {mb : Option Nat} {lf base : Nat} {v : Value} {l : List It}
theorem NuIn.nob (h : NuIn W bl bf bi lp mp f N S T ov mb lf base v l) (ho : Only nobody W W') : NuIn W' bl bf bi lp mp f N S T ov mb lf base v l :=
 ⟨h.xl.only ho (not_nobody _), h.xf.only ho (not_nobody _), h.xp.only ho (not_nobody _), h.xi.only ho (not_nobody _), row_stay h.own (fun b _ hl => ho.block b hl (not_nobody _)), h.lt, h.ne, Nat.le_trans h.size ho.size⟩
theorem NuIn.far (h : NuIn W bl bf bi lp mp f N S T ov mb lf base v l) {c : Nat} (ho : Only (just c) W W') (hc : base ≤ c) (hv : v.ownBlock ≠ some c) : NuIn W' bl bf bi lp mp f N S T ov mb lf base v l := by
 obtain ⟨h1, h2, h3, h4⟩ := h.lt
 exact ⟨h.xl.only ho (just_ne (by omega)), h.xf.only ho (just_ne (by omega)), h.xp.only ho (just_ne (by omega)), h.xi.only ho (just_ne (by omega)), own_block h.own (fun g hg => ho.block g (own_lt h.own hg).2 (fun e => hv (by rw [hg]; exact congrArg some e))), h.lt, h.ne, Nat.le_trans h.size ho.size⟩
theorem NuIn.next (h : NuIn W bl bf bi lp mp f N S T ov mb lf base v l) {x : It} {A : Option Addr} {cap : Nat} (ho : W'.ownsRow base 222 2 (.slice A (l.length + 1) cap) (l.length + 1) (itl l ++ [.int .u64 x.1, .int .i64 x.2]))
  (hg : Only (fun j => v.ownBlock = some j) W W') :
  NuIn (W'.setCell ⟨bi, 0, none⟩ (.slice A (l.length + 1) cap)) bl bf bi lp mp f N S T ov mb lf base (.slice A (l.length + 1) cap) (l ++ [x]) ∧ Only (fun j => j = bi ∨ v.ownBlock = some j) W (W'.setCell ⟨bi, 0, none⟩ (.slice A (l.length + 1) cap)) := by
 have hb := fun g hg' => own_lt (g := g) h.own hg'
 obtain ⟨h1, h2, h3, h4⟩ := h.lt
 obtain ⟨e1, e2, e3⟩ := h.ne
 have hov : ∀ j, j < base → ¬ v.ownBlock = some j := fun j hj e => by have := (hb j e).1; omega
 have hO : Only (fun j => j = bi ∨ v.ownBlock = some j) W (W'.setCell ⟨bi, 0, none⟩ (.slice A (l.length + 1) cap)) := (hg.mono (fun _ _ k => .inr k)).setCell (p := ⟨bi, 0, none⟩) (.inl (.inl rfl)) _
 refine ⟨⟨h.xl.only hO (fun k => k.elim (fun e => e1 e.symm) (hov _ h1)), h.xf.only hO (fun k => k.elim (fun e => e2 e.symm) (hov _ h2)), h.xp.only hO (fun k => k.elim (fun e => e3 e.symm) (hov _ h3)),
  (h.xi.only hg (hov _ h4)).put 0 _, ?_, h.lt, h.ne, Nat.le_trans h.size hO.size⟩, hO⟩
 rw [List.length_append, itl_snoc]
 exact own_block ho (fun b e => Below.heap_setCell _ ⟨bi, 0, none⟩ _ b (by have := (own_lt ho e).1; show b ≠ bi; omega))
end
theorem depth_q {D N : Nat} (hD : D ≤ 10) (hN : 2 ^ D = N) (w : World) {n : Nat} : Calls Tryz.prog 147 #[.int .i64 (N : Int)] (w.drewN n) fun e w' => e = .returned (.int .i64 (D : Int)) ∧ ∃ m, w' = w.drewN m := by
 have h1 : N ≤ 2 ^ 10 := by rw [← hN]; exact Nat.pow_le_pow_right (by decide) hD
 refine (path_depth (N : Int) _ (by omega) (by omega)).mono fun e w' ⟨he, hw⟩ => ⟨?_, n, hw⟩
 rw [dpt_two hD hN] at he
 exact he
def numZ (D lf i : Nat) (g : Cl) : Cl := setw g 11 (if g 0 = 1 then ((D : Int) - (itemOf (dpW D lf) g).2) * 4294967296 + (itemOf (dpW D lf) g).1 else 4611686018427387904 + (i : Int))
def NumPost (w : World) (bl bf bi lp mp f N S T : Nat) (ov : Bool) (mb : Option Nat) (lf base : Nat) (v : Value) (l : List It) (D i : Nat) (g : Cl) (e : Ending) (w' : World) : Prop :=
 e = .returned (.agg (CA (numZ D lf i g))) ∧ Only (fun j => j = bi ∨ v.ownBlock = some j) w w' ∧ ∃ v', NuIn w' bl bf bi lp mp f N S T ov mb lf base v' (l ++ [itemOf (dpW D lf) g]) ∧ ∀ b, v'.ownBlock = some b → v.ownBlock = some b ∨ w.heap.size ≤ b
set_option maxRecDepth 100000 in
set_option maxHeartbeats 4000000 in
theorem num_clo {N S T D L n Q P : Nat} (h : Conf N S T D L n Q P) (bl bf bi lp mp f : Nat) (ov : Bool) (mb : Option Nat) (lf base : Nat) (v : Value) (l : List It) (i : Nat) (g : Nat → Int) (w : World) (hlf : lf < N) (hi : i < Q) (hg : GoodC N g) (hll : l.length ≤ 256)
  (hP : NuIn w bl bf bi lp mp f N S T ov mb lf base v l) :
  Calls Tryz.prog 160 #[.int .i64 (i : Int), .agg (CA g), .pointer (some ⟨bl, 0, none⟩), .pointer (some ⟨bf, 0, none⟩), .pointer (some ⟨bi, 0, none⟩)] w (NumPost w bl bf bi lp mp f N S T ov mb lf base v l D i g) := by
 have HIt := Lib.hid (fun W => item_any h lf g W hlf hg)
 have HH := Lib.hid (fun z W => has_any (setw g 11 z) W)
 have hQ := h.big.2.2.2
 obtain ⟨⟨x1, x2⟩, hx⟩ : ∃ x, itemOf (dpW D lf) g = x := ⟨_, rfl⟩
 rw [hx] at HIt
 simp only [itA] at HIt
 have HX := Lib.hid hx
 obtain ⟨cb, hcb⟩ : ∃ b, w.heap.size = b := ⟨_, rfl⟩
 obtain ⟨w2, hw2⟩ : ∃ x, (w.alloc (.cells (CA g) 64)).alloc (.cells #[.int .u64 0, .int .u64 0, .int .u64 0, .int .u64 0, .int .u64 0, .int .u64 0, .int .u64 0, .int .u64 0, .int .u64 0, .int .u64 0, .int .u64 0, .int .u64 0] 64) = x := ⟨_, rfl⟩
 have hV2 : Var w2 cb g := by rw [← hw2, ← hcb]; exact (Var.new w g 64).alloc _
 have hR2 : Var w2 (cb + 1) (fun _ => 0) := by
  rw [← hw2, ← hcb]
  have := Var.new (w.alloc (.cells (CA g) 64)) (fun _ => 0) 64
  have e : (w.alloc (.cells (CA g) 64)).heap.size = w.heap.size + 1 := by simp
  rw [e] at this
  exact this
 have ho2 : Only nobody w w2 := by rw [← hw2]; exact ((Only.refl nobody w).alloc _).alloc _
 have hP2 := hP.nob ho2
 have hlo : base ≤ cb := by rw [← hcb]; exact hP.size
 have hvb : ∀ b, v.ownBlock = some b → b < cb := fun b e => by rw [← hcb]; exact (own_lt hP.own e).2
 have HV2 := Lib.hid hV2
 have HR2 := Lib.hid hR2
 have HO2 := Lib.hid ho2
 have HP2 := Lib.hid hP2
 have HW2 := Lib.hid hw2
 have HCb := Lib.hid hcb
 have HG := Lib.hid hg
 have HVb := Lib.hid hvb
 have hD := h.hD
 have HC := Lib.hid h
 clear hV2 hR2 ho2 hP2 hw2 hcb hP hg hx hvb h
 go_enter Tryz.func160, Tryz.ntmps160
 go_upto_region 1 with fail
 rw [HCb.out]
 simp only [HW2.out]
 refine held_s (S := fun w' => NuIn w' bl bf bi lp mp f N S T ov mb lf base v l ∧ Var w' cb g) 10 rfl (by kernel_rfl) ⟨HP2.out.nob ((Only.refl nobody w2).drewN 1), HV2.out.drew⟩ (fun hHeld => ?_)
 simp only [qA0, qB0, qC0, List.nil_append, List.cons_append]
 have hV3 : Var w2.drew cb g := HV2.out.drew
 have hR3 : Var w2.drew (cb + 1) (fun _ => 0) := HR2.out.drew
 have hP3 := HP2.out.nob ((Only.refl nobody w2).drewN 1)
 have hO3 : Only nobody w w2.drew := HO2.out.drew
 clear HV2 HR2 HP2 HO2
 change NuIn w2.drew bl bf bi lp mp f N S T ov mb lf base v l at hP3
 generalize w2.drew = w3 at *
 refine tk1 0 10 (.pointer (some ⟨lp, 0, none⟩)) rfl (Or.inl ⟨by rfl, fun w' hw => by (have k0 := hw.1.xl.cell 0; have k1 := hw.1.xf.cell 0; have k2 := lv2 hw.1.xp; have k3 := lv3 hw.1.xp; have k4 := lv4 hw.1.xp; go_simp)⟩) hHeld ?_
 try simp only [Act.put, sA0, sB0, sC0]
 refine tk1 1 11 (.pointer (some ⟨lp, 0, none⟩)) rfl (Or.inl ⟨by rfl, fun w' hw => by go_simp⟩) hHeld ?_
 try simp only [Act.put, sA0, sB0, sC0]
 refine tk1 2 12 (.pointer (some ⟨lp, 1, none⟩)) rfl (Or.inl ⟨by rfl, fun w' hw => by go_simp⟩) hHeld ?_
 try simp only [Act.put, sA0, sB0, sC0]
 refine tk1 3 13 (.pointer (some ⟨lp, 2, none⟩)) rfl (Or.inl ⟨by rfl, fun w' hw => by go_simp⟩) hHeld ?_
 try simp only [Act.put, sA0, sB0, sC0]
 refine tk1 4 14 (.agg #[.int .i64 (N : Int), .int .i64 (S : Int), .int .i64 (T : Int)]) rfl (Or.inl ⟨by rfl, fun w' hw => by (have k0 := hw.1.xl.cell 0; have k1 := hw.1.xf.cell 0; have k2 := lv2 hw.1.xp; have k3 := lv3 hw.1.xp; have k4 := lv4 hw.1.xp; go_simp)⟩) hHeld ?_
 try simp only [Act.put, sA0, sB0, sC0]
 refine tk1 6 16 (.int .i64 (lf : Int)) rfl (Or.inl ⟨by rfl, fun w' hw => by (have k0 := hw.1.xl.cell 0; have k1 := hw.1.xf.cell 0; have k2 := lv2 hw.1.xp; have k3 := lv3 hw.1.xp; have k4 := lv4 hw.1.xp; go_simp)⟩) hHeld ?_
 try simp only [Act.put, sA0, sB0, sC0]
 -- LEFT [5, 7, 8, 9]
 refine take_row 5 (oi := ⟨some 15, _, _, _, _, _⟩) (CA g).toList rfl (by kernel_rfl) (by kernel_rfl) (by kernel_rfl) (fun _ _ _ h => h) (by rfl) _ _ rfl _ _ rfl _ (fun w' hw => hw.2.rng) Tryz.underlying64 rfl (infoCellL g) hHeld ?_
 try simp only [Act.put, sA0, sB0, sC0]
 refine wpAnyH_ready (rs := [7, 8]) (by kernel_rfl) (by simp) ?_
 refine AllReadyH.cons rfl (fun K hK => ?_) ?_
 ·go_simp
  refine (HIt.out _).mono ?_
  rintro e w4 ⟨rfl, ho⟩
  have hV4 := hV3.nob ho
  have hR4 := hR3.nob ho
  have hP4 := hP3.nob ho
  have hO4 := hO3.trans ho
  refine hK.out _ _ ⟨hP4, hV4⟩ (fun hHeld => ?_)
  clear hK K ho
  simp only [sA0, sB0, sC0]
  refine one_ready 8 rfl (by kernel_rfl) (fun K hK => ?_)
  go_simp
  obtain ⟨ib, hib⟩ : ∃ c, w4.heap.size = c := ⟨_, rfl⟩
  obtain ⟨w5, hw5⟩ : ∃ x, w4.alloc (.cells #[.int .u64 0, .int .i64 0] 222) = x := ⟨_, rfl⟩
  have ho : Only nobody w4 w5 := by rw [← hw5]; exact (Only.refl nobody _).alloc _
  have hI5 : Box w5 ib 222 #[.int .u64 0, .int .i64 0] := by rw [← hw5, ← hib]; exact Box.new w4 _ _
  have hil : cb + 1 < ib := by rw [← hib]; exact hR4.lt
  have hV5 := hV4.nob ho
  have hR5 := hR4.nob ho
  have hP5 := hP4.nob ho
  have hO5 := hO4.trans ho
  refine hK.out _ _ (by rw [hw5]; exact ⟨hP5, hV5⟩) (fun hHeld => ?_)
  change wpAnyH _ _ _ _ _ _ _ _ (w4.alloc (.cells #[.int .u64 0, .int .i64 0] 222))
  rw [hw5] at hHeld ⊢
  simp only [hib]
  clear hK K hw5 ho
  simp only [sA0, sB0, sC0]
  refine one_ready 9 (o := ⟨none, _, _, _, _, _⟩) rfl (by kernel_rfl) (fun K hK => ?_)
  have q0 := hI5.cell 0
  have q1 := hI5.cell 1
  have q2 := hI5.frozen 0
  have q3 := hI5.frozen 1
  go_simp
  obtain ⟨w7, hw7⟩ : ∃ x, (w5.setCell ⟨ib, 0, none⟩ (.int .u64 x1)).setCell ⟨ib, 1, none⟩ (.int .i64 x2) = x := ⟨_, rfl⟩
  have ho : Only (just ib) w5 w7 := by rw [← hw7]; exact ((Only.refl _ _).setCell (p := ⟨ib, 0, none⟩) (.inl (just_self _)) _).setCell (p := ⟨ib, 1, none⟩) (.inl (just_self _)) _
  have hibw : w.heap.size ≤ ib := by have := HCb.out; omega
  have hO7 : Only nobody w w7 := by rw [← hw7]; exact (hO5.setCell (p := ⟨ib, 0, none⟩) (.inr hibw) _).setCell (p := ⟨ib, 1, none⟩) (.inr hibw) _
  have hI7 : Box w7 ib 222 #[.int .u64 x1, .int .i64 x2] := by rw [← hw7]; exact (hI5.put 0 _).put 1 _
  have hV7 := hV5.only ho (just_ne (by omega))
  have hR7 := hR5.only ho (just_ne (by omega))
  have hP7 := hP5.far ho (by omega) (fun e => by have := HVb.out _ e; omega)
  rw [hw7]
  refine hK.out _ _ ⟨hP7, hV7⟩ (fun hHeld => ?_)
  clear hK K q0 q1 q2 q3 ho hHeld hw7
  simp only [sA0, sB0, sC0]
  refine wpAnyH_done (by kernel_rfl) ?_ _
  have HV7 := Lib.hid hV7
  have HR7 := Lib.hid hR7
  have HP7 := Lib.hid hP7
  have HO7 := Lib.hid hO7
  have HI7 := Lib.hid hI7
  have i0 := hI7.cell 0
  have i1 := hI7.cell 1
  have b0 := hP7.xi.cell 0
  clear hV7 hR7 hP7 hO7 hI7
  go_wp2_with (with_reducible refine wpList_append_where _ rfl (.tmp 18) (.tmp 20) 196 rfl base 222 (.agg #[.int .u64 0, .int .i64 0]) 2 16 Tryz.underlying196 infoItem rfl (by decide) v l.length (itl l) rfl (row_stay HP7.out.own (fun b _ hb => Below.heap_alloc _ _ b hb)) ⟨w7.heap.size, 0, none⟩ 1 1 [.int .u64 x1, .int .i64 x2] rfl rfl ?c0 ?c1 ?c2 ?c3 ?c4 ?_)
  case c0 => exact new_item w7 _ _ _ rfl
  case c1 => simp [Value.oneCell']
  case c2 => simp only [maxLen]; omega
  case c3 => omega
  case c4 => have := HP7.out.size; simp; omega
  intro A2 cap2 w8 hown hgr hwh
  have hgo : Only (fun j => v.ownBlock = some j) w7 w8 := ((Only.refl _ w7).alloc _).grown hgr (fun k e => .inl e)
  have HN := Lib.hid (HP7.out.next (x := (x1, x2)) hown hgo)
  have hwx : ∀ b, (Value.slice A2 (l.length + 1) cap2).ownBlock = some b → v.ownBlock = some b ∨ cb + 1 < b := fun b e => by
   rcases hwh with hh | hh
   ·exact .inl (hh ▸ e)
   ·rw [e] at hh
    injection hh with hh
    subst hh
    refine .inr ?_
    have := HI7.out.lt
    simp
    omega
  have HWx := Lib.hid hwx
  have hbx : ¬ v.ownBlock = some bi := fun e => by have := (own_lt HP7.out.own e).1; have := HP7.out.lt.2.2.2; omega
  have q0 := (HP7.out.xi.only hgo hbx).cell 0
  have q1 := (HP7.out.xi.only hgo hbx).frozen 0
  clear hown hgr hwh hwx hgo i0 i1 b0
  go_upto_region 3 with fail
  clear q0 q1
  generalize w8.setCell ⟨bi, 0, none⟩ (.slice A2 (l.length + 1) cap2) = w9 at *
  have hbc : bi < cb := Nat.lt_of_lt_of_le HP7.out.lt.2.2.2 hlo
  have hnv : ∀ b, cb ≤ b → ¬ (b = bi ∨ v.ownBlock = some b) := fun b hb e => by
   rcases e with e | e
   ·omega
   ·have := HVb.out _ e; omega
  have HV9 := Lib.hid (HV7.out.only HN.out.2 (hnv _ (Nat.le_refl _)))
  have HR9 := Lib.hid (HR7.out.only HN.out.2 (hnv _ (by omega)))
  have HI9 := Lib.hid (HI7.out.only HN.out.2 (hnv _ (by omega)))
  have HN9 := Lib.hid HN.out.1
  have HO9 : Hid (Only (fun j => j = bi ∨ v.ownBlock = some j) w w9) := Lib.hid ((HO7.out.mono (fun _ _ h => absurd h (not_nobody _))).trans HN.out.2)
  clear HN HV7 HR7 HP7 HO7 HI7 hbx hnv
  generalize hA2 : (Value.slice A2 (l.length + 1) cap2) = v2 at *
  have hwi : IntKind.u64.wrap (i : Int) = (i : Int) := by rw [IntKind.wrap_u64]; omega
  have hwa : IntKind.u64.wrap (4611686018427387904 + (i : Int)) = 4611686018427387904 + (i : Int) := by rw [IntKind.wrap_u64]; omega
  have c11 := HV9.out.cell (κ := 11) (by decide)
  have f11 := HV9.out.free 11 (by decide)
  have ho : Only (just cb) w9 (w9.setCell ⟨cb, 11, none⟩ (.int .u64 (4611686018427387904 + (i : Int)))) := (Only.refl _ w9).setCell (p := ⟨cb, 11, none⟩) (.inl (just_self _)) _
  have HVa := Lib.hid (HV9.out.put 11 (4611686018427387904 + (i : Int)))
  have HRa := Lib.hid (HR9.out.only ho (just_ne (by omega)))
  have HIa := Lib.hid (HI9.out.only ho (just_ne (by omega)))
  have hv2 : v2.ownBlock ≠ some cb ∧ v2.ownBlock ≠ some (cb + 1) := ⟨fun e => by
   rcases HWx.out _ e with h | h
   ·have := HVb.out _ h; omega
   ·omega, fun e => by
   rcases HWx.out _ e with h | h
   ·have := HVb.out _ h; omega
   ·omega⟩
  have HNa := Lib.hid (HN9.out.far ho hlo hv2.1)
  have HOa := Lib.hid (HO9.out.setCell (p := ⟨cb, 11, none⟩) (.inr (Nat.le_of_eq HCb.out)) (.int .u64 (4611686018427387904 + (i : Int))))
  clear ho HV9 HR9 HI9 HN9 HO9
  go_upto_region 4 with fail
  clear c11 f11
  generalize w9.setCell ⟨cb, 11, none⟩ (.int .u64 (4611686018427387904 + (i : Int))) = wa at *
  go_wp2_with (with_reducible refine wpList_load_cell rfl (.tmp 6) rfl cb 0 rfl (setw g 11 (4611686018427387904 + (i : Int))) HVa.out.rng ?_)
  refine (HH.out _ _).mono ?_
  rintro e wb ⟨rfl, hbb⟩
  have ho : Only nobody wa wb := Only.of_below hbb
  have HVc := Lib.hid (HVa.out.nob ho)
  have HRc := Lib.hid (HRa.out.only ho (not_nobody _))
  have HIc := Lib.hid (HIa.out.only ho (not_nobody _))
  have HNc := Lib.hid (HNa.out.nob ho)
  have HOc := Lib.hid (HOa.out.trans (ho.mono (fun _ _ h => absurd h (not_nobody _))))
  clear ho hbb HVa HRa HIa HNa HOa
  rw [setw_far g 11 _ 0 (by decide)]
  by_cases h0 : g 0 = 1
  ·have e0 : (g 0 == 1) = true := by rw [beq_iff_eq]; exact h0
   obtain ⟨q, hq, hx1, hx2⟩ : ∃ q : Nat, q ≤ D ∧ x1 = g 1 ∧ x2 = (q : Int) := by
    have hx := HX.out
    unfold itemOf at hx
    rw [if_pos h0] at hx
    injection hx with h1 h2
    exact ⟨_, deep_le _ _ _ _, h1.symm, h2.symm⟩
   have hb1 := (HG.out.2 h0).1
   have hb2 := (HG.out.1 1)
   rw [e0]
   have k0 := HNc.out.xl.cell 0
   have k2 := lv2 HNc.out.xp
   have i0 := HIc.out.cell 0
   have i1 := HIc.out.cell 1
   have c11 := HVc.out.cell (κ := 11) (by decide)
   have f11 := HVc.out.free 11 (by decide)
   subst hx2
   go_upto_region 5 with fail
   go_quiet (first | (go_at_call 147; exact depth_q HC.out.hD HC.out.hN _))
   go_upto_region 7 with fail
   generalize hK : ((D : Int) - (q : Int)) * 4294967296 + g 1 = key at *
   obtain ⟨wd, hwd⟩ : ∃ x, (wb.drewN nq).setCell ⟨cb, 11, none⟩ (.int .u64 key) = x := ⟨_, rfl⟩
   have ho : Only (just cb) wb wd := by rw [← hwd]; exact ((Only.refl _ wb).drewN _).setCell (p := ⟨cb, 11, none⟩) (.inl (just_self _)) _
   have HVd : Hid (Var wd cb (setw g 11 key)) := by
    have := (HVc.out.drewN nq).put 11 key
    rw [setw_two, hwd] at this
    exact this
   have HRd := Lib.hid (HRc.out.only ho (just_ne (by omega)))
   have HNd := Lib.hid (HNc.out.far ho hlo hv2.1)
   have HOd := Lib.hid (HOc.out.then ho (fun j hj => .inr (by have := HCb.out; have : j = cb := hj; omega)))
   clear ho
   rw [hwd]
   clear hwd
   have HE : Hid (NumPost w bl bf bi lp mp f N S T ov mb lf base v l D i g (.returned (.agg (CA (setw g 11 key)))) (wd.setCells (cb + 1) 0 (CA (setw g 11 key)).toList)) := by
    refine ⟨?_, only_setCells _ 0 _ HOd.out (.inr (by have := HCb.out; omega)), v2, ?_, fun b e => (HWx.out b e).imp id (fun h => by have := HCb.out; omega)⟩
    ·unfold numZ
     rw [HX.out, if_pos h0, ← hK, hx1]
    ·rw [HX.out]
     exact HNd.out.far (only_setCells _ 0 _ (Only.refl _ _) (.inl (just_self (cb + 1)))) (by omega) hv2.2
   go_wp2_with (first | with_reducible refine wpList_load_cell rfl (.tmp 6) rfl cb 0 rfl (setw g 11 key) HVd.out.rng ?_ | with_reducible refine wpList_store_cell rfl (.tmp 7) (.tmp 45) rfl (cb + 1) 0 rfl (setw g 11 key) rfl HRd.out.there ?_)
   exact bodyPost_ret (v := .agg (CA (setw g 11 key))) (results_one Tryz.results160 rfl (HRd.out.set _).load) rfl HE.out
  ·have e0 : (g 0 == 1) = false := by rw [beq_eq_false_iff_ne]; exact h0
   rw [e0]
   have HVd := HVc
   have HRd := HRc
   have HNd := HNc
   have HOd := HOc
   obtain ⟨key, hK⟩ : ∃ z : Int, 4611686018427387904 + (i : Int) = z := ⟨_, rfl⟩
   rw [hK] at HVd ⊢
   generalize wb = wd at *
   have HE : Hid (NumPost w bl bf bi lp mp f N S T ov mb lf base v l D i g (.returned (.agg (CA (setw g 11 key)))) (wd.setCells (cb + 1) 0 (CA (setw g 11 key)).toList)) := by
    refine ⟨?_, only_setCells _ 0 _ HOd.out (.inr (by have := HCb.out; omega)), v2, ?_, fun b e => (HWx.out b e).imp id (fun h => by have := HCb.out; omega)⟩
    ·unfold numZ
     rw [HX.out, if_neg h0, ← hK]
    ·rw [HX.out]
     exact HNd.out.far (only_setCells _ 0 _ (Only.refl _ _) (.inl (just_self (cb + 1)))) (by omega) hv2.2
   go_wp2_with (first | with_reducible refine wpList_load_cell rfl (.tmp 6) rfl cb 0 rfl (setw g 11 key) HVd.out.rng ?_ | with_reducible refine wpList_store_cell rfl (.tmp 7) (.tmp 45) rfl (cb + 1) 0 rfl (setw g 11 key) rfl HRd.out.there ?_)
   exact bodyPost_ret (v := .agg (CA (setw g 11 key))) (results_one Tryz.results160 rfl (HRd.out.set _).load) rfl HE.out
 ·refine AllReadyH.cons rfl (fun K hK => ?_) AllReadyH.nil
  go_simp
  obtain ⟨ib, hib⟩ : ∃ c, w3.heap.size = c := ⟨_, rfl⟩
  obtain ⟨w4, hw4⟩ : ∃ x, w3.alloc (.cells #[.int .u64 0, .int .i64 0] 222) = x := ⟨_, rfl⟩
  have ho : Only nobody w3 w4 := by rw [← hw4]; exact (Only.refl nobody _).alloc _
  have hI4 : Box w4 ib 222 #[.int .u64 0, .int .i64 0] := by rw [← hw4, ← hib]; exact Box.new w3 _ _
  have hil : cb + 1 < ib := by rw [← hib]; exact hR3.lt
  have hV4 := hV3.nob ho
  have hR4 := hR3.nob ho
  have hP4 := hP3.nob ho
  have hO4 := hO3.trans ho
  refine hK.out _ _ (by rw [hw4]; exact ⟨hP4, hV4⟩) (fun hHeld => ?_)
  change wpAnyH _ _ _ _ _ _ _ _ (w3.alloc (.cells #[.int .u64 0, .int .i64 0] 222))
  rw [hw4] at hHeld ⊢
  simp only [hib]
  clear hK K hw4 ho
  simp only [sA0, sB0, sC0]
  refine one_ready 7 rfl (by kernel_rfl) (fun K hK => ?_)
  go_simp
  refine (HIt.out _).mono ?_
  rintro e w5 ⟨rfl, ho⟩
  have hV5 := hV4.nob ho
  have hR5 := hR4.nob ho
  have hP5 := hP4.nob ho
  have hO5 := hO4.trans ho
  have hI5 := hI4.only ho (not_nobody _)
  refine hK.out _ _ ⟨hP5, hV5⟩ (fun hHeld => ?_)
  clear hK K ho
  simp only [sA0, sB0, sC0]
  refine one_ready 9 (o := ⟨none, _, _, _, _, _⟩) rfl (by kernel_rfl) (fun K hK => ?_)
  have q0 := hI5.cell 0
  have q1 := hI5.cell 1
  have q2 := hI5.frozen 0
  have q3 := hI5.frozen 1
  go_simp
  obtain ⟨w7, hw7⟩ : ∃ x, (w5.setCell ⟨ib, 0, none⟩ (.int .u64 x1)).setCell ⟨ib, 1, none⟩ (.int .i64 x2) = x := ⟨_, rfl⟩
  have ho : Only (just ib) w5 w7 := by rw [← hw7]; exact ((Only.refl _ _).setCell (p := ⟨ib, 0, none⟩) (.inl (just_self _)) _).setCell (p := ⟨ib, 1, none⟩) (.inl (just_self _)) _
  have hibw : w.heap.size ≤ ib := by have := HCb.out; omega
  have hO7 : Only nobody w w7 := by rw [← hw7]; exact (hO5.setCell (p := ⟨ib, 0, none⟩) (.inr hibw) _).setCell (p := ⟨ib, 1, none⟩) (.inr hibw) _
  have hI7 : Box w7 ib 222 #[.int .u64 x1, .int .i64 x2] := by rw [← hw7]; exact (hI5.put 0 _).put 1 _
  have hV7 := hV5.only ho (just_ne (by omega))
  have hR7 := hR5.only ho (just_ne (by omega))
  have hP7 := hP5.far ho (by omega) (fun e => by have := HVb.out _ e; omega)
  rw [hw7]
  refine hK.out _ _ ⟨hP7, hV7⟩ (fun hHeld => ?_)
  clear hK K q0 q1 q2 q3 ho hHeld hw7
  simp only [sA0, sB0, sC0]
  refine wpAnyH_done (by kernel_rfl) ?_ _
  have HV7 := Lib.hid hV7
  have HR7 := Lib.hid hR7
  have HP7 := Lib.hid hP7
  have HO7 := Lib.hid hO7
  have HI7 := Lib.hid hI7
  have i0 := hI7.cell 0
  have i1 := hI7.cell 1
  have b0 := hP7.xi.cell 0
  clear hV7 hR7 hP7 hO7 hI7
  go_wp2_with (with_reducible refine wpList_append_where _ rfl (.tmp 18) (.tmp 20) 196 rfl base 222 (.agg #[.int .u64 0, .int .i64 0]) 2 16 Tryz.underlying196 infoItem rfl (by decide) v l.length (itl l) rfl (row_stay HP7.out.own (fun b _ hb => Below.heap_alloc _ _ b hb)) ⟨w7.heap.size, 0, none⟩ 1 1 [.int .u64 x1, .int .i64 x2] rfl rfl ?c0 ?c1 ?c2 ?c3 ?c4 ?_)
  case c0 => exact new_item w7 _ _ _ rfl
  case c1 => simp [Value.oneCell']
  case c2 => simp only [maxLen]; omega
  case c3 => omega
  case c4 => have := HP7.out.size; simp; omega
  intro A2 cap2 w8 hown hgr hwh
  have hgo : Only (fun j => v.ownBlock = some j) w7 w8 := ((Only.refl _ w7).alloc _).grown hgr (fun k e => .inl e)
  have HN := Lib.hid (HP7.out.next (x := (x1, x2)) hown hgo)
  have hwx : ∀ b, (Value.slice A2 (l.length + 1) cap2).ownBlock = some b → v.ownBlock = some b ∨ cb + 1 < b := fun b e => by
   rcases hwh with hh | hh
   ·exact .inl (hh ▸ e)
   ·rw [e] at hh
    injection hh with hh
    subst hh
    refine .inr ?_
    have := HI7.out.lt
    simp
    omega
  have HWx := Lib.hid hwx
  have hbx : ¬ v.ownBlock = some bi := fun e => by have := (own_lt HP7.out.own e).1; have := HP7.out.lt.2.2.2; omega
  have q0 := (HP7.out.xi.only hgo hbx).cell 0
  have q1 := (HP7.out.xi.only hgo hbx).frozen 0
  clear hown hgr hwh hwx hgo i0 i1 b0
  go_upto_region 3 with fail
  clear q0 q1
  generalize w8.setCell ⟨bi, 0, none⟩ (.slice A2 (l.length + 1) cap2) = w9 at *
  have hbc : bi < cb := Nat.lt_of_lt_of_le HP7.out.lt.2.2.2 hlo
  have hnv : ∀ b, cb ≤ b → ¬ (b = bi ∨ v.ownBlock = some b) := fun b hb e => by
   rcases e with e | e
   ·omega
   ·have := HVb.out _ e; omega
  have HV9 := Lib.hid (HV7.out.only HN.out.2 (hnv _ (Nat.le_refl _)))
  have HR9 := Lib.hid (HR7.out.only HN.out.2 (hnv _ (by omega)))
  have HI9 := Lib.hid (HI7.out.only HN.out.2 (hnv _ (by omega)))
  have HN9 := Lib.hid HN.out.1
  have HO9 : Hid (Only (fun j => j = bi ∨ v.ownBlock = some j) w w9) := Lib.hid ((HO7.out.mono (fun _ _ h => absurd h (not_nobody _))).trans HN.out.2)
  clear HN HV7 HR7 HP7 HO7 HI7 hbx hnv
  generalize hA2 : (Value.slice A2 (l.length + 1) cap2) = v2 at *
  have hwi : IntKind.u64.wrap (i : Int) = (i : Int) := by rw [IntKind.wrap_u64]; omega
  have hwa : IntKind.u64.wrap (4611686018427387904 + (i : Int)) = 4611686018427387904 + (i : Int) := by rw [IntKind.wrap_u64]; omega
  have c11 := HV9.out.cell (κ := 11) (by decide)
  have f11 := HV9.out.free 11 (by decide)
  have ho : Only (just cb) w9 (w9.setCell ⟨cb, 11, none⟩ (.int .u64 (4611686018427387904 + (i : Int)))) := (Only.refl _ w9).setCell (p := ⟨cb, 11, none⟩) (.inl (just_self _)) _
  have HVa := Lib.hid (HV9.out.put 11 (4611686018427387904 + (i : Int)))
  have HRa := Lib.hid (HR9.out.only ho (just_ne (by omega)))
  have HIa := Lib.hid (HI9.out.only ho (just_ne (by omega)))
  have hv2 : v2.ownBlock ≠ some cb ∧ v2.ownBlock ≠ some (cb + 1) := ⟨fun e => by
   rcases HWx.out _ e with h | h
   ·have := HVb.out _ h; omega
   ·omega, fun e => by
   rcases HWx.out _ e with h | h
   ·have := HVb.out _ h; omega
   ·omega⟩
  have HNa := Lib.hid (HN9.out.far ho hlo hv2.1)
  have HOa := Lib.hid (HO9.out.setCell (p := ⟨cb, 11, none⟩) (.inr (Nat.le_of_eq HCb.out)) (.int .u64 (4611686018427387904 + (i : Int))))
  clear ho HV9 HR9 HI9 HN9 HO9
  go_upto_region 4 with fail
  clear c11 f11
  generalize w9.setCell ⟨cb, 11, none⟩ (.int .u64 (4611686018427387904 + (i : Int))) = wa at *
  go_wp2_with (with_reducible refine wpList_load_cell rfl (.tmp 6) rfl cb 0 rfl (setw g 11 (4611686018427387904 + (i : Int))) HVa.out.rng ?_)
  refine (HH.out _ _).mono ?_
  rintro e wb ⟨rfl, hbb⟩
  have ho : Only nobody wa wb := Only.of_below hbb
  have HVc := Lib.hid (HVa.out.nob ho)
  have HRc := Lib.hid (HRa.out.only ho (not_nobody _))
  have HIc := Lib.hid (HIa.out.only ho (not_nobody _))
  have HNc := Lib.hid (HNa.out.nob ho)
  have HOc := Lib.hid (HOa.out.trans (ho.mono (fun _ _ h => absurd h (not_nobody _))))
  clear ho hbb HVa HRa HIa HNa HOa
  rw [setw_far g 11 _ 0 (by decide)]
  by_cases h0 : g 0 = 1
  ·have e0 : (g 0 == 1) = true := by rw [beq_iff_eq]; exact h0
   obtain ⟨q, hq, hx1, hx2⟩ : ∃ q : Nat, q ≤ D ∧ x1 = g 1 ∧ x2 = (q : Int) := by
    have hx := HX.out
    unfold itemOf at hx
    rw [if_pos h0] at hx
    injection hx with h1 h2
    exact ⟨_, deep_le _ _ _ _, h1.symm, h2.symm⟩
   have hb1 := (HG.out.2 h0).1
   have hb2 := (HG.out.1 1)
   rw [e0]
   have k0 := HNc.out.xl.cell 0
   have k2 := lv2 HNc.out.xp
   have i0 := HIc.out.cell 0
   have i1 := HIc.out.cell 1
   have c11 := HVc.out.cell (κ := 11) (by decide)
   have f11 := HVc.out.free 11 (by decide)
   subst hx2
   go_upto_region 5 with fail
   go_quiet (first | (go_at_call 147; exact depth_q HC.out.hD HC.out.hN _))
   go_upto_region 7 with fail
   generalize hK : ((D : Int) - (q : Int)) * 4294967296 + g 1 = key at *
   obtain ⟨wd, hwd⟩ : ∃ x, (wb.drewN nq).setCell ⟨cb, 11, none⟩ (.int .u64 key) = x := ⟨_, rfl⟩
   have ho : Only (just cb) wb wd := by rw [← hwd]; exact ((Only.refl _ wb).drewN _).setCell (p := ⟨cb, 11, none⟩) (.inl (just_self _)) _
   have HVd : Hid (Var wd cb (setw g 11 key)) := by
    have := (HVc.out.drewN nq).put 11 key
    rw [setw_two, hwd] at this
    exact this
   have HRd := Lib.hid (HRc.out.only ho (just_ne (by omega)))
   have HNd := Lib.hid (HNc.out.far ho hlo hv2.1)
   have HOd := Lib.hid (HOc.out.then ho (fun j hj => .inr (by have := HCb.out; have : j = cb := hj; omega)))
   clear ho
   rw [hwd]
   clear hwd
   have HE : Hid (NumPost w bl bf bi lp mp f N S T ov mb lf base v l D i g (.returned (.agg (CA (setw g 11 key)))) (wd.setCells (cb + 1) 0 (CA (setw g 11 key)).toList)) := by
    refine ⟨?_, only_setCells _ 0 _ HOd.out (.inr (by have := HCb.out; omega)), v2, ?_, fun b e => (HWx.out b e).imp id (fun h => by have := HCb.out; omega)⟩
    ·unfold numZ
     rw [HX.out, if_pos h0, ← hK, hx1]
    ·rw [HX.out]
     exact HNd.out.far (only_setCells _ 0 _ (Only.refl _ _) (.inl (just_self (cb + 1)))) (by omega) hv2.2
   go_wp2_with (first | with_reducible refine wpList_load_cell rfl (.tmp 6) rfl cb 0 rfl (setw g 11 key) HVd.out.rng ?_ | with_reducible refine wpList_store_cell rfl (.tmp 7) (.tmp 45) rfl (cb + 1) 0 rfl (setw g 11 key) rfl HRd.out.there ?_)
   exact bodyPost_ret (v := .agg (CA (setw g 11 key))) (results_one Tryz.results160 rfl (HRd.out.set _).load) rfl HE.out
  ·have e0 : (g 0 == 1) = false := by rw [beq_eq_false_iff_ne]; exact h0
   rw [e0]
   have HVd := HVc
   have HRd := HRc
   have HNd := HNc
   have HOd := HOc
   obtain ⟨key, hK⟩ : ∃ z : Int, 4611686018427387904 + (i : Int) = z := ⟨_, rfl⟩
   rw [hK] at HVd ⊢
   generalize wb = wd at *
   have HE : Hid (NumPost w bl bf bi lp mp f N S T ov mb lf base v l D i g (.returned (.agg (CA (setw g 11 key)))) (wd.setCells (cb + 1) 0 (CA (setw g 11 key)).toList)) := by
    refine ⟨?_, only_setCells _ 0 _ HOd.out (.inr (by have := HCb.out; omega)), v2, ?_, fun b e => (HWx.out b e).imp id (fun h => by have := HCb.out; omega)⟩
    ·unfold numZ
     rw [HX.out, if_neg h0, ← hK]
    ·rw [HX.out]
     exact HNd.out.far (only_setCells _ 0 _ (Only.refl _ _) (.inl (just_self (cb + 1)))) (by omega) hv2.2
   go_wp2_with (first | with_reducible refine wpList_load_cell rfl (.tmp 6) rfl cb 0 rfl (setw g 11 key) HVd.out.rng ?_ | with_reducible refine wpList_store_cell rfl (.tmp 7) (.tmp 45) rfl (cb + 1) 0 rfl (setw g 11 key) rfl HRd.out.there ?_)
   exact bodyPost_ret (v := .agg (CA (setw g 11 key))) (results_one Tryz.results160 rfl (HRd.out.set _).load) rfl HE.out
end Go.Proofs.YtknnebhjldfkhaaGreat


namespace Go.Proofs.YtknnebhjldfkhaaGreat
set_option maxRecDepth 100000
open Go.RowKit Go.ChangeShapes Go.WideShapes Go.ChangeAt

structure PlIn (W : World) (bg gg bp gp Q n : Nat) (lost : Nat → Bool) (pl : Nat → Nat) : Prop where
 xg : Box W bg 54 #[.slice (some ⟨gg, 0, none⟩) Q Q]
 xp : Box W bp 39 #[.slice (some ⟨gp, 0, none⟩) n n]
 gone : ∀ j, j < Q → W.cell? ⟨gg, j, none⟩ = some (.int .u64 (msk (lost j)))
 plc : ∀ j, j < n → W.cell? ⟨gp, j, none⟩ = some (.int .i64 (pl j : Int))
theorem PlIn.kept {W W' : World} {bg gg bp gp Q n : Nat} {lost : Nat → Bool} {pl : Nat → Nat} {X : Nat → Prop} (h : PlIn W bg gg bp gp Q n lost pl) (hk : Kept X W W') (hx : X bg ∧ X gg ∧ X bp ∧ X gp) : PlIn W' bg gg bp gp Q n lost pl :=
 ⟨hk.box h.xg hx.1, hk.box h.xp hx.2.2.1, fun j hj => hk.cell (h.gone j hj) hx.2.1, fun j hj => hk.cell (h.plc j hj) hx.2.2.2⟩
theorem PlIn.nob {W W' : World} {bg gg bp gp Q n : Nat} {lost : Nat → Bool} {pl : Nat → Nat} (h : PlIn W bg gg bp gp Q n lost pl) (ho : Only nobody W W') : PlIn W' bg gg bp gp Q n lost pl := h.kept (X := fun _ => True) (Kept.of_none ho) ⟨trivial, trivial, trivial, trivial⟩
theorem PlIn.far {W W' : World} {bg gg bp gp Q n c : Nat} {lost : Nat → Bool} {pl : Nat → Nat} (h : PlIn W bg gg bp gp Q n lost pl) (ho : Only (just c) W W') (h1 : bg < c) (h2 : gg < c) (h3 : bp < c) (h4 : ∀ j, j < n → gp < c) : PlIn W' bg gg bp gp Q n lost pl :=
 ⟨h.xg.only ho (just_ne (by omega)), h.xp.only ho (just_ne (by omega)),
  fun j hj => (World.cell?_of_block (w := W) (ho.block gg (World.block_lt_of_cell? W ⟨gg, j, none⟩ (h.gone j hj)) (just_ne (by omega)))).trans (h.gone j hj),
  fun j hj => (World.cell?_of_block (w := W) (ho.block gp (World.block_lt_of_cell? W ⟨gp, j, none⟩ (h.plc j hj)) (just_ne (by have := h4 j hj; omega)))).trans (h.plc j hj)⟩
def plZ (n i : Nat) (lost : Nat → Bool) (pl : Nat → Nat) (g : Cl) : Cl := setw (if lost i = true then nul else g) 11 (if i < n then ((pl i : Nat) : Int) else (i : Int))
set_option maxRecDepth 100000 in
set_option maxHeartbeats 4000000 in
theorem plc_clo (i Q n bg gg bp gp : Nat) (lost : Nat → Bool) (pl : Nat → Nat) (g : Nat → Int) (w : World) (hi : i < Q) (hQ : Q ≤ 256) (hpl : ∀ j, j < n → pl j ≤ 1000) (hg : Wd g) (hP : PlIn w bg gg bp gp Q n lost pl) :
  Calls Tryz.prog 165 #[.int .i64 (i : Int), .agg (CA g), .pointer (some ⟨bg, 0, none⟩), .pointer (some ⟨bp, 0, none⟩)] w fun e w' => e = .returned (.agg (CA (plZ n i lost pl g))) ∧ Only nobody w w' := by
 obtain ⟨cb, hcb⟩ : ∃ b, w.heap.size = b := ⟨_, rfl⟩
 obtain ⟨w2, hw2⟩ : ∃ x, (w.alloc (.cells (CA g) 64)).alloc (.cells #[.int .u64 0, .int .u64 0, .int .u64 0, .int .u64 0, .int .u64 0, .int .u64 0, .int .u64 0, .int .u64 0, .int .u64 0, .int .u64 0, .int .u64 0, .int .u64 0] 64) = x := ⟨_, rfl⟩
 have hV2 : Var w2 cb g := by rw [← hw2, ← hcb]; exact (Var.new w g 64).alloc _
 have hR2 : Var w2 (cb + 1) (fun _ => 0) := by
  rw [← hw2, ← hcb]
  have := Var.new (w.alloc (.cells (CA g) 64)) (fun _ => 0) 64
  have e : (w.alloc (.cells (CA g) 64)).heap.size = w.heap.size + 1 := by simp
  rw [e] at this
  exact this
 have ho2 : Only nobody w w2 := by rw [← hw2]; exact ((Only.refl nobody w).alloc _).alloc _
 have hP2 := hP.nob ho2
 have hlo : bg < cb ∧ gg < cb ∧ bp < cb := by
  rw [← hcb]
  exact ⟨hP.xg.lt, World.block_lt_of_cell? w ⟨gg, i, none⟩ (hP.gone i hi), hP.xp.lt⟩
 have hgp : ∀ j, j < n → gp < cb := fun j hj => by rw [← hcb]; exact World.block_lt_of_cell? w ⟨gp, j, none⟩ (hP.plc j hj)
 have HV2 := Lib.hid hV2
 have HR2 := Lib.hid hR2
 have HO2 := Lib.hid ho2
 have HP2 := Lib.hid hP2
 have HW2 := Lib.hid hw2
 have HCb := Lib.hid hcb
 have HGp := Lib.hid hgp
 have HPl := Lib.hid hpl
 have HG := Lib.hid hg
 clear hV2 hR2 ho2 hP2 hw2 hcb hP hgp hpl hg
 go_enter Tryz.func165, Tryz.ntmps165
 go_upto_region 1 with fail
 rw [HCb.out]
 simp only [HW2.out]
 refine held_s (S := fun w' => PlIn w' bg gg bp gp Q n lost pl) 8 rfl (by kernel_rfl) (HP2.out.nob ((Only.refl nobody w2).drewN 1)) (fun hHeld => ?_)
 simp only [qA0, qB0, qC0, List.nil_append, List.cons_append]
 have hV3 : Var w2.drew cb g := HV2.out.drew
 have hR3 : Var w2.drew (cb + 1) (fun _ => 0) := HR2.out.drew
 have hP3 : PlIn w2.drew bg gg bp gp Q n lost pl := HP2.out.nob ((Only.refl nobody w2).drewN 1)
 have hO3 : Only nobody w w2.drew := HO2.out.drew
 obtain ⟨lb, hlb⟩ : ∃ b, lost i = b := ⟨_, rfl⟩
 have HLb := Lib.hid hlb
 clear HV2 HR2 HP2 HO2 hlb
 generalize w2.drew = w3 at *
 refine tk1 0 7 (.slice (some ⟨gg, 0, none⟩) Q Q) rfl (Or.inl ⟨by rfl, fun w' hw => by (have k0 := hw.xg.cell 0; go_simp)⟩) hHeld ?_
 try simp only [Act.put, sA0, sB0, sC0]
 refine tk1 1 8 (.int .i64 (i : Int)) rfl (Or.inl ⟨by rfl, fun w' hw => by go_simp⟩) hHeld ?_
 try simp only [Act.put, sA0, sB0, sC0]
 refine tk1 2 9 (.pointer (some ⟨gg, i, none⟩)) rfl (Or.inl ⟨by rfl, fun w' hw => by go_simp⟩) hHeld ?_
 try simp only [Act.put, sA0, sB0, sC0]
 refine tk1 3 10 (.int .u64 (msk lb)) rfl (Or.inl ⟨by rfl, fun w' hw => by (have k0 := hw.gone i hi; rw [HLb.out] at k0; go_simp)⟩) hHeld ?_
 try simp only [Act.put, sA0, sB0, sC0]
 refine tk1 4 11 (.agg (CA nul)) rfl (Or.inl ⟨by rfl, fun w' hw => by (go_simp; rfl)⟩) hHeld ?_
 try simp only [Act.put, sA0, sB0, sC0]
 refine one_ready 5 (o := ⟨some 12, .load 64 (.tmp 5), _, _, _, _⟩) rfl (by kernel_rfl) (fun K hK => ?_)
 refine step_load_cell rfl (.tmp 5) rfl cb 0 rfl g hV3.rng ?_
 refine hK.out _ _ hHeld (fun hHeld => ?_)
 clear hK K
 simp only [sA0, sB0, sC0]
 refine one_ready 6 rfl (by kernel_rfl) (fun K hK => ?_)
 go_simp
 obtain ⟨q, hq⟩ : ∃ q, (if lb = true then nul else g) = q := ⟨_, rfl⟩
 have hpk := fun W => pickCell_mask lb nul g W wd_zero HG.out
 simp only [hq] at hpk
 have HQ := Lib.hid hq
 refine (hpk _).mono ?_
 rintro e w4 ⟨rfl, hx⟩
 have ho4 := none_of_ext hx
 have hV4 := hV3.nob ho4
 have hR4 := hR3.nob ho4
 have hP4 := hP3.nob ho4
 have hO4 := hO3.trans ho4
 refine hK.out _ _ hP4 (fun hHeld => ?_)
 clear hK K hx ho4 hpk hq hV3 hR3 hP3 hO3
 simp only [sA0, sB0, sC0]
 refine one_ready 7 (o := ⟨none, _, _, _, _, _⟩) rfl (by kernel_rfl) (fun K hK => ?_)
 refine step_store_cell rfl (.tmp 5) (.tmp 13) rfl cb 0 rfl q rfl hV4.there ?_
 have hoc : Only (just cb) w4 (w4.setCells cb 0 (CA q).toList) := only_setCells _ 0 _ (Only.refl _ _) (.inl (just_self cb))
 have hV5 := hV4.set q
 have hR5 := hR4.only hoc (just_ne (by omega))
 have hP5 := hP4.far hoc hlo.1 hlo.2.1 hlo.2.2 HGp.out
 have hO5 : Only nobody w (w4.setCells cb 0 (CA q).toList) := only_setCells _ 0 _ hO4 (.inr (Nat.le_of_eq HCb.out))
 refine hK.out _ _ hP5 (fun hHeld => ?_)
 clear hK K hoc hV4 hR4 hP4 hO4
 simp only [sA0, sB0, sC0]
 generalize w4.setCells cb 0 (CA q).toList = w5 at *
 refine wpAnyH_done (by kernel_rfl) ?_ _
 have hV6 := hV5.put 11 (i : Int)
 have hwi : IntKind.u64.wrap (i : Int) = (i : Int) := by rw [IntKind.wrap_u64]; omega
 have hc11 := hV5.cell (κ := 11) (by decide)
 have hf11 := hV5.free 11 (by decide)
 have hO6 : Only nobody w (w5.setCell ⟨cb, 11, none⟩ (.int .u64 (i : Int))) := hO5.setCell (p := ⟨cb, 11, none⟩) (.inr (by show w.heap.size ≤ cb; exact Nat.le_of_eq HCb.out)) _
 have ho56 : Only (just cb) w5 (w5.setCell ⟨cb, 11, none⟩ (.int .u64 (i : Int))) := (Only.refl _ w5).setCell (p := ⟨cb, 11, none⟩) (.inl (just_self _)) _
 have hR6 := hR5.only ho56 (just_ne (by omega))
 have hP6 := hP5.far ho56 hlo.1 hlo.2.1 hlo.2.2 HGp.out
 have HV6 := Lib.hid hV6
 have HO6 := Lib.hid hO6
 have HR6 := Lib.hid hR6
 have HXp := Lib.hid hP6.xp
 have HPp := Lib.hid hP6.plc
 clear hV5 hO5 hR5 hP5 hV6 hO6 hR6 hP6 ho56
 go_upto_region 3 with fail
 clear hc11 hf11
 generalize w5.setCell ⟨cb, 11, none⟩ (.int .u64 (i : Int)) = w6 at *
 have x0 := HXp.out.cell 0
 by_cases hin : i < n
 ·have hz : plZ n i lost pl g = setw (setw q 11 (i : Int)) 11 ((pl i : Nat) : Int) := by
   unfold plZ
   rw [if_pos hin, setw_two, HLb.out, HQ.out]
  have HZ := Lib.hid hz
  have x1 := HPp.out i hin
  have hpb := HPl.out i hin
  have hwp : IntKind.u64.wrap ((pl i : Nat) : Int) = ((pl i : Nat) : Int) := by rw [IntKind.wrap_u64]; omega
  have hc11 := HV6.out.cell (κ := 11) (by decide)
  have hf11 := HV6.out.free 11 (by decide)
  have HV7 := Lib.hid (HV6.out.put 11 ((pl i : Nat) : Int))
  have HO7 : Hid (Only nobody w (w6.setCell ⟨cb, 11, none⟩ (.int .u64 ((pl i : Nat) : Int)))) := Lib.hid (HO6.out.setCell (p := ⟨cb, 11, none⟩) (.inr (by show w.heap.size ≤ cb; exact Nat.le_of_eq HCb.out)) _)
  have ho7 : Only (just cb) w6 (w6.setCell ⟨cb, 11, none⟩ (.int .u64 ((pl i : Nat) : Int))) := (Only.refl _ w6).setCell (p := ⟨cb, 11, none⟩) (.inl (just_self _)) _
  have HR7 := Lib.hid (HR6.out.only ho7 (just_ne (by omega)))
  clear hz ho7 HV6 HO6 HR6 HXp HPp
  generalize pl i = p at *
  go_upto_region 5 with fail
  clear x0 x1 hc11 hf11
  generalize w6.setCell ⟨cb, 11, none⟩ (.int .u64 (p : Int)) = w7 at *
  have HE : Hid (Only nobody w (w7.setCells (cb + 1) 0 (CA (setw (setw q 11 (i : Int)) 11 (p : Int))).toList)) := Lib.hid (only_setCells _ 0 _ HO7.out (.inr (by have := HCb.out; omega)))
  go_wp2_with (first | with_reducible refine wpList_load_cell rfl (.tmp 5) rfl cb 0 rfl (setw (setw q 11 (i : Int)) 11 (p : Int)) HV7.out.rng ?_ | with_reducible refine wpList_store_cell rfl (.tmp 6) (.tmp 27) rfl (cb + 1) 0 rfl (setw (setw q 11 (i : Int)) 11 (p : Int)) rfl HR7.out.there ?_)
  exact bodyPost_ret (v := .agg (CA (setw (setw q 11 (i : Int)) 11 (p : Int)))) (results_one Tryz.results165 rfl (HR7.out.set _).load) rfl ⟨by rw [HZ.out], HE.out⟩
 ·have hz : plZ n i lost pl g = setw q 11 (i : Int) := by
   unfold plZ
   rw [if_neg hin, HLb.out, HQ.out]
  have HZ := Lib.hid hz
  have HE : Hid (Only nobody w (w6.setCells (cb + 1) 0 (CA (setw q 11 (i : Int))).toList)) := Lib.hid (only_setCells _ 0 _ HO6.out (.inr (by have := HCb.out; omega)))
  clear hz
  go_wp2_with (first | with_reducible refine wpList_load_cell rfl (.tmp 5) rfl cb 0 rfl (setw q 11 (i : Int)) HV6.out.rng ?_ | with_reducible refine wpList_store_cell rfl (.tmp 6) (.tmp 27) rfl (cb + 1) 0 rfl (setw q 11 (i : Int)) rfl HR6.out.there ?_)
  exact bodyPost_ret (v := .agg (CA (setw q 11 (i : Int)))) (results_one Tryz.results165 rfl (HR6.out.set _).load) rfl ⟨by rw [HZ.out], HE.out⟩
end Go.Proofs.YtknnebhjldfkhaaGreat


namespace Go.Proofs.YtknnebhjldfkhaaGreat
set_option maxRecDepth 100000
open Go.RowKit Go.ChangeShapes Go.WideShapes Go.ChangeAt

structure Clo (X : Nat → Prop) (k : FuncId) (caps : Array Value) (Q : Nat) (C Z : Nat → Cl) (Inv : Nat → (Nat → Prop) → World → Prop) : Prop where
 stay : ∀ i Y W W', Inv i Y W → Kept (fun j => X j ∨ Y j) W W' → Inv i Y W'
 call : ∀ i Y W, i < Q → Inv i Y W → (∀ j, X j → j < W.heap.size) → (∀ j, X j → ¬ Y j) → Calls Tryz.prog k (#[.int .i64 (i : Int), .agg (CA (C i))] ++ caps) W fun e w' => e = .returned (.agg (CA (Z i))) ∧ Only Y W w' ∧ ∃ Y', Inv (i + 1) Y' w' ∧ ∀ j, Y' j → Y j ∨ W.heap.size ≤ j ∧ j < w'.heap.size
theorem evE_succ (t i : Nat) : evE t (i + 1) = evE t i ++ [(t, i, false)] ++ [(t, i, true)] := rfl
def EaAt (w1 : World) (X : Nat → Prop) (g mp f : Nat) (M : MS) (Z : Nat → Cl) (Inv : Nat → (Nat → Prop) → World → Prop) (i : Nat) (wr : World) : Prop :=
 ∃ Y : Nat → Prop, Inv i Y wr ∧ Own wr (fun j => (X j ∨ j = g) ∨ Y j) mp (M.gone (cT (f + 2) Z M.c i) (evE (f + 2) i)) ∧ Kept (fun j => X j ∨ j = g) w1 wr ∧ ∀ j, (X j ∨ j = g) → ¬ Y j
set_option maxRecDepth 100000 in
set_option maxHeartbeats 4000000 in
theorem each_any {N S T D L n Q P : Nat} (h : Conf N S T D L n Q P) (X Y0 : Nat → Prop) (lp mp f : Nat) (ov : Bool) (mb : Option Nat) (M : MS) (k : FuncId) (caps : Array Value) (C Z : Nat → Cl) (Inv : Nat → (Nat → Prop) → World → Prop) (w : World)
  (hM : LvM M f S D T Q) (hf : f ≤ 100) (hC : ∀ a, a < Q → M.c (f + 2) a = C a) (hcl : Clo X k caps Q C Z Inv) (hk : ∀ (args : Array Value) (W : World), Sem.run Tryz.prog (callFunc k args) W = .ok (.enter k args) W) (hI : Inv 0 Y0 w) (hO : Own w (fun j => X j ∨ Y0 j) mp M) (hX1 : X lp) (hXY : ∀ j, X j → ¬ Y0 j) (hB : Box w lp 127 (LvA mp f N S T ov mb)) :
  Calls Tryz.prog 159 #[.pointer (some ⟨lp, 0, none⟩), .func (.func k) #[] caps] w fun e w' =>
   e = .returned (.tuple #[]) ∧ ∃ Y, Inv Q Y w' ∧ Own w' (fun j => X j ∨ Y j) mp (M.gone (cT (f + 2) Z M.c Q) (evE (f + 2) Q)) ∧ Kept X w w' ∧ ∀ j, X j → ¬ Y j := by
 have HTs := Lib.hid (fun W => table_spots h f hf W)
 have hQ := h.big.2.2.2
 have hM2 := hM.hk
 have hs2 := hM.s2
 have hml := hM.len
 have HCl := Lib.hid hcl
 have HI := Lib.hid hI
 have HO := Lib.hid hO
 have HB := Lib.hid hB
 have HC := Lib.hid hC
 have HXY := Lib.hid hXY
 have p0 := lv0 hB
 have p1 := lv1 hB
 have p2 := lv2 hB
 have p3 := lv3 hB
 have p4 := lv4 hB
 have HK := Lib.hid hk
 clear h hM hcl hI hO hB hC hXY hk
 go_enter Tryz.func159, Tryz.ntmps159
 go_wp2_with fail
 refine (HTs.out w).mono ?_
 rintro e w1 ⟨g, cap, rfl, hsp, hb1⟩
 have hon : Only nobody w w1 := Only.of_below hb1
 have hgn := hsp.old
 have hgl := hsp.lt
 have HA : Hid (EaAt w1 X g mp f M Z Inv 0 w1) := Lib.hid ⟨Y0, HCl.out.stay 0 Y0 w w1 HI.out (Kept.of_none hon), by
   rw [cT_zero]
   show Own w1 _ mp (M.gone M.c [])
   rw [gone_self]
   exact (HO.out.grow hon).weak (fun j hj => by
    rcases hj with (hj | hj) | hj
    ·exact .inl (.inl hj)
    ·subst hj; exact .inr ⟨hgn, hgl⟩
    ·exact .inl (.inr hj)), Kept.refl _ _, fun j hj hy => by
    rcases hj with hj | hj
    ·exact HXY.out j hj hy
    ·subst hj
     obtain ⟨F, hm, hF, hlt⟩ := HO.out
     have := hlt j (.inr hy)
     omega⟩
 have HSp := Lib.hid (show Sps w1 0 g Q (fun i => (f + 2, i)) from ⟨Nat.zero_le _, hsp.lt, hsp.cell⟩)
 have HK1 : Hid (Kept X w w1) := Lib.hid (Kept.of_none hon)
 have HB1 := Lib.hid (HB.out.of (hb1.block _ HB.out.lt))
 clear hsp hb1 hon hgn hgl HI HO HXY HB p0 p1 p2 p3 p4
 go_wp2_with fail
 go_loopw [13] (fun v wr => ∃ i : Nat, v = .int .i64 i ∧ i ≤ Q ∧ EaAt w1 X g mp f M Z Inv i wr) (fun v _ => Q - (intOf v).toNat)
 case atStart => exact ⟨0, rfl, by omega, HA.out⟩
 case round =>
  obtain ⟨i, rfl, hi, hS⟩ := hrel
  clear HA
  by_cases hin : i < Q
  ·obtain ⟨Y, hInv, hOwn, hKp, hdis⟩ := hS
   obtain ⟨c0, c1⟩ := (HSp.out.kept hKp (.inr rfl)).cell i hin
   have hBw := hKp.box HB1.out (.inl hX1)
   have hcell : cT (f + 2) Z M.c i (f + 2) i = C i := by rw [cT_past (by omega)]; exact HC.out i hin
   have hsuc := cT_succ (t := f + 2) (X := Z) (c := M.c) (i := i)
   have hel := evE_len (f + 2) i
   have HCELL := Lib.hid hcell
   have HSUC := Lib.hid hsuc
   have HEV := Lib.hid (evE_succ (f + 2) i)
   have HInv := Lib.hid hInv
   have HDis := Lib.hid hdis
   have HKp := Lib.hid hKp
   have HOwn := Lib.hid hOwn
   have HBw := Lib.hid hBw
   obtain ⟨sr, hsr⟩ : ∃ sr, f + 2 = sr := ⟨_, rfl⟩
   rw [hsr] at HCELL HSUC HEV HOwn hM2 hs2
   have HSr := Lib.hid hsr
   replace c0 : wr.cell? ⟨g, i * 2, none⟩ = some (.int .i64 (sr : Int)) := by rw [← hsr]; exact c0
   generalize hcc : cT sr Z M.c i = cc at HCELL HSUC HOwn
   generalize hll : evE sr i = ll at HEV HOwn
   have hel2 : ll.length ≤ 600 := by rw [← hll, evE_len]; omega
   obtain ⟨w9, h9⟩ : ∃ x, x = wr := ⟨_, rfl⟩
   subst h9
   clear hInv hOwn hKp hdis hBw hcell hsuc hel hcc hll hsr
   go_upto_region 3 with fail
   clear c0 c1
   obtain ⟨sb, hsb⟩ : ∃ b, w9.heap.size = b := ⟨_, rfl⟩
   obtain ⟨w1', hw1⟩ : ∃ x, w9.alloc (.cells #[.int .i64 (sr : Int), .int .i64 (i : Int)] 153) = x := ⟨_, rfl⟩
   have hO1 : Own w1' (plus1 (fun j => (X j ∨ j = g) ∨ Y j) sb) mp (M.gone cc ll) := by rw [← hw1, ← hsb]; exact HOwn.out.one _
   have hB1 : Box w1' lp 127 (LvA mp f N S T ov mb) := by rw [← hw1]; exact HBw.out.alloc _
   have hs1 : Box w1' sb 153 #[.int .i64 (sr : Int), .int .i64 (i : Int)] := by rw [← hw1, ← hsb]; exact Box.new w9 _ _
   have hK1 : Kept (fun j => (X j ∨ j = g) ∨ Y j) w9 w1' := by rw [← hw1]; exact (Kept.refl _ _).alloc _
   rw [hsb, hw1]
   refine held_s (S := fun w' => Box w' lp 127 (LvA mp f N S T ov mb) ∧ Box w' sb 153 #[.int .i64 (sr : Int), .int .i64 (i : Int)]) 11 rfl (by kernel_rfl) ⟨hB1.drewN 1, hs1.drewN 1⟩ (fun hHeld => ?_)
   simp only [qA0, qB0, qC0, List.nil_append, List.cons_append]
   have hO2 : Own w1'.drew (plus1 (fun j => (X j ∨ j = g) ∨ Y j) sb) mp (M.gone cc ll) := hO1.drewN 1
   have hB2 : Box w1'.drew lp 127 (LvA mp f N S T ov mb) := hB1.drewN 1
   have hs2' : Box w1'.drew sb 153 #[.int .i64 (sr : Int), .int .i64 (i : Int)] := hs1.drewN 1
   have hK2 : Kept (fun j => (X j ∨ j = g) ∨ Y j) w9 w1'.drew := hK1.drewN 1
   clear hO1 hB1 hs1 hK1 hw1
   generalize w1'.drew = w2 at *
   refine tk1 0 18 (.pointer (some ⟨lp, 0, none⟩)) rfl (Or.inl ⟨by rfl, fun w' hw => by go_simp⟩) hHeld ?_
   try simp only [Act.put, sA0, sB0, sC0]
   refine tk1 1 19 (.pointer (some ⟨lp, 0, none⟩)) rfl (Or.inl ⟨by rfl, fun w' hw => by go_simp⟩) hHeld ?_
   try simp only [Act.put, sA0, sB0, sC0]
   refine tk1 2 20 (.pointer (some ⟨lp, 0, none⟩)) rfl (Or.inl ⟨by rfl, fun w' hw => by go_simp⟩) hHeld ?_
   try simp only [Act.put, sA0, sB0, sC0]
   refine tk1 3 21 (.pointer (some ⟨mp, 0, none⟩)) rfl (Or.inl ⟨by rfl, fun w' hw => by (have k0 := lv0 hw.1; have k1 := lv1 hw.1; have k2 := lv2 hw.1; have k3 := lv3 hw.1; have k4 := lv4 hw.1; have s0 := hw.2.cell 0; have s1 := hw.2.cell 1; go_simp)⟩) hHeld ?_
   try simp only [Act.put, sA0, sB0, sC0]
   refine tk1 4 22 (.pointer (some ⟨sb, 0, none⟩)) rfl (Or.inl ⟨by rfl, fun w' hw => by go_simp⟩) hHeld ?_
   try simp only [Act.put, sA0, sB0, sC0]
   refine tk1 5 23 (.int .i64 (sr : Int)) rfl (Or.inl ⟨by rfl, fun w' hw => by (have k0 := lv0 hw.1; have k1 := lv1 hw.1; have k2 := lv2 hw.1; have k3 := lv3 hw.1; have k4 := lv4 hw.1; have s0 := hw.2.cell 0; have s1 := hw.2.cell 1; go_simp)⟩) hHeld ?_
   try simp only [Act.put, sA0, sB0, sC0]
   refine tk1 6 24 (.pointer (some ⟨sb, 1, none⟩)) rfl (Or.inl ⟨by rfl, fun w' hw => by go_simp⟩) hHeld ?_
   try simp only [Act.put, sA0, sB0, sC0]
   refine tk1 7 25 (.int .i64 (i : Int)) rfl (Or.inl ⟨by rfl, fun w' hw => by (have k0 := lv0 hw.1; have k1 := lv1 hw.1; have k2 := lv2 hw.1; have k3 := lv3 hw.1; have k4 := lv4 hw.1; have s0 := hw.2.cell 0; have s1 := hw.2.cell 1; go_simp)⟩) hHeld ?_
   try simp only [Act.put, sA0, sB0, sC0]
   -- LEFT [8, 9, 10]
   have HO2 := Lib.hid hO2
   have HB2 := Lib.hid hB2
   have HS2 := Lib.hid hs2'
   have HK2 := Lib.hid hK2
   clear hO2 hB2 hs2' hK2
   refine join_at (S := fun w5 cb => Own w5 (plus1 (plus1 (fun j => (X j ∨ j = g) ∨ Y j) sb) cb) mp (M.gone cc (ll ++ [(sr, i, false)])) ∧ Box w5 lp 127 (LvA mp f N S T ov mb) ∧ Box w5 sb 153 #[.int .i64 (sr : Int), .int .i64 (i : Int)] ∧ Var w5 cb (C i) ∧ Kept (fun j => (X j ∨ j = g) ∨ Y j) w9 w5 ∧ (lp < cb ∧ sb < cb ∧ w9.heap.size ≤ cb)) (G := ?G3) (fun key => ?_) ?_
   rotate_left
   ·refine wpAnyH_ready (rs := [8, 9]) (by kernel_rfl) (by simp) ?_
    refine AllReadyH.cons rfl (fun K hK => ?_) ?_
    ·go_simp
     refine (own_read _ mp (M.gone cc ll) w2 (sr : Int) (i : Int) HO2.out (by rw [gone_len]; omega)).mono ?_
     rintro e w3 ⟨rfl, ho, hk⟩
     rw [gone_read (by omega) (by omega)] at ho
     rw [gone_cell (by omega) (by omega), HCELL.out]
     have hB3 := hk.box HB2.out (.inl (.inl (.inl hX1)))
     have hs3 := hk.box HS2.out (.inr rfl)
     have hK3 := HK2.out.trans (hk.mono (fun i hi => .inl hi))
     refine hK.out _ _ ⟨hB3, hs3⟩ (fun hHeld => ?_)
     clear hK K hk
     simp only [sA0, sB0, sC0]
     refine one_ready 9 rfl (by kernel_rfl) (fun K hK => ?_)
     go_simp
     obtain ⟨cb, hcb⟩ : ∃ c, w3.heap.size = c := ⟨_, rfl⟩
     obtain ⟨w4, hw4⟩ : ∃ x, w3.alloc (.cells (CA fun _ => 0) 64) = x := ⟨_, rfl⟩
     have hO4 : Own w4 (plus1 (plus1 (fun j => (X j ∨ j = g) ∨ Y j) sb) cb) mp (M.gone cc (ll ++ [(sr, i, false)])) := by rw [← hw4, ← hcb]; exact ho.one _
     have hB4 : Box w4 lp 127 (LvA mp f N S T ov mb) := by rw [← hw4]; exact hB3.alloc _
     have hs4 : Box w4 sb 153 #[.int .i64 (sr : Int), .int .i64 (i : Int)] := by rw [← hw4]; exact hs3.alloc _
     have hC4 : Var w4 cb (fun _ => 0) := by rw [← hw4, ← hcb]; exact Var.new w3 _ _
     have hK4 : Kept (fun j => (X j ∨ j = g) ∨ Y j) w9 w4 := by rw [← hw4]; exact hK3.alloc _
     have hcn : lp < cb ∧ sb < cb ∧ w9.heap.size ≤ cb := ⟨by rw [← hcb]; exact hB3.lt, by rw [← hcb]; exact hs3.lt, by rw [← hcb]; exact hK3.size⟩
     refine hK.out _ _ ⟨hB3.alloc _, hs3.alloc _⟩ (fun hHeld => ?_)
     change wpAnyH _ _ _ _ _ _ _ _ (w3.alloc (.cells (CA fun _ => 0) 64))
     rw [hw4]
     simp only [hcb]
     clear hK K hB3 hs3 hK3 ho hw4
     simp only [sA0, sB0, sC0]
     refine one_ready 10 (o := ⟨none, _, _, _, _, _⟩) rfl (by kernel_rfl) (fun K hK => ?_)
     refine step_store_cell rfl (.tmp 6) (.tmp 26) rfl cb 0 rfl (C i) rfl hC4.there ?_
     have hoc : Only (just cb) w4 (w4.setCells cb 0 (CA (C i)).toList) := only_setCells _ 0 _ (Only.refl _ _) (.inl (just_self cb))
     have hO5 := hO4.setCells cb (CA (C i)).toList (.inr rfl)
     have hB5 := hB4.only hoc (just_ne (by omega))
     have hs5 := hs4.only hoc (just_ne (by omega))
     have hC5 := hC4.set (C i)
     have hK5 := hK4.setCells cb (CA (C i)).toList hcn.2.2
     refine hK.out _ _ ⟨hB5, hs5⟩ (fun hHeld => ?_)
     clear hK K hoc hO4 hB4 hs4 hC4 hK4
     simp only [sA0, sB0, sC0]
     generalize w4.setCells cb 0 (CA (C i)).toList = w5 at hO5 hB5 hs5 hC5 hK5 ⊢
     exact key w5 cb ⟨hO5, hB5, hs5, hC5, hK5, hcn⟩
    ·refine AllReadyH.cons rfl (fun K hK => ?_) AllReadyH.nil
     go_simp
     obtain ⟨cb, hcb⟩ : ∃ c, w2.heap.size = c := ⟨_, rfl⟩
     obtain ⟨w3, hw3⟩ : ∃ x, w2.alloc (.cells (CA fun _ => 0) 64) = x := ⟨_, rfl⟩
     have hO3 : Own w3 (plus1 (plus1 (fun j => (X j ∨ j = g) ∨ Y j) sb) cb) mp (M.gone cc ll) := by rw [← hw3, ← hcb]; exact HO2.out.one _
     have hB3 : Box w3 lp 127 (LvA mp f N S T ov mb) := by rw [← hw3]; exact HB2.out.alloc _
     have hs3 : Box w3 sb 153 #[.int .i64 (sr : Int), .int .i64 (i : Int)] := by rw [← hw3]; exact HS2.out.alloc _
     have hC3 : Var w3 cb (fun _ => 0) := by rw [← hw3, ← hcb]; exact Var.new w2 _ _
     have hK3 : Kept (fun j => (X j ∨ j = g) ∨ Y j) w9 w3 := by rw [← hw3]; exact HK2.out.alloc _
     have hcn : lp < cb ∧ sb < cb ∧ w9.heap.size ≤ cb := ⟨by rw [← hcb]; exact HB2.out.lt, by rw [← hcb]; exact HS2.out.lt, by rw [← hcb]; exact HK2.out.size⟩
     refine hK.out _ _ ⟨HB2.out.alloc _, HS2.out.alloc _⟩ (fun hHeld => ?_)
     change wpAnyH _ _ _ _ _ _ _ _ (w2.alloc (.cells (CA fun _ => 0) 64))
     rw [hw3]
     simp only [hcb]
     clear hK K hw3
     simp only [sA0, sB0, sC0]
     refine one_ready 8 rfl (by kernel_rfl) (fun K hK => ?_)
     go_simp
     refine (own_read _ mp (M.gone cc ll) w3 (sr : Int) (i : Int) hO3 (by rw [gone_len]; omega)).mono ?_
     rintro e w4 ⟨rfl, ho, hk⟩
     rw [gone_read (by omega) (by omega)] at ho
     rw [gone_cell (by omega) (by omega), HCELL.out]
     have hO4 := ho
     have hB4 := hk.box hB3 (.inl (.inl (.inl (.inl hX1))))
     have hs4 := hk.box hs3 (.inl (.inr rfl))
     have hC4 := hC3.kept hk (.inr rfl)
     have hK4 := hK3.trans (hk.mono (fun i hi => .inl (.inl hi)))
     refine hK.out _ _ ⟨hB4, hs4⟩ (fun hHeld => ?_)
     clear hK K hk hB3 hs3 hC3 hK3 hO3 ho
     simp only [sA0, sB0, sC0]
     refine one_ready 10 (o := ⟨none, _, _, _, _, _⟩) rfl (by kernel_rfl) (fun K hK => ?_)
     refine step_store_cell rfl (.tmp 6) (.tmp 26) rfl cb 0 rfl (C i) rfl hC4.there ?_
     have hoc : Only (just cb) w4 (w4.setCells cb 0 (CA (C i)).toList) := only_setCells _ 0 _ (Only.refl _ _) (.inl (just_self cb))
     have hO5 := hO4.setCells cb (CA (C i)).toList (.inr rfl)
     have hB5 := hB4.only hoc (just_ne (by omega))
     have hs5 := hs4.only hoc (just_ne (by omega))
     have hC5 := hC4.set (C i)
     have hK5 := hK4.setCells cb (CA (C i)).toList hcn.2.2
     refine hK.out _ _ ⟨hB5, hs5⟩ (fun hHeld => ?_)
     clear hK K hoc hO4 hB4 hs4 hC4 hK4
     simp only [sA0, sB0, sC0]
     generalize w4.setCells cb 0 (CA (C i)).toList = w5 at hO5 hB5 hs5 hC5 hK5 ⊢
     exact key w5 cb ⟨hO5, hB5, hs5, hC5, hK5, hcn⟩
   intro w5 cb hkey
   obtain ⟨hO5, hB5, hs5, hC5, hK5, hcn⟩ := hkey
   refine wpAnyH_done (by kernel_rfl) ?_ _
   have HO5 := Lib.hid hO5
   have HB5 := Lib.hid hB5
   have HS5 := Lib.hid hs5
   have HK5 := Lib.hid hK5
   have HC5 := Lib.hid hC5
   clear hO5 hB5 hs5 hK5 hC5
   go_upto_region 4 with fail
   refine held_s (S := fun w' => Box w' lp 127 (LvA mp f N S T ov mb) ∧ Box w' sb 153 #[.int .i64 (sr : Int), .int .i64 (i : Int)] ∧ Var w' cb (C i)) 13 rfl (by kernel_rfl) ⟨HB5.out.drewN 1, HS5.out.drewN 1, HC5.out.drew⟩ (fun hHeld => ?_)
   simp only [qA0, qB0, qC0, List.nil_append, List.cons_append]
   have hO6 : Own w5.drew (plus1 (plus1 (fun j => (X j ∨ j = g) ∨ Y j) sb) cb) mp (M.gone cc (ll ++ [(sr, i, false)])) := HO5.out.drewN 1
   have hB6 : Box w5.drew lp 127 (LvA mp f N S T ov mb) := HB5.out.drewN 1
   have hs6 : Box w5.drew sb 153 #[.int .i64 (sr : Int), .int .i64 (i : Int)] := HS5.out.drewN 1
   have hC6 : Var w5.drew cb (C i) := HC5.out.drew
   have hK6 : Kept (fun j => (X j ∨ j = g) ∨ Y j) w9 w5.drew := HK5.out.drewN 1
   have hIv := HCl.out.stay i Y w9 w5.drew HInv.out (hK6.mono (fun j hj => by
    rcases hj with h | h
    ·exact .inl (.inl h)
    ·exact .inr h))
   have hsz6 : w9.heap.size ≤ w5.drew.heap.size := hK6.size
   have hX6 : ∀ j, X j → j < w5.drew.heap.size := by
    obtain ⟨F, hm, hF, hlt⟩ := hO6
    exact fun j hj => hlt j (.inl (.inl (.inl (.inl hj))))
   have hYlt : ∀ j, Y j → j < sb := by
    obtain ⟨F, hm, hF, hlt⟩ := HOwn.out
    exact fun j hj => by have := hlt j (.inr hj); omega
   clear HO5 HB5 HS5 HK5 HC5
   generalize w5.drew = w6 at *
   refine tk1 0 27 (.pointer (some ⟨lp, 0, none⟩)) rfl (Or.inl ⟨by rfl, fun w' hw => by go_simp⟩) hHeld ?_
   try simp only [Act.put, sA0, sB0, sC0]
   refine tk1 1 28 (.pointer (some ⟨lp, 0, none⟩)) rfl (Or.inl ⟨by rfl, fun w' hw => by go_simp⟩) hHeld ?_
   try simp only [Act.put, sA0, sB0, sC0]
   refine tk1 2 29 (.pointer (some ⟨lp, 0, none⟩)) rfl (Or.inl ⟨by rfl, fun w' hw => by go_simp⟩) hHeld ?_
   try simp only [Act.put, sA0, sB0, sC0]
   refine tk1 3 30 (.pointer (some ⟨mp, 0, none⟩)) rfl (Or.inl ⟨by rfl, fun w' hw => by (have k0 := lv0 hw.1; have k1 := lv1 hw.1; have k2 := lv2 hw.1; have k3 := lv3 hw.1; have k4 := lv4 hw.1; have s0 := hw.2.1.cell 0; have s1 := hw.2.1.cell 1; go_simp)⟩) hHeld ?_
   try simp only [Act.put, sA0, sB0, sC0]
   refine tk1 4 31 (.pointer (some ⟨sb, 0, none⟩)) rfl (Or.inl ⟨by rfl, fun w' hw => by go_simp⟩) hHeld ?_
   try simp only [Act.put, sA0, sB0, sC0]
   refine tk1 5 32 (.int .i64 (sr : Int)) rfl (Or.inl ⟨by rfl, fun w' hw => by (have k0 := lv0 hw.1; have k1 := lv1 hw.1; have k2 := lv2 hw.1; have k3 := lv3 hw.1; have k4 := lv4 hw.1; have s0 := hw.2.1.cell 0; have s1 := hw.2.1.cell 1; go_simp)⟩) hHeld ?_
   try simp only [Act.put, sA0, sB0, sC0]
   refine tk1 6 33 (.pointer (some ⟨sb, 1, none⟩)) rfl (Or.inl ⟨by rfl, fun w' hw => by go_simp⟩) hHeld ?_
   try simp only [Act.put, sA0, sB0, sC0]
   refine tk1 7 34 (.int .i64 (i : Int)) rfl (Or.inl ⟨by rfl, fun w' hw => by (have k0 := lv0 hw.1; have k1 := lv1 hw.1; have k2 := lv2 hw.1; have k3 := lv3 hw.1; have k4 := lv4 hw.1; have s0 := hw.2.1.cell 0; have s1 := hw.2.1.cell 1; go_simp)⟩) hHeld ?_
   try simp only [Act.put, sA0, sB0, sC0]
   refine tk1 8 35 (.func (.func k) #[] caps) rfl (Or.inl ⟨by rfl, fun w' hw => by go_simp⟩) hHeld ?_
   try simp only [Act.put, sA0, sB0, sC0]
   refine tk1 9 36 (.int .i64 (i : Int)) rfl (Or.inl ⟨by rfl, fun w' hw => by go_simp⟩) hHeld ?_
   try simp only [Act.put, sA0, sB0, sC0]
   refine take_row 10 (oi := ⟨some 37, _, _, _, _, _⟩) (CA (C i)).toList rfl (by kernel_rfl) (by kernel_rfl) (by kernel_rfl) (fun _ _ _ h => h) (by rfl) _ _ rfl _ _ rfl _ (fun w' hw => hw.2.2.rng) Tryz.underlying64 rfl (infoCellL (C i)) hHeld ?_
   try simp only [Act.put, sA0, sB0, sC0]
   refine one_ready 11 rfl (by kernel_rfl) (fun K hK => ?_)
   have hkk := HK.out (#[.int .i64 (i : Int), .agg (CA (C i))] ++ caps) w6
   go_simp
   clear hkk
   refine (HCl.out.call i Y w6 hin hIv hX6 (fun j hj => HDis.out j (.inl hj))).mono ?_
   rintro e w7 ⟨rfl, ho7, Y', hInv', hY'⟩
   have hsz7 := ho7.size
   have hYc : ∀ j, Y j → j < sb := hYlt
   have hO7 := hO6.grow_only ho7 (fun j hj => .inl (.inl (.inr hj)))
   have hB7 := hB6.only ho7 (fun hy => HDis.out lp (.inl hX1) hy)
   have hs7 := hs6.only ho7 (fun hy => by have := hYc _ hy; omega)
   have hC7 := hC6.only ho7 (fun hy => by have := hYc _ hy; omega)
   have hK7 : Kept (fun j => X j ∨ j = g) w9 w7 := (Kept.mono hK6 (fun j hj => .inl hj)).trans (Only.mono ho7 (fun j _ hy hj => HDis.out j hj hy))
   have hO7 := hO7.weak (Y := fun j => (((X j ∨ j = g) ∨ Y' j) ∨ j = sb) ∨ j = cb) (fun j hj => by
    rcases hj with ((hj | hj) | hj) | hj
    ·exact .inl (.inl (.inl (.inl hj)))
    ·rcases hY' j hj with h | h
     ·exact .inl (.inl (.inl (.inr h)))
     ·exact .inr h
    ·exact .inl (.inl (.inr hj))
    ·exact .inl (.inr hj))
   refine hK.out _ _ ⟨hB7, hs7, hC7⟩ (fun hHeld => ?_)
   clear hK K ho7 hO6 hB6 hs6 hC6 hK6 hIv
   simp only [sA0, sB0, sC0]
   refine one_ready 12 rfl (by kernel_rfl) (fun K hK => ?_)
   go_simp
   refine (own_write _ mp (M.gone cc (ll ++ [(sr, i, false)])) w7 (sr : Int) (i : Int) (Z i) hO7 (by rw [gone_len, List.length_append]; simp only [List.length_cons, List.length_nil]; omega)).mono ?_
   rintro e w8 ⟨rfl, ho, hk⟩
   rw [gone_write (by omega) (by omega), HSUC.out, ← HEV.out, ← HSr.out] at ho
   have hInv8 := HCl.out.stay (i + 1) Y' w7 w8 hInv' (hk.mono (fun j hj => by
    rcases hj with h | h
    ·exact .inl (.inl (.inl (.inl h)))
    ·exact .inl (.inl (.inr h))))
   have hK8 := hK7.trans (hk.mono (fun j hj => .inl (.inl (.inl hj))))
   have hB8 := hk.box hB7 (.inl (.inl (.inl (.inl hX1))))
   have hs8 := hk.box hs7 (.inl (.inr rfl))
   have hC8 := hC7.kept hk (.inr rfl)
   have HE : Hid (EaAt w1 X g mp f M Z Inv (i + 1) w8) := Lib.hid ⟨Y', hInv8, ho.weak (fun j hj => .inl (.inl hj)), HKp.out.trans hK8, fun j hj hy => by
    rcases hY' j hy with h | h
    ·exact HDis.out j hj h
    ·have h2 : j < w9.heap.size := by
      obtain ⟨F, hm, hF, hlt⟩ := HOwn.out
      exact hlt j (.inl hj)
     have := hsz6
     omega⟩
   refine hK.out _ _ ⟨hB8, hs8, hC8⟩ (fun hHeld => ?_)
   clear hK K hk ho hO7 hB7 hs7 hC7 hK7 hInv' hInv8 hK8 hB8 hs8 hC8
   simp only [sA0, sB0, sC0]
   refine wpAnyH_done (by kernel_rfl) ?_ _
   go_wp2_with fail
   go_roundw
   case rel => exact ⟨i + 1, by go_num, by omega, HE.out⟩
   case measure => simp [intOf]; omega
  ·obtain rfl : i = Q := by omega
   have HE : Hid (∃ Y, Inv i Y wr ∧ Own wr (fun j => X j ∨ Y j) mp (M.gone (cT (f + 2) Z M.c i) (evE (f + 2) i)) ∧ Kept X w wr ∧ ∀ j, X j → ¬ Y j) := Lib.hid (by
    obtain ⟨Y, hInv, hOwn, hKp, hdis⟩ := hS
    exact ⟨Y, hInv, hOwn.weak (fun j hj => hj.elim (fun h => .inl (.inl h)) .inr), HK1.out.trans (hKp.mono (fun j hj => .inl hj)), fun j hj => hdis j (.inl hj)⟩)
   clear hS
   go_wp2_with fail
   go_end0
   exact ⟨rfl, HE.out⟩
end Go.Proofs.YtknnebhjldfkhaaGreat

