/- StoreLevels: what is told of blocks does not hang on how many levels there are, nor on the tape, until a block is lost. -/
import Derived.Deep.CutRange
import Derived.Test.YtloibfdcahmhjaaGreatG49
import Derived.Test.YtloibfdcahmhjaaGreatZStoreTw
import Derived.Test.YtloibfdcahmhjaaGreatG11
namespace Go.Proofs.YtloibfdcahmhjaaGreat
set_option maxRecDepth 100000
open Go.RowKit Go.ChangeShapes Go.WideShapes Go.ChangeAt Go.Maps Go.Deep

theorem st_size {c d : SC} {a b' : SA} {W : World} {Z : Nat → Prop} {F : World → Prop} {g p : SG} {k l : Nat} {wr : World} (_ : StT c a d b' W Z F g p k l wr) : ∃ b, wr.heap.size = b := ⟨_, rfl⟩
theorem box_data8 {w : World} {b : Nat} {t : TypeId} {cs : Array Value} (h : Box w b t cs) (hcs : cs.size = 8) (g : Nat → Int) : Box (w.setCells b 0 (DA g).toList) b t (DA g) := by
  obtain ⟨l⟩ := cs
  match l, hcs with
  | [a0, a1, a2, a3, a4, a5, a6, a7], _ =>
    have q := (((((((h.put 0 (.int .u64 (g 0))).put 1 (.int .u64 (g 1))).put 2 (.int .u64 (g 2))).put 3 (.int .u64 (g 3))).put 4 (.int .u64 (g 4))).put 5 (.int .u64 (g 5))).put 6 (.int .u64 (g 6))).put 7 (.int .u64 (g 7))
    simpa [World.setCells, DA] using q
theorem StT.data {c d : SC} {a b' : SA} {W : World} {Z : Nat → Prop} {F : World → Prop} {g p : SG} {k l : Nat} {wr : World} {x : Nat} {cs : Array Value} (h : StT c a d b' W (fun i => Z i ∨ i = x) (fun u => F u ∧ Box u x 48 cs) g p k l wr) (stF : ∀ u u', W.heap.size ≤ u.heap.size → Kept Z u u' → F u → F u') (hx : ¬ Z x) (hW : W.heap.size ≤ x) (e : Nat → Int) (hcs : cs.size = 8 := by rfl) :
    StT c a d b' W (fun i => Z i ∨ i = x) (fun u => F u ∧ Box u x 48 (DA e)) g p k l (wr.setCells x 0 (DA e).toList) := by
  have ho : Only (just x) wr (wr.setCells x 0 (DA e).toList) := only_setCells (S := just x) _ 0 wr (Only.refl _ _) (.inl (just_self _))
  refine h.put ho (fun i hi => by rw [show i = x from hi]; exact ⟨.inr rfl, hW⟩) ⟨stF _ _ h.kp.size (Only.mono ho (fun i _ hi hz => hx (by rw [← show i = x from hi]; exact hz))) h.hF.1, ?_⟩ (fun u u' hs hk f => ⟨stF u u' hs (hk.mono fun i hi => .inl hi) f.1, hk.box f.2 (.inr rfl)⟩)
  have hd := h.hF.2
  exact box_data8 hd hcs e
theorem slaw_other {c : SC} (hc : c.Ok) (hsm : c.b ≤ 5 ∧ c.S ≤ 3 ∧ c.T ≤ 8 ∧ c.n ≤ 3) (n' : Nat) (h1 : 1 ≤ n') (h3 : n' ≤ 3) : ∃ d : SC, d.Ok ∧ d.b = c.b ∧ d.n = n' ∧ sfA d = #[.int .i64 c.B, .int .i64 (c.S : Int), .int .i64 (c.T : Int), .int .i64 (n' : Int)] ∧
    ∀ (W : World) (A : Option Addr) (nz cz : Nat) (z : Nat → Int), Nums .u64 W W.heap.size A nz z → nz ≤ 1000 → (∀ j, j < nz → 0 ≤ z j ∧ z j ≤ 18446744073709551615) →
      Calls Tryz.prog 43 #[.agg (sfA d), .slice A nz cz] W fun e w' =>
        ∃ a : SA, e = .returned (.tuple #[.pointer (some ⟨a.mp, 0, none⟩), .pointer (some ⟨a.tp, 0, none⟩), .pointer (some ⟨a.sp, 0, none⟩)]) ∧ StoA d a (sg0 d nz z) none 0 (fun i => W.heap.size ≤ i ∧ i < w'.heap.size) 0 w' ∧ Only nobody W w' := by
  obtain ⟨q1, q2, q3, q4⟩ := hsm
  have hcn := hc.conf 0 (by have := hc.n1; omega)
  have s1 := hcn.s1
  have t1 := hcn.t1
  obtain ⟨d, hd, hb, hS, hT, hn, hf, hQ⟩ := sc_mk c.b c.S c.T n' 1 (by omega) s1 (by omega) t1 (by omega) h1 (by omega) (by omega)
  refine ⟨d, hd, hb, hn, ?_, fun W A nz cz z hz hnz hzr => smade_of hd hf (by omega) (by omega) (by omega) (by omega) hQ A nz cz z W hz hnz hzr⟩
  unfold sfA
  rw [← hd.bB, hb, hS, hT, hn, hc.bB]
def LvB (c d : SC) (g p : SG) : Prop := ∃ b, StB c g b ∧ StB d p b ∧ g.I 0 = p.I 0
def FL (c d : SC) (cb cd : Nat) (W : World) (a : Option Addr) (nl : Nat) (y : Nat → Sp3) (u : World) : Prop := (Box u cb 79 (sfA c) ∧ Box u cd 79 (sfA d)) ∧ Sps3 u W.heap.size a nl y
theorem FL.keep {c d : SC} {cb cd : Nat} {W : World} {a : Option Addr} {nl : Nat} {y : Nat → Sp3} {Z : Nat → Prop} {u u' : World} (zc : Z cb) (zd : Z cd) (old : ∀ i, i < W.heap.size → Z i) (hs : W.heap.size ≤ u.heap.size) (hk : Kept Z u u') (f : FL c d cb cd W a nl y u) : FL c d cb cd W a nl y u' :=
  ⟨⟨hk.box f.1.1 zc, hk.box f.1.2 zd⟩, f.2.below (hk.below hs old)⟩
theorem FL.rng {c d : SC} {cb cd : Nat} {W : World} {b o : Nat} {nl : Nat} {y : Nat → Sp3} {u : World} (f : FL c d cb cd W (some ⟨b, o, none⟩) nl y u) {i : Nat} (hi : i < nl) : u.rangeAt b (o + i * 3) (s3c (y i)).toList := by
  obtain ⟨b', o', e, _, hr⟩ := f.2.at hi
  injection e with e
  injection e with e1 e2
  rw [e1, e2]
  exact hr
set_option linter.unusedSimpArgs false in
set_option maxRecDepth 100000 in
set_option linter.unusedSimpArgs false in
set_option maxHeartbeats 8000000 in
theorem slevels_law (n m : Int) (A : Option Addr) (nz cz : Nat) (z : Nat → Int) (A' : Option Addr) (nx cx : Nat) (x : Nat → Int) (ya : Option Addr) (nl c' : Nat) (y : Nat → Sp3) (w : World) (hn : (Lit.int .i64 n).wf = true) (hm : (Lit.int .i64 m).wf = true) (hz : Nums .u64 w w.heap.size A nz z) (hzr : ∀ j, j < nz → (Lit.int .u64 (z j)).wf = true)
    (hx : Nums .u64 w w.heap.size A' nx x) (hxr : ∀ j, j < nx → (Lit.int .u64 (x j)).wf = true) (hS : Sps3 w w.heap.size ya nl y) (hy : ∀ j, j < nl → Sp3Ok (y j)) :
    Calls Tryz.prog 13 #[.int .i64 n, .int .i64 m, .slice A nz cz, .slice A' nx cx, .slice ya nl c'] w fun e w' => e = .returned (.bool true) ∧ Below w.heap.size w w' := by
  by_cases hl : 14 < nl
  · have h24 : (14 : Int) < (nl : Int) := by omega
    go_enter Tryz.func13, Tryz.ntmps13
    go_wp2_with fail
    refine (sshown_of _).mono ?_
    rintro e w1 ⟨rfl, hb1⟩
    have HB1 := Lib.hid hb1
    clear hb1
    go_wp2_with fail
    go_ret
    exact ⟨rfl, HB1.out⟩
  · have h24 : ¬ (14 : Int) < (nl : Int) := by omega
    by_cases hl2 : 300 < nz
    · have h300 : (300 : Int) < (nz : Int) := by omega
      go_enter Tryz.func13, Tryz.ntmps13
      go_wp2_with fail
      refine (sshown_of _).mono ?_
      rintro e w1 ⟨rfl, hb1⟩
      have HB1 := Lib.hid hb1
      clear hb1
      go_wp2_with fail
      go_ret
      exact ⟨rfl, HB1.out⟩
    · have h300 : ¬ (300 : Int) < (nz : Int) := by omega
      by_cases hl3 : 300 < nx
      · have h301 : (300 : Int) < (nx : Int) := by omega
        go_enter Tryz.func13, Tryz.ntmps13
        go_wp2_with fail
        refine (sshown_of _).mono ?_
        rintro e w1 ⟨rfl, hb1⟩
        have HB1 := Lib.hid hb1
        clear hb1
        go_wp2_with fail
        go_ret
        exact ⟨rfl, HB1.out⟩
      · have h301 : ¬ (300 : Int) < (nx : Int) := by omega
        obtain ⟨c, hc, hsm, hcf, hmd⟩ := slaw_config n (i64_rng hn).1 (i64_rng hn).2
        have hp3 := pik_lt m (n := 3) (by decide)
        obtain ⟨d, hd, hdb, hdn, hda, hmd2⟩ := slaw_other hc hsm (1 + pik m 3) (by omega) (by omega)
        have HPk := Lib.hid (fun W => spik_any m 3 W (by decide) (by decide) (i64_rng hm).1 (i64_rng hm).2)
        obtain ⟨np, hnp⟩ : ∃ np, pik m 3 = np := ⟨_, rfl⟩
        rw [hnp] at HPk hda hdn hp3
        have hwn : IntKind.i64.wrap (1 + (np : Int)) = 1 + (np : Int) := by rw [IntKind.wrap_i64]; omega
        have HDa := Lib.hid hda
        have HBn : Hid (c.B = ((2 ^ c.b : Nat) : Int) ∧ 2 ^ c.b ≤ 32) := Lib.hid ⟨hc.bB.symm, by have : 2 ^ c.b ≤ 2 ^ 5 := Nat.pow_le_pow_right (by decide) hsm.1; omega⟩
        have HDb := Lib.hid hdb
        have HCf := Lib.hid hcf
        have HMd := Lib.hid hmd
        have HMd2 := Lib.hid hmd2
        have HC := Lib.hid hc
        have HCD := Lib.hid hd
        have HSt := Lib.hid hS
        have HYk := Lib.hid hy
        have HZ := Lib.hid hz
        have HX := Lib.hid hx
        have HZr : Hid (∀ j, j < nz → 0 ≤ z j ∧ z j ≤ 18446744073709551615) := Lib.hid fun j hj => u64_rng (hzr j hj)
        have HXr : Hid (∀ j, j < nx → 0 ≤ x j ∧ x j ≤ 18446744073709551615) := Lib.hid fun j hj => u64_rng (hxr j hj)
        clear hcf hmd hmd2 hc hd hS hy hn hm hz hzr hx hxr hsm hda hdb hdn hnp
        go_enter Tryz.func13, Tryz.ntmps13
        go_wp2_with fail
        refine (sshown_of _).mono ?_
        rintro e w1 ⟨rfl, hb1⟩
        have HB1 := Lib.hid hb1
        clear hb1
        go_wp2_with fail
        refine (HCf.out _).mono ?_
        rintro e w2 ⟨rfl, hb2⟩
        have HB2 := Lib.hid (HB1.out.trans (hb2.mono HB1.out.size))
        clear hb2 HB1 HCf
        go_upto_region 5 with (refine wpList_store_newS rfl (.tmp 12) (.tmp 47) rfl rfl c rfl rfl ?_)
        obtain ⟨cb, hcb⟩ : ∃ b, w2.heap.size = b := ⟨_, rfl⟩
        have hbx := Box.new w2 79 (sfA c)
        have HB3 := Lib.hid (HB2.out.alloc HB2.out.size (.cells (sfA c) 79))
        have hcs : cb < (w2.alloc (.cells (sfA c) 79)).heap.size := by rw [← hcb]; exact hbx.lt
        have hws : w.heap.size ≤ cb := by rw [← hcb]; exact HB2.out.size
        rw [hcb] at hbx ⊢
        have HBx := Lib.hid hbx
        have HCs := Lib.hid hcs
        have HWs := Lib.hid hws
        clear hcb hbx hcs hws HB2
        generalize w2.alloc (.cells (sfA c) 79) = w3 at *
        have k0 := sc_0 HBx.out
        have k1 := sc_1 HBx.out
        have k2 := sc_2 HBx.out
        have k3 := sc_3 HBx.out
        go_upto_region 6 with (refine wpList_store_newS rfl (.tmp 13) (.tmp 48) rfl rfl c rfl rfl ?_)
        obtain ⟨cd, hcd⟩ : ∃ b, w3.heap.size = b := ⟨_, rfl⟩
        have hbx := Box.new w3 79 (sfA c)
        have HB4 := Lib.hid (HB3.out.alloc HB3.out.size (.cells (sfA c) 79))
        have HBx4 := Lib.hid (HBx.out.alloc (.cells (sfA c) 79))
        have hne : cb ≠ cd := by have := HBx.out.lt; omega
        have hcw : w.heap.size ≤ cd := by rw [← hcd]; exact HB3.out.size
        rw [hcd] at hbx ⊢
        have HBd := Lib.hid hbx
        clear HB3 HBx HCs k0 k1 k2 k3 hbx hcd
        generalize w3.alloc (.cells (sfA c) 79) = w4 at *
        go_wp2_with fail
        refine (HPk.out _).mono ?_
        rintro e w5 ⟨rfl, he5⟩
        rw [he5]
        clear he5 w5
        have q3 := sc_3 HBd.out
        have f3 := HBd.out.frozen 3
        have HBd5 : Hid (Box (w4.setCell ⟨cd, 3, none⟩ (.int .i64 (1 + (np : Int)))) cd 79 (sfA d)) := Lib.hid (by
          have := HBd.out.put 3 (.int .i64 (1 + (np : Int)))
          have e : (sfA c).setIfInBounds 3 (.int .i64 (1 + (np : Int))) = sfA d := by
            rw [HDa.out]
            rfl
          rwa [e] at this)
        have HBx5 := Lib.hid (HBx4.out.far (a := ⟨cd, 3, none⟩) hne (.int .i64 (1 + (np : Int))))
        have HB5 := Lib.hid (HB4.out.setCell (p := ⟨cd, 3, none⟩) hcw (.int .i64 (1 + (np : Int))))
        clear HPk HB4 HBx4 HBd
        go_upto_region 7 with fail
        clear q3 f3 hwn
        generalize w4.setCell ⟨cd, 3, none⟩ (.int .i64 (1 + (np : Int))) = w6 at *
        have k0 := sc_0 HBx5.out
        have k1 := sc_1 HBx5.out
        have k2 := sc_2 HBx5.out
        have k3 := sc_3 HBx5.out
        go_wp2_with fail
        refine (HMd.out w6 A nz cz z ((HZ.out.below HB5.out).more HB5.out.size) (by omega) HZr.out).mono ?_
        rintro e w7 ⟨a, rfl, hSt, ho7⟩
        have HBd7 := Lib.hid (HBd5.out.only ho7 (not_nobody _))
        have hB7 := below_only HB5.out ho7 HB5.out.size (fun _ _ h => h)
        have HB7 := Lib.hid hB7
        have HSt7 := Lib.hid hSt
        have HO7 := Lib.hid ho7
        clear k0 k1 k2 k3 hSt ho7 hB7
        have k0 := sc_0 HBd7.out
        have k1 := sc_1 HBd7.out
        have k2 := sc_2 HBd7.out
        have k3 := sc_3 HBd7.out
        go_wp2_with fail
        refine (HMd2.out w7 A' nx cx x ((HX.out.below HB7.out).more HB7.out.size) (by omega) HXr.out).mono ?_
        rintro e w8 ⟨b, rfl, hSt8, ho8⟩
        obtain ⟨ZK, hzz, hE⟩ : ∃ ZK : Nat → Prop, (ZK cb ∧ ZK cd ∧ ∀ i, i < w.heap.size → ZK i) ∧ StT c a d b w ZK (FL c d cb cd w ya nl y) (sg0 c nz z) (sg0 d nx x) 0 0 w8 :=
          ⟨fun i => i < w6.heap.size, ⟨HBx5.out.lt, HBd5.out.lt, fun i hi => by have := HB5.out.size; omega⟩, StT.made HSt7.out HO7.out hSt8 ho8 HB5.out ⟨⟨HBx5.out, HBd5.out⟩, HSt.out.below HB5.out⟩ (fun u u' hs hk f => FL.keep HBx5.out.lt HBd5.out.lt (fun i hi => by have := HB5.out.size; omega) hs hk f)⟩
        have HZK := Lib.hid hzz
        have HE := Lib.hid hE
        have HSt1 : Hid (∀ u u', w.heap.size ≤ u.heap.size → Kept ZK u u' → FL c d cb cd w ya nl y u → FL c d cb cd w ya nl y u') := Lib.hid fun u u' hs hk f => FL.keep HZK.out.1 HZK.out.2.1 HZK.out.2.2 hs hk f
        have HLv : Hid (LvB c d (sg0 c nz z) (sg0 d nx x)) := Lib.hid ⟨_, stB_new c nz z, stB_new d nx x, rfl⟩
        clear k0 k1 k2 k3 hzz hE hSt8 ho8 HBx5 HBd5 HB5 HB7 HBd7 HSt7 HO7 HMd HMd2
        generalize sg0 c nz z = g0 at *
        generalize sg0 d nx x = p0 at *
        go_wp2_with fail
        go_loopw [20] (fun v20 wr => ∃ i : Nat, v20 = .int .i64 i ∧ i ≤ nl ∧ ∃ g p, LvB c d g p ∧ StT c a d b w ZK (FL c d cb cd w ya nl y) g p (20 * i) (20 * i) wr) (fun v20 _ => nl - (intOf v20).toNat)
        case atStart => exact ⟨0, rfl, by omega, _, _, HLv.out, HE.out⟩
        case round =>
          obtain ⟨i, rfl, hi, g, p, hR, hE⟩ := hrel
          have HR2 := Lib.hid hR
          clear hR HLv HE
          by_cases hin : i < nl
          · obtain ⟨yb, yo, rfl, _, _⟩ := HSt.out.at hin
            obtain ⟨r0, r1, r2⟩ := (HYk.out i hin).rng
            have hnn : (i : Int) < (nl : Int) := by omega
            have HSs : Hid (∀ u, FL c d cb cd w (some ⟨yb, yo, none⟩) nl y u → Box u cb 79 (sfA c) ∧ u.rangeAt yb (yo + i * 3) (s3c (y i)).toList) := Lib.hid fun u f => ⟨f.1.1, FL.rng f hin⟩
            obtain ⟨eB, hB32⟩ := HBn.out
            obtain ⟨B, hBB⟩ : ∃ B, 2 ^ c.b = B := ⟨_, rfl⟩
            have hBp := Nat.two_pow_pos c.b
            rw [hBB] at eB hB32 hBp
            have hB0 : ¬ c.B = 0 := by rw [eB]; omega
            have hwB : IntKind.u64.wrap c.B = c.B := by rw [IntKind.wrap_u64, eB]; omega
            have hwT : (y i).2.1.tmod c.B = ((idM c (y i).2.1 : Nat) : Int) := by
              unfold idM
              rw [eB, hBB]
              obtain ⟨u, hu⟩ := Int.eq_ofNat_of_zero_le r1.1
              rw [hu, Int.toNat_natCast]
              rfl
            have HOp := Lib.hid (idM_op c (y i).1 (y i).2.1)
            have HOpD : Hid (isOp (opI (y i).1) (idM c (y i).2.1) (2 ^ d.b) = true) := Lib.hid (by rw [HDb.out]; exact HOp.out)
            clear eB hB32 hBp hBB
            have hi24 : i < 14 := by omega
            go_upto_region 14 with fail
            go_cut [21, 22] from 73 to 144 (fun s21 s22 w' => ∃ xb rr1 t1 g', s21 = .pointer (some ⟨xb, 0, none⟩) ∧ s22 = .bool t1 ∧ w.heap.size ≤ xb ∧ ¬ ZK xb ∧ Told2 c g g' (opI (y i).1) (idM c (y i).2.1) (dw (y i).2.2) rr1 t1 ∧ StT c a d b w (fun j => ZK j ∨ j = xb) (fun u => FL c d cb cd w (some ⟨yb, yo, none⟩) nl y u ∧ Box u xb 48 (DA rr1)) g' p (20 * i + 20) (20 * i) w')
            case first =>
              have hE := hE.drew
              refine held_s (S := fun u => Box u cb 79 (sfA c) ∧ u.rangeAt yb (yo + i * 3) (s3c (y i)).toList) 29 rfl (by kernel_rfl) (HSs.out _ (hE.hF)) (fun hHeld => ?_)
              simp only [Array.replicate_succ, Array.replicate_zero, List.push_toArray, List.nil_append, List.cons_append]
              generalize World.drew _ = wd at *
              refine wpAnyH_take (i := 0) (oi := ⟨some 80, _, _, _, _, _⟩) (v := (.pointer (some ⟨a.sp, 0, none⟩))) rfl (by kernel_rfl) (by kernel_rfl) (by kernel_rfl) (fun _ _ _ h => h) (Or.inl ⟨by rfl, fun w' hw => by go_simp⟩) hHeld ?_
              try simp only [Act.put, List.setIfInBounds_toArray, List.set_cons_zero, List.set_cons_succ]
              refine wpAnyH_take (i := 1) (oi := ⟨some 81, _, _, _, _, _⟩) (v := (.slice (some ⟨yb, yo, none⟩) nl c')) rfl (by kernel_rfl) (by kernel_rfl) (by kernel_rfl) (fun _ _ _ h => h) (Or.inl ⟨by rfl, fun w' hw => by go_simp⟩) hHeld ?_
              try simp only [Act.put, List.setIfInBounds_toArray, List.set_cons_zero, List.set_cons_succ]
              refine wpAnyH_take (i := 2) (oi := ⟨some 82, _, _, _, _, _⟩) (v := (.int .i64 (i : Int))) rfl (by kernel_rfl) (by kernel_rfl) (by kernel_rfl) (fun _ _ _ h => h) (Or.inl ⟨by rfl, fun w' hw => by go_simp⟩) hHeld ?_
              try simp only [Act.put, List.setIfInBounds_toArray, List.set_cons_zero, List.set_cons_succ]
              refine wpAnyH_take (i := 3) (oi := ⟨some 83, _, _, _, _, _⟩) (v := (.pointer (some ⟨yb, yo + i * 3, none⟩))) rfl (by kernel_rfl) (by kernel_rfl) (by kernel_rfl) (fun _ _ _ h => h) (Or.inl ⟨by rfl, fun w' hw => by go_simp⟩) hHeld ?_
              try simp only [Act.put, List.setIfInBounds_toArray, List.set_cons_zero, List.set_cons_succ]
              refine wpAnyH_take (i := 4) (oi := ⟨some 84, _, _, _, _, _⟩) (v := (.pointer (some ⟨yb, yo + i * 3, none⟩))) rfl (by kernel_rfl) (by kernel_rfl) (by kernel_rfl) (fun _ _ _ h => h) (Or.inl ⟨by rfl, fun w' hw => by go_simp⟩) hHeld ?_
              try simp only [Act.put, List.setIfInBounds_toArray, List.set_cons_zero, List.set_cons_succ]
              refine wpAnyH_take (i := 5) (oi := ⟨some 85, _, _, _, _, _⟩) (v := (.int .i64 (y i).1)) rfl (by kernel_rfl) (by kernel_rfl) (by kernel_rfl) (fun _ _ _ h => h) (Or.inl ⟨by rfl, fun w' hw => by (obtain ⟨q0, q1, q2⟩ := sp_cells hw.2; have k0 := sc_0 hw.1; go_simp)⟩) hHeld ?_
              try simp only [Act.put, List.setIfInBounds_toArray, List.set_cons_zero, List.set_cons_succ]
              refine wpAnyH_take (i := 7) (oi := ⟨some 87, _, _, _, _, _⟩) (v := (.slice (some ⟨yb, yo, none⟩) nl c')) rfl (by kernel_rfl) (by kernel_rfl) (by kernel_rfl) (fun _ _ _ h => h) (Or.inl ⟨by rfl, fun w' hw => by go_simp⟩) hHeld ?_
              try simp only [Act.put, List.setIfInBounds_toArray, List.set_cons_zero, List.set_cons_succ]
              refine wpAnyH_take (i := 8) (oi := ⟨some 88, _, _, _, _, _⟩) (v := (.int .i64 (i : Int))) rfl (by kernel_rfl) (by kernel_rfl) (by kernel_rfl) (fun _ _ _ h => h) (Or.inl ⟨by rfl, fun w' hw => by go_simp⟩) hHeld ?_
              try simp only [Act.put, List.setIfInBounds_toArray, List.set_cons_zero, List.set_cons_succ]
              refine wpAnyH_take (i := 9) (oi := ⟨some 89, _, _, _, _, _⟩) (v := (.pointer (some ⟨yb, yo + i * 3, none⟩))) rfl (by kernel_rfl) (by kernel_rfl) (by kernel_rfl) (fun _ _ _ h => h) (Or.inl ⟨by rfl, fun w' hw => by go_simp⟩) hHeld ?_
              try simp only [Act.put, List.setIfInBounds_toArray, List.set_cons_zero, List.set_cons_succ]
              refine wpAnyH_take (i := 10) (oi := ⟨some 90, _, _, _, _, _⟩) (v := (.pointer (some ⟨yb, yo + i * 3 + 1, none⟩))) rfl (by kernel_rfl) (by kernel_rfl) (by kernel_rfl) (fun _ _ _ h => h) (Or.inl ⟨by rfl, fun w' hw => by go_simp⟩) hHeld ?_
              try simp only [Act.put, List.setIfInBounds_toArray, List.set_cons_zero, List.set_cons_succ]
              refine wpAnyH_take (i := 11) (oi := ⟨some 91, _, _, _, _, _⟩) (v := (.int .u64 (y i).2.1)) rfl (by kernel_rfl) (by kernel_rfl) (by kernel_rfl) (fun _ _ _ h => h) (Or.inl ⟨by rfl, fun w' hw => by (obtain ⟨q0, q1, q2⟩ := sp_cells hw.2; have k0 := sc_0 hw.1; go_simp)⟩) hHeld ?_
              try simp only [Act.put, List.setIfInBounds_toArray, List.set_cons_zero, List.set_cons_succ]
              refine wpAnyH_take (i := 12) (oi := ⟨some 92, _, _, _, _, _⟩) (v := (.pointer (some ⟨cb, 0, none⟩))) rfl (by kernel_rfl) (by kernel_rfl) (by kernel_rfl) (fun _ _ _ h => h) (Or.inl ⟨by rfl, fun w' hw => by go_simp⟩) hHeld ?_
              try simp only [Act.put, List.setIfInBounds_toArray, List.set_cons_zero, List.set_cons_succ]
              refine wpAnyH_take (i := 13) (oi := ⟨some 93, _, _, _, _, _⟩) (v := (.int .i64 c.B)) rfl (by kernel_rfl) (by kernel_rfl) (by kernel_rfl) (fun _ _ _ h => h) (Or.inl ⟨by rfl, fun w' hw => by (obtain ⟨q0, q1, q2⟩ := sp_cells hw.2; have k0 := sc_0 hw.1; go_simp)⟩) hHeld ?_
              try simp only [Act.put, List.setIfInBounds_toArray, List.set_cons_zero, List.set_cons_succ]
              refine wpAnyH_take (i := 14) (oi := ⟨some 94, _, _, _, _, _⟩) (v := (.int .u64 c.B)) rfl (by kernel_rfl) (by kernel_rfl) (by kernel_rfl) (fun _ _ _ h => h) (Or.inl ⟨by rfl, fun w' hw => by (have hx := hB0; go_simp; first | done | exact hwB)⟩) hHeld ?_
              try simp only [Act.put, List.setIfInBounds_toArray, List.set_cons_zero, List.set_cons_succ]
              refine wpAnyH_take (i := 15) (oi := ⟨some 95, _, _, _, _, _⟩) (v := (.int .u64 ((idM c (y i).2.1 : Nat) : Int))) rfl (by kernel_rfl) (by kernel_rfl) (by kernel_rfl) (fun _ _ _ h => h) (Or.inl ⟨by rfl, fun w' hw => by (have hx := hB0; go_simp; first | done | exact hwT)⟩) hHeld ?_
              try simp only [Act.put, List.setIfInBounds_toArray, List.set_cons_zero, List.set_cons_succ]
              refine wpAnyH_take (i := 16) (oi := ⟨some 96, _, _, _, _, _⟩) (v := (.slice (some ⟨yb, yo, none⟩) nl c')) rfl (by kernel_rfl) (by kernel_rfl) (by kernel_rfl) (fun _ _ _ h => h) (Or.inl ⟨by rfl, fun w' hw => by go_simp⟩) hHeld ?_
              try simp only [Act.put, List.setIfInBounds_toArray, List.set_cons_zero, List.set_cons_succ]
              refine wpAnyH_take (i := 17) (oi := ⟨some 97, _, _, _, _, _⟩) (v := (.int .i64 (i : Int))) rfl (by kernel_rfl) (by kernel_rfl) (by kernel_rfl) (fun _ _ _ h => h) (Or.inl ⟨by rfl, fun w' hw => by go_simp⟩) hHeld ?_
              try simp only [Act.put, List.setIfInBounds_toArray, List.set_cons_zero, List.set_cons_succ]
              refine wpAnyH_take (i := 18) (oi := ⟨some 98, _, _, _, _, _⟩) (v := (.pointer (some ⟨yb, yo + i * 3, none⟩))) rfl (by kernel_rfl) (by kernel_rfl) (by kernel_rfl) (fun _ _ _ h => h) (Or.inl ⟨by rfl, fun w' hw => by go_simp⟩) hHeld ?_
              try simp only [Act.put, List.setIfInBounds_toArray, List.set_cons_zero, List.set_cons_succ]
              refine wpAnyH_take (i := 19) (oi := ⟨some 99, _, _, _, _, _⟩) (v := (.pointer (some ⟨yb, yo + i * 3 + 2, none⟩))) rfl (by kernel_rfl) (by kernel_rfl) (by kernel_rfl) (fun _ _ _ h => h) (Or.inl ⟨by rfl, fun w' hw => by go_simp⟩) hHeld ?_
              try simp only [Act.put, List.setIfInBounds_toArray, List.set_cons_zero, List.set_cons_succ]
              refine wpAnyH_take (i := 20) (oi := ⟨some 100, _, _, _, _, _⟩) (v := (.int .u64 (y i).2.2)) rfl (by kernel_rfl) (by kernel_rfl) (by kernel_rfl) (fun _ _ _ h => h) (Or.inl ⟨by rfl, fun w' hw => by (obtain ⟨q0, q1, q2⟩ := sp_cells hw.2; have k0 := sc_0 hw.1; go_simp)⟩) hHeld ?_
              try simp only [Act.put, List.setIfInBounds_toArray, List.set_cons_zero, List.set_cons_succ]
              refine wpAnyH_ready (rs := [6, 26]) (by kernel_rfl) (by simp) ?_
              refine AllReadyH.cons rfl (fun K hK => ?_) ?_
              · go_simp
                refine (sop_of (y i).1 _ r0.1 r0.2).mono ?_
                rintro e w13 ⟨rfl, hb⟩
                have hE := hE.nob (Only.of_below hb)
                refine hK.out _ _ (HSs.out _ (hE.hF)) (fun hHeld => ?_)
                clear hK K hb
                try simp only [Act.put, List.setIfInBounds_toArray, List.set_cons_zero, List.set_cons_succ]
                refine wpAnyH_ready (rs := [21, 26]) (by kernel_rfl) (by simp) ?_
                refine AllReadyH.cons rfl (fun K hK => ?_) ?_
                · go_simp
                  refine (sdata_of (y i).2.2 _).mono ?_
                  rintro e w13 ⟨rfl, hb⟩
                  have hE := hE.nob (Only.of_below hb)
                  refine hK.out _ _ (HSs.out _ (hE.hF)) (fun hHeld => ?_)
                  clear hK K hb
                  try simp only [Act.put, List.setIfInBounds_toArray, List.set_cons_zero, List.set_cons_succ]
                  refine wpAnyH_ready (rs := [22, 26]) (by kernel_rfl) (by simp) ?_
                  refine AllReadyH.cons rfl (fun K hK => ?_) ?_
                  · go_simp
                    refine (hE.step HC.out (opI (y i).1) (idM c (y i).2.1) (dw (y i).2.2) HOp.out (fun j => dw_rng _ j) (by omega)).mono ?_
                    rintro e w13 ⟨g', rr1, t1, rfl, hG, hN, hE'⟩
                    have HN1 := Lib.hid hN
                    clear hE hG hN
                    have hE := hE'
                    clear hE'
                    refine hK.out _ _ (HSs.out _ (hE.hF)) (fun hHeld => ?_)
                    clear hK K
                    try simp only [Act.put, List.setIfInBounds_toArray, List.set_cons_zero, List.set_cons_succ]
                    refine wpAnyH_take (i := 23) (oi := ⟨some 79, _, _, _, _, _⟩) (v := (.tuple #[.agg (DA rr1), .bool t1])) rfl (by kernel_rfl) (by kernel_rfl) (by kernel_rfl) (fun _ _ _ h => h) (Or.inl ⟨by rfl, fun w' hw => by go_simp⟩) hHeld ?_
                    try simp only [Act.put, List.setIfInBounds_toArray, List.set_cons_zero, List.set_cons_succ]
                    refine wpAnyH_take (i := 24) (oi := ⟨some 103, _, _, _, _, _⟩) (v := (.agg (DA rr1))) rfl (by kernel_rfl) (by kernel_rfl) (by kernel_rfl) (fun _ _ _ h => h) (Or.inl ⟨by rfl, fun w' hw => by go_simp⟩) hHeld ?_
                    try simp only [Act.put, List.setIfInBounds_toArray, List.set_cons_zero, List.set_cons_succ]
                    refine wpAnyH_take (i := 25) (oi := ⟨some 104, _, _, _, _, _⟩) (v := (.bool t1)) rfl (by kernel_rfl) (by kernel_rfl) (by kernel_rfl) (fun _ _ _ h => h) (Or.inl ⟨by rfl, fun w' hw => by go_simp⟩) hHeld ?_
                    try simp only [Act.put, List.setIfInBounds_toArray, List.set_cons_zero, List.set_cons_succ]
                    refine one_ready 26 rfl (by kernel_rfl) (fun K hK => ?_)
                    go_simp
                    obtain ⟨xb, hxb⟩ := st_size hE
                    have hE' := hE.box 48 #[.int .u64 0, .int .u64 0, .int .u64 0, .int .u64 0, .int .u64 0, .int .u64 0, .int .u64 0, .int .u64 0] hxb
                    have hxbW : w.heap.size ≤ xb := by rw [← hxb]; exact hE.kp.size
                    have hxbZ : ¬ ZK xb := fun h => by have := hE.sk.lt h; omega
                    rw [hxb]
                    clear hE hxb
                    have hE := hE'
                    clear hE'
                    refine hK.out _ _ (HSs.out _ (hE.hF.1)) (fun hHeld => ?_)
                    clear hK K
                    try simp only [Act.put, List.setIfInBounds_toArray, List.set_cons_zero, List.set_cons_succ]
                    refine one_ready 27 (o := ⟨none, _, _, _, _, _⟩) rfl (by kernel_rfl) (fun K hK => ?_)
                    refine step_store_data rfl (.tmp 21) (.tmp 103) rfl xb 0 rfl rr1 rfl (hE.hF.2.there 8 (by decide)) ?_
                    have hE' := hE.data (fun u u' hs hk f => HSt1.out u u' hs hk f) hxbZ hxbW rr1
                    clear hE
                    have hE := hE'
                    clear hE'
                    refine hK.out _ _ (HSs.out _ (hE.hF.1)) (fun hHeld => ?_)
                    clear hK K
                    try simp only [Act.put, List.setIfInBounds_toArray, List.set_cons_zero, List.set_cons_succ]
                    refine wpAnyH_take (i := 28) (oi := ⟨some 22, _, _, _, _, _⟩) (v := (.bool t1)) rfl (by kernel_rfl) (by kernel_rfl) (by kernel_rfl) (fun _ _ _ h => h) (Or.inl ⟨by rfl, fun w' hw => by go_simp⟩) hHeld ?_
                    try simp only [Act.put, List.setIfInBounds_toArray, List.set_cons_zero, List.set_cons_succ]
                    refine wpAnyH_done (by kernel_rfl) ?_ _
                    clear hHeld
                    go_wp2_with fail
                    go_meet
                    case rel => exact ⟨xb, rr1, t1, _, rfl, rfl, hxbW, hxbZ, HN1.out, hE⟩
                  · refine AllReadyH.cons rfl (fun K hK => ?_) AllReadyH.nil
                    go_simp
                    obtain ⟨xb, hxb⟩ := st_size hE
                    have hE' := hE.box 48 #[.int .u64 0, .int .u64 0, .int .u64 0, .int .u64 0, .int .u64 0, .int .u64 0, .int .u64 0, .int .u64 0] hxb
                    have hxbW : w.heap.size ≤ xb := by rw [← hxb]; exact hE.kp.size
                    have hxbZ : ¬ ZK xb := fun h => by have := hE.sk.lt h; omega
                    rw [hxb]
                    clear hE hxb
                    have hE := hE'
                    clear hE'
                    refine hK.out _ _ (HSs.out _ (hE.hF.1)) (fun hHeld => ?_)
                    clear hK K
                    try simp only [Act.put, List.setIfInBounds_toArray, List.set_cons_zero, List.set_cons_succ]
                    refine one_ready 22 rfl (by kernel_rfl) (fun K hK => ?_)
                    go_simp
                    refine (hE.step HC.out (opI (y i).1) (idM c (y i).2.1) (dw (y i).2.2) HOp.out (fun j => dw_rng _ j) (by omega)).mono ?_
                    rintro e w13 ⟨g', rr1, t1, rfl, hG, hN, hE'⟩
                    have HN1 := Lib.hid hN
                    clear hE hG hN
                    have hE := hE'
                    clear hE'
                    refine hK.out _ _ (HSs.out _ (hE.hF.1)) (fun hHeld => ?_)
                    clear hK K
                    try simp only [Act.put, List.setIfInBounds_toArray, List.set_cons_zero, List.set_cons_succ]
                    refine wpAnyH_take (i := 23) (oi := ⟨some 79, _, _, _, _, _⟩) (v := (.tuple #[.agg (DA rr1), .bool t1])) rfl (by kernel_rfl) (by kernel_rfl) (by kernel_rfl) (fun _ _ _ h => h) (Or.inl ⟨by rfl, fun w' hw => by go_simp⟩) hHeld ?_
                    try simp only [Act.put, List.setIfInBounds_toArray, List.set_cons_zero, List.set_cons_succ]
                    refine wpAnyH_take (i := 24) (oi := ⟨some 103, _, _, _, _, _⟩) (v := (.agg (DA rr1))) rfl (by kernel_rfl) (by kernel_rfl) (by kernel_rfl) (fun _ _ _ h => h) (Or.inl ⟨by rfl, fun w' hw => by go_simp⟩) hHeld ?_
                    try simp only [Act.put, List.setIfInBounds_toArray, List.set_cons_zero, List.set_cons_succ]
                    refine wpAnyH_take (i := 25) (oi := ⟨some 104, _, _, _, _, _⟩) (v := (.bool t1)) rfl (by kernel_rfl) (by kernel_rfl) (by kernel_rfl) (fun _ _ _ h => h) (Or.inl ⟨by rfl, fun w' hw => by go_simp⟩) hHeld ?_
                    try simp only [Act.put, List.setIfInBounds_toArray, List.set_cons_zero, List.set_cons_succ]
                    refine one_ready 27 (o := ⟨none, _, _, _, _, _⟩) rfl (by kernel_rfl) (fun K hK => ?_)
                    refine step_store_data rfl (.tmp 21) (.tmp 103) rfl xb 0 rfl rr1 rfl (hE.hF.2.there 8 (by decide)) ?_
                    have hE' := hE.data (fun u u' hs hk f => HSt1.out u u' hs hk f) hxbZ hxbW rr1
                    clear hE
                    have hE := hE'
                    clear hE'
                    refine hK.out _ _ (HSs.out _ (hE.hF.1)) (fun hHeld => ?_)
                    clear hK K
                    try simp only [Act.put, List.setIfInBounds_toArray, List.set_cons_zero, List.set_cons_succ]
                    refine wpAnyH_take (i := 28) (oi := ⟨some 22, _, _, _, _, _⟩) (v := (.bool t1)) rfl (by kernel_rfl) (by kernel_rfl) (by kernel_rfl) (fun _ _ _ h => h) (Or.inl ⟨by rfl, fun w' hw => by go_simp⟩) hHeld ?_
                    try simp only [Act.put, List.setIfInBounds_toArray, List.set_cons_zero, List.set_cons_succ]
                    refine wpAnyH_done (by kernel_rfl) ?_ _
                    clear hHeld
                    go_wp2_with fail
                    go_meet
                    case rel => exact ⟨xb, rr1, t1, _, rfl, rfl, hxbW, hxbZ, HN1.out, hE⟩
                · refine AllReadyH.cons rfl (fun K hK => ?_) AllReadyH.nil
                  go_simp
                  obtain ⟨xb, hxb⟩ := st_size hE
                  have hE' := hE.box 48 #[.int .u64 0, .int .u64 0, .int .u64 0, .int .u64 0, .int .u64 0, .int .u64 0, .int .u64 0, .int .u64 0] hxb
                  have hxbW : w.heap.size ≤ xb := by rw [← hxb]; exact hE.kp.size
                  have hxbZ : ¬ ZK xb := fun h => by have := hE.sk.lt h; omega
                  rw [hxb]
                  clear hE hxb
                  have hE := hE'
                  clear hE'
                  refine hK.out _ _ (HSs.out _ (hE.hF.1)) (fun hHeld => ?_)
                  clear hK K
                  try simp only [Act.put, List.setIfInBounds_toArray, List.set_cons_zero, List.set_cons_succ]
                  refine one_ready 21 rfl (by kernel_rfl) (fun K hK => ?_)
                  go_simp
                  refine (sdata_of (y i).2.2 _).mono ?_
                  rintro e w13 ⟨rfl, hb⟩
                  have hE := hE.nob (Only.of_below hb)
                  refine hK.out _ _ (HSs.out _ (hE.hF.1)) (fun hHeld => ?_)
                  clear hK K hb
                  try simp only [Act.put, List.setIfInBounds_toArray, List.set_cons_zero, List.set_cons_succ]
                  refine one_ready 22 rfl (by kernel_rfl) (fun K hK => ?_)
                  go_simp
                  refine (hE.step HC.out (opI (y i).1) (idM c (y i).2.1) (dw (y i).2.2) HOp.out (fun j => dw_rng _ j) (by omega)).mono ?_
                  rintro e w13 ⟨g', rr1, t1, rfl, hG, hN, hE'⟩
                  have HN1 := Lib.hid hN
                  clear hE hG hN
                  have hE := hE'
                  clear hE'
                  refine hK.out _ _ (HSs.out _ (hE.hF.1)) (fun hHeld => ?_)
                  clear hK K
                  try simp only [Act.put, List.setIfInBounds_toArray, List.set_cons_zero, List.set_cons_succ]
                  refine wpAnyH_take (i := 23) (oi := ⟨some 79, _, _, _, _, _⟩) (v := (.tuple #[.agg (DA rr1), .bool t1])) rfl (by kernel_rfl) (by kernel_rfl) (by kernel_rfl) (fun _ _ _ h => h) (Or.inl ⟨by rfl, fun w' hw => by go_simp⟩) hHeld ?_
                  try simp only [Act.put, List.setIfInBounds_toArray, List.set_cons_zero, List.set_cons_succ]
                  refine wpAnyH_take (i := 24) (oi := ⟨some 103, _, _, _, _, _⟩) (v := (.agg (DA rr1))) rfl (by kernel_rfl) (by kernel_rfl) (by kernel_rfl) (fun _ _ _ h => h) (Or.inl ⟨by rfl, fun w' hw => by go_simp⟩) hHeld ?_
                  try simp only [Act.put, List.setIfInBounds_toArray, List.set_cons_zero, List.set_cons_succ]
                  refine wpAnyH_take (i := 25) (oi := ⟨some 104, _, _, _, _, _⟩) (v := (.bool t1)) rfl (by kernel_rfl) (by kernel_rfl) (by kernel_rfl) (fun _ _ _ h => h) (Or.inl ⟨by rfl, fun w' hw => by go_simp⟩) hHeld ?_
                  try simp only [Act.put, List.setIfInBounds_toArray, List.set_cons_zero, List.set_cons_succ]
                  refine one_ready 27 (o := ⟨none, _, _, _, _, _⟩) rfl (by kernel_rfl) (fun K hK => ?_)
                  refine step_store_data rfl (.tmp 21) (.tmp 103) rfl xb 0 rfl rr1 rfl (hE.hF.2.there 8 (by decide)) ?_
                  have hE' := hE.data (fun u u' hs hk f => HSt1.out u u' hs hk f) hxbZ hxbW rr1
                  clear hE
                  have hE := hE'
                  clear hE'
                  refine hK.out _ _ (HSs.out _ (hE.hF.1)) (fun hHeld => ?_)
                  clear hK K
                  try simp only [Act.put, List.setIfInBounds_toArray, List.set_cons_zero, List.set_cons_succ]
                  refine wpAnyH_take (i := 28) (oi := ⟨some 22, _, _, _, _, _⟩) (v := (.bool t1)) rfl (by kernel_rfl) (by kernel_rfl) (by kernel_rfl) (fun _ _ _ h => h) (Or.inl ⟨by rfl, fun w' hw => by go_simp⟩) hHeld ?_
                  try simp only [Act.put, List.setIfInBounds_toArray, List.set_cons_zero, List.set_cons_succ]
                  refine wpAnyH_done (by kernel_rfl) ?_ _
                  clear hHeld
                  go_wp2_with fail
                  go_meet
                  case rel => exact ⟨xb, rr1, t1, _, rfl, rfl, hxbW, hxbZ, HN1.out, hE⟩
              · refine AllReadyH.cons rfl (fun K hK => ?_) AllReadyH.nil
                go_simp
                obtain ⟨xb, hxb⟩ := st_size hE
                have hE' := hE.box 48 #[.int .u64 0, .int .u64 0, .int .u64 0, .int .u64 0, .int .u64 0, .int .u64 0, .int .u64 0, .int .u64 0] hxb
                have hxbW : w.heap.size ≤ xb := by rw [← hxb]; exact hE.kp.size
                have hxbZ : ¬ ZK xb := fun h => by have := hE.sk.lt h; omega
                rw [hxb]
                clear hE hxb
                have hE := hE'
                clear hE'
                refine hK.out _ _ (HSs.out _ (hE.hF.1)) (fun hHeld => ?_)
                clear hK K
                try simp only [Act.put, List.setIfInBounds_toArray, List.set_cons_zero, List.set_cons_succ]
                refine one_ready 6 rfl (by kernel_rfl) (fun K hK => ?_)
                go_simp
                refine (sop_of (y i).1 _ r0.1 r0.2).mono ?_
                rintro e w13 ⟨rfl, hb⟩
                have hE := hE.nob (Only.of_below hb)
                refine hK.out _ _ (HSs.out _ (hE.hF.1)) (fun hHeld => ?_)
                clear hK K hb
                try simp only [Act.put, List.setIfInBounds_toArray, List.set_cons_zero, List.set_cons_succ]
                refine one_ready 21 rfl (by kernel_rfl) (fun K hK => ?_)
                go_simp
                refine (sdata_of (y i).2.2 _).mono ?_
                rintro e w13 ⟨rfl, hb⟩
                have hE := hE.nob (Only.of_below hb)
                refine hK.out _ _ (HSs.out _ (hE.hF.1)) (fun hHeld => ?_)
                clear hK K hb
                try simp only [Act.put, List.setIfInBounds_toArray, List.set_cons_zero, List.set_cons_succ]
                refine one_ready 22 rfl (by kernel_rfl) (fun K hK => ?_)
                go_simp
                refine (hE.step HC.out (opI (y i).1) (idM c (y i).2.1) (dw (y i).2.2) HOp.out (fun j => dw_rng _ j) (by omega)).mono ?_
                rintro e w13 ⟨g', rr1, t1, rfl, hG, hN, hE'⟩
                have HN1 := Lib.hid hN
                clear hE hG hN
                have hE := hE'
                clear hE'
                refine hK.out _ _ (HSs.out _ (hE.hF.1)) (fun hHeld => ?_)
                clear hK K
                try simp only [Act.put, List.setIfInBounds_toArray, List.set_cons_zero, List.set_cons_succ]
                refine wpAnyH_take (i := 23) (oi := ⟨some 79, _, _, _, _, _⟩) (v := (.tuple #[.agg (DA rr1), .bool t1])) rfl (by kernel_rfl) (by kernel_rfl) (by kernel_rfl) (fun _ _ _ h => h) (Or.inl ⟨by rfl, fun w' hw => by go_simp⟩) hHeld ?_
                try simp only [Act.put, List.setIfInBounds_toArray, List.set_cons_zero, List.set_cons_succ]
                refine wpAnyH_take (i := 24) (oi := ⟨some 103, _, _, _, _, _⟩) (v := (.agg (DA rr1))) rfl (by kernel_rfl) (by kernel_rfl) (by kernel_rfl) (fun _ _ _ h => h) (Or.inl ⟨by rfl, fun w' hw => by go_simp⟩) hHeld ?_
                try simp only [Act.put, List.setIfInBounds_toArray, List.set_cons_zero, List.set_cons_succ]
                refine wpAnyH_take (i := 25) (oi := ⟨some 104, _, _, _, _, _⟩) (v := (.bool t1)) rfl (by kernel_rfl) (by kernel_rfl) (by kernel_rfl) (fun _ _ _ h => h) (Or.inl ⟨by rfl, fun w' hw => by go_simp⟩) hHeld ?_
                try simp only [Act.put, List.setIfInBounds_toArray, List.set_cons_zero, List.set_cons_succ]
                refine one_ready 27 (o := ⟨none, _, _, _, _, _⟩) rfl (by kernel_rfl) (fun K hK => ?_)
                refine step_store_data rfl (.tmp 21) (.tmp 103) rfl xb 0 rfl rr1 rfl (hE.hF.2.there 8 (by decide)) ?_
                have hE' := hE.data (fun u u' hs hk f => HSt1.out u u' hs hk f) hxbZ hxbW rr1
                clear hE
                have hE := hE'
                clear hE'
                refine hK.out _ _ (HSs.out _ (hE.hF.1)) (fun hHeld => ?_)
                clear hK K
                try simp only [Act.put, List.setIfInBounds_toArray, List.set_cons_zero, List.set_cons_succ]
                refine wpAnyH_take (i := 28) (oi := ⟨some 22, _, _, _, _, _⟩) (v := (.bool t1)) rfl (by kernel_rfl) (by kernel_rfl) (by kernel_rfl) (fun _ _ _ h => h) (Or.inl ⟨by rfl, fun w' hw => by go_simp⟩) hHeld ?_
                try simp only [Act.put, List.setIfInBounds_toArray, List.set_cons_zero, List.set_cons_succ]
                refine wpAnyH_done (by kernel_rfl) ?_ _
                clear hHeld
                go_wp2_with fail
                go_meet
                case rel => exact ⟨xb, rr1, t1, _, rfl, rfl, hxbW, hxbZ, HN1.out, hE⟩
            case rest =>
              clear hE
              obtain ⟨xb, rr1, t1, g1, rfl, rfl, hxW, hxZ, hT1, hE⟩ := hcut
              have HT1 := Lib.hid hT1
              have HSt2 : Hid (∀ u u', w.heap.size ≤ u.heap.size → Kept (fun j => ZK j ∨ j = xb) u u' → (FL c d cb cd w (some ⟨yb, yo, none⟩) nl y u ∧ Box u xb 48 (DA rr1)) → FL c d cb cd w (some ⟨yb, yo, none⟩) nl y u' ∧ Box u' xb 48 (DA rr1)) := Lib.hid fun u u' hs hk f => ⟨HSt1.out u u' hs (hk.mono fun j hj => .inl hj) f.1, hk.box f.2 (.inr rfl)⟩
              have HxW := Lib.hid hxW
              have HxZ := Lib.hid hxZ
              clear hT1 hxW hxZ
              go_upto_region 15 with fail
              go_cut [23, 24] from 73 to 144 (fun s23 s24 w' => ∃ eb rr2 t2 g', s23 = .pointer (some ⟨eb, 0, none⟩) ∧ s24 = .bool t2 ∧ Told2 d p g' (opI (y i).1) (idM c (y i).2.1) (dw (y i).2.2) rr2 t2 ∧ StT c a d b w (fun j => (ZK j ∨ j = xb) ∨ j = eb) (fun u => (FL c d cb cd w (some ⟨yb, yo, none⟩) nl y u ∧ Box u xb 48 (DA rr1)) ∧ Box u eb 48 (DA rr2)) g1 g' (20 * i + 20) (20 * i + 20) w')
              case first =>
                have hE := hE.drew
                refine held_s (S := fun u => Box u cb 79 (sfA c) ∧ u.rangeAt yb (yo + i * 3) (s3c (y i)).toList) 29 rfl (by kernel_rfl) (HSs.out _ (hE.hF.1)) (fun hHeld => ?_)
                simp only [Array.replicate_succ, Array.replicate_zero, List.push_toArray, List.nil_append, List.cons_append]
                generalize World.drew _ = wd at *
                refine wpAnyH_take (i := 0) (oi := ⟨some 106, _, _, _, _, _⟩) (v := (.pointer (some ⟨b.sp, 0, none⟩))) rfl (by kernel_rfl) (by kernel_rfl) (by kernel_rfl) (fun _ _ _ h => h) (Or.inl ⟨by rfl, fun w' hw => by go_simp⟩) hHeld ?_
                try simp only [Act.put, List.setIfInBounds_toArray, List.set_cons_zero, List.set_cons_succ]
                refine wpAnyH_take (i := 1) (oi := ⟨some 107, _, _, _, _, _⟩) (v := (.slice (some ⟨yb, yo, none⟩) nl c')) rfl (by kernel_rfl) (by kernel_rfl) (by kernel_rfl) (fun _ _ _ h => h) (Or.inl ⟨by rfl, fun w' hw => by go_simp⟩) hHeld ?_
                try simp only [Act.put, List.setIfInBounds_toArray, List.set_cons_zero, List.set_cons_succ]
                refine wpAnyH_take (i := 2) (oi := ⟨some 108, _, _, _, _, _⟩) (v := (.int .i64 (i : Int))) rfl (by kernel_rfl) (by kernel_rfl) (by kernel_rfl) (fun _ _ _ h => h) (Or.inl ⟨by rfl, fun w' hw => by go_simp⟩) hHeld ?_
                try simp only [Act.put, List.setIfInBounds_toArray, List.set_cons_zero, List.set_cons_succ]
                refine wpAnyH_take (i := 3) (oi := ⟨some 109, _, _, _, _, _⟩) (v := (.pointer (some ⟨yb, yo + i * 3, none⟩))) rfl (by kernel_rfl) (by kernel_rfl) (by kernel_rfl) (fun _ _ _ h => h) (Or.inl ⟨by rfl, fun w' hw => by go_simp⟩) hHeld ?_
                try simp only [Act.put, List.setIfInBounds_toArray, List.set_cons_zero, List.set_cons_succ]
                refine wpAnyH_take (i := 4) (oi := ⟨some 110, _, _, _, _, _⟩) (v := (.pointer (some ⟨yb, yo + i * 3, none⟩))) rfl (by kernel_rfl) (by kernel_rfl) (by kernel_rfl) (fun _ _ _ h => h) (Or.inl ⟨by rfl, fun w' hw => by go_simp⟩) hHeld ?_
                try simp only [Act.put, List.setIfInBounds_toArray, List.set_cons_zero, List.set_cons_succ]
                refine wpAnyH_take (i := 5) (oi := ⟨some 111, _, _, _, _, _⟩) (v := (.int .i64 (y i).1)) rfl (by kernel_rfl) (by kernel_rfl) (by kernel_rfl) (fun _ _ _ h => h) (Or.inl ⟨by rfl, fun w' hw => by (obtain ⟨q0, q1, q2⟩ := sp_cells hw.2; have k0 := sc_0 hw.1; go_simp)⟩) hHeld ?_
                try simp only [Act.put, List.setIfInBounds_toArray, List.set_cons_zero, List.set_cons_succ]
                refine wpAnyH_take (i := 7) (oi := ⟨some 113, _, _, _, _, _⟩) (v := (.slice (some ⟨yb, yo, none⟩) nl c')) rfl (by kernel_rfl) (by kernel_rfl) (by kernel_rfl) (fun _ _ _ h => h) (Or.inl ⟨by rfl, fun w' hw => by go_simp⟩) hHeld ?_
                try simp only [Act.put, List.setIfInBounds_toArray, List.set_cons_zero, List.set_cons_succ]
                refine wpAnyH_take (i := 8) (oi := ⟨some 114, _, _, _, _, _⟩) (v := (.int .i64 (i : Int))) rfl (by kernel_rfl) (by kernel_rfl) (by kernel_rfl) (fun _ _ _ h => h) (Or.inl ⟨by rfl, fun w' hw => by go_simp⟩) hHeld ?_
                try simp only [Act.put, List.setIfInBounds_toArray, List.set_cons_zero, List.set_cons_succ]
                refine wpAnyH_take (i := 9) (oi := ⟨some 115, _, _, _, _, _⟩) (v := (.pointer (some ⟨yb, yo + i * 3, none⟩))) rfl (by kernel_rfl) (by kernel_rfl) (by kernel_rfl) (fun _ _ _ h => h) (Or.inl ⟨by rfl, fun w' hw => by go_simp⟩) hHeld ?_
                try simp only [Act.put, List.setIfInBounds_toArray, List.set_cons_zero, List.set_cons_succ]
                refine wpAnyH_take (i := 10) (oi := ⟨some 116, _, _, _, _, _⟩) (v := (.pointer (some ⟨yb, yo + i * 3 + 1, none⟩))) rfl (by kernel_rfl) (by kernel_rfl) (by kernel_rfl) (fun _ _ _ h => h) (Or.inl ⟨by rfl, fun w' hw => by go_simp⟩) hHeld ?_
                try simp only [Act.put, List.setIfInBounds_toArray, List.set_cons_zero, List.set_cons_succ]
                refine wpAnyH_take (i := 11) (oi := ⟨some 117, _, _, _, _, _⟩) (v := (.int .u64 (y i).2.1)) rfl (by kernel_rfl) (by kernel_rfl) (by kernel_rfl) (fun _ _ _ h => h) (Or.inl ⟨by rfl, fun w' hw => by (obtain ⟨q0, q1, q2⟩ := sp_cells hw.2; have k0 := sc_0 hw.1; go_simp)⟩) hHeld ?_
                try simp only [Act.put, List.setIfInBounds_toArray, List.set_cons_zero, List.set_cons_succ]
                refine wpAnyH_take (i := 12) (oi := ⟨some 118, _, _, _, _, _⟩) (v := (.pointer (some ⟨cb, 0, none⟩))) rfl (by kernel_rfl) (by kernel_rfl) (by kernel_rfl) (fun _ _ _ h => h) (Or.inl ⟨by rfl, fun w' hw => by go_simp⟩) hHeld ?_
                try simp only [Act.put, List.setIfInBounds_toArray, List.set_cons_zero, List.set_cons_succ]
                refine wpAnyH_take (i := 13) (oi := ⟨some 119, _, _, _, _, _⟩) (v := (.int .i64 c.B)) rfl (by kernel_rfl) (by kernel_rfl) (by kernel_rfl) (fun _ _ _ h => h) (Or.inl ⟨by rfl, fun w' hw => by (obtain ⟨q0, q1, q2⟩ := sp_cells hw.2; have k0 := sc_0 hw.1; go_simp)⟩) hHeld ?_
                try simp only [Act.put, List.setIfInBounds_toArray, List.set_cons_zero, List.set_cons_succ]
                refine wpAnyH_take (i := 14) (oi := ⟨some 120, _, _, _, _, _⟩) (v := (.int .u64 c.B)) rfl (by kernel_rfl) (by kernel_rfl) (by kernel_rfl) (fun _ _ _ h => h) (Or.inl ⟨by rfl, fun w' hw => by (have hx := hB0; go_simp; first | done | exact hwB)⟩) hHeld ?_
                try simp only [Act.put, List.setIfInBounds_toArray, List.set_cons_zero, List.set_cons_succ]
                refine wpAnyH_take (i := 15) (oi := ⟨some 121, _, _, _, _, _⟩) (v := (.int .u64 ((idM c (y i).2.1 : Nat) : Int))) rfl (by kernel_rfl) (by kernel_rfl) (by kernel_rfl) (fun _ _ _ h => h) (Or.inl ⟨by rfl, fun w' hw => by (have hx := hB0; go_simp; first | done | exact hwT)⟩) hHeld ?_
                try simp only [Act.put, List.setIfInBounds_toArray, List.set_cons_zero, List.set_cons_succ]
                refine wpAnyH_take (i := 16) (oi := ⟨some 122, _, _, _, _, _⟩) (v := (.slice (some ⟨yb, yo, none⟩) nl c')) rfl (by kernel_rfl) (by kernel_rfl) (by kernel_rfl) (fun _ _ _ h => h) (Or.inl ⟨by rfl, fun w' hw => by go_simp⟩) hHeld ?_
                try simp only [Act.put, List.setIfInBounds_toArray, List.set_cons_zero, List.set_cons_succ]
                refine wpAnyH_take (i := 17) (oi := ⟨some 123, _, _, _, _, _⟩) (v := (.int .i64 (i : Int))) rfl (by kernel_rfl) (by kernel_rfl) (by kernel_rfl) (fun _ _ _ h => h) (Or.inl ⟨by rfl, fun w' hw => by go_simp⟩) hHeld ?_
                try simp only [Act.put, List.setIfInBounds_toArray, List.set_cons_zero, List.set_cons_succ]
                refine wpAnyH_take (i := 18) (oi := ⟨some 124, _, _, _, _, _⟩) (v := (.pointer (some ⟨yb, yo + i * 3, none⟩))) rfl (by kernel_rfl) (by kernel_rfl) (by kernel_rfl) (fun _ _ _ h => h) (Or.inl ⟨by rfl, fun w' hw => by go_simp⟩) hHeld ?_
                try simp only [Act.put, List.setIfInBounds_toArray, List.set_cons_zero, List.set_cons_succ]
                refine wpAnyH_take (i := 19) (oi := ⟨some 125, _, _, _, _, _⟩) (v := (.pointer (some ⟨yb, yo + i * 3 + 2, none⟩))) rfl (by kernel_rfl) (by kernel_rfl) (by kernel_rfl) (fun _ _ _ h => h) (Or.inl ⟨by rfl, fun w' hw => by go_simp⟩) hHeld ?_
                try simp only [Act.put, List.setIfInBounds_toArray, List.set_cons_zero, List.set_cons_succ]
                refine wpAnyH_take (i := 20) (oi := ⟨some 126, _, _, _, _, _⟩) (v := (.int .u64 (y i).2.2)) rfl (by kernel_rfl) (by kernel_rfl) (by kernel_rfl) (fun _ _ _ h => h) (Or.inl ⟨by rfl, fun w' hw => by (obtain ⟨q0, q1, q2⟩ := sp_cells hw.2; have k0 := sc_0 hw.1; go_simp)⟩) hHeld ?_
                try simp only [Act.put, List.setIfInBounds_toArray, List.set_cons_zero, List.set_cons_succ]
                refine wpAnyH_ready (rs := [6, 26]) (by kernel_rfl) (by simp) ?_
                refine AllReadyH.cons rfl (fun K hK => ?_) ?_
                · go_simp
                  refine (sop_of (y i).1 _ r0.1 r0.2).mono ?_
                  rintro e w13 ⟨rfl, hb⟩
                  have hE := hE.nob (Only.of_below hb)
                  refine hK.out _ _ (HSs.out _ (hE.hF.1)) (fun hHeld => ?_)
                  clear hK K hb
                  try simp only [Act.put, List.setIfInBounds_toArray, List.set_cons_zero, List.set_cons_succ]
                  refine wpAnyH_ready (rs := [21, 26]) (by kernel_rfl) (by simp) ?_
                  refine AllReadyH.cons rfl (fun K hK => ?_) ?_
                  · go_simp
                    refine (sdata_of (y i).2.2 _).mono ?_
                    rintro e w13 ⟨rfl, hb⟩
                    have hE := hE.nob (Only.of_below hb)
                    refine hK.out _ _ (HSs.out _ (hE.hF.1)) (fun hHeld => ?_)
                    clear hK K hb
                    try simp only [Act.put, List.setIfInBounds_toArray, List.set_cons_zero, List.set_cons_succ]
                    refine wpAnyH_ready (rs := [22, 26]) (by kernel_rfl) (by simp) ?_
                    refine AllReadyH.cons rfl (fun K hK => ?_) ?_
                    · go_simp
                      refine (hE.swap.step HCD.out (opI (y i).1) (idM c (y i).2.1) (dw (y i).2.2) HOpD.out (fun j => dw_rng _ j) (by omega)).mono ?_
                      rintro e w13 ⟨g', rr2, t2, rfl, hG, hN, hE'⟩
                      have HN2 := Lib.hid hN
                      clear hE hG hN
                      have hE := hE'.swap
                      clear hE'
                      refine hK.out _ _ (HSs.out _ (hE.hF.1)) (fun hHeld => ?_)
                      clear hK K
                      try simp only [Act.put, List.setIfInBounds_toArray, List.set_cons_zero, List.set_cons_succ]
                      refine wpAnyH_take (i := 23) (oi := ⟨some 105, _, _, _, _, _⟩) (v := (.tuple #[.agg (DA rr2), .bool t2])) rfl (by kernel_rfl) (by kernel_rfl) (by kernel_rfl) (fun _ _ _ h => h) (Or.inl ⟨by rfl, fun w' hw => by go_simp⟩) hHeld ?_
                      try simp only [Act.put, List.setIfInBounds_toArray, List.set_cons_zero, List.set_cons_succ]
                      refine wpAnyH_take (i := 24) (oi := ⟨some 129, _, _, _, _, _⟩) (v := (.agg (DA rr2))) rfl (by kernel_rfl) (by kernel_rfl) (by kernel_rfl) (fun _ _ _ h => h) (Or.inl ⟨by rfl, fun w' hw => by go_simp⟩) hHeld ?_
                      try simp only [Act.put, List.setIfInBounds_toArray, List.set_cons_zero, List.set_cons_succ]
                      refine wpAnyH_take (i := 25) (oi := ⟨some 130, _, _, _, _, _⟩) (v := (.bool t2)) rfl (by kernel_rfl) (by kernel_rfl) (by kernel_rfl) (fun _ _ _ h => h) (Or.inl ⟨by rfl, fun w' hw => by go_simp⟩) hHeld ?_
                      try simp only [Act.put, List.setIfInBounds_toArray, List.set_cons_zero, List.set_cons_succ]
                      refine one_ready 26 rfl (by kernel_rfl) (fun K hK => ?_)
                      go_simp
                      obtain ⟨eb, hxb⟩ := st_size hE
                      have hE' := hE.box 48 #[.int .u64 0, .int .u64 0, .int .u64 0, .int .u64 0, .int .u64 0, .int .u64 0, .int .u64 0, .int .u64 0] hxb
                      have hebW : w.heap.size ≤ eb := by rw [← hxb]; exact hE.kp.size
                      have hebZ : ¬ (ZK eb ∨ eb = xb) := fun h => by have := hE.sk.lt h; omega
                      rw [hxb]
                      clear hE hxb
                      have hE := hE'
                      clear hE'
                      refine hK.out _ _ (HSs.out _ (hE.hF.1.1)) (fun hHeld => ?_)
                      clear hK K
                      try simp only [Act.put, List.setIfInBounds_toArray, List.set_cons_zero, List.set_cons_succ]
                      refine one_ready 27 (o := ⟨none, _, _, _, _, _⟩) rfl (by kernel_rfl) (fun K hK => ?_)
                      refine step_store_data rfl (.tmp 23) (.tmp 129) rfl eb 0 rfl rr2 rfl (hE.hF.2.there 8 (by decide)) ?_
                      have hE' := hE.data (fun u u' hs hk f => HSt2.out u u' hs hk f) hebZ hebW rr2
                      clear hE
                      have hE := hE'
                      clear hE'
                      refine hK.out _ _ (HSs.out _ (hE.hF.1.1)) (fun hHeld => ?_)
                      clear hK K
                      try simp only [Act.put, List.setIfInBounds_toArray, List.set_cons_zero, List.set_cons_succ]
                      refine wpAnyH_take (i := 28) (oi := ⟨some 24, _, _, _, _, _⟩) (v := (.bool t2)) rfl (by kernel_rfl) (by kernel_rfl) (by kernel_rfl) (fun _ _ _ h => h) (Or.inl ⟨by rfl, fun w' hw => by go_simp⟩) hHeld ?_
                      try simp only [Act.put, List.setIfInBounds_toArray, List.set_cons_zero, List.set_cons_succ]
                      refine wpAnyH_done (by kernel_rfl) ?_ _
                      clear hHeld
                      go_wp2_with fail
                      go_meet
                      case rel => exact ⟨eb, rr2, t2, _, rfl, rfl, HN2.out, hE⟩
                    · refine AllReadyH.cons rfl (fun K hK => ?_) AllReadyH.nil
                      go_simp
                      obtain ⟨eb, hxb⟩ := st_size hE
                      have hE' := hE.box 48 #[.int .u64 0, .int .u64 0, .int .u64 0, .int .u64 0, .int .u64 0, .int .u64 0, .int .u64 0, .int .u64 0] hxb
                      have hebW : w.heap.size ≤ eb := by rw [← hxb]; exact hE.kp.size
                      have hebZ : ¬ (ZK eb ∨ eb = xb) := fun h => by have := hE.sk.lt h; omega
                      rw [hxb]
                      clear hE hxb
                      have hE := hE'
                      clear hE'
                      refine hK.out _ _ (HSs.out _ (hE.hF.1.1)) (fun hHeld => ?_)
                      clear hK K
                      try simp only [Act.put, List.setIfInBounds_toArray, List.set_cons_zero, List.set_cons_succ]
                      refine one_ready 22 rfl (by kernel_rfl) (fun K hK => ?_)
                      go_simp
                      refine (hE.swap.step HCD.out (opI (y i).1) (idM c (y i).2.1) (dw (y i).2.2) HOpD.out (fun j => dw_rng _ j) (by omega)).mono ?_
                      rintro e w13 ⟨g', rr2, t2, rfl, hG, hN, hE'⟩
                      have HN2 := Lib.hid hN
                      clear hE hG hN
                      have hE := hE'.swap
                      clear hE'
                      refine hK.out _ _ (HSs.out _ (hE.hF.1.1)) (fun hHeld => ?_)
                      clear hK K
                      try simp only [Act.put, List.setIfInBounds_toArray, List.set_cons_zero, List.set_cons_succ]
                      refine wpAnyH_take (i := 23) (oi := ⟨some 105, _, _, _, _, _⟩) (v := (.tuple #[.agg (DA rr2), .bool t2])) rfl (by kernel_rfl) (by kernel_rfl) (by kernel_rfl) (fun _ _ _ h => h) (Or.inl ⟨by rfl, fun w' hw => by go_simp⟩) hHeld ?_
                      try simp only [Act.put, List.setIfInBounds_toArray, List.set_cons_zero, List.set_cons_succ]
                      refine wpAnyH_take (i := 24) (oi := ⟨some 129, _, _, _, _, _⟩) (v := (.agg (DA rr2))) rfl (by kernel_rfl) (by kernel_rfl) (by kernel_rfl) (fun _ _ _ h => h) (Or.inl ⟨by rfl, fun w' hw => by go_simp⟩) hHeld ?_
                      try simp only [Act.put, List.setIfInBounds_toArray, List.set_cons_zero, List.set_cons_succ]
                      refine wpAnyH_take (i := 25) (oi := ⟨some 130, _, _, _, _, _⟩) (v := (.bool t2)) rfl (by kernel_rfl) (by kernel_rfl) (by kernel_rfl) (fun _ _ _ h => h) (Or.inl ⟨by rfl, fun w' hw => by go_simp⟩) hHeld ?_
                      try simp only [Act.put, List.setIfInBounds_toArray, List.set_cons_zero, List.set_cons_succ]
                      refine one_ready 27 (o := ⟨none, _, _, _, _, _⟩) rfl (by kernel_rfl) (fun K hK => ?_)
                      refine step_store_data rfl (.tmp 23) (.tmp 129) rfl eb 0 rfl rr2 rfl (hE.hF.2.there 8 (by decide)) ?_
                      have hE' := hE.data (fun u u' hs hk f => HSt2.out u u' hs hk f) hebZ hebW rr2
                      clear hE
                      have hE := hE'
                      clear hE'
                      refine hK.out _ _ (HSs.out _ (hE.hF.1.1)) (fun hHeld => ?_)
                      clear hK K
                      try simp only [Act.put, List.setIfInBounds_toArray, List.set_cons_zero, List.set_cons_succ]
                      refine wpAnyH_take (i := 28) (oi := ⟨some 24, _, _, _, _, _⟩) (v := (.bool t2)) rfl (by kernel_rfl) (by kernel_rfl) (by kernel_rfl) (fun _ _ _ h => h) (Or.inl ⟨by rfl, fun w' hw => by go_simp⟩) hHeld ?_
                      try simp only [Act.put, List.setIfInBounds_toArray, List.set_cons_zero, List.set_cons_succ]
                      refine wpAnyH_done (by kernel_rfl) ?_ _
                      clear hHeld
                      go_wp2_with fail
                      go_meet
                      case rel => exact ⟨eb, rr2, t2, _, rfl, rfl, HN2.out, hE⟩
                  · refine AllReadyH.cons rfl (fun K hK => ?_) AllReadyH.nil
                    go_simp
                    obtain ⟨eb, hxb⟩ := st_size hE
                    have hE' := hE.box 48 #[.int .u64 0, .int .u64 0, .int .u64 0, .int .u64 0, .int .u64 0, .int .u64 0, .int .u64 0, .int .u64 0] hxb
                    have hebW : w.heap.size ≤ eb := by rw [← hxb]; exact hE.kp.size
                    have hebZ : ¬ (ZK eb ∨ eb = xb) := fun h => by have := hE.sk.lt h; omega
                    rw [hxb]
                    clear hE hxb
                    have hE := hE'
                    clear hE'
                    refine hK.out _ _ (HSs.out _ (hE.hF.1.1)) (fun hHeld => ?_)
                    clear hK K
                    try simp only [Act.put, List.setIfInBounds_toArray, List.set_cons_zero, List.set_cons_succ]
                    refine one_ready 21 rfl (by kernel_rfl) (fun K hK => ?_)
                    go_simp
                    refine (sdata_of (y i).2.2 _).mono ?_
                    rintro e w13 ⟨rfl, hb⟩
                    have hE := hE.nob (Only.of_below hb)
                    refine hK.out _ _ (HSs.out _ (hE.hF.1.1)) (fun hHeld => ?_)
                    clear hK K hb
                    try simp only [Act.put, List.setIfInBounds_toArray, List.set_cons_zero, List.set_cons_succ]
                    refine one_ready 22 rfl (by kernel_rfl) (fun K hK => ?_)
                    go_simp
                    refine (hE.swap.step HCD.out (opI (y i).1) (idM c (y i).2.1) (dw (y i).2.2) HOpD.out (fun j => dw_rng _ j) (by omega)).mono ?_
                    rintro e w13 ⟨g', rr2, t2, rfl, hG, hN, hE'⟩
                    have HN2 := Lib.hid hN
                    clear hE hG hN
                    have hE := hE'.swap
                    clear hE'
                    refine hK.out _ _ (HSs.out _ (hE.hF.1.1)) (fun hHeld => ?_)
                    clear hK K
                    try simp only [Act.put, List.setIfInBounds_toArray, List.set_cons_zero, List.set_cons_succ]
                    refine wpAnyH_take (i := 23) (oi := ⟨some 105, _, _, _, _, _⟩) (v := (.tuple #[.agg (DA rr2), .bool t2])) rfl (by kernel_rfl) (by kernel_rfl) (by kernel_rfl) (fun _ _ _ h => h) (Or.inl ⟨by rfl, fun w' hw => by go_simp⟩) hHeld ?_
                    try simp only [Act.put, List.setIfInBounds_toArray, List.set_cons_zero, List.set_cons_succ]
                    refine wpAnyH_take (i := 24) (oi := ⟨some 129, _, _, _, _, _⟩) (v := (.agg (DA rr2))) rfl (by kernel_rfl) (by kernel_rfl) (by kernel_rfl) (fun _ _ _ h => h) (Or.inl ⟨by rfl, fun w' hw => by go_simp⟩) hHeld ?_
                    try simp only [Act.put, List.setIfInBounds_toArray, List.set_cons_zero, List.set_cons_succ]
                    refine wpAnyH_take (i := 25) (oi := ⟨some 130, _, _, _, _, _⟩) (v := (.bool t2)) rfl (by kernel_rfl) (by kernel_rfl) (by kernel_rfl) (fun _ _ _ h => h) (Or.inl ⟨by rfl, fun w' hw => by go_simp⟩) hHeld ?_
                    try simp only [Act.put, List.setIfInBounds_toArray, List.set_cons_zero, List.set_cons_succ]
                    refine one_ready 27 (o := ⟨none, _, _, _, _, _⟩) rfl (by kernel_rfl) (fun K hK => ?_)
                    refine step_store_data rfl (.tmp 23) (.tmp 129) rfl eb 0 rfl rr2 rfl (hE.hF.2.there 8 (by decide)) ?_
                    have hE' := hE.data (fun u u' hs hk f => HSt2.out u u' hs hk f) hebZ hebW rr2
                    clear hE
                    have hE := hE'
                    clear hE'
                    refine hK.out _ _ (HSs.out _ (hE.hF.1.1)) (fun hHeld => ?_)
                    clear hK K
                    try simp only [Act.put, List.setIfInBounds_toArray, List.set_cons_zero, List.set_cons_succ]
                    refine wpAnyH_take (i := 28) (oi := ⟨some 24, _, _, _, _, _⟩) (v := (.bool t2)) rfl (by kernel_rfl) (by kernel_rfl) (by kernel_rfl) (fun _ _ _ h => h) (Or.inl ⟨by rfl, fun w' hw => by go_simp⟩) hHeld ?_
                    try simp only [Act.put, List.setIfInBounds_toArray, List.set_cons_zero, List.set_cons_succ]
                    refine wpAnyH_done (by kernel_rfl) ?_ _
                    clear hHeld
                    go_wp2_with fail
                    go_meet
                    case rel => exact ⟨eb, rr2, t2, _, rfl, rfl, HN2.out, hE⟩
                · refine AllReadyH.cons rfl (fun K hK => ?_) AllReadyH.nil
                  go_simp
                  obtain ⟨eb, hxb⟩ := st_size hE
                  have hE' := hE.box 48 #[.int .u64 0, .int .u64 0, .int .u64 0, .int .u64 0, .int .u64 0, .int .u64 0, .int .u64 0, .int .u64 0] hxb
                  have hebW : w.heap.size ≤ eb := by rw [← hxb]; exact hE.kp.size
                  have hebZ : ¬ (ZK eb ∨ eb = xb) := fun h => by have := hE.sk.lt h; omega
                  rw [hxb]
                  clear hE hxb
                  have hE := hE'
                  clear hE'
                  refine hK.out _ _ (HSs.out _ (hE.hF.1.1)) (fun hHeld => ?_)
                  clear hK K
                  try simp only [Act.put, List.setIfInBounds_toArray, List.set_cons_zero, List.set_cons_succ]
                  refine one_ready 6 rfl (by kernel_rfl) (fun K hK => ?_)
                  go_simp
                  refine (sop_of (y i).1 _ r0.1 r0.2).mono ?_
                  rintro e w13 ⟨rfl, hb⟩
                  have hE := hE.nob (Only.of_below hb)
                  refine hK.out _ _ (HSs.out _ (hE.hF.1.1)) (fun hHeld => ?_)
                  clear hK K hb
                  try simp only [Act.put, List.setIfInBounds_toArray, List.set_cons_zero, List.set_cons_succ]
                  refine one_ready 21 rfl (by kernel_rfl) (fun K hK => ?_)
                  go_simp
                  refine (sdata_of (y i).2.2 _).mono ?_
                  rintro e w13 ⟨rfl, hb⟩
                  have hE := hE.nob (Only.of_below hb)
                  refine hK.out _ _ (HSs.out _ (hE.hF.1.1)) (fun hHeld => ?_)
                  clear hK K hb
                  try simp only [Act.put, List.setIfInBounds_toArray, List.set_cons_zero, List.set_cons_succ]
                  refine one_ready 22 rfl (by kernel_rfl) (fun K hK => ?_)
                  go_simp
                  refine (hE.swap.step HCD.out (opI (y i).1) (idM c (y i).2.1) (dw (y i).2.2) HOpD.out (fun j => dw_rng _ j) (by omega)).mono ?_
                  rintro e w13 ⟨g', rr2, t2, rfl, hG, hN, hE'⟩
                  have HN2 := Lib.hid hN
                  clear hE hG hN
                  have hE := hE'.swap
                  clear hE'
                  refine hK.out _ _ (HSs.out _ (hE.hF.1.1)) (fun hHeld => ?_)
                  clear hK K
                  try simp only [Act.put, List.setIfInBounds_toArray, List.set_cons_zero, List.set_cons_succ]
                  refine wpAnyH_take (i := 23) (oi := ⟨some 105, _, _, _, _, _⟩) (v := (.tuple #[.agg (DA rr2), .bool t2])) rfl (by kernel_rfl) (by kernel_rfl) (by kernel_rfl) (fun _ _ _ h => h) (Or.inl ⟨by rfl, fun w' hw => by go_simp⟩) hHeld ?_
                  try simp only [Act.put, List.setIfInBounds_toArray, List.set_cons_zero, List.set_cons_succ]
                  refine wpAnyH_take (i := 24) (oi := ⟨some 129, _, _, _, _, _⟩) (v := (.agg (DA rr2))) rfl (by kernel_rfl) (by kernel_rfl) (by kernel_rfl) (fun _ _ _ h => h) (Or.inl ⟨by rfl, fun w' hw => by go_simp⟩) hHeld ?_
                  try simp only [Act.put, List.setIfInBounds_toArray, List.set_cons_zero, List.set_cons_succ]
                  refine wpAnyH_take (i := 25) (oi := ⟨some 130, _, _, _, _, _⟩) (v := (.bool t2)) rfl (by kernel_rfl) (by kernel_rfl) (by kernel_rfl) (fun _ _ _ h => h) (Or.inl ⟨by rfl, fun w' hw => by go_simp⟩) hHeld ?_
                  try simp only [Act.put, List.setIfInBounds_toArray, List.set_cons_zero, List.set_cons_succ]
                  refine one_ready 27 (o := ⟨none, _, _, _, _, _⟩) rfl (by kernel_rfl) (fun K hK => ?_)
                  refine step_store_data rfl (.tmp 23) (.tmp 129) rfl eb 0 rfl rr2 rfl (hE.hF.2.there 8 (by decide)) ?_
                  have hE' := hE.data (fun u u' hs hk f => HSt2.out u u' hs hk f) hebZ hebW rr2
                  clear hE
                  have hE := hE'
                  clear hE'
                  refine hK.out _ _ (HSs.out _ (hE.hF.1.1)) (fun hHeld => ?_)
                  clear hK K
                  try simp only [Act.put, List.setIfInBounds_toArray, List.set_cons_zero, List.set_cons_succ]
                  refine wpAnyH_take (i := 28) (oi := ⟨some 24, _, _, _, _, _⟩) (v := (.bool t2)) rfl (by kernel_rfl) (by kernel_rfl) (by kernel_rfl) (fun _ _ _ h => h) (Or.inl ⟨by rfl, fun w' hw => by go_simp⟩) hHeld ?_
                  try simp only [Act.put, List.setIfInBounds_toArray, List.set_cons_zero, List.set_cons_succ]
                  refine wpAnyH_done (by kernel_rfl) ?_ _
                  clear hHeld
                  go_wp2_with fail
                  go_meet
                  case rel => exact ⟨eb, rr2, t2, _, rfl, rfl, HN2.out, hE⟩
              case rest =>
                clear hE hB0 hwB hwT r0 r1 r2
                obtain ⟨eb, rr2, t2, p1, rfl, rfl, hT2, hE⟩ := hcut
                have HT2 := Lib.hid hT2
                have HE := Lib.hid hE
                have HO1 := Lib.hid (hE.over HC.out)
                have HO2 := Lib.hid (hE.swap.over HCD.out)
                obtain ⟨o1, ho1⟩ : ∃ o, ovN g1 c.n = o := ⟨_, rfl⟩
                obtain ⟨o2, ho2⟩ : ∃ o, ovN p1 d.n = o := ⟨_, rfl⟩
                rw [ho1] at HO1
                rw [ho2] at HO2
                have HQ1 := Lib.hid ho1
                have HQ2 := Lib.hid ho2
                clear hT2 hE ho1 ho2
                cases o1
                · cases o2
                  · obtain ⟨bb, hb1, hb2, hb3⟩ := HR2.out
                    obtain ⟨e1, e2, e3, e4⟩ := HT1.out (noO_over HQ1.out) bb hb1
                    obtain ⟨e5, e6, e7, e8⟩ := HT2.out (noO_over HQ2.out) bb hb2
                    obtain ⟨dd, hdd⟩ : ∃ dd, datD (bb ((idM c (y i).2.1 : Nat) : Int)) = dd := ⟨_, rfl⟩
                    obtain ⟨tt, htt⟩ : ∃ tt, (bb ((idM c (y i).2.1 : Nat) : Int)).isSome = tt := ⟨_, rfl⟩
                    rw [hdd] at e1 e5
                    rw [htt] at e2 e6
                    have HLn : Hid (LvB c d g1 p1) := Lib.hid ⟨_, e4, e8, by rw [e3, e7, hb3]⟩
                    have hE := HE.out
                    rw [e1, e5] at hE
                    have HSt2R : Hid (∀ u u', w.heap.size ≤ u.heap.size → Kept (fun j => ZK j ∨ j = xb) u u' → (FL c d cb cd w (some ⟨yb, yo, none⟩) nl y u ∧ Box u xb 48 (DA dd)) → FL c d cb cd w (some ⟨yb, yo, none⟩) nl y u' ∧ Box u' xb 48 (DA dd)) := Lib.hid fun u u' hs hk f => ⟨HSt1.out u u' hs (hk.mono fun j hj => .inl hj) f.1, hk.box f.2 (.inr rfl)⟩
                    have HRx := Lib.hid hE.hF.1.2.range
                    have HRe := Lib.hid hE.hF.2.range
                    have hE' := (hE.back (fun j hj => .inl hj) (fun j hj => .inl (HZK.out.2.2 j hj)) (fun u u' hs hk f => HSt2R.out u u' hs hk f))
                    have HE3 := Lib.hid (hE'.back (Z0 := ZK) (fun j hj => .inl hj) HZK.out.2.2 (fun u u' hs hk f => HSt1.out u u' hs hk f))
                    subst e2 e6
                    have hq := neq_data dd dd
                    rw [deq_self] at hq
                    clear e1 e3 e4 e5 e7 e8 hb1 hb2 hb3 hdd htt HT1 HT2 HR2 HE hE hE' HQ1 HQ2 HSt2
                    go_wp2_with fail
                    refine HO1.out.mono ?_
                    rintro e w20 ⟨rfl, rfl⟩
                    go_wp2_with fail
                    refine HO2.out.mono ?_
                    rintro e w20 ⟨rfl, rfl⟩
                    cases t2 <;>
                    · go_wp2_with (first | with_reducible refine wpList_load_data rfl (.tmp 21) rfl xb 0 rfl dd HRx.out ?_ | with_reducible refine wpList_load_data rfl (.tmp 23) rfl eb 0 rfl dd HRe.out ?_)
                      go_roundw
                      case rel => exact ⟨i + 1, by go_num, by omega, _, _, HLn.out, HE3.out⟩
                      case measure => simp [intOf]; omega
                  · go_wp2_with fail
                    refine HO1.out.mono ?_
                    rintro e w20 ⟨rfl, rfl⟩
                    go_wp2_with fail
                    refine HO2.out.mono ?_
                    rintro e w20 ⟨rfl, rfl⟩
                    go_wp2_with fail
                    go_ret
                    exact ⟨rfl, HE.out.kp⟩
                · go_wp2_with fail
                  refine HO1.out.mono ?_
                  rintro e w20 ⟨rfl, rfl⟩
                  go_wp2_with fail
                  go_ret
                  exact ⟨rfl, HE.out.kp⟩
          · have hnn : ¬ (i : Int) < (nl : Int) := by omega
            have HE := Lib.hid hE
            clear hE
            have hx : ctN p 0 = ctN g 0 := by
              obtain ⟨bb, _, _, hi0⟩ := HR2.out
              unfold ctN
              rw [hi0]
            obtain ⟨x0, hx0⟩ : ∃ x0, ctN g 0 = x0 := ⟨_, rfl⟩
            rw [hx0] at hx
            have HX0 := Lib.hid hx0
            have HX1 := Lib.hid hx
            clear hx hx0 HR2
            go_wp2_with fail
            refine (HE.out.counts HC.out).mono ?_
            rintro e w20 ⟨v, rfl, hIr⟩
            have hlen := ctL_len g c.n
            have hn1 := HC.out.n1
            obtain ⟨pb, pc, rfl, _, hIr2⟩ := hIr.out (by omega) (ctN g) (fun j hj => by
              have := ctL_at g c.n j (by omega)
              rw [List.getElem?_eq_getElem hj] at this
              injection this)
            rw [hlen] at hIr2 ⊢
            have HE2 := Lib.hid (HE.out.nob (Only.of_below hIr.below))
            have HP := Lib.hid hIr2
            clear hIr hIr2 hlen HE
            go_wp2_with fail
            refine (HE2.out.swap.counts HCD.out).mono ?_
            rintro e w21 ⟨v, rfl, hIr⟩
            have hlen := ctL_len p d.n
            have hd1 := HCD.out.n1
            obtain ⟨qb, qc, rfl, _, hIr2⟩ := hIr.out (by omega) (ctN p) (fun j hj => by
              have := ctL_at p d.n j (by omega)
              rw [List.getElem?_eq_getElem hj] at this
              injection this)
            rw [hlen] at hIr2 ⊢
            have HE3 := Lib.hid (HE2.out.nob (Only.of_below hIr.below))
            have HPc : Hid (w21.cell? ⟨pb, 0, none⟩ = some (.int .i64 x0)) := Lib.hid (by
              have := (HP.out.below hIr.below (Nat.le_refl _)).cell 0 (by omega)
              rwa [HX0.out] at this)
            have HQc : Hid (w21.cell? ⟨qb, 0, none⟩ = some (.int .i64 x0)) := Lib.hid (by
              have := hIr2.cell 0 (by omega)
              rwa [HX1.out] at this)
            clear hIr hIr2 hlen HE2 HP HX0 HX1
            go_upto_region 22 with fail
            have hE := HE3.out.drew
            have hc0 : ¬ c.n = 0 := by omega
            have hd0 : ¬ d.n = 0 := by omega
            refine held_s (S := fun u => FL c d cb cd w ya nl y u ∧ u.cell? ⟨pb, 0, none⟩ = some (.int .i64 x0) ∧ u.cell? ⟨qb, 0, none⟩ = some (.int .i64 x0)) 22 rfl (by kernel_rfl) ⟨hE.hF, HPc.out, HQc.out⟩ (fun hHeld => ?_)
            simp only [Array.replicate_succ, Array.replicate_zero, List.push_toArray, List.nil_append, List.cons_append]
            generalize World.drew _ = wd at *
            refine wpAnyH_take (i := 0) (oi := ⟨some 149, _, _, _, _, _⟩) (v := (.slice (some ⟨pb, 0, none⟩) c.n pc)) rfl (by kernel_rfl) (by kernel_rfl) (by kernel_rfl) (fun _ _ _ h => h) (Or.inl ⟨by rfl, fun w' hw => by go_simp⟩) hHeld ?_
            try simp only [Act.put, List.setIfInBounds_toArray, List.set_cons_zero, List.set_cons_succ]
            refine wpAnyH_take (i := 1) (oi := ⟨some 150, _, _, _, _, _⟩) (v := (.int .i64 (c.n : Int))) rfl (by kernel_rfl) (by kernel_rfl) (by kernel_rfl) (fun _ _ _ h => h) (Or.inl ⟨by rfl, fun w' hw => by go_simp⟩) hHeld ?_
            try simp only [Act.put, List.setIfInBounds_toArray, List.set_cons_zero, List.set_cons_succ]
            refine wpAnyH_take (i := 2) (oi := ⟨some 151, _, _, _, _, _⟩) (v := (.pointer (some ⟨cb, 3, none⟩))) rfl (by kernel_rfl) (by kernel_rfl) (by kernel_rfl) (fun _ _ _ h => h) (Or.inl ⟨by rfl, fun w' hw => by go_simp⟩) hHeld ?_
            try simp only [Act.put, List.setIfInBounds_toArray, List.set_cons_zero, List.set_cons_succ]
            refine wpAnyH_take (i := 3) (oi := ⟨some 152, _, _, _, _, _⟩) (v := (.int .i64 (c.n : Int))) rfl (by kernel_rfl) (by kernel_rfl) (by kernel_rfl) (fun _ _ _ h => h) (Or.inl ⟨by rfl, fun w' hw => by (obtain ⟨⟨⟨h1, h2⟩, _⟩, h3, h4⟩ := hw; have q1 := sc_3 h1; have q2 := sc_3 h2; go_simp)⟩) hHeld ?_
            try simp only [Act.put, List.setIfInBounds_toArray, List.set_cons_zero, List.set_cons_succ]
            refine wpAnyH_take (i := 4) (oi := ⟨some 153, _, _, _, _, _⟩) (v := (.bool true)) rfl (by kernel_rfl) (by kernel_rfl) (by kernel_rfl) (fun _ _ _ h => h) (Or.inl ⟨by rfl, fun w' hw => by go_simp⟩) hHeld ?_
            try simp only [Act.put, List.setIfInBounds_toArray, List.set_cons_zero, List.set_cons_succ]
            refine wpAnyH_take (i := 5) (oi := ⟨some 154, _, _, _, _, _⟩) (v := (.bool true)) rfl (by kernel_rfl) (by kernel_rfl) (by kernel_rfl) (fun _ _ _ h => h) (Or.inl ⟨by rfl, fun w' hw => by go_simp⟩) hHeld ?_
            try simp only [Act.put, List.setIfInBounds_toArray, List.set_cons_zero, List.set_cons_succ]
            refine wpAnyH_take (i := 6) (oi := ⟨some 155, _, _, _, _, _⟩) (v := (.slice (some ⟨qb, 0, none⟩) d.n qc)) rfl (by kernel_rfl) (by kernel_rfl) (by kernel_rfl) (fun _ _ _ h => h) (Or.inl ⟨by rfl, fun w' hw => by go_simp⟩) hHeld ?_
            try simp only [Act.put, List.setIfInBounds_toArray, List.set_cons_zero, List.set_cons_succ]
            refine wpAnyH_take (i := 7) (oi := ⟨some 156, _, _, _, _, _⟩) (v := (.int .i64 (d.n : Int))) rfl (by kernel_rfl) (by kernel_rfl) (by kernel_rfl) (fun _ _ _ h => h) (Or.inl ⟨by rfl, fun w' hw => by go_simp⟩) hHeld ?_
            try simp only [Act.put, List.setIfInBounds_toArray, List.set_cons_zero, List.set_cons_succ]
            refine wpAnyH_take (i := 8) (oi := ⟨some 157, _, _, _, _, _⟩) (v := (.pointer (some ⟨cd, 3, none⟩))) rfl (by kernel_rfl) (by kernel_rfl) (by kernel_rfl) (fun _ _ _ h => h) (Or.inl ⟨by rfl, fun w' hw => by go_simp⟩) hHeld ?_
            try simp only [Act.put, List.setIfInBounds_toArray, List.set_cons_zero, List.set_cons_succ]
            refine wpAnyH_take (i := 9) (oi := ⟨some 158, _, _, _, _, _⟩) (v := (.int .i64 (d.n : Int))) rfl (by kernel_rfl) (by kernel_rfl) (by kernel_rfl) (fun _ _ _ h => h) (Or.inl ⟨by rfl, fun w' hw => by (obtain ⟨⟨⟨h1, h2⟩, _⟩, h3, h4⟩ := hw; have q1 := sc_3 h1; have q2 := sc_3 h2; go_simp)⟩) hHeld ?_
            try simp only [Act.put, List.setIfInBounds_toArray, List.set_cons_zero, List.set_cons_succ]
            refine wpAnyH_take (i := 10) (oi := ⟨some 159, _, _, _, _, _⟩) (v := (.bool true)) rfl (by kernel_rfl) (by kernel_rfl) (by kernel_rfl) (fun _ _ _ h => h) (Or.inl ⟨by rfl, fun w' hw => by go_simp⟩) hHeld ?_
            try simp only [Act.put, List.setIfInBounds_toArray, List.set_cons_zero, List.set_cons_succ]
            refine wpAnyH_take (i := 11) (oi := ⟨some 160, _, _, _, _, _⟩) (v := (.bool true)) rfl (by kernel_rfl) (by kernel_rfl) (by kernel_rfl) (fun _ _ _ h => h) (Or.inl ⟨by rfl, fun w' hw => by go_simp⟩) hHeld ?_
            try simp only [Act.put, List.setIfInBounds_toArray, List.set_cons_zero, List.set_cons_succ]
            refine wpAnyH_take (i := 12) (oi := ⟨some 161, _, _, _, _, _⟩) (v := (.bool true)) rfl (by kernel_rfl) (by kernel_rfl) (by kernel_rfl) (fun _ _ _ h => h) (Or.inl ⟨by rfl, fun w' hw => by go_simp⟩) hHeld ?_
            try simp only [Act.put, List.setIfInBounds_toArray, List.set_cons_zero, List.set_cons_succ]
            refine wpAnyH_take (i := 13) (oi := ⟨some 162, _, _, _, _, _⟩) (v := (.slice (some ⟨pb, 0, none⟩) c.n pc)) rfl (by kernel_rfl) (by kernel_rfl) (by kernel_rfl) (fun _ _ _ h => h) (Or.inl ⟨by rfl, fun w' hw => by go_simp⟩) hHeld ?_
            try simp only [Act.put, List.setIfInBounds_toArray, List.set_cons_zero, List.set_cons_succ]
            refine wpAnyH_take (i := 14) (oi := ⟨some 163, _, _, _, _, _⟩) (v := (.pointer (some ⟨pb, 0, none⟩))) rfl (by kernel_rfl) (by kernel_rfl) (by kernel_rfl) (fun _ _ _ h => h) (Or.inl ⟨by rfl, fun w' hw => by (have hq := hc0; go_simp; first | done | (intro hz; exact absurd hz hc0))⟩) hHeld ?_
            try simp only [Act.put, List.setIfInBounds_toArray, List.set_cons_zero, List.set_cons_succ]
            refine wpAnyH_take (i := 15) (oi := ⟨some 164, _, _, _, _, _⟩) (v := (.int .i64 x0)) rfl (by kernel_rfl) (by kernel_rfl) (by kernel_rfl) (fun _ _ _ h => h) (Or.inl ⟨by rfl, fun w' hw => by (obtain ⟨⟨⟨h1, h2⟩, _⟩, h3, h4⟩ := hw; have q1 := sc_3 h1; have q2 := sc_3 h2; go_simp)⟩) hHeld ?_
            try simp only [Act.put, List.setIfInBounds_toArray, List.set_cons_zero, List.set_cons_succ]
            refine wpAnyH_take (i := 16) (oi := ⟨some 165, _, _, _, _, _⟩) (v := (.slice (some ⟨qb, 0, none⟩) d.n qc)) rfl (by kernel_rfl) (by kernel_rfl) (by kernel_rfl) (fun _ _ _ h => h) (Or.inl ⟨by rfl, fun w' hw => by go_simp⟩) hHeld ?_
            try simp only [Act.put, List.setIfInBounds_toArray, List.set_cons_zero, List.set_cons_succ]
            refine wpAnyH_take (i := 17) (oi := ⟨some 166, _, _, _, _, _⟩) (v := (.pointer (some ⟨qb, 0, none⟩))) rfl (by kernel_rfl) (by kernel_rfl) (by kernel_rfl) (fun _ _ _ h => h) (Or.inl ⟨by rfl, fun w' hw => by (have hq := hd0; go_simp; first | done | (intro hz; exact absurd hz hd0))⟩) hHeld ?_
            try simp only [Act.put, List.setIfInBounds_toArray, List.set_cons_zero, List.set_cons_succ]
            refine wpAnyH_take (i := 18) (oi := ⟨some 167, _, _, _, _, _⟩) (v := (.int .i64 x0)) rfl (by kernel_rfl) (by kernel_rfl) (by kernel_rfl) (fun _ _ _ h => h) (Or.inl ⟨by rfl, fun w' hw => by (obtain ⟨⟨⟨h1, h2⟩, _⟩, h3, h4⟩ := hw; have q1 := sc_3 h1; have q2 := sc_3 h2; go_simp)⟩) hHeld ?_
            try simp only [Act.put, List.setIfInBounds_toArray, List.set_cons_zero, List.set_cons_succ]
            refine wpAnyH_take (i := 19) (oi := ⟨some 168, _, _, _, _, _⟩) (v := (.bool true)) rfl (by kernel_rfl) (by kernel_rfl) (by kernel_rfl) (fun _ _ _ h => h) (Or.inl ⟨by rfl, fun w' hw => by go_simp⟩) hHeld ?_
            try simp only [Act.put, List.setIfInBounds_toArray, List.set_cons_zero, List.set_cons_succ]
            refine wpAnyH_take (i := 20) (oi := ⟨some 169, _, _, _, _, _⟩) (v := (.bool true)) rfl (by kernel_rfl) (by kernel_rfl) (by kernel_rfl) (fun _ _ _ h => h) (Or.inl ⟨by rfl, fun w' hw => by go_simp⟩) hHeld ?_
            try simp only [Act.put, List.setIfInBounds_toArray, List.set_cons_zero, List.set_cons_succ]
            refine wpAnyH_take (i := 21) (oi := ⟨some 10, _, _, _, _, _⟩) (v := (.bool true)) rfl (by kernel_rfl) (by kernel_rfl) (by kernel_rfl) (fun _ _ _ h => h) (Or.inl ⟨by rfl, fun w' hw => by go_simp⟩) hHeld ?_
            try simp only [Act.put, List.setIfInBounds_toArray, List.set_cons_zero, List.set_cons_succ]
            refine wpAnyH_done (by kernel_rfl) ?_ _
            have HEE := Lib.hid hE.kp
            clear hE hHeld
            go_wp2_with fail
            go_ret
            exact ⟨rfl, HEE.out⟩
end Go.Proofs.YtloibfdcahmhjaaGreat

