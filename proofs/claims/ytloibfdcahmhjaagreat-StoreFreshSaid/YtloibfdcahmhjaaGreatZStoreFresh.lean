/- StoreFresh: of two accesses of one block behind each other the second one goes, on each level, the way of the word that the first one took as its fresh one; a block that nobody ever meant goes a spare one's. -/
import Derived.Test.YtloibfdcahmhjaaGreatG49
import Derived.Test.YtloibfdcahmhjaaGreatG52
namespace Go.Proofs.YtloibfdcahmhjaaGreat
set_option maxRecDepth 100000
open Go.RowKit Go.ChangeShapes Go.WideShapes Go.ChangeAt Go.Maps Go.Deep

def FR (c : SC) (cb : Nat) (W : World) (a : Option Addr) (nl : Nat) (y : Nat → Sp3) (u : World) : Prop := Box u cb 79 (sfA c) ∧ Sps3 u W.heap.size a nl y
theorem FR.rng {c : SC} {cb : Nat} {W : World} {b o : Nat} {nl : Nat} {y : Nat → Sp3} {u : World} (f : FR c cb W (some ⟨b, o, none⟩) nl y u) {i : Nat} (hi : i < nl) : u.rangeAt b (o + i * 3) (s3c (y i)).toList := by
  obtain ⟨b', o', e, _, hr⟩ := f.2.at hi
  injection e with e
  injection e with e1 e2
  rw [e1, e2]
  exact hr
theorem ovN_back {g g' : SG} (h : Grw g g') {n : Nat} (hn : ovN g' n = false) : ovN g n = false := (ovN_iff g n).2 fun j hj => by
  have := (ovN_iff g' n).1 hn j hj
  cases e : g.ov j
  · rfl
  · rw [h.1 j e] at this; cases this
theorem downL_at : ∀ n k, k < n → (downL n)[k]? = some (n - 1 - k)
  | 0, k, h => absurd h (by omega)
  | n + 1, 0, _ => rfl
  | n + 1, k + 1, h => by
    show (downL n)[k]? = _
    rw [downL_at n k (by omega), show n - 1 - k = n + 1 - 1 - (k + 1) by omega]
theorem drawn_place {c : SC} {g : SG} {h : Nat} (hh : h < c.n) : (drawn c g h).1.2 = ((g.u + 2 * (c.n - 1 - h) : Nat) : Int) ∧ (drawn c g h).2.2 = ((g.u + 2 * (c.n - 1 - h) + 1 : Nat) : Int) := by
  unfold drawn
  rw [drws_down _ _ _ _ _ _ _ hh]
  exact ⟨rfl, rfl⟩
theorem place_small {x : Nat} (h : x ≤ 1000000) : placeI (x : Int) = (x : Int) := by
  unfold placeI
  exact wrap64_self (by omega) (by omega)
theorem first_ways {c : SC} (hc : c.Ok) {nz : Nat} {z : Nat → Int} {g' : SG} {id : Nat} (h : Went c (sg0 c nz z) g' id) (hN : NoO c g') : (g'.gone.map (fun e : Nt => placeI e.2)).length = c.n ∧ ∀ k, k < c.n → (g'.gone.map (fun e : Nt => placeI e.2))[k]? = some (2 * (k : Int) + 1) := by
  obtain ⟨m, hm, _⟩ := stB_new c nz z
  have hn4 := hc.n4
  obtain ⟨m', _, _, hg⟩ := h.2 hN _ (show SIe c (sg0 c nz z) (fun _ _ => none) (fun _ _ => False) from stB_none c nz z)
  have hl : g'.gone = (downL c.n).map fun h => (drawn c (sg0 c nz z) h).2 := by
    rw [hg]
    show [] ++ _ = _
    rw [List.nil_append]
    refine List.map_congr_left fun h _ => ?_
    have e0 : whN c (sg0 c nz z) (fun _ _ => none) h (id / 4 ^ h) = (0, 0) := by unfold whN; split <;> rfl
    rw [e0]
    rfl
  refine ⟨by rw [hl, List.length_map, List.length_map, downL_len], fun k hk => ?_⟩
  rw [hl, List.getElem?_map, List.getElem?_map, downL_at _ _ hk]
  show some (placeI (drawn c (sg0 c nz z) (c.n - 1 - k)).2.2) = _
  rw [(drawn_place (by omega)).2, place_small (by show 0 + _ + 1 ≤ _; omega)]
  show some (((0 + 2 * (c.n - 1 - (c.n - 1 - k)) + 1 : Nat) : Int)) = _
  congr 1
  omega
theorem second_ways {c : SC} (hc : c.Ok) {g g1 g2 : SG} {id : Nat} {b : Int → Option (Nat → Int)} (hb : StB c g b) (h1 : Went c g g1 id) (h2 : Went c g1 g2 id) (hN1 : NoO c g1) (hN2 : NoO c g2) (hu : g.u ≤ 100000) :
    c.n ≤ g2.gone.length ∧ ∀ k, k < c.n → (g2.gone.map (fun e : Nt => placeI e.2))[g2.gone.length - c.n + k]? = some ((g1.u : Int) - 2 * (c.n : Int) + 2 * (k : Int)) := by
  obtain ⟨m, hm, _⟩ := hb
  have hn4 := hc.n4
  obtain ⟨m1, s1, w1, _⟩ := h1.2 hN1 _ hm
  obtain ⟨m2, _, _, hg⟩ := h2.2 hN2 _ s1
  have hl : g2.gone = g1.gone ++ (downL c.n).map fun h => (drawn c g h).1 := by
    rw [hg]
    congr 1
    refine List.map_congr_left fun h hh => ?_
    have hh' := (downL_mem c.n h).1 hh
    rw [w1 h hh']
    have := (drawn_ok hc g h hh').1.1
    unfold orN
    rw [if_neg (by omega)]
  have hlen : g2.gone.length = g1.gone.length + c.n := by rw [hl, List.length_append, List.length_map, downL_len]
  refine ⟨by omega, fun k hk => ?_⟩
  rw [hlen, show g1.gone.length + c.n - c.n + k = g1.gone.length + k by omega, hl, List.map_append, List.getElem?_append_right (by rw [List.length_map]; omega), List.length_map, show g1.gone.length + k - g1.gone.length = k by omega, List.getElem?_map, List.getElem?_map, downL_at _ _ hk]
  show some (placeI (drawn c g (c.n - 1 - k)).1.2) = _
  rw [(drawn_place (by omega)).1, place_small (by omega), h1.1]
  congr 1
  omega
structure CellK (pb o : Nat) (x : Int) (u : World) : Prop where
  c : u.cell? ⟨pb, o, none⟩ = some (.int .i64 x)
theorem CellK.nob' {pb o : Nat} {x : Int} {u u' : World} (h : CellK pb o x u) (ho : Only nobody u u') : CellK pb o x u' := ⟨cell_nob ho h.c⟩
set_option linter.unusedSimpArgs false in
set_option maxRecDepth 100000 in
set_option linter.unusedSimpArgs false in
set_option maxHeartbeats 8000000 in
theorem sfresh_law (n : Int) (A : Option Addr) (nz cz : Nat) (z : Nat → Int) (ya : Option Addr) (nl c' : Nat) (y : Nat → Sp3) (m3 : Int) (w : World) (hn : (Lit.int .i64 n).wf = true) (hz : Nums .u64 w w.heap.size A nz z) (hzr : ∀ j, j < nz → (Lit.int .u64 (z j)).wf = true) (hS : Sps3 w w.heap.size ya nl y) (hy : ∀ j, j < nl → Sp3Ok (y j)) (h3 : (Lit.int .u64 m3).wf = true) :
    Calls Tryz.prog 12 #[.int .i64 n, .slice A nz cz, .slice ya nl c', .int .u64 m3] w fun e w' => e = .returned (.bool true) ∧ Below w.heap.size w w' := by
  by_cases hl : 8 < nl
  · have h24 : (8 : Int) < (nl : Int) := by omega
    go_enter Tryz.func12, Tryz.ntmps12
    go_wp2_with fail
    refine (sshown_of _).mono ?_
    rintro e w1 ⟨rfl, hb1⟩
    have HB1 := Lib.hid hb1
    clear hb1
    go_wp2_with fail
    go_ret
    exact ⟨rfl, HB1.out⟩
  · have h24 : ¬ (8 : Int) < (nl : Int) := by omega
    by_cases hl2 : 300 < nz
    · have h300 : (300 : Int) < (nz : Int) := by omega
      go_enter Tryz.func12, Tryz.ntmps12
      go_wp2_with fail
      refine (sshown_of _).mono ?_
      rintro e w1 ⟨rfl, hb1⟩
      have HB1 := Lib.hid hb1
      clear hb1
      go_wp2_with fail
      go_ret
      exact ⟨rfl, HB1.out⟩
    · have h300 : ¬ (300 : Int) < (nz : Int) := by omega
      obtain ⟨c, hc, hsm, hcf, hmd⟩ := slaw_config n (i64_rng hn).1 (i64_rng hn).2
      have eB := hc.bB.symm
      have i3 := idM_lt c m3
      have r3 : m3.tmod c.B = ((idM c m3 : Nat) : Int) := by
        unfold idM
        rw [eB]
        obtain ⟨u, hu⟩ := Int.eq_ofNat_of_zero_le (u64_rng h3).1
        rw [hu, Int.toNat_natCast]
        rfl
      obtain ⟨ia, hia⟩ : ∃ i, idM c m3 = i := ⟨_, rfl⟩
      rw [hia] at r3 i3
      have HP1 : Hid (isOp 0 ia (2 ^ c.b) = true) := Lib.hid (by unfold isOp; simp [i3])
      have hB32 : 2 ^ c.b ≤ 32 := by have : 2 ^ c.b ≤ 2 ^ 5 := Nat.pow_le_pow_right (by decide) hsm.1; omega
      have hbp := Nat.two_pow_pos c.b
      have HBn : Hid (c.B = ((2 ^ c.b : Nat) : Int) ∧ 2 ^ c.b ≤ 32) := Lib.hid ⟨eB, hB32⟩
      obtain ⟨B, hBB⟩ : ∃ B, 2 ^ c.b = B := ⟨_, rfl⟩
      rw [hBB] at eB hB32 i3 hbp
      have hB0 : ¬ c.B = 0 := by rw [eB]; omega
      have hwB : IntKind.u64.wrap c.B = c.B := by rw [IntKind.wrap_u64, eB]; omega
      have hwa : IntKind.u64.wrap (ia : Int) = (ia : Int) := by rw [IntKind.wrap_u64]; omega
      have HWd := Lib.hid (fun W => swords_any c.B (c.S : Int) (c.T : Int) (c.n : Int) W (by unfold Rg; rw [eB]; omega))
      have hcn := hc.conf 0 (by have := hc.n1; omega)
      have hst : stR c.B (c.S : Int) (c.T : Int) (c.n : Int) = true := (stR_iff _ _ _ _).2 ⟨c.b, c.S, c.T, c.n, hc.b10, hc.bB.symm, rfl, rfl, rfl, hcn.s1, by have := hsm.2.1; omega, hcn.t1, by have := hsm.2.2.1; omega, hc.n1, hc.n4⟩
      rw [hst] at HWd
      simp only [if_true] at HWd
      have hn4 := hc.n4
      have hn1 := hc.n1
      have HCf := Lib.hid hcf
      have HMd := Lib.hid hmd
      have HMd2 := Lib.hid hmd
      have HC := Lib.hid hc
      have HT1 := Lib.hid hcn.t1
      have HSt := Lib.hid hS
      have HYk := Lib.hid hy
      have HZ := Lib.hid hz
      have HZr : Hid (∀ j, j < nz → 0 ≤ z j ∧ z j ≤ 18446744073709551615) := Lib.hid fun j hj => u64_rng (hzr j hj)
      clear hcf hmd hc hS hy hn hz hzr hsm h3 i3 hia eB hB32 hbp hBB hcn hst
      go_enter Tryz.func12, Tryz.ntmps12
      go_wp2_with fail
      refine (sshown_of _).mono ?_
      rintro e w1 ⟨rfl, hb1⟩
      have HB1 := Lib.hid hb1
      clear hb1
      go_wp2_with fail
      refine (HCf.out _).mono ?_
      rintro e w2 ⟨rfl, hb2⟩
      have HB2 := Lib.hid (HB1.out.trans (hb2.mono HB1.out.size))
      clear hb2 HB1 HCf
      go_upto_region 5 with (refine wpList_store_newS rfl (.tmp 10) (.tmp 37) rfl rfl c rfl rfl ?_)
      obtain ⟨cb, hcb⟩ : ∃ b, w2.heap.size = b := ⟨_, rfl⟩
      have hbx := Box.new w2 79 (sfA c)
      have HB3 := Lib.hid (HB2.out.alloc HB2.out.size (.cells (sfA c) 79))
      have hcs : cb < (w2.alloc (.cells (sfA c) 79)).heap.size := by rw [← hcb]; exact hbx.lt
      have hws : w.heap.size ≤ cb := by rw [← hcb]; exact HB2.out.size
      rw [hcb] at hbx ⊢
      have HBx := Lib.hid hbx
      have HCs := Lib.hid hcs
      have HWs := Lib.hid hws
      clear hcb hbx hcs hws HB2
      generalize w2.alloc (.cells (sfA c) 79) = w3 at *
      have k0 := sc_0 HBx.out
      have k1 := sc_1 HBx.out
      have k2 := sc_2 HBx.out
      have k3 := sc_3 HBx.out
      go_wp2_with fail
      refine (HMd.out w3 A nz cz z ((HZ.out.below HB3.out).more HB3.out.size) (by omega) HZr.out).mono ?_
      rintro e w7 ⟨a, rfl, hSt, ho7⟩
      have HBx7 := Lib.hid (HBx.out.only ho7 (not_nobody _))
      have HB7 := Lib.hid (below_only HB3.out ho7 HB3.out.size (fun _ _ h => h))
      have HSt7 := Lib.hid hSt
      have HO7 := Lib.hid ho7
      clear k0 k1 k2 k3 hSt ho7
      have k0 := sc_0 HBx7.out
      have k1 := sc_1 HBx7.out
      have k2 := sc_2 HBx7.out
      have k3 := sc_3 HBx7.out
      go_wp2_with fail
      refine (HMd2.out w7 A nz cz z ((HZ.out.below HB7.out).more HB7.out.size) (by omega) HZr.out).mono ?_
      rintro e w8 ⟨b, rfl, hSt8, ho8⟩
      obtain ⟨ZK, hzz, hE⟩ : ∃ ZK : Nat → Prop, ZK cb ∧ StT c a c b w ZK (FR c cb w ya nl y) (sg0 c nz z) (sg0 c nz z) 0 0 w8 :=
        ⟨fun i => i < w3.heap.size, HCs.out, StT.made HSt7.out HO7.out hSt8 ho8 HB3.out ⟨HBx.out, HSt.out.below HB3.out⟩ (fun u u' hs hk f => ⟨hk.box f.1 HCs.out, f.2.below ((hk.mono fun i hi => by have := HB3.out.size; show i < w3.heap.size; omega).below hs (fun _ h => h))⟩)⟩
      have HE := Lib.hid hE
      clear k0 k1 k2 k3 hzz hE hSt8 ho8 HBx HB3 HCs HB7 HBx7 HSt7 HO7 HMd HMd2
      have k0 := sc_0 HE.out.hF.1
      go_wp2_with fail
      refine (HE.out.swap.go HC.out 0 ia (fun _ => 0) HP1.out (fun _ => ⟨Int.le_refl 0, by show (0 : Int) ≤ 18446744073709551615; decide⟩) (by decide)).mono ?_
      rintro e w9 ⟨p1, rr, t, rfl, hG, hWt, hfew, hE9⟩
      have hNo : NoO c p1 := .inr fun h _ => by have := hfew h; have e : (difI ((sg0 c nz z).I h)).length = 0 := rfl; have := HT1.out; omega
      have HFw := Lib.hid (first_ways HC.out hWt hNo)
      have HE9 := Lib.hid hE9.swap
      clear hG hWt hfew hE9 hNo HE k0
      have HB0 := Lib.hid (stB_new c nz z)
      have HU0 : Hid ((sg0 c nz z).u = 0) := Lib.hid rfl
      generalize sg0 c nz z = g0 at *
      go_wp2_with fail
      refine (HE9.out.swap.sk.sources (by decide)).mono ?_
      rintro e w10 ⟨v, rfl, hIr⟩
      have hfl := HFw.out.1
      obtain ⟨fb, fc, rfl, _, hIr2⟩ := hIr.out (by omega) (fun k => 2 * (k : Int) + 1) (fun j hj => by
        have := HFw.out.2 j (by omega)
        rw [List.getElem?_eq_getElem hj] at this
        injection this)
      rw [hfl] at hIr2 ⊢
      have hE10 := HE9.out.nob (Only.of_below hIr.below)
      have HFi := Lib.hid hIr2
      -- the row of the first ways is the law's own from here on
      obtain ⟨Z2, hz2, hE11⟩ : ∃ Z2 : Nat → Prop, Z2 fb ∧ StT c a c b w Z2 (fun u => FR c cb w ya nl y u ∧ ∀ k, k < c.n → CellK fb k (2 * (k : Int) + 1) u) g0 p1 0 (0 + 20) w10 :=
        ⟨fun i => ZK i ∨ (w9.heap.size ≤ i ∧ i < w10.heap.size), .inr ⟨hIr2.old, hIr2.lt⟩, (HE9.out.more (Only.of_below hIr.below)).also (fun k hk => ⟨hIr2.cell k hk⟩) (fun u u' hs hk f k hk2 => ⟨(World.cell?_of_block (w := u) (hk.block fb (World.block_lt_of_cell? u ⟨fb, k, none⟩ (f k hk2).c) (fun hn => hn (.inr ⟨hIr2.old, hIr2.lt⟩)))).trans (f k hk2).c⟩)⟩
      have HEa := Lib.hid hE11
      clear hIr hIr2 hfl hE10 HE9 HFw HFi hE11 hz2
      go_wp2_with fail
      go_loopw [18] (fun v18 wr => ∃ i : Nat, v18 = .int .i64 i ∧ i ≤ nl ∧ ∃ g, (ovN g c.n = false → ∃ b, StB c g b) ∧ g.u = 2 * c.n * i ∧ StT c a c b w Z2 (fun u => FR c cb w ya nl y u ∧ ∀ k, k < c.n → CellK fb k (2 * (k : Int) + 1) u) g p1 (20 * i) (0 + 20) wr) (fun v18 _ => nl - (intOf v18).toNat)
      case atStart => exact ⟨0, rfl, by omega, _, fun _ => ⟨_, HB0.out⟩, by rw [HU0.out]; rfl, HEa.out⟩
      case round =>
        obtain ⟨i, rfl, hi, g, hR, hu, hE⟩ := hrel
        have HR2 := Lib.hid hR
        have HU := Lib.hid hu
        clear hR hu HEa HB0 HU0
        by_cases hin : i < nl
        · obtain ⟨yb, yo, rfl, _, _⟩ := HSt.out.at hin
          obtain ⟨r0, r1, r2⟩ := (HYk.out i hin).rng
          have hnn : (i : Int) < (nl : Int) := by omega
          obtain ⟨eB, hB32⟩ := HBn.out
          have hwT : (y i).2.1.tmod c.B = ((idM c (y i).2.1 : Nat) : Int) := by
            unfold idM
            rw [eB]
            obtain ⟨u, hu⟩ := Int.eq_ofNat_of_zero_le r1.1
            rw [hu, Int.toNat_natCast]
            rfl
          clear eB hB32
          have hi24 : i < 8 := by omega
          go_upto_region 16 with fail
          have hE := hE.drew
          refine held_s (S := fun u => Box u cb 79 (sfA c) ∧ u.rangeAt yb (yo + i * 3) (s3c (y i)).toList) 23 rfl (by kernel_rfl) ⟨hE.hF.1.1, FR.rng hE.hF.1 hin⟩ (fun hHeld => ?_)
          simp only [Array.replicate_succ, Array.replicate_zero, List.push_toArray, List.nil_append, List.cons_append]
          generalize World.drew _ = wd at *
          refine wpAnyH_take (i := 0) (oi := ⟨some 76, _, _, _, _, _⟩) (v := (.pointer (some ⟨a.sp, 0, none⟩))) rfl (by kernel_rfl) (by kernel_rfl) (by kernel_rfl) (fun _ _ _ h => h) (Or.inl ⟨by rfl, fun w' hw => by go_simp⟩) hHeld ?_
          try simp only [Act.put, List.setIfInBounds_toArray, List.set_cons_zero, List.set_cons_succ]
          refine wpAnyH_take (i := 1) (oi := ⟨some 77, _, _, _, _, _⟩) (v := (.slice (some ⟨yb, yo, none⟩) nl c')) rfl (by kernel_rfl) (by kernel_rfl) (by kernel_rfl) (fun _ _ _ h => h) (Or.inl ⟨by rfl, fun w' hw => by go_simp⟩) hHeld ?_
          try simp only [Act.put, List.setIfInBounds_toArray, List.set_cons_zero, List.set_cons_succ]
          refine wpAnyH_take (i := 2) (oi := ⟨some 78, _, _, _, _, _⟩) (v := (.int .i64 (i : Int))) rfl (by kernel_rfl) (by kernel_rfl) (by kernel_rfl) (fun _ _ _ h => h) (Or.inl ⟨by rfl, fun w' hw => by go_simp⟩) hHeld ?_
          try simp only [Act.put, List.setIfInBounds_toArray, List.set_cons_zero, List.set_cons_succ]
          refine wpAnyH_take (i := 3) (oi := ⟨some 79, _, _, _, _, _⟩) (v := (.pointer (some ⟨yb, yo + i * 3, none⟩))) rfl (by kernel_rfl) (by kernel_rfl) (by kernel_rfl) (fun _ _ _ h => h) (Or.inl ⟨by rfl, fun w' hw => by go_simp⟩) hHeld ?_
          try simp only [Act.put, List.setIfInBounds_toArray, List.set_cons_zero, List.set_cons_succ]
          refine wpAnyH_take (i := 4) (oi := ⟨some 80, _, _, _, _, _⟩) (v := (.pointer (some ⟨yb, yo + i * 3, none⟩))) rfl (by kernel_rfl) (by kernel_rfl) (by kernel_rfl) (fun _ _ _ h => h) (Or.inl ⟨by rfl, fun w' hw => by go_simp⟩) hHeld ?_
          try simp only [Act.put, List.setIfInBounds_toArray, List.set_cons_zero, List.set_cons_succ]
          refine wpAnyH_take (i := 5) (oi := ⟨some 81, _, _, _, _, _⟩) (v := (.int .i64 (y i).1)) rfl (by kernel_rfl) (by kernel_rfl) (by kernel_rfl) (fun _ _ _ h => h) (Or.inl ⟨by rfl, fun w' hw => by (obtain ⟨q0, q1, q2⟩ := sp_cells hw.2; go_simp)⟩) hHeld ?_
          try simp only [Act.put, List.setIfInBounds_toArray, List.set_cons_zero, List.set_cons_succ]
          refine wpAnyH_take (i := 7) (oi := ⟨some 83, _, _, _, _, _⟩) (v := (.slice (some ⟨yb, yo, none⟩) nl c')) rfl (by kernel_rfl) (by kernel_rfl) (by kernel_rfl) (fun _ _ _ h => h) (Or.inl ⟨by rfl, fun w' hw => by go_simp⟩) hHeld ?_
          try simp only [Act.put, List.setIfInBounds_toArray, List.set_cons_zero, List.set_cons_succ]
          refine wpAnyH_take (i := 8) (oi := ⟨some 84, _, _, _, _, _⟩) (v := (.int .i64 (i : Int))) rfl (by kernel_rfl) (by kernel_rfl) (by kernel_rfl) (fun _ _ _ h => h) (Or.inl ⟨by rfl, fun w' hw => by go_simp⟩) hHeld ?_
          try simp only [Act.put, List.setIfInBounds_toArray, List.set_cons_zero, List.set_cons_succ]
          refine wpAnyH_take (i := 9) (oi := ⟨some 85, _, _, _, _, _⟩) (v := (.pointer (some ⟨yb, yo + i * 3, none⟩))) rfl (by kernel_rfl) (by kernel_rfl) (by kernel_rfl) (fun _ _ _ h => h) (Or.inl ⟨by rfl, fun w' hw => by go_simp⟩) hHeld ?_
          try simp only [Act.put, List.setIfInBounds_toArray, List.set_cons_zero, List.set_cons_succ]
          refine wpAnyH_take (i := 10) (oi := ⟨some 86, _, _, _, _, _⟩) (v := (.pointer (some ⟨yb, yo + i * 3 + 1, none⟩))) rfl (by kernel_rfl) (by kernel_rfl) (by kernel_rfl) (fun _ _ _ h => h) (Or.inl ⟨by rfl, fun w' hw => by go_simp⟩) hHeld ?_
          try simp only [Act.put, List.setIfInBounds_toArray, List.set_cons_zero, List.set_cons_succ]
          refine wpAnyH_take (i := 11) (oi := ⟨some 87, _, _, _, _, _⟩) (v := (.int .u64 (y i).2.1)) rfl (by kernel_rfl) (by kernel_rfl) (by kernel_rfl) (fun _ _ _ h => h) (Or.inl ⟨by rfl, fun w' hw => by (obtain ⟨q0, q1, q2⟩ := sp_cells hw.2; go_simp)⟩) hHeld ?_
          try simp only [Act.put, List.setIfInBounds_toArray, List.set_cons_zero, List.set_cons_succ]
          refine wpAnyH_take (i := 12) (oi := ⟨some 88, _, _, _, _, _⟩) (v := (.pointer (some ⟨cb, 0, none⟩))) rfl (by kernel_rfl) (by kernel_rfl) (by kernel_rfl) (fun _ _ _ h => h) (Or.inl ⟨by rfl, fun w' hw => by go_simp⟩) hHeld ?_
          try simp only [Act.put, List.setIfInBounds_toArray, List.set_cons_zero, List.set_cons_succ]
          refine wpAnyH_take (i := 13) (oi := ⟨some 89, _, _, _, _, _⟩) (v := (.int .i64 c.B)) rfl (by kernel_rfl) (by kernel_rfl) (by kernel_rfl) (fun _ _ _ h => h) (Or.inl ⟨by rfl, fun w' hw => by (have q := sc_0 hw.1; go_simp)⟩) hHeld ?_
          try simp only [Act.put, List.setIfInBounds_toArray, List.set_cons_zero, List.set_cons_succ]
          refine wpAnyH_take (i := 14) (oi := ⟨some 90, _, _, _, _, _⟩) (v := (.int .u64 c.B)) rfl (by kernel_rfl) (by kernel_rfl) (by kernel_rfl) (fun _ _ _ h => h) (Or.inl ⟨by rfl, fun w' hw => by (have hx := hB0; go_simp; first | done | exact hwB)⟩) hHeld ?_
          try simp only [Act.put, List.setIfInBounds_toArray, List.set_cons_zero, List.set_cons_succ]
          refine wpAnyH_take (i := 15) (oi := ⟨some 91, _, _, _, _, _⟩) (v := (.int .u64 ((idM c (y i).2.1 : Nat) : Int))) rfl (by kernel_rfl) (by kernel_rfl) (by kernel_rfl) (fun _ _ _ h => h) (Or.inl ⟨by rfl, fun w' hw => by (have hx := hB0; go_simp; first | done | exact hwT | exact hwI)⟩) hHeld ?_
          try simp only [Act.put, List.setIfInBounds_toArray, List.set_cons_zero, List.set_cons_succ]
          refine wpAnyH_take (i := 16) (oi := ⟨some 92, _, _, _, _, _⟩) (v := (.slice (some ⟨yb, yo, none⟩) nl c')) rfl (by kernel_rfl) (by kernel_rfl) (by kernel_rfl) (fun _ _ _ h => h) (Or.inl ⟨by rfl, fun w' hw => by go_simp⟩) hHeld ?_
          try simp only [Act.put, List.setIfInBounds_toArray, List.set_cons_zero, List.set_cons_succ]
          refine wpAnyH_take (i := 17) (oi := ⟨some 93, _, _, _, _, _⟩) (v := (.int .i64 (i : Int))) rfl (by kernel_rfl) (by kernel_rfl) (by kernel_rfl) (fun _ _ _ h => h) (Or.inl ⟨by rfl, fun w' hw => by go_simp⟩) hHeld ?_
          try simp only [Act.put, List.setIfInBounds_toArray, List.set_cons_zero, List.set_cons_succ]
          refine wpAnyH_take (i := 18) (oi := ⟨some 94, _, _, _, _, _⟩) (v := (.pointer (some ⟨yb, yo + i * 3, none⟩))) rfl (by kernel_rfl) (by kernel_rfl) (by kernel_rfl) (fun _ _ _ h => h) (Or.inl ⟨by rfl, fun w' hw => by go_simp⟩) hHeld ?_
          try simp only [Act.put, List.setIfInBounds_toArray, List.set_cons_zero, List.set_cons_succ]
          refine wpAnyH_take (i := 19) (oi := ⟨some 95, _, _, _, _, _⟩) (v := (.pointer (some ⟨yb, yo + i * 3 + 2, none⟩))) rfl (by kernel_rfl) (by kernel_rfl) (by kernel_rfl) (fun _ _ _ h => h) (Or.inl ⟨by rfl, fun w' hw => by go_simp⟩) hHeld ?_
          try simp only [Act.put, List.setIfInBounds_toArray, List.set_cons_zero, List.set_cons_succ]
          refine wpAnyH_take (i := 20) (oi := ⟨some 96, _, _, _, _, _⟩) (v := (.int .u64 (y i).2.2)) rfl (by kernel_rfl) (by kernel_rfl) (by kernel_rfl) (fun _ _ _ h => h) (Or.inl ⟨by rfl, fun w' hw => by (obtain ⟨q0, q1, q2⟩ := sp_cells hw.2; go_simp)⟩) hHeld ?_
          try simp only [Act.put, List.setIfInBounds_toArray, List.set_cons_zero, List.set_cons_succ]
          refine one_ready 6 rfl (by kernel_rfl) (fun K9 hK => ?_)
          go_simp
          refine (sop_of (y i).1 _ r0.1 r0.2).mono ?_
          rintro e w13 ⟨rfl, hb⟩
          have hE := hE.nob (Only.of_below hb)
          refine hK.out _ _ ⟨hE.hF.1.1, FR.rng hE.hF.1 hin⟩ (fun hHeld => ?_)
          clear hK K9 hb
          try simp only [Act.put, List.setIfInBounds_toArray, List.set_cons_zero, List.set_cons_succ]
          refine one_ready 21 rfl (by kernel_rfl) (fun K9 hK => ?_)
          go_simp
          refine (sdata_of (y i).2.2 _).mono ?_
          rintro e w13 ⟨rfl, hb⟩
          have hE := hE.nob (Only.of_below hb)
          refine hK.out _ _ ⟨hE.hF.1.1, FR.rng hE.hF.1 hin⟩ (fun hHeld => ?_)
          clear hK K9 hb
          try simp only [Act.put, List.setIfInBounds_toArray, List.set_cons_zero, List.set_cons_succ]
          refine one_ready 22 rfl (by kernel_rfl) (fun K9 hK => ?_)
          go_simp
          refine (hE.go HC.out (opI (y i).1) (idM c (y i).2.1) (dw (y i).2.2) (idM_op c _ _) (fun j => dw_rng _ j) (by omega)).mono ?_
          rintro e w13 ⟨g', rr, t, rfl, hG, hWt, hfw, hE'⟩
          clear hE
          have hE := hE'
          clear hE'
          refine hK.out _ _ ⟨hE.hF.1.1, FR.rng hE.hF.1 hin⟩ (fun hHeld => ?_)
          clear hK K9
          try simp only [Act.put, List.setIfInBounds_toArray, List.set_cons_zero, List.set_cons_succ]
          refine wpAnyH_done (by kernel_rfl) ?_ _
          have HR3 : Hid (ovN g' c.n = false → ∃ b, StB c g' b) := Lib.hid fun hh => by
            obtain ⟨b, m, hm, _⟩ := HR2.out (ovN_back hG hh)
            obtain ⟨m', s, _⟩ := hWt.2 (noO_over hh) m hm
            exact ⟨_, m', s, fun _ => rfl⟩
          have HU3 : Hid (g'.u = 2 * c.n * (i + 1)) := Lib.hid (by rw [hWt.1, HU.out, Nat.mul_succ])
          have HE2 := Lib.hid hE
          clear hE hHeld hG hWt hfw HR2 HU hwT r0 r1 r2
          go_wp2_with fail
          go_roundw
          case rel => exact ⟨i + 1, by go_num, by omega, _, HR3.out, HU3.out, HE2.out⟩
          case measure => simp [intOf]; omega
        · have hnn : ¬ (i : Int) < (nl : Int) := by omega
          have k0 := sc_0 hE.hF.1.1
          have hk : 20 * i < 19900 := by omega
          have hk2 : 20 * i + 20 < 19900 := by omega
          have hk3 : 20 * i + 20 + 20 < 20000 := by omega
          have hi8 : i ≤ 8 := by omega
          have HE := Lib.hid hE
          clear hE
          go_wp2_with fail
          refine (HE.out.go HC.out 0 ia (fun _ => 0) HP1.out (fun _ => ⟨Int.le_refl 0, by show (0 : Int) ≤ 18446744073709551615; decide⟩) hk).mono ?_
          rintro e w20 ⟨g1, rr, t, rfl, hG1, hW1, hf1, hE1⟩
          have HG1 := Lib.hid hG1
          have HW1 := Lib.hid hW1
          have HE1 := Lib.hid hE1
          clear hG1 hW1 hf1 hE1 HE k0 hk
          go_wp2_with fail
          refine (HE1.out.sk.used).mono ?_
          rintro e w21 ⟨rfl, hw21⟩
          rw [hw21]
          clear hw21 w21
          go_wp2_with fail
          refine (HE1.out.go HC.out 0 ia (fun _ => 0) HP1.out (fun _ => ⟨Int.le_refl 0, by show (0 : Int) ≤ 18446744073709551615; decide⟩) hk2).mono ?_
          rintro e w22 ⟨g2, rr2, t2, rfl, hG2, hW2, hf2, hE2⟩
          have HG2 := Lib.hid hG2
          have HW2 := Lib.hid hW2
          have HE2 := Lib.hid hE2
          clear hG2 hW2 hf2 hE2 HE1 hk2
          go_wp2_with fail
          refine (HE2.out.sk.sources hk3).mono ?_
          rintro e w23 ⟨v, rfl, hIr⟩
          have HIr := Lib.hid hIr
          have HE3 := Lib.hid (HE2.out.nob (Only.of_below hIr.below))
          have hOv := HE3.out.over HC.out
          obtain ⟨o, ho⟩ : ∃ o, ovN g2 c.n = o := ⟨_, rfl⟩
          rw [ho] at hOv
          have HOv := Lib.hid hOv
          have HOo := Lib.hid ho
          clear hIr HE2 ho hOv hk3
          go_wp2_with fail
          refine HOv.out.mono ?_
          rintro e w24 ⟨rfl, hw24⟩
          rw [hw24]
          clear hw24 w24
          cases o
          · have hov1 := ovN_back HG2.out HOo.out
            obtain ⟨bb, hbb⟩ := HR2.out (ovN_back HG1.out hov1)
            obtain ⟨hlen, hcell⟩ := second_ways HC.out hbb HW1.out HW2.out (noO_over hov1) (noO_over HOo.out) (by rw [HU.out]; have : 2 * c.n * i ≤ 2 * 4 * 8 := Nat.mul_le_mul (by omega) hi8; omega)
            obtain ⟨us, hus⟩ : ∃ us, g1.u = us := ⟨_, rfl⟩
            have husb : 2 * c.n ≤ us ∧ us ≤ 1000 := by
              rw [← hus, HW1.out.1, HU.out]
              have : 2 * c.n * i ≤ 2 * 4 * 8 := Nat.mul_le_mul (by omega) hi8
              omega
            rw [hus] at hcell ⊢
            have hll : (g2.gone.map (fun e : Nt => placeI e.2)).length = g2.gone.length := List.length_map _
            obtain ⟨L, hL⟩ : ∃ L, g2.gone.length = L := ⟨_, rfl⟩
            obtain ⟨pb, pc, rfl, hpc, hIr2⟩ := HIr.out.out (by omega) (fun j => (g2.gone.map (fun e : Nt => placeI e.2)).getD j 0) (fun j hj => by rw [List.getD_eq_getElem?_getD, List.getElem?_eq_getElem hj]; rfl)
            rw [hll, hL] at hIr2 hpc ⊢
            rw [hL] at hlen hcell
            have HPc : Hid (∀ q, q < c.n → CellK pb (L - c.n + q) (((us : Nat) : Int) - 2 * (c.n : Int) + 2 * (q : Int)) w23) := Lib.hid fun q hq => ⟨by
              have := hIr2.cell (L - c.n + q) (by omega)
              rw [List.getD_eq_getElem?_getD, hcell q hq] at this
              exact this⟩
            have hgl := (show g2.gone.length ≤ 20 * i + 20 + 20 by
              obtain ⟨_, _, _, _, _, _, q1, _⟩ := HE3.out.sk
              exact q1.gl)
            rw [hL] at hgl
            have k3 := sc_3 HE3.out.hF.1.1
            clear hcell hIr2 hbb hov1 HIr HOv HOo HG1 HG2 HW1 HW2 HR2 HU hll hus hL
            have hLn : ((L : Int) - (c.n : Int)) = ((L - c.n : Nat) : Int) := by omega
            have hLw : IntKind.i64.wrap ((L : Int) - (c.n : Int)) = ((L - c.n : Nat) : Int) := by rw [IntKind.wrap_i64]; omega
            have hl1 : ¬ (L : Int) < (c.n : Int) := by omega
            go_upto_region 27 with fail
            rw [show L - (L - c.n) = c.n by omega]
            obtain ⟨po, hpo⟩ : ∃ po, L - c.n = po := ⟨_, rfl⟩
            rw [hpo] at HPc ⊢
            generalize pc - po = pc
            have hdb : decide (L < c.n) = false := decide_eq_false (by omega)
            rw [hdb]
            clear hLn hLw hl1 hpo hlen hgl k3 hpc hdb
            go_wp2_with fail
            go_loopw [21] (fun v21 wr => ∃ q : Nat, v21 = .int .i64 q ∧ q ≤ c.n ∧ StT c a c b w Z2 (fun u => FR c cb w ya nl y u ∧ ∀ k, k < c.n → CellK fb k (2 * (k : Int) + 1) u) g2 p1 (20 * i + 20 + 20) (0 + 20) wr ∧ ∀ k, k < c.n → CellK pb (po + k) (((us : Nat) : Int) - 2 * (c.n : Int) + 2 * (k : Int)) wr) (fun v21 _ => c.n - (intOf v21).toNat)
            case atStart => exact ⟨0, rfl, by omega, HE3.out, HPc.out⟩
            case round =>
              obtain ⟨q, rfl, hq, hE, hPc⟩ := hrel
              clear HPc HE3
              have k0 := sc_3 hE.hF.1.1
              by_cases hqn : q < c.n
              · have hnq : (q : Int) < (c.n : Int) := by omega
                have hu1 : IntKind.i64.wrap (((us : Nat) : Int) - 2 * (c.n : Int)) = ((us : Nat) : Int) - 2 * (c.n : Int) := by rw [IntKind.wrap_i64]; omega
                have hu2 : IntKind.i64.wrap (2 * (q : Int)) = 2 * (q : Int) := by rw [IntKind.wrap_i64]; omega
                have hu3 : IntKind.i64.wrap (((us : Nat) : Int) - 2 * (c.n : Int) + 2 * (q : Int)) = ((us : Nat) : Int) - 2 * (c.n : Int) + 2 * (q : Int) := by rw [IntKind.wrap_i64]; omega
                have hu4 : IntKind.i64.wrap (2 * (q : Int) + 1) = 2 * (q : Int) + 1 := by rw [IntKind.wrap_i64]; omega
                go_upto_region 30 with fail
                clear k0
                have hE := hE.drew
                have hPc : ∀ k, k < c.n → CellK pb (po + k) (((us : Nat) : Int) - 2 * (c.n : Int) + 2 * (k : Int)) (World.drew wr) := fun k hk => ⟨(hPc k hk).c⟩
                refine held_s (S := fun u => Box u cb 79 (sfA c) ∧ u.cell? ⟨pb, po + q, none⟩ = some (.int .i64 (((us : Nat) : Int) - 2 * (c.n : Int) + 2 * (q : Int))) ∧ u.cell? ⟨fb, q, none⟩ = some (.int .i64 (2 * (q : Int) + 1))) 22 rfl (by kernel_rfl) ⟨hE.hF.1.1, (hPc q hqn).c, (hE.hF.2 q hqn).c⟩ (fun hHeld => ?_)
                simp only [Array.replicate_succ, Array.replicate_zero, List.push_toArray, List.nil_append, List.cons_append]
                generalize World.drew _ = wd at *
                refine wpAnyH_take (i := 0) (oi := ⟨some 143, _, _, _, _, _⟩) (v := (.slice (some ⟨pb, po, none⟩) c.n pc)) rfl (by kernel_rfl) (by kernel_rfl) (by kernel_rfl) (fun _ _ _ h => h) (Or.inl ⟨by rfl, fun w' hw => by go_simp⟩) hHeld ?_
                try simp only [Act.put, List.setIfInBounds_toArray, List.set_cons_zero, List.set_cons_succ]
                refine wpAnyH_take (i := 1) (oi := ⟨some 144, _, _, _, _, _⟩) (v := (.int .i64 (q : Int))) rfl (by kernel_rfl) (by kernel_rfl) (by kernel_rfl) (fun _ _ _ h => h) (Or.inl ⟨by rfl, fun w' hw => by go_simp⟩) hHeld ?_
                try simp only [Act.put, List.setIfInBounds_toArray, List.set_cons_zero, List.set_cons_succ]
                refine wpAnyH_take (i := 2) (oi := ⟨some 145, _, _, _, _, _⟩) (v := (.pointer (some ⟨pb, po + q, none⟩))) rfl (by kernel_rfl) (by kernel_rfl) (by kernel_rfl) (fun _ _ _ h => h) (Or.inl ⟨by rfl, fun w' hw => by go_simp⟩) hHeld ?_
                try simp only [Act.put, List.setIfInBounds_toArray, List.set_cons_zero, List.set_cons_succ]
                refine wpAnyH_take (i := 3) (oi := ⟨some 146, _, _, _, _, _⟩) (v := (.int .i64 (((us : Nat) : Int) - 2 * (c.n : Int) + 2 * (q : Int)))) rfl (by kernel_rfl) (by kernel_rfl) (by kernel_rfl) (fun _ _ _ h => h) (Or.inl ⟨by rfl, fun w' hw => by (have h1 := hw.2.1; go_simp)⟩) hHeld ?_
                try simp only [Act.put, List.setIfInBounds_toArray, List.set_cons_zero, List.set_cons_succ]
                refine wpAnyH_take (i := 4) (oi := ⟨some 147, _, _, _, _, _⟩) (v := (.int .i64 ((us : Nat) : Int))) rfl (by kernel_rfl) (by kernel_rfl) (by kernel_rfl) (fun _ _ _ h => h) (Or.inl ⟨by rfl, fun w' hw => by go_simp⟩) hHeld ?_
                try simp only [Act.put, List.setIfInBounds_toArray, List.set_cons_zero, List.set_cons_succ]
                refine wpAnyH_take (i := 5) (oi := ⟨some 148, _, _, _, _, _⟩) (v := (.agg #[.int .i64 c.B, .int .i64 (c.S : Int), .int .i64 (c.T : Int), .int .i64 (c.n : Int)])) rfl (by kernel_rfl) (by kernel_rfl) (by kernel_rfl) (fun _ _ _ h => h) (Or.inl ⟨by rfl, fun w' hw => by (have k0 := sc_0 hw.1; have k1 := sc_1 hw.1; have k2 := sc_2 hw.1; have k3 := sc_3 hw.1; go_simp)⟩) hHeld ?_
                try simp only [Act.put, List.setIfInBounds_toArray, List.set_cons_zero, List.set_cons_succ]
                refine wpAnyH_take (i := 8) (oi := ⟨some 151, _, _, _, _, _⟩) (v := (.int .i64 (q : Int))) rfl (by kernel_rfl) (by kernel_rfl) (by kernel_rfl) (fun _ _ _ h => h) (Or.inl ⟨by rfl, fun w' hw => by go_simp⟩) hHeld ?_
                try simp only [Act.put, List.setIfInBounds_toArray, List.set_cons_zero, List.set_cons_succ]
                refine wpAnyH_take (i := 9) (oi := ⟨some 152, _, _, _, _, _⟩) (v := (.int .i64 (2 * (q : Int)))) rfl (by kernel_rfl) (by kernel_rfl) (by kernel_rfl) (fun _ _ _ h => h) (Or.inl ⟨by rfl, fun w' hw => by (go_simp; first | done | exact hu2)⟩) hHeld ?_
                try simp only [Act.put, List.setIfInBounds_toArray, List.set_cons_zero, List.set_cons_succ]
                refine one_ready 6 rfl (by kernel_rfl) (fun K9 hK => ?_)
                go_simp
                refine (HWd.out _).mono ?_
                rintro e w13 ⟨rfl, hb⟩
                have ho : Only nobody _ w13 := Only.of_below hb
                have hE := hE.nob ho
                have hPc := fun k hk => (hPc k hk).nob' ho
                refine hK.out _ _ ⟨hE.hF.1.1, (hPc q hqn).c, (hE.hF.2 q hqn).c⟩ (fun hHeld => ?_)
                clear hK K9 hb ho
                try simp only [Act.put, List.setIfInBounds_toArray, List.set_cons_zero, List.set_cons_succ]
                refine wpAnyH_take (i := 7) (oi := ⟨some 150, _, _, _, _, _⟩) (v := (.int .i64 (((us : Nat) : Int) - 2 * (c.n : Int)))) rfl (by kernel_rfl) (by kernel_rfl) (by kernel_rfl) (fun _ _ _ h => h) (Or.inl ⟨by rfl, fun w' hw => by (go_simp; first | done | exact hu1)⟩) hHeld ?_
                try simp only [Act.put, List.setIfInBounds_toArray, List.set_cons_zero, List.set_cons_succ]
                refine wpAnyH_take (i := 10) (oi := ⟨some 153, _, _, _, _, _⟩) (v := (.int .i64 (((us : Nat) : Int) - 2 * (c.n : Int) + 2 * (q : Int)))) rfl (by kernel_rfl) (by kernel_rfl) (by kernel_rfl) (fun _ _ _ h => h) (Or.inl ⟨by rfl, fun w' hw => by (go_simp; first | done | exact hu3)⟩) hHeld ?_
                try simp only [Act.put, List.setIfInBounds_toArray, List.set_cons_zero, List.set_cons_succ]
                refine wpAnyH_take (i := 11) (oi := ⟨some 154, _, _, _, _, _⟩) (v := (.bool false)) rfl (by kernel_rfl) (by kernel_rfl) (by kernel_rfl) (fun _ _ _ h => h) (Or.inl ⟨by rfl, fun w' hw => by go_simp⟩) hHeld ?_
                try simp only [Act.put, List.setIfInBounds_toArray, List.set_cons_zero, List.set_cons_succ]
                refine wpAnyH_take (i := 12) (oi := ⟨some 155, _, _, _, _, _⟩) (v := (.bool false)) rfl (by kernel_rfl) (by kernel_rfl) (by kernel_rfl) (fun _ _ _ h => h) (Or.inl ⟨by rfl, fun w' hw => by go_simp⟩) hHeld ?_
                try simp only [Act.put, List.setIfInBounds_toArray, List.set_cons_zero, List.set_cons_succ]
                refine wpAnyH_take (i := 13) (oi := ⟨some 156, _, _, _, _, _⟩) (v := (.slice (some ⟨fb, 0, none⟩) c.n fc)) rfl (by kernel_rfl) (by kernel_rfl) (by kernel_rfl) (fun _ _ _ h => h) (Or.inl ⟨by rfl, fun w' hw => by go_simp⟩) hHeld ?_
                try simp only [Act.put, List.setIfInBounds_toArray, List.set_cons_zero, List.set_cons_succ]
                refine wpAnyH_take (i := 14) (oi := ⟨some 157, _, _, _, _, _⟩) (v := (.int .i64 (q : Int))) rfl (by kernel_rfl) (by kernel_rfl) (by kernel_rfl) (fun _ _ _ h => h) (Or.inl ⟨by rfl, fun w' hw => by go_simp⟩) hHeld ?_
                try simp only [Act.put, List.setIfInBounds_toArray, List.set_cons_zero, List.set_cons_succ]
                refine wpAnyH_take (i := 15) (oi := ⟨some 158, _, _, _, _, _⟩) (v := (.pointer (some ⟨fb, q, none⟩))) rfl (by kernel_rfl) (by kernel_rfl) (by kernel_rfl) (fun _ _ _ h => h) (Or.inl ⟨by rfl, fun w' hw => by go_simp⟩) hHeld ?_
                try simp only [Act.put, List.setIfInBounds_toArray, List.set_cons_zero, List.set_cons_succ]
                refine wpAnyH_take (i := 16) (oi := ⟨some 159, _, _, _, _, _⟩) (v := (.int .i64 (2 * (q : Int) + 1))) rfl (by kernel_rfl) (by kernel_rfl) (by kernel_rfl) (fun _ _ _ h => h) (Or.inl ⟨by rfl, fun w' hw => by (have h1 := hw.2.2; go_simp)⟩) hHeld ?_
                try simp only [Act.put, List.setIfInBounds_toArray, List.set_cons_zero, List.set_cons_succ]
                refine wpAnyH_take (i := 17) (oi := ⟨some 160, _, _, _, _, _⟩) (v := (.int .i64 (q : Int))) rfl (by kernel_rfl) (by kernel_rfl) (by kernel_rfl) (fun _ _ _ h => h) (Or.inl ⟨by rfl, fun w' hw => by go_simp⟩) hHeld ?_
                try simp only [Act.put, List.setIfInBounds_toArray, List.set_cons_zero, List.set_cons_succ]
                refine wpAnyH_take (i := 18) (oi := ⟨some 161, _, _, _, _, _⟩) (v := (.int .i64 (2 * (q : Int)))) rfl (by kernel_rfl) (by kernel_rfl) (by kernel_rfl) (fun _ _ _ h => h) (Or.inl ⟨by rfl, fun w' hw => by (go_simp; first | done | exact hu2)⟩) hHeld ?_
                try simp only [Act.put, List.setIfInBounds_toArray, List.set_cons_zero, List.set_cons_succ]
                refine wpAnyH_take (i := 19) (oi := ⟨some 162, _, _, _, _, _⟩) (v := (.int .i64 (2 * (q : Int) + 1))) rfl (by kernel_rfl) (by kernel_rfl) (by kernel_rfl) (fun _ _ _ h => h) (Or.inl ⟨by rfl, fun w' hw => by (go_simp; first | done | exact hu4)⟩) hHeld ?_
                try simp only [Act.put, List.setIfInBounds_toArray, List.set_cons_zero, List.set_cons_succ]
                refine wpAnyH_take (i := 20) (oi := ⟨some 163, _, _, _, _, _⟩) (v := (.bool false)) rfl (by kernel_rfl) (by kernel_rfl) (by kernel_rfl) (fun _ _ _ h => h) (Or.inl ⟨by rfl, fun w' hw => by go_simp⟩) hHeld ?_
                try simp only [Act.put, List.setIfInBounds_toArray, List.set_cons_zero, List.set_cons_succ]
                refine wpAnyH_take (i := 21) (oi := ⟨some 164, _, _, _, _, _⟩) (v := (.bool false)) rfl (by kernel_rfl) (by kernel_rfl) (by kernel_rfl) (fun _ _ _ h => h) (Or.inl ⟨by rfl, fun w' hw => by go_simp⟩) hHeld ?_
                try simp only [Act.put, List.setIfInBounds_toArray, List.set_cons_zero, List.set_cons_succ]
                refine wpAnyH_done (by kernel_rfl) ?_ _
                have HE2 := Lib.hid hE
                have HP2 := Lib.hid hPc
                clear hE hHeld hPc
                go_wp2_with fail
                go_roundw
                case rel => exact ⟨q + 1, by go_num, by omega, HE2.out, HP2.out⟩
                case measure => simp [intOf]; omega
              · have hnq : ¬ (q : Int) < (c.n : Int) := by omega
                have HE := Lib.hid hE.kp
                clear hE hPc
                go_wp2_with fail
                go_ret
                exact ⟨rfl, HE.out⟩
          · have HE := Lib.hid HE3.out.kp
            clear HE3
            go_wp2_with fail
            go_ret
            exact ⟨rfl, HE.out⟩
end Go.Proofs.YtloibfdcahmhjaaGreat

