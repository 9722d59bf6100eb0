/- LevelDrops: a block that was dropped is not there, and takes no place. -/
import Derived.Test.YtdbjaaalngbpgaaGreatG48
namespace Go.Proofs.YtdbjaaalngbpgaaGreat
set_option maxRecDepth 100000
open Go.RowKit Go.ChangeShapes Go.WideShapes Go.ChangeAt Go.Maps Go.Deep

theorem num_cell {k : IntKind} {u : World} {B b o n : Nat} {z : Nat → Int} (h : Nums k u B (some ⟨b, o, none⟩) n z) {j : Nat} (hj : j < n) : u.cell? ⟨b, o + j, none⟩ = some (.int k (z j)) := by
  obtain ⟨b', o', e, _, hr⟩ := h.at hj
  injection e with e
  injection e with e1 e2
  rw [e1, e2]
  exact hr
/-- The ids of a turn, from one on. -/
def idsOf (t lo hi : Nat) : List Int := (List.range' lo (hi - lo)).map fun (j : Nat) => 100 * (t : Int) + (j : Int)
theorem idsOf_len (t lo hi : Nat) : (idsOf t lo hi).length = hi - lo := by simp [idsOf]
theorem idsOf_mem {t lo hi j : Nat} (h1 : lo ≤ j) (h2 : j < hi) : 100 * (t : Int) + (j : Int) ∈ idsOf t lo hi := List.mem_map.2 ⟨j, List.mem_range'_1.2 ⟨h1, by omega⟩, rfl⟩
/-- The blocks of a turn: those from lo to hi are there, each on its leaf, with its data. -/
structure DrIn (t lo hi : Nat) (g : Nat → Nat) (m : Bm) : Prop where
  yes : ∀ j : Nat, lo ≤ j → j < hi → m (100 * (t : Int) + (j : Int)) = some (g j, dw (j : Int))
  no : ∀ x, (∀ j : Nat, lo ≤ j → j < hi → x ≠ 100 * (t : Int) + (j : Int)) → m x = none
section
variable {t lo hi : Nat} {g : Nat → Nat} {m : Bm}
theorem DrIn.none (h : ∀ x, m x = none) (t lo : Nat) (g : Nat → Nat) : DrIn t lo lo g m := ⟨fun j h1 h2 => absurd h2 (by omega), fun x _ => h x⟩
theorem DrIn.free (h : DrIn t lo hi g m) {j : Nat} (hj : hi ≤ j) : m (100 * (t : Int) + (j : Int)) = Option.none := h.no _ fun i _ h2 e => by omega
theorem DrIn.gone (h : DrIn t lo hi g m) {j : Nat} (hj : j < lo) : m (100 * (t : Int) + (j : Int)) = Option.none := h.no _ fun i h1 _ e => by omega
theorem DrIn.all (h : DrIn t lo hi g m) (x : Int) (b : Nat × (Nat → Int)) (hx : m x = some b) : x ∈ idsOf t lo hi := by
  by_cases e : ∃ j : Nat, lo ≤ j ∧ j < hi ∧ x = 100 * (t : Int) + (j : Int)
  · obtain ⟨j, h1, h2, rfl⟩ := e
    exact idsOf_mem h1 h2
  · rw [h.no x fun j h1 h2 k => e ⟨j, h1, h2, k⟩] at hx
    cases hx
theorem DrIn.upd (h : DrIn t lo hi g m) (i v : Nat) (hle : hi ≤ i) : DrIn t lo hi (updN g i v) m := ⟨fun j h1 h2 => by rw [h.yes j h1 h2]; unfold updN; rw [if_neg (by omega)], h.no⟩
theorem DrIn.put (h : DrIn t lo hi g m) (lf : Int) (at' : Int) (hl : lo ≤ hi := by omega) : DrIn t lo (hi + 1) g (nextB m ⟨1, 100 * (t : Int) + (hi : Int), at', dw (hi : Int), lf, ((g hi : Nat) : Int)⟩) := by
  refine ⟨fun j h1 h2 => ?_, fun x hx => ?_⟩
  · by_cases e : j = hi
    · subst e; exact nx_put
    · rw [nx_ne (by omega)]; exact h.yes j h1 (by omega)
  · rw [nx_ne (hx hi hl (by omega))]
    exact h.no x fun j h1 h2 => hx j h1 (by omega)
theorem DrIn.drop (h : DrIn t lo hi g m) (lf : Int) (at' : Int) (d : Nat → Int) : DrIn t (lo + 1) hi g (nextB m ⟨3, 100 * (t : Int) + (lo : Int), at', d, lf, ((0 : Nat) : Int)⟩) := by
  refine ⟨fun j h1 h2 => ?_, fun x hx => ?_⟩
  · rw [nx_ne (by omega)]; exact h.yes j (by omega) h2
  · by_cases e : x = 100 * (t : Int) + (lo : Int)
    · subst e; exact nx_drop
    · rw [nx_ne e]
      refine h.no x fun j h1 h2 k => ?_
      by_cases e2 : j = lo
      · subst e2; exact e k
      · exact hx j (by omega) h2 k
theorem DrIn.look (h : DrIn t lo hi g m) {j : Nat} (hj : j < lo) (lf : Int) (at' : Int) (d : Nat → Int) : DrIn t lo hi g (nextB m ⟨0, 100 * (t : Int) + (j : Int), at', d, lf, ((0 : Nat) : Int)⟩) := by
  refine ⟨fun i h1 h2 => ?_, fun x hx => ?_⟩
  · rw [nx_ne (by omega)]; exact h.yes i h1 h2
  · by_cases e : x = 100 * (t : Int) + (j : Int)
    · subst e; rw [nx_look, h.gone hj]; rfl
    · rw [nx_ne e]; exact h.no x hx
end
theorem size_of {N S D T Q mp lp bm : Nat} {W : World} {Z : Nat → Prop} {F : World → Prop} {ov : Bool} {I : List Int} {m : Bm} {k : Nat} {wr : World} (_ : LvS N S D T Q mp lp bm W Z F ov I m k wr) : ∃ b, wr.heap.size = b := ⟨_, rfl⟩
theorem zero8 (j : Nat) : 0 ≤ (fun _ => (0 : Int)) j ∧ (fun _ => (0 : Int)) j ≤ 18446744073709551615 := ⟨Int.le_refl 0, by show (0 : Int) ≤ 18446744073709551615; decide⟩
theorem ok_at {N op t id lf to : Nat} {d : Nat → Int} (h1 : op < 4) (h2 : t ≤ 3) (h3 : id ≤ 100) (h4 : lf < N) (h5 : to < N) : (⟨(op : Int), 100 * (t : Int) + (id : Int), 0, d, (lf : Int), (to : Int)⟩ : Ask).ok N = true := by
  have := ok_of (N := N) (op := op) (id := 100 * t + id) (at' := 0) (lf := lf) (to := to) d h1 (by omega) (by decide) h4 h5
  rwa [show ((100 * t + id : Nat) : Int) = 100 * (t : Int) + (id : Int) by omega] at this
set_option maxRecDepth 100000 in
set_option maxHeartbeats 8000000 in
theorem drops_law (n turns : Int) (la : Option Addr) (n2 c2 : Nat) (z2 : Nat → Int) (w : World) (hn : (Lit.int .i64 n).wf = true) (ht : (Lit.int .i64 turns).wf = true) (hm2 : n2 ≤ 9223372036854775807) (hS : Nums .i64 w w.heap.size la n2 z2) (hz : ∀ j, j < n2 → (Lit.int .i64 (z2 j)).wf = true) :
    Calls Tryz.prog 9 #[.int .i64 n, .int .i64 turns, .slice la n2 c2] w fun e w' => e = .returned (.bool true) ∧ Below w.heap.size w w' := by
  by_cases hl : 100 < n2
  · have h12 : (100 : Int) < (n2 : Int) := by omega
    clear hS hz
    go_enter Tryz.func9, Tryz.ntmps9
    go_wp2_with fail
    refine (shown_of _).mono ?_
    rintro e w1 ⟨rfl, hb1⟩
    have HB1 := Lib.hid hb1
    clear hb1
    go_wp2_with fail
    go_ret
    exact ⟨rfl, HB1.out⟩
  · have h12 : ¬ (100 : Int) < (n2 : Int) := by omega
    obtain ⟨N, S, T, D, L, m, Q, P, hC, hsz, hsm, hcf⟩ := law_config n (i64_rng hn).1 (i64_rng hn).2
    have hN := hC.n1
    have hN1 := hN.1
    have hT := hC.t1
    have hmk := run_make_row' (P := Tryz.prog) 39 3 (.int .i64 0) 8 Tryz.underlying39 infoI64 rfl .i64 .i64 T (by omega) (by omega)
    have HCf := Lib.hid hcf
    have HMd := Lib.hid (fun W => made_of (H := Unit) hC W hsz)
    have HC := Lib.hid hC
    have HSt := Lib.hid hS
    have HZr := Lib.hid hz
    have HTr := Lib.hid (i64_rng ht)
    have htu := pik_lt turns (show 0 < 3 by decide)
    obtain ⟨r, hr⟩ : ∃ r : Nat, pik turns 3 = r := ⟨_, rfl⟩
    have hr3 : r < 3 := by omega
    have hrw : IntKind.i64.wrap (1 + (r : Int)) = 1 + (r : Int) := by rw [IntKind.wrap_i64]; omega
    have HPk : Hid (∀ W, Calls Tryz.prog 36 #[.int .i64 turns, .int .i64 3] W fun e w' => e = .returned (.int .i64 (r : Nat)) ∧ w' = W) := Lib.hid fun W => by
      have := pik_any turns 3 W (by omega) (by omega) (i64_rng ht).1 (i64_rng ht).2
      rwa [hr] at this
    clear hcf hsz hC hS hz hn ht hr htu
    go_enter Tryz.func9, Tryz.ntmps9
    go_wp2_with fail
    refine (shown_of _).mono ?_
    rintro e w1 ⟨rfl, hb1⟩
    have HB1 := Lib.hid hb1
    clear hb1
    go_wp2_with fail
    refine (HCf.out _).mono ?_
    rintro e w2 ⟨rfl, hb2⟩
    have HB2 := Lib.hid (HB1.out.trans (hb2.mono HB1.out.size))
    clear hb2 HB1 HCf
    go_upto_region 5 with (refine wpList_store_newC rfl (.tmp 8) (.tmp 32) rfl rfl N S T rfl rfl ?_)
    obtain ⟨cb, hcb⟩ : ∃ b, w2.heap.size = b := ⟨_, rfl⟩
    have hbx := Box.new w2 25 (cfA N S T)
    have HB3 := Lib.hid (HB2.out.alloc HB2.out.size (.cells (cfA N S T) 25))
    have hcs : cb < (w2.alloc (.cells (cfA N S T) 25)).heap.size := by rw [← hcb]; exact hbx.lt
    have hws : w.heap.size ≤ cb := by rw [← hcb]; exact HB2.out.size
    rw [hcb] at hbx ⊢
    have HBx := Lib.hid hbx
    have HCs := Lib.hid hcs
    have HWs := Lib.hid hws
    clear hcb hbx hcs hws HB2
    generalize w2.alloc (.cells (cfA N S T) 25) = w3 at *
    have k0 := cf_0 HBx.out
    have k1 := cf_1 HBx.out
    have k2 := cf_2 HBx.out
    go_wp2_with fail
    refine (HMd.out _).mono ?_
    rintro e w4 ⟨mp, lp, bm, rfl, ho4, hlp, hbm, hL⟩
    obtain ⟨Z, hZc, hE⟩ : ∃ Z : Nat → Prop, Z cb ∧ LvS N S D T Q mp lp bm w Z (fun u => Box u cb 25 (cfA N S T) ∧ Nums .i64 u w.heap.size la n2 z2) false [] (fun _ => none) 0 w4 := ⟨fun i => i < w3.heap.size, HCs.out, LvS.made hL hlp hbm ho4 HB3.out ⟨HBx.out, HSt.out.below HB3.out⟩ (fun u u' hs hk g => ⟨hk.box g.1 HCs.out, g.2.below (hk.below hs (fun i hi => Nat.lt_of_lt_of_le hi HB3.out.size))⟩)⟩
    have HZ := Lib.hid hZc
    have HE := Lib.hid hE
    clear ho4 hlp hbm hL HMd HB3 HBx k0 k1 k2 HCs hZc hE w3
    have HstF := Lib.hid HE.out.st
    have HstZ := Lib.hid HE.out.hz
    go_wp2_with fail
    go_loopw [11, 12] (fun v11 v12 wr => ∃ kv t : Nat, v11 = .int .i64 kv ∧ v12 = .int .i64 t ∧ t ≤ r + 1 ∧ kv ≤ 8 * t ∧ ∃ ka I m, ka ≤ 24 * t ∧ (∀ x, m x = none) ∧ LvS N S D T Q mp lp bm w Z (fun u => Box u cb 25 (cfA N S T) ∧ Nums .i64 u w.heap.size la n2 z2) false I m ka wr) (fun _ v12 _ => r + 1 - (intOf v12).toNat)
    case atStart => exact ⟨0, 0, rfl, rfl, by omega, by omega, 0, _, _, by omega, (fun _ => rfl), HE.out⟩
    case round =>
      obtain ⟨kv, t, rfl, rfl, hle, hkv, ka, I, mb, hka, hM0, hE⟩ := hrel
      have HE1 := Lib.hid hE
      have HM0 := Lib.hid hM0
      clear HE hE hM0
      go_wp2_with fail
      refine (HPk.out _).mono ?_
      rintro e w5 ⟨rfl, rfl⟩
      by_cases htr : t < r + 1
      · have htr2 : (t : Int) < 1 + (r : Int) := by omega
        have k0 := cf_0 HE1.out.hF.1
        have k2 := cf_2 HE1.out.hF.1
        obtain ⟨gb, hgb⟩ : ∃ b, w5.heap.size = b := ⟨_, rfl⟩
        have HGz : Hid (¬ Z gb) := Lib.hid fun h => by have := HE1.out.mem h; omega
        have HGw : Hid (w.heap.size ≤ gb) := Lib.hid (by rw [← hgb]; exact HE1.out.kp.size)
        have HE2 : Hid (LvS N S D T Q mp lp bm w (fun i => Z i ∨ i = gb) (fun u => (Box u cb 25 (cfA N S T) ∧ Nums .i64 u w.heap.size la n2 z2) ∧ u.rowIs gb 3 T (fun j => .int .i64 (((fun _ => 0) j : Nat) : Int))) false I mb ka (w5.alloc (.cells (madeCells #[.int .i64 0] T) 3))) := Lib.hid (HE1.out.row 3 (fun _ => .int .i64 0) _ hgb (by rw [← hgb]; exact World.rowIs_made w5 (.int .i64 0) T 3))
        have HGb := Lib.hid hgb
        clear hgb HE1
        go_upto_region 13 with fail
        rw [HGb.out]
        clear HGb k0 k2
        generalize w5.alloc (.cells (madeCells #[.int .i64 0] T) 3) = w6 at *
        go_wp2_with fail
        go_loopw [11, 14] (fun v11 v14 wr => ∃ kv id : Nat, v11 = .int .i64 kv ∧ v14 = .int .i64 id ∧ id ≤ T ∧ kv ≤ 8 * t + id ∧ ∃ g ka I m, ka ≤ 24 * t + id ∧ (∀ j, g j < N) ∧ DrIn t 0 id g m ∧ LvS N S D T Q mp lp bm w (fun i => Z i ∨ i = gb) (fun u => (Box u cb 25 (cfA N S T) ∧ Nums .i64 u w.heap.size la n2 z2) ∧ u.rowIs gb 3 T (fun j => .int .i64 ((g j : Nat) : Int))) false I m ka wr) (fun _ v14 _ => T - (intOf v14).toNat)
        case atStart => exact ⟨kv, 0, rfl, rfl, by omega, by omega, fun _ => 0, ka, _, _, by omega, (fun _ => hN1), DrIn.none HM0.out t 0 _, HE2.out⟩
        case round =>
          clear HE2 HM0
          obtain ⟨kw, id, rfl, rfl, hle2, hkw, g, ka, I, mb, hka, hgN, hM, hE⟩ := hrel
          have k2 := cf_2 hE.hF.1.1
          by_cases hid : id < T
          · have hx1 : IntKind.i64.wrap (100 * (t : Int)) = 100 * (t : Int) := by rw [IntKind.wrap_i64]; omega
            have hx2 : IntKind.i64.wrap (100 * (t : Int) + (id : Int)) = 100 * (t : Int) + (id : Int) := by rw [IntKind.wrap_i64]; omega
            have hx3 : IntKind.u64.wrap (100 * (t : Int) + (id : Int)) = 100 * (t : Int) + (id : Int) := by rw [IntKind.wrap_u64]; omega
            have hx4 : IntKind.u64.wrap (id : Int) = (id : Int) := by rw [IntKind.wrap_u64]; omega
            by_cases hn0 : 0 < n2
            · obtain ⟨zb, zo, rfl, _, _⟩ := hE.hF.1.2.at hn0
              obtain ⟨q, hqe⟩ : ∃ q, kw % n2 = q := ⟨_, rfl⟩
              have hq : q < n2 := by rw [← hqe]; exact Nat.mod_lt kw hn0
              have hzr := i64_rng (HZr.out _ hq)
              have hn0N : ¬ n2 = 0 := by omega
              have hn0' : ¬ (n2 : Int) = 0 := by omega
              have hn0'' : (0 : Int) < (n2 : Int) := by omega
              have htm : Int.tmod (kw : Int) (n2 : Int) = (q : Int) := by rw [← hqe]; rfl
              have hqi : (kw : Int) % (n2 : Int) = (q : Int) := by rw [← hqe]; rfl
              clear hqe
              go_upto_region 17 with fail
              have hE := hE.drew
              refine held_s (S := (fun u => Box u cb 25 (cfA N S T) ∧ Nums .i64 u w.heap.size (some ⟨zb, zo, none⟩) n2 z2)) 14 rfl (by kernel_rfl) hE.hF.1 (fun hHeld => ?_)
              simp only [Array.replicate_succ, Array.replicate_zero, List.push_toArray, List.nil_append, List.cons_append]
              generalize World.drew _ = wd at *
              refine wpAnyH_take (i := 0) (oi := ⟨some 59, _, _, _, _, _⟩) (v := (.slice (some ⟨gb, 0, none⟩) T T)) rfl (by kernel_rfl) (by kernel_rfl) (by kernel_rfl) (fun _ _ _ h => h) (Or.inl ⟨by rfl, fun w' hw => by go_simp⟩) hHeld ?_
              try simp only [Act.put, List.setIfInBounds_toArray, List.set_cons_zero, List.set_cons_succ]
              refine wpAnyH_take (i := 1) (oi := ⟨some 60, _, _, _, _, _⟩) (v := (.int .i64 (id : Int))) rfl (by kernel_rfl) (by kernel_rfl) (by kernel_rfl) (fun _ _ _ h => h) (Or.inl ⟨by rfl, fun w' hw => by go_simp⟩) hHeld ?_
              try simp only [Act.put, List.setIfInBounds_toArray, List.set_cons_zero, List.set_cons_succ]
              refine wpAnyH_take (i := 2) (oi := ⟨some 61, _, _, _, _, _⟩) (v := (.slice (some ⟨zb, zo, none⟩) n2 c2)) rfl (by kernel_rfl) (by kernel_rfl) (by kernel_rfl) (fun _ _ _ h => h) (Or.inl ⟨by rfl, fun w' hw => by go_simp⟩) hHeld ?_
              try simp only [Act.put, List.setIfInBounds_toArray, List.set_cons_zero, List.set_cons_succ]
              refine wpAnyH_take (i := 3) (oi := ⟨some 62, _, _, _, _, _⟩) (v := (.int .i64 (kw : Int))) rfl (by kernel_rfl) (by kernel_rfl) (by kernel_rfl) (fun _ _ _ h => h) (Or.inl ⟨by rfl, fun w' hw => by go_simp⟩) hHeld ?_
              try simp only [Act.put, List.setIfInBounds_toArray, List.set_cons_zero, List.set_cons_succ]
              refine wpAnyH_take (i := 4) (oi := ⟨some 63, _, _, _, _, _⟩) (v := (.slice (some ⟨zb, zo, none⟩) n2 c2)) rfl (by kernel_rfl) (by kernel_rfl) (by kernel_rfl) (fun _ _ _ h => h) (Or.inl ⟨by rfl, fun w' hw => by go_simp⟩) hHeld ?_
              try simp only [Act.put, List.setIfInBounds_toArray, List.set_cons_zero, List.set_cons_succ]
              refine wpAnyH_take (i := 5) (oi := ⟨some 64, _, _, _, _, _⟩) (v := (.int .i64 (n2 : Int))) rfl (by kernel_rfl) (by kernel_rfl) (by kernel_rfl) (fun _ _ _ h => h) (Or.inl ⟨by rfl, fun w' hw => by go_simp⟩) hHeld ?_
              try simp only [Act.put, List.setIfInBounds_toArray, List.set_cons_zero, List.set_cons_succ]
              refine wpAnyH_take (i := 6) (oi := ⟨some 65, _, _, _, _, _⟩) (v := (.int .i64 (q : Int))) rfl (by kernel_rfl) (by kernel_rfl) (by kernel_rfl) (fun _ _ _ h => h) (Or.inl ⟨by rfl, fun w' hw => by go_simp⟩) hHeld ?_
              try simp only [Act.put, List.setIfInBounds_toArray, List.set_cons_zero, List.set_cons_succ]
              refine wpAnyH_take (i := 7) (oi := ⟨some 66, _, _, _, _, _⟩) (v := (.pointer (some ⟨zb, zo + q, none⟩))) rfl (by kernel_rfl) (by kernel_rfl) (by kernel_rfl) (fun _ _ _ h => h) (Or.inl ⟨by rfl, fun w' hw => by go_simp⟩) hHeld ?_
              try simp only [Act.put, List.setIfInBounds_toArray, List.set_cons_zero, List.set_cons_succ]
              refine wpAnyH_take (i := 8) (oi := ⟨some 67, _, _, _, _, _⟩) (v := (.int .i64 (z2 q))) rfl (by kernel_rfl) (by kernel_rfl) (by kernel_rfl) (fun _ _ _ h => h) (Or.inl ⟨by rfl, fun w' hw => by (have k0 := cf_0 hw.1; have q0 := num_cell hw.2 hq; go_simp)⟩) hHeld ?_
              try simp only [Act.put, List.setIfInBounds_toArray, List.set_cons_zero, List.set_cons_succ]
              refine wpAnyH_take (i := 9) (oi := ⟨some 68, _, _, _, _, _⟩) (v := (.pointer (some ⟨cb, 0, none⟩))) rfl (by kernel_rfl) (by kernel_rfl) (by kernel_rfl) (fun _ _ _ h => h) (Or.inl ⟨by rfl, fun w' hw => by go_simp⟩) hHeld ?_
              try simp only [Act.put, List.setIfInBounds_toArray, List.set_cons_zero, List.set_cons_succ]
              refine wpAnyH_take (i := 10) (oi := ⟨some 69, _, _, _, _, _⟩) (v := (.int .i64 (N : Int))) rfl (by kernel_rfl) (by kernel_rfl) (by kernel_rfl) (fun _ _ _ h => h) (Or.inl ⟨by rfl, fun w' hw => by (have k0 := cf_0 hw.1; have q0 := num_cell hw.2 hq; go_simp)⟩) hHeld ?_
              try simp only [Act.put, List.setIfInBounds_toArray, List.set_cons_zero, List.set_cons_succ]
              refine one_ready 11 rfl (by kernel_rfl) (fun K hK => ?_)
              go_simp
              refine (pik_any (z2 q) N _ (by omega) (by omega) hzr.1 hzr.2).mono ?_
              rintro e w13 ⟨rfl, he⟩
              rw [he]
              refine hK.out _ _ hHeld (fun hHeld => ?_)
              clear hK K he w13
              simp only [List.setIfInBounds_toArray, List.set_cons_zero, List.set_cons_succ]
              refine wpAnyH_take (i := 12) (oi := ⟨some 71, _, _, _, _, _⟩) (v := (.pointer (some ⟨gb, id, none⟩))) rfl (by kernel_rfl) (by kernel_rfl) (by kernel_rfl) (fun _ _ _ h => h) (Or.inl ⟨by rfl, fun w' hw => by go_simp⟩) hHeld ?_
              try simp only [Act.put, List.setIfInBounds_toArray, List.set_cons_zero, List.set_cons_succ]
              refine one_ready 13 (o := ⟨none, _, _, _, _, _⟩) rfl (by kernel_rfl) (fun K hK => ?_)
              have cc := hE.hF.2.cell hid
              have ff := hE.hF.2.frozen id
              go_simp
              have hE' := hE.setRow (Z0 := Z) (i := id) (v := .int .i64 ((pik (z2 q) N : Nat) : Int)) (f' := fun j => .int .i64 ((updN g id (pik (z2 q) N) j : Nat) : Int)) HstF.out (fun i hi => .inl hi) HGz.out (.inr rfl) HGw.out (fun j _ => by unfold updN; split <;> rfl)
              clear hE
              have hE := hE'
              clear hE'
              refine hK.out _ _ hE.hF.1 (fun _ => ?_)
              clear hK K cc ff hHeld
              simp only [List.setIfInBounds_toArray, List.set_cons_zero, List.set_cons_succ]
              refine wpAnyH_done (by kernel_rfl) ?_ _
              have hgN' : ∀ j, updN g id (pik (z2 q) N) j < N := fun j => by unfold updN; split; exact pik_lt _ (by omega); exact hgN j
              have hM' := hM.upd id (pik (z2 q) N) (Nat.le_refl _)
              generalize updN g id (pik (z2 q) N) = g2 at *
              clear hM hgN
              have hM := hM'
              have hgN := hgN'
              clear hM' hgN' htm hqi
              have hkw1 : IntKind.i64.wrap ((kw : Int) + 1) = (kw : Int) + 1 := by rw [IntKind.wrap_i64]; omega
              go_upto_region 19 with fail
              have hE := hE.drew
              refine held_s (S := (fun u => (Box u cb 25 (cfA N S T) ∧ Nums .i64 u w.heap.size (some ⟨zb, zo, none⟩) n2 z2) ∧ u.rowIs gb 3 T (fun j => .int .i64 ((g2 j : Nat) : Int)))) 20 rfl (by kernel_rfl) hE.hF (fun hHeld => ?_)
              simp only [Array.replicate_succ, Array.replicate_zero, List.push_toArray, List.nil_append, List.cons_append]
              generalize World.drew _ = wd at *
              refine wpAnyH_take (i := 0) (oi := ⟨some 75, _, _, _, _, _⟩) (v := (.pointer (some ⟨lp, 0, none⟩))) rfl (by kernel_rfl) (by kernel_rfl) (by kernel_rfl) (fun _ _ _ h => h) (Or.inl ⟨by rfl, fun w' hw => by go_simp⟩) hHeld ?_
              try simp only [Act.put, List.setIfInBounds_toArray, List.set_cons_zero, List.set_cons_succ]
              refine wpAnyH_take (i := 1) (oi := ⟨some 76, _, _, _, _, _⟩) (v := (.int .i64 (t : Int))) rfl (by kernel_rfl) (by kernel_rfl) (by kernel_rfl) (fun _ _ _ h => h) (Or.inl ⟨by rfl, fun w' hw => by go_simp⟩) hHeld ?_
              try simp only [Act.put, List.setIfInBounds_toArray, List.set_cons_zero, List.set_cons_succ]
              refine wpAnyH_take (i := 2) (oi := ⟨some 77, _, _, _, _, _⟩) (v := (.int .i64 (100 * (t : Int)))) rfl (by kernel_rfl) (by kernel_rfl) (by kernel_rfl) (fun _ _ _ h => h) (Or.inl ⟨by rfl, fun w' hw => by go_simp⟩) hHeld ?_
              try simp only [Act.put, List.setIfInBounds_toArray, List.set_cons_zero, List.set_cons_succ]
              refine wpAnyH_take (i := 3) (oi := ⟨some 78, _, _, _, _, _⟩) (v := (.int .i64 (id : Int))) rfl (by kernel_rfl) (by kernel_rfl) (by kernel_rfl) (fun _ _ _ h => h) (Or.inl ⟨by rfl, fun w' hw => by go_simp⟩) hHeld ?_
              try simp only [Act.put, List.setIfInBounds_toArray, List.set_cons_zero, List.set_cons_succ]
              refine wpAnyH_take (i := 4) (oi := ⟨some 79, _, _, _, _, _⟩) (v := (.int .i64 (100 * (t : Int) + (id : Int)))) rfl (by kernel_rfl) (by kernel_rfl) (by kernel_rfl) (fun _ _ _ h => h) (Or.inl ⟨by rfl, fun w' hw => by go_simp⟩) hHeld ?_
              try simp only [Act.put, List.setIfInBounds_toArray, List.set_cons_zero, List.set_cons_succ]
              refine wpAnyH_take (i := 5) (oi := ⟨some 80, _, _, _, _, _⟩) (v := (.int .u64 (100 * (t : Int) + (id : Int)))) rfl (by kernel_rfl) (by kernel_rfl) (by kernel_rfl) (fun _ _ _ h => h) (Or.inl ⟨by rfl, fun w' hw => by go_simp⟩) hHeld ?_
              try simp only [Act.put, List.setIfInBounds_toArray, List.set_cons_zero, List.set_cons_succ]
              refine wpAnyH_take (i := 6) (oi := ⟨some 81, _, _, _, _, _⟩) (v := (.int .i64 (id : Int))) rfl (by kernel_rfl) (by kernel_rfl) (by kernel_rfl) (fun _ _ _ h => h) (Or.inl ⟨by rfl, fun w' hw => by go_simp⟩) hHeld ?_
              try simp only [Act.put, List.setIfInBounds_toArray, List.set_cons_zero, List.set_cons_succ]
              refine wpAnyH_take (i := 7) (oi := ⟨some 82, _, _, _, _, _⟩) (v := (.int .u64 (id : Int))) rfl (by kernel_rfl) (by kernel_rfl) (by kernel_rfl) (fun _ _ _ h => h) (Or.inl ⟨by rfl, fun w' hw => by go_simp⟩) hHeld ?_
              try simp only [Act.put, List.setIfInBounds_toArray, List.set_cons_zero, List.set_cons_succ]
              refine wpAnyH_take (i := 9) (oi := ⟨some 84, _, _, _, _, _⟩) (v := (.slice (some ⟨gb, 0, none⟩) T T)) rfl (by kernel_rfl) (by kernel_rfl) (by kernel_rfl) (fun _ _ _ h => h) (Or.inl ⟨by rfl, fun w' hw => by go_simp⟩) hHeld ?_
              try simp only [Act.put, List.setIfInBounds_toArray, List.set_cons_zero, List.set_cons_succ]
              refine wpAnyH_take (i := 10) (oi := ⟨some 85, _, _, _, _, _⟩) (v := (.int .i64 (id : Int))) rfl (by kernel_rfl) (by kernel_rfl) (by kernel_rfl) (fun _ _ _ h => h) (Or.inl ⟨by rfl, fun w' hw => by go_simp⟩) hHeld ?_
              try simp only [Act.put, List.setIfInBounds_toArray, List.set_cons_zero, List.set_cons_succ]
              refine wpAnyH_take (i := 11) (oi := ⟨some 86, _, _, _, _, _⟩) (v := (.pointer (some ⟨gb, id, none⟩))) rfl (by kernel_rfl) (by kernel_rfl) (by kernel_rfl) (fun _ _ _ h => h) (Or.inl ⟨by rfl, fun w' hw => by go_simp⟩) hHeld ?_
              try simp only [Act.put, List.setIfInBounds_toArray, List.set_cons_zero, List.set_cons_succ]
              refine wpAnyH_take (i := 12) (oi := ⟨some 87, _, _, _, _, _⟩) (v := (.int .i64 ((g2 id : Nat) : Int))) rfl (by kernel_rfl) (by kernel_rfl) (by kernel_rfl) (fun _ _ _ h => h) (Or.inl ⟨by rfl, fun w' hw => by (have g0 := hw.2.cell hid; go_simp)⟩) hHeld ?_
              try simp only [Act.put, List.setIfInBounds_toArray, List.set_cons_zero, List.set_cons_succ]
              refine wpAnyH_ready (rs := [8, 17]) (by kernel_rfl) (by simp) ?_
              refine AllReadyH.cons rfl (fun K hK => ?_) ?_
              · go_simp
                refine (data_of (id : Int) _).mono ?_
                rintro e w13 ⟨rfl, hb⟩
                have hE := hE.nob (Only.of_below hb)
                refine hK.out _ _ hE.hF (fun hHeld => ?_)
                clear hK K hb
                simp only [List.setIfInBounds_toArray, List.set_cons_zero, List.set_cons_succ]
                refine wpAnyH_ready (rs := [13, 17]) (by kernel_rfl) (by simp) ?_
                refine AllReadyH.cons rfl (fun K hK => ?_) ?_
                · go_simp
                  refine (hE.step HC.out ⟨1, 100 * (t : Int) + (id : Int), 0, dw (id : Int), 0, ((g2 id : Nat) : Int)⟩ (by omega) (by show (0 : Int) ≤ 100 * (t : Int) + (id : Int); omega) (fun j => dw_rng _ j) (ok_at (op := 1) (by decide) (by omega) (by omega) hN1 (hgN id)) (fun _ l d e => by rw [hM.free (Nat.le_refl id)] at e; cases e)).mono ?_
                  rintro e w13 ⟨d', b', rfl, hdb, ov', -, hroom, hE'⟩
                  obtain ⟨-, hb'⟩ := hdb rfl
                  rw [hM.free (Nat.le_refl id)] at hb'
                  subst hb'
                  have hM' := hM.put (0 : Int) 0
                  have hov : ov' = false := hroom rfl (idsOf t 0 (id + 1)) (fun x b hx => hM'.all x b hx) (by rw [idsOf_len]; omega)
                  subst hov
                  clear hE hM hdb hroom
                  have hE := hE'
                  have hM := hM'
                  clear hE' hM'
                  refine hK.out _ _ hE.hF (fun hHeld => ?_)
                  clear hK K
                  simp only [List.setIfInBounds_toArray, List.set_cons_zero, List.set_cons_succ]
                  refine wpAnyH_take (i := 14) (oi := ⟨some 74, _, _, _, _, _⟩) (v := (.tuple #[.agg (DA d'), .bool false])) rfl (by kernel_rfl) (by kernel_rfl) (by kernel_rfl) (fun _ _ _ h => h) (Or.inl ⟨by rfl, fun w' hw => by go_simp⟩) hHeld ?_
                  try simp only [Act.put, List.setIfInBounds_toArray, List.set_cons_zero, List.set_cons_succ]
                  refine wpAnyH_take (i := 15) (oi := ⟨some 89, _, _, _, _, _⟩) (v := (.agg (DA d'))) rfl (by kernel_rfl) (by kernel_rfl) (by kernel_rfl) (fun _ _ _ h => h) (Or.inl ⟨by rfl, fun w' hw => by go_simp⟩) hHeld ?_
                  try simp only [Act.put, List.setIfInBounds_toArray, List.set_cons_zero, List.set_cons_succ]
                  refine wpAnyH_take (i := 16) (oi := ⟨some 90, _, _, _, _, _⟩) (v := (.bool false)) rfl (by kernel_rfl) (by kernel_rfl) (by kernel_rfl) (fun _ _ _ h => h) (Or.inl ⟨by rfl, fun w' hw => by go_simp⟩) hHeld ?_
                  try simp only [Act.put, List.setIfInBounds_toArray, List.set_cons_zero, List.set_cons_succ]
                  refine one_ready 17 rfl (by kernel_rfl) (fun K hK => ?_)
                  go_simp
                  obtain ⟨xb, hxb⟩ := size_of hE
                  have hxz : ¬ (Z xb ∨ xb = gb) := fun h => by have := hE.mem h; omega
                  have hE' := hE.box 48 #[.int .u64 0, .int .u64 0, .int .u64 0, .int .u64 0, .int .u64 0, .int .u64 0, .int .u64 0, .int .u64 0] hxb
                  rw [hxb]
                  clear hE hxb
                  have hE := hE'
                  clear hE'
                  refine hK.out _ _ hE.hF.1 (fun hHeld => ?_)
                  clear hK K
                  simp only [List.setIfInBounds_toArray, List.set_cons_zero, List.set_cons_succ]
                  refine one_ready 18 (o := ⟨none, _, _, _, _, _⟩) rfl (by kernel_rfl) (fun K hK => ?_)
                  refine step_store_data rfl (.tmp 15) (.tmp 89) rfl xb 0 rfl d' rfl (hE.hF.2.there 8 (by decide)) ?_
                  have hE' := hE.spent (Z0 := fun i => Z i ∨ i = gb) (b := xb) (only_setCells (S := just xb) (DA d').toList 0 _ (Only.refl _ _) (.inl (just_self _))) (fun i hi => .inl hi) (fun i hi => .inl (HstZ.out i hi)) (fun u u' hs hk q => ⟨HstF.out u u' hs (hk.mono fun i hi => .inl hi) q.1, hk.row q.2 (.inr rfl)⟩) hxz (.inr rfl)
                  clear hE hxz
                  have hE := hE'
                  clear hE'
                  refine hK.out _ _ hE.hF (fun hHeld => ?_)
                  clear hK K
                  simp only [List.setIfInBounds_toArray, List.set_cons_zero, List.set_cons_succ]
                  refine wpAnyH_take (i := 19) (oi := ⟨some 16, _, _, _, _, _⟩) (v := (.bool false)) rfl (by kernel_rfl) (by kernel_rfl) (by kernel_rfl) (fun _ _ _ h => h) (Or.inl ⟨by rfl, fun w' hw => by go_simp⟩) hHeld ?_
                  try simp only [Act.put, List.setIfInBounds_toArray, List.set_cons_zero, List.set_cons_succ]
                  refine wpAnyH_done (by kernel_rfl) ?_ _
                  have HE := Lib.hid hE
                  have HM := Lib.hid hM
                  clear hE hHeld hM hx1 hx2 hx3 hx4
                  go_wp2_with fail
                  refine (HE.out.lk.over).mono ?_
                  rintro e w15 ⟨rfl, rfl⟩
                  go_wp2_with fail
                  go_roundw
                  case rel => exact ⟨kw + 1, id + 1, by go_num, by go_num, by omega, by omega, g2, ka + 1, _, _, by omega, hgN, HM.out, HE.out⟩
                  case measure => simp [intOf]; omega
                · refine AllReadyH.cons rfl (fun K hK => ?_) AllReadyH.nil
                  go_simp
                  obtain ⟨xb, hxb⟩ := size_of hE
                  have hxz : ¬ (Z xb ∨ xb = gb) := fun h => by have := hE.mem h; omega
                  have hE' := hE.box 48 #[.int .u64 0, .int .u64 0, .int .u64 0, .int .u64 0, .int .u64 0, .int .u64 0, .int .u64 0, .int .u64 0] hxb
                  rw [hxb]
                  clear hE hxb
                  have hE := hE'
                  clear hE'
                  refine hK.out _ _ hE.hF.1 (fun hHeld => ?_)
                  clear hK K
                  simp only [List.setIfInBounds_toArray, List.set_cons_zero, List.set_cons_succ]
                  refine one_ready 13 rfl (by kernel_rfl) (fun K hK => ?_)
                  go_simp
                  refine (hE.step HC.out ⟨1, 100 * (t : Int) + (id : Int), 0, dw (id : Int), 0, ((g2 id : Nat) : Int)⟩ (by omega) (by show (0 : Int) ≤ 100 * (t : Int) + (id : Int); omega) (fun j => dw_rng _ j) (ok_at (op := 1) (by decide) (by omega) (by omega) hN1 (hgN id)) (fun _ l d e => by rw [hM.free (Nat.le_refl id)] at e; cases e)).mono ?_
                  rintro e w13 ⟨d', b', rfl, hdb, ov', -, hroom, hE'⟩
                  obtain ⟨-, hb'⟩ := hdb rfl
                  rw [hM.free (Nat.le_refl id)] at hb'
                  subst hb'
                  have hM' := hM.put (0 : Int) 0
                  have hov : ov' = false := hroom rfl (idsOf t 0 (id + 1)) (fun x b hx => hM'.all x b hx) (by rw [idsOf_len]; omega)
                  subst hov
                  clear hE hM hdb hroom
                  have hE := hE'
                  have hM := hM'
                  clear hE' hM'
                  refine hK.out _ _ hE.hF.1 (fun hHeld => ?_)
                  clear hK K
                  simp only [List.setIfInBounds_toArray, List.set_cons_zero, List.set_cons_succ]
                  refine wpAnyH_take (i := 14) (oi := ⟨some 74, _, _, _, _, _⟩) (v := (.tuple #[.agg (DA d'), .bool false])) rfl (by kernel_rfl) (by kernel_rfl) (by kernel_rfl) (fun _ _ _ h => h) (Or.inl ⟨by rfl, fun w' hw => by go_simp⟩) hHeld ?_
                  try simp only [Act.put, List.setIfInBounds_toArray, List.set_cons_zero, List.set_cons_succ]
                  refine wpAnyH_take (i := 15) (oi := ⟨some 89, _, _, _, _, _⟩) (v := (.agg (DA d'))) rfl (by kernel_rfl) (by kernel_rfl) (by kernel_rfl) (fun _ _ _ h => h) (Or.inl ⟨by rfl, fun w' hw => by go_simp⟩) hHeld ?_
                  try simp only [Act.put, List.setIfInBounds_toArray, List.set_cons_zero, List.set_cons_succ]
                  refine wpAnyH_take (i := 16) (oi := ⟨some 90, _, _, _, _, _⟩) (v := (.bool false)) rfl (by kernel_rfl) (by kernel_rfl) (by kernel_rfl) (fun _ _ _ h => h) (Or.inl ⟨by rfl, fun w' hw => by go_simp⟩) hHeld ?_
                  try simp only [Act.put, List.setIfInBounds_toArray, List.set_cons_zero, List.set_cons_succ]
                  refine one_ready 18 (o := ⟨none, _, _, _, _, _⟩) rfl (by kernel_rfl) (fun K hK => ?_)
                  refine step_store_data rfl (.tmp 15) (.tmp 89) rfl xb 0 rfl d' rfl (hE.hF.2.there 8 (by decide)) ?_
                  have hE' := hE.spent (Z0 := fun i => Z i ∨ i = gb) (b := xb) (only_setCells (S := just xb) (DA d').toList 0 _ (Only.refl _ _) (.inl (just_self _))) (fun i hi => .inl hi) (fun i hi => .inl (HstZ.out i hi)) (fun u u' hs hk q => ⟨HstF.out u u' hs (hk.mono fun i hi => .inl hi) q.1, hk.row q.2 (.inr rfl)⟩) hxz (.inr rfl)
                  clear hE hxz
                  have hE := hE'
                  clear hE'
                  refine hK.out _ _ hE.hF (fun hHeld => ?_)
                  clear hK K
                  simp only [List.setIfInBounds_toArray, List.set_cons_zero, List.set_cons_succ]
                  refine wpAnyH_take (i := 19) (oi := ⟨some 16, _, _, _, _, _⟩) (v := (.bool false)) rfl (by kernel_rfl) (by kernel_rfl) (by kernel_rfl) (fun _ _ _ h => h) (Or.inl ⟨by rfl, fun w' hw => by go_simp⟩) hHeld ?_
                  try simp only [Act.put, List.setIfInBounds_toArray, List.set_cons_zero, List.set_cons_succ]
                  refine wpAnyH_done (by kernel_rfl) ?_ _
                  have HE := Lib.hid hE
                  have HM := Lib.hid hM
                  clear hE hHeld hM hx1 hx2 hx3 hx4
                  go_wp2_with fail
                  refine (HE.out.lk.over).mono ?_
                  rintro e w15 ⟨rfl, rfl⟩
                  go_wp2_with fail
                  go_roundw
                  case rel => exact ⟨kw + 1, id + 1, by go_num, by go_num, by omega, by omega, g2, ka + 1, _, _, by omega, hgN, HM.out, HE.out⟩
                  case measure => simp [intOf]; omega
              · refine AllReadyH.cons rfl (fun K hK => ?_) AllReadyH.nil
                go_simp
                obtain ⟨xb, hxb⟩ := size_of hE
                have hxz : ¬ (Z xb ∨ xb = gb) := fun h => by have := hE.mem h; omega
                have hE' := hE.box 48 #[.int .u64 0, .int .u64 0, .int .u64 0, .int .u64 0, .int .u64 0, .int .u64 0, .int .u64 0, .int .u64 0] hxb
                rw [hxb]
                clear hE hxb
                have hE := hE'
                clear hE'
                refine hK.out _ _ hE.hF.1 (fun hHeld => ?_)
                clear hK K
                simp only [List.setIfInBounds_toArray, List.set_cons_zero, List.set_cons_succ]
                refine one_ready 8 rfl (by kernel_rfl) (fun K hK => ?_)
                go_simp
                refine (data_of (id : Int) _).mono ?_
                rintro e w13 ⟨rfl, hb⟩
                have hE := hE.nob (Only.of_below hb)
                refine hK.out _ _ hE.hF.1 (fun hHeld => ?_)
                clear hK K hb
                simp only [List.setIfInBounds_toArray, List.set_cons_zero, List.set_cons_succ]
                refine one_ready 13 rfl (by kernel_rfl) (fun K hK => ?_)
                go_simp
                refine (hE.step HC.out ⟨1, 100 * (t : Int) + (id : Int), 0, dw (id : Int), 0, ((g2 id : Nat) : Int)⟩ (by omega) (by show (0 : Int) ≤ 100 * (t : Int) + (id : Int); omega) (fun j => dw_rng _ j) (ok_at (op := 1) (by decide) (by omega) (by omega) hN1 (hgN id)) (fun _ l d e => by rw [hM.free (Nat.le_refl id)] at e; cases e)).mono ?_
                rintro e w13 ⟨d', b', rfl, hdb, ov', -, hroom, hE'⟩
                obtain ⟨-, hb'⟩ := hdb rfl
                rw [hM.free (Nat.le_refl id)] at hb'
                subst hb'
                have hM' := hM.put (0 : Int) 0
                have hov : ov' = false := hroom rfl (idsOf t 0 (id + 1)) (fun x b hx => hM'.all x b hx) (by rw [idsOf_len]; omega)
                subst hov
                clear hE hM hdb hroom
                have hE := hE'
                have hM := hM'
                clear hE' hM'
                refine hK.out _ _ hE.hF.1 (fun hHeld => ?_)
                clear hK K
                simp only [List.setIfInBounds_toArray, List.set_cons_zero, List.set_cons_succ]
                refine wpAnyH_take (i := 14) (oi := ⟨some 74, _, _, _, _, _⟩) (v := (.tuple #[.agg (DA d'), .bool false])) rfl (by kernel_rfl) (by kernel_rfl) (by kernel_rfl) (fun _ _ _ h => h) (Or.inl ⟨by rfl, fun w' hw => by go_simp⟩) hHeld ?_
                try simp only [Act.put, List.setIfInBounds_toArray, List.set_cons_zero, List.set_cons_succ]
                refine wpAnyH_take (i := 15) (oi := ⟨some 89, _, _, _, _, _⟩) (v := (.agg (DA d'))) rfl (by kernel_rfl) (by kernel_rfl) (by kernel_rfl) (fun _ _ _ h => h) (Or.inl ⟨by rfl, fun w' hw => by go_simp⟩) hHeld ?_
                try simp only [Act.put, List.setIfInBounds_toArray, List.set_cons_zero, List.set_cons_succ]
                refine wpAnyH_take (i := 16) (oi := ⟨some 90, _, _, _, _, _⟩) (v := (.bool false)) rfl (by kernel_rfl) (by kernel_rfl) (by kernel_rfl) (fun _ _ _ h => h) (Or.inl ⟨by rfl, fun w' hw => by go_simp⟩) hHeld ?_
                try simp only [Act.put, List.setIfInBounds_toArray, List.set_cons_zero, List.set_cons_succ]
                refine one_ready 18 (o := ⟨none, _, _, _, _, _⟩) rfl (by kernel_rfl) (fun K hK => ?_)
                refine step_store_data rfl (.tmp 15) (.tmp 89) rfl xb 0 rfl d' rfl (hE.hF.2.there 8 (by decide)) ?_
                have hE' := hE.spent (Z0 := fun i => Z i ∨ i = gb) (b := xb) (only_setCells (S := just xb) (DA d').toList 0 _ (Only.refl _ _) (.inl (just_self _))) (fun i hi => .inl hi) (fun i hi => .inl (HstZ.out i hi)) (fun u u' hs hk q => ⟨HstF.out u u' hs (hk.mono fun i hi => .inl hi) q.1, hk.row q.2 (.inr rfl)⟩) hxz (.inr rfl)
                clear hE hxz
                have hE := hE'
                clear hE'
                refine hK.out _ _ hE.hF (fun hHeld => ?_)
                clear hK K
                simp only [List.setIfInBounds_toArray, List.set_cons_zero, List.set_cons_succ]
                refine wpAnyH_take (i := 19) (oi := ⟨some 16, _, _, _, _, _⟩) (v := (.bool false)) rfl (by kernel_rfl) (by kernel_rfl) (by kernel_rfl) (fun _ _ _ h => h) (Or.inl ⟨by rfl, fun w' hw => by go_simp⟩) hHeld ?_
                try simp only [Act.put, List.setIfInBounds_toArray, List.set_cons_zero, List.set_cons_succ]
                refine wpAnyH_done (by kernel_rfl) ?_ _
                have HE := Lib.hid hE
                have HM := Lib.hid hM
                clear hE hHeld hM hx1 hx2 hx3 hx4
                go_wp2_with fail
                refine (HE.out.lk.over).mono ?_
                rintro e w15 ⟨rfl, rfl⟩
                go_wp2_with fail
                go_roundw
                case rel => exact ⟨kw + 1, id + 1, by go_num, by go_num, by omega, by omega, g2, ka + 1, _, _, by omega, hgN, HM.out, HE.out⟩
                case measure => simp [intOf]; omega

            · have hn0N : ¬ 0 < n2 := hn0
              go_upto_region 19 with fail
              have hE := hE.drew
              refine held_s (S := (fun u => (Box u cb 25 (cfA N S T) ∧ Nums .i64 u w.heap.size la n2 z2) ∧ u.rowIs gb 3 T (fun j => .int .i64 ((g j : Nat) : Int)))) 20 rfl (by kernel_rfl) hE.hF (fun hHeld => ?_)
              simp only [Array.replicate_succ, Array.replicate_zero, List.push_toArray, List.nil_append, List.cons_append]
              generalize World.drew _ = wd at *
              refine wpAnyH_take (i := 0) (oi := ⟨some 75, _, _, _, _, _⟩) (v := (.pointer (some ⟨lp, 0, none⟩))) rfl (by kernel_rfl) (by kernel_rfl) (by kernel_rfl) (fun _ _ _ h => h) (Or.inl ⟨by rfl, fun w' hw => by go_simp⟩) hHeld ?_
              try simp only [Act.put, List.setIfInBounds_toArray, List.set_cons_zero, List.set_cons_succ]
              refine wpAnyH_take (i := 1) (oi := ⟨some 76, _, _, _, _, _⟩) (v := (.int .i64 (t : Int))) rfl (by kernel_rfl) (by kernel_rfl) (by kernel_rfl) (fun _ _ _ h => h) (Or.inl ⟨by rfl, fun w' hw => by go_simp⟩) hHeld ?_
              try simp only [Act.put, List.setIfInBounds_toArray, List.set_cons_zero, List.set_cons_succ]
              refine wpAnyH_take (i := 2) (oi := ⟨some 77, _, _, _, _, _⟩) (v := (.int .i64 (100 * (t : Int)))) rfl (by kernel_rfl) (by kernel_rfl) (by kernel_rfl) (fun _ _ _ h => h) (Or.inl ⟨by rfl, fun w' hw => by go_simp⟩) hHeld ?_
              try simp only [Act.put, List.setIfInBounds_toArray, List.set_cons_zero, List.set_cons_succ]
              refine wpAnyH_take (i := 3) (oi := ⟨some 78, _, _, _, _, _⟩) (v := (.int .i64 (id : Int))) rfl (by kernel_rfl) (by kernel_rfl) (by kernel_rfl) (fun _ _ _ h => h) (Or.inl ⟨by rfl, fun w' hw => by go_simp⟩) hHeld ?_
              try simp only [Act.put, List.setIfInBounds_toArray, List.set_cons_zero, List.set_cons_succ]
              refine wpAnyH_take (i := 4) (oi := ⟨some 79, _, _, _, _, _⟩) (v := (.int .i64 (100 * (t : Int) + (id : Int)))) rfl (by kernel_rfl) (by kernel_rfl) (by kernel_rfl) (fun _ _ _ h => h) (Or.inl ⟨by rfl, fun w' hw => by go_simp⟩) hHeld ?_
              try simp only [Act.put, List.setIfInBounds_toArray, List.set_cons_zero, List.set_cons_succ]
              refine wpAnyH_take (i := 5) (oi := ⟨some 80, _, _, _, _, _⟩) (v := (.int .u64 (100 * (t : Int) + (id : Int)))) rfl (by kernel_rfl) (by kernel_rfl) (by kernel_rfl) (fun _ _ _ h => h) (Or.inl ⟨by rfl, fun w' hw => by go_simp⟩) hHeld ?_
              try simp only [Act.put, List.setIfInBounds_toArray, List.set_cons_zero, List.set_cons_succ]
              refine wpAnyH_take (i := 6) (oi := ⟨some 81, _, _, _, _, _⟩) (v := (.int .i64 (id : Int))) rfl (by kernel_rfl) (by kernel_rfl) (by kernel_rfl) (fun _ _ _ h => h) (Or.inl ⟨by rfl, fun w' hw => by go_simp⟩) hHeld ?_
              try simp only [Act.put, List.setIfInBounds_toArray, List.set_cons_zero, List.set_cons_succ]
              refine wpAnyH_take (i := 7) (oi := ⟨some 82, _, _, _, _, _⟩) (v := (.int .u64 (id : Int))) rfl (by kernel_rfl) (by kernel_rfl) (by kernel_rfl) (fun _ _ _ h => h) (Or.inl ⟨by rfl, fun w' hw => by go_simp⟩) hHeld ?_
              try simp only [Act.put, List.setIfInBounds_toArray, List.set_cons_zero, List.set_cons_succ]
              refine wpAnyH_take (i := 9) (oi := ⟨some 84, _, _, _, _, _⟩) (v := (.slice (some ⟨gb, 0, none⟩) T T)) rfl (by kernel_rfl) (by kernel_rfl) (by kernel_rfl) (fun _ _ _ h => h) (Or.inl ⟨by rfl, fun w' hw => by go_simp⟩) hHeld ?_
              try simp only [Act.put, List.setIfInBounds_toArray, List.set_cons_zero, List.set_cons_succ]
              refine wpAnyH_take (i := 10) (oi := ⟨some 85, _, _, _, _, _⟩) (v := (.int .i64 (id : Int))) rfl (by kernel_rfl) (by kernel_rfl) (by kernel_rfl) (fun _ _ _ h => h) (Or.inl ⟨by rfl, fun w' hw => by go_simp⟩) hHeld ?_
              try simp only [Act.put, List.setIfInBounds_toArray, List.set_cons_zero, List.set_cons_succ]
              refine wpAnyH_take (i := 11) (oi := ⟨some 86, _, _, _, _, _⟩) (v := (.pointer (some ⟨gb, id, none⟩))) rfl (by kernel_rfl) (by kernel_rfl) (by kernel_rfl) (fun _ _ _ h => h) (Or.inl ⟨by rfl, fun w' hw => by go_simp⟩) hHeld ?_
              try simp only [Act.put, List.setIfInBounds_toArray, List.set_cons_zero, List.set_cons_succ]
              refine wpAnyH_take (i := 12) (oi := ⟨some 87, _, _, _, _, _⟩) (v := (.int .i64 ((g id : Nat) : Int))) rfl (by kernel_rfl) (by kernel_rfl) (by kernel_rfl) (fun _ _ _ h => h) (Or.inl ⟨by rfl, fun w' hw => by (have g0 := hw.2.cell hid; go_simp)⟩) hHeld ?_
              try simp only [Act.put, List.setIfInBounds_toArray, List.set_cons_zero, List.set_cons_succ]
              refine wpAnyH_ready (rs := [8, 17]) (by kernel_rfl) (by simp) ?_
              refine AllReadyH.cons rfl (fun K hK => ?_) ?_
              · go_simp
                refine (data_of (id : Int) _).mono ?_
                rintro e w13 ⟨rfl, hb⟩
                have hE := hE.nob (Only.of_below hb)
                refine hK.out _ _ hE.hF (fun hHeld => ?_)
                clear hK K hb
                simp only [List.setIfInBounds_toArray, List.set_cons_zero, List.set_cons_succ]
                refine wpAnyH_ready (rs := [13, 17]) (by kernel_rfl) (by simp) ?_
                refine AllReadyH.cons rfl (fun K hK => ?_) ?_
                · go_simp
                  refine (hE.step HC.out ⟨1, 100 * (t : Int) + (id : Int), 0, dw (id : Int), 0, ((g id : Nat) : Int)⟩ (by omega) (by show (0 : Int) ≤ 100 * (t : Int) + (id : Int); omega) (fun j => dw_rng _ j) (ok_at (op := 1) (by decide) (by omega) (by omega) hN1 (hgN id)) (fun _ l d e => by rw [hM.free (Nat.le_refl id)] at e; cases e)).mono ?_
                  rintro e w13 ⟨d', b', rfl, hdb, ov', -, hroom, hE'⟩
                  obtain ⟨-, hb'⟩ := hdb rfl
                  rw [hM.free (Nat.le_refl id)] at hb'
                  subst hb'
                  have hM' := hM.put (0 : Int) 0
                  have hov : ov' = false := hroom rfl (idsOf t 0 (id + 1)) (fun x b hx => hM'.all x b hx) (by rw [idsOf_len]; omega)
                  subst hov
                  clear hE hM hdb hroom
                  have hE := hE'
                  have hM := hM'
                  clear hE' hM'
                  refine hK.out _ _ hE.hF (fun hHeld => ?_)
                  clear hK K
                  simp only [List.setIfInBounds_toArray, List.set_cons_zero, List.set_cons_succ]
                  refine wpAnyH_take (i := 14) (oi := ⟨some 74, _, _, _, _, _⟩) (v := (.tuple #[.agg (DA d'), .bool false])) rfl (by kernel_rfl) (by kernel_rfl) (by kernel_rfl) (fun _ _ _ h => h) (Or.inl ⟨by rfl, fun w' hw => by go_simp⟩) hHeld ?_
                  try simp only [Act.put, List.setIfInBounds_toArray, List.set_cons_zero, List.set_cons_succ]
                  refine wpAnyH_take (i := 15) (oi := ⟨some 89, _, _, _, _, _⟩) (v := (.agg (DA d'))) rfl (by kernel_rfl) (by kernel_rfl) (by kernel_rfl) (fun _ _ _ h => h) (Or.inl ⟨by rfl, fun w' hw => by go_simp⟩) hHeld ?_
                  try simp only [Act.put, List.setIfInBounds_toArray, List.set_cons_zero, List.set_cons_succ]
                  refine wpAnyH_take (i := 16) (oi := ⟨some 90, _, _, _, _, _⟩) (v := (.bool false)) rfl (by kernel_rfl) (by kernel_rfl) (by kernel_rfl) (fun _ _ _ h => h) (Or.inl ⟨by rfl, fun w' hw => by go_simp⟩) hHeld ?_
                  try simp only [Act.put, List.setIfInBounds_toArray, List.set_cons_zero, List.set_cons_succ]
                  refine one_ready 17 rfl (by kernel_rfl) (fun K hK => ?_)
                  go_simp
                  obtain ⟨xb, hxb⟩ := size_of hE
                  have hxz : ¬ (Z xb ∨ xb = gb) := fun h => by have := hE.mem h; omega
                  have hE' := hE.box 48 #[.int .u64 0, .int .u64 0, .int .u64 0, .int .u64 0, .int .u64 0, .int .u64 0, .int .u64 0, .int .u64 0] hxb
                  rw [hxb]
                  clear hE hxb
                  have hE := hE'
                  clear hE'
                  refine hK.out _ _ hE.hF.1 (fun hHeld => ?_)
                  clear hK K
                  simp only [List.setIfInBounds_toArray, List.set_cons_zero, List.set_cons_succ]
                  refine one_ready 18 (o := ⟨none, _, _, _, _, _⟩) rfl (by kernel_rfl) (fun K hK => ?_)
                  refine step_store_data rfl (.tmp 15) (.tmp 89) rfl xb 0 rfl d' rfl (hE.hF.2.there 8 (by decide)) ?_
                  have hE' := hE.spent (Z0 := fun i => Z i ∨ i = gb) (b := xb) (only_setCells (S := just xb) (DA d').toList 0 _ (Only.refl _ _) (.inl (just_self _))) (fun i hi => .inl hi) (fun i hi => .inl (HstZ.out i hi)) (fun u u' hs hk q => ⟨HstF.out u u' hs (hk.mono fun i hi => .inl hi) q.1, hk.row q.2 (.inr rfl)⟩) hxz (.inr rfl)
                  clear hE hxz
                  have hE := hE'
                  clear hE'
                  refine hK.out _ _ hE.hF (fun hHeld => ?_)
                  clear hK K
                  simp only [List.setIfInBounds_toArray, List.set_cons_zero, List.set_cons_succ]
                  refine wpAnyH_take (i := 19) (oi := ⟨some 16, _, _, _, _, _⟩) (v := (.bool false)) rfl (by kernel_rfl) (by kernel_rfl) (by kernel_rfl) (fun _ _ _ h => h) (Or.inl ⟨by rfl, fun w' hw => by go_simp⟩) hHeld ?_
                  try simp only [Act.put, List.setIfInBounds_toArray, List.set_cons_zero, List.set_cons_succ]
                  refine wpAnyH_done (by kernel_rfl) ?_ _
                  have HE := Lib.hid hE
                  have HM := Lib.hid hM
                  clear hE hHeld hM hx1 hx2 hx3 hx4
                  go_wp2_with fail
                  refine (HE.out.lk.over).mono ?_
                  rintro e w15 ⟨rfl, rfl⟩
                  go_wp2_with fail
                  go_roundw
                  case rel => exact ⟨kw, id + 1, by go_num, by go_num, by omega, by omega, g, ka + 1, _, _, by omega, hgN, HM.out, HE.out⟩
                  case measure => simp [intOf]; omega
                · refine AllReadyH.cons rfl (fun K hK => ?_) AllReadyH.nil
                  go_simp
                  obtain ⟨xb, hxb⟩ := size_of hE
                  have hxz : ¬ (Z xb ∨ xb = gb) := fun h => by have := hE.mem h; omega
                  have hE' := hE.box 48 #[.int .u64 0, .int .u64 0, .int .u64 0, .int .u64 0, .int .u64 0, .int .u64 0, .int .u64 0, .int .u64 0] hxb
                  rw [hxb]
                  clear hE hxb
                  have hE := hE'
                  clear hE'
                  refine hK.out _ _ hE.hF.1 (fun hHeld => ?_)
                  clear hK K
                  simp only [List.setIfInBounds_toArray, List.set_cons_zero, List.set_cons_succ]
                  refine one_ready 13 rfl (by kernel_rfl) (fun K hK => ?_)
                  go_simp
                  refine (hE.step HC.out ⟨1, 100 * (t : Int) + (id : Int), 0, dw (id : Int), 0, ((g id : Nat) : Int)⟩ (by omega) (by show (0 : Int) ≤ 100 * (t : Int) + (id : Int); omega) (fun j => dw_rng _ j) (ok_at (op := 1) (by decide) (by omega) (by omega) hN1 (hgN id)) (fun _ l d e => by rw [hM.free (Nat.le_refl id)] at e; cases e)).mono ?_
                  rintro e w13 ⟨d', b', rfl, hdb, ov', -, hroom, hE'⟩
                  obtain ⟨-, hb'⟩ := hdb rfl
                  rw [hM.free (Nat.le_refl id)] at hb'
                  subst hb'
                  have hM' := hM.put (0 : Int) 0
                  have hov : ov' = false := hroom rfl (idsOf t 0 (id + 1)) (fun x b hx => hM'.all x b hx) (by rw [idsOf_len]; omega)
                  subst hov
                  clear hE hM hdb hroom
                  have hE := hE'
                  have hM := hM'
                  clear hE' hM'
                  refine hK.out _ _ hE.hF.1 (fun hHeld => ?_)
                  clear hK K
                  simp only [List.setIfInBounds_toArray, List.set_cons_zero, List.set_cons_succ]
                  refine wpAnyH_take (i := 14) (oi := ⟨some 74, _, _, _, _, _⟩) (v := (.tuple #[.agg (DA d'), .bool false])) rfl (by kernel_rfl) (by kernel_rfl) (by kernel_rfl) (fun _ _ _ h => h) (Or.inl ⟨by rfl, fun w' hw => by go_simp⟩) hHeld ?_
                  try simp only [Act.put, List.setIfInBounds_toArray, List.set_cons_zero, List.set_cons_succ]
                  refine wpAnyH_take (i := 15) (oi := ⟨some 89, _, _, _, _, _⟩) (v := (.agg (DA d'))) rfl (by kernel_rfl) (by kernel_rfl) (by kernel_rfl) (fun _ _ _ h => h) (Or.inl ⟨by rfl, fun w' hw => by go_simp⟩) hHeld ?_
                  try simp only [Act.put, List.setIfInBounds_toArray, List.set_cons_zero, List.set_cons_succ]
                  refine wpAnyH_take (i := 16) (oi := ⟨some 90, _, _, _, _, _⟩) (v := (.bool false)) rfl (by kernel_rfl) (by kernel_rfl) (by kernel_rfl) (fun _ _ _ h => h) (Or.inl ⟨by rfl, fun w' hw => by go_simp⟩) hHeld ?_
                  try simp only [Act.put, List.setIfInBounds_toArray, List.set_cons_zero, List.set_cons_succ]
                  refine one_ready 18 (o := ⟨none, _, _, _, _, _⟩) rfl (by kernel_rfl) (fun K hK => ?_)
                  refine step_store_data rfl (.tmp 15) (.tmp 89) rfl xb 0 rfl d' rfl (hE.hF.2.there 8 (by decide)) ?_
                  have hE' := hE.spent (Z0 := fun i => Z i ∨ i = gb) (b := xb) (only_setCells (S := just xb) (DA d').toList 0 _ (Only.refl _ _) (.inl (just_self _))) (fun i hi => .inl hi) (fun i hi => .inl (HstZ.out i hi)) (fun u u' hs hk q => ⟨HstF.out u u' hs (hk.mono fun i hi => .inl hi) q.1, hk.row q.2 (.inr rfl)⟩) hxz (.inr rfl)
                  clear hE hxz
                  have hE := hE'
                  clear hE'
                  refine hK.out _ _ hE.hF (fun hHeld => ?_)
                  clear hK K
                  simp only [List.setIfInBounds_toArray, List.set_cons_zero, List.set_cons_succ]
                  refine wpAnyH_take (i := 19) (oi := ⟨some 16, _, _, _, _, _⟩) (v := (.bool false)) rfl (by kernel_rfl) (by kernel_rfl) (by kernel_rfl) (fun _ _ _ h => h) (Or.inl ⟨by rfl, fun w' hw => by go_simp⟩) hHeld ?_
                  try simp only [Act.put, List.setIfInBounds_toArray, List.set_cons_zero, List.set_cons_succ]
                  refine wpAnyH_done (by kernel_rfl) ?_ _
                  have HE := Lib.hid hE
                  have HM := Lib.hid hM
                  clear hE hHeld hM hx1 hx2 hx3 hx4
                  go_wp2_with fail
                  refine (HE.out.lk.over).mono ?_
                  rintro e w15 ⟨rfl, rfl⟩
                  go_wp2_with fail
                  go_roundw
                  case rel => exact ⟨kw, id + 1, by go_num, by go_num, by omega, by omega, g, ka + 1, _, _, by omega, hgN, HM.out, HE.out⟩
                  case measure => simp [intOf]; omega
              · refine AllReadyH.cons rfl (fun K hK => ?_) AllReadyH.nil
                go_simp
                obtain ⟨xb, hxb⟩ := size_of hE
                have hxz : ¬ (Z xb ∨ xb = gb) := fun h => by have := hE.mem h; omega
                have hE' := hE.box 48 #[.int .u64 0, .int .u64 0, .int .u64 0, .int .u64 0, .int .u64 0, .int .u64 0, .int .u64 0, .int .u64 0] hxb
                rw [hxb]
                clear hE hxb
                have hE := hE'
                clear hE'
                refine hK.out _ _ hE.hF.1 (fun hHeld => ?_)
                clear hK K
                simp only [List.setIfInBounds_toArray, List.set_cons_zero, List.set_cons_succ]
                refine one_ready 8 rfl (by kernel_rfl) (fun K hK => ?_)
                go_simp
                refine (data_of (id : Int) _).mono ?_
                rintro e w13 ⟨rfl, hb⟩
                have hE := hE.nob (Only.of_below hb)
                refine hK.out _ _ hE.hF.1 (fun hHeld => ?_)
                clear hK K hb
                simp only [List.setIfInBounds_toArray, List.set_cons_zero, List.set_cons_succ]
                refine one_ready 13 rfl (by kernel_rfl) (fun K hK => ?_)
                go_simp
                refine (hE.step HC.out ⟨1, 100 * (t : Int) + (id : Int), 0, dw (id : Int), 0, ((g id : Nat) : Int)⟩ (by omega) (by show (0 : Int) ≤ 100 * (t : Int) + (id : Int); omega) (fun j => dw_rng _ j) (ok_at (op := 1) (by decide) (by omega) (by omega) hN1 (hgN id)) (fun _ l d e => by rw [hM.free (Nat.le_refl id)] at e; cases e)).mono ?_
                rintro e w13 ⟨d', b', rfl, hdb, ov', -, hroom, hE'⟩
                obtain ⟨-, hb'⟩ := hdb rfl
                rw [hM.free (Nat.le_refl id)] at hb'
                subst hb'
                have hM' := hM.put (0 : Int) 0
                have hov : ov' = false := hroom rfl (idsOf t 0 (id + 1)) (fun x b hx => hM'.all x b hx) (by rw [idsOf_len]; omega)
                subst hov
                clear hE hM hdb hroom
                have hE := hE'
                have hM := hM'
                clear hE' hM'
                refine hK.out _ _ hE.hF.1 (fun hHeld => ?_)
                clear hK K
                simp only [List.setIfInBounds_toArray, List.set_cons_zero, List.set_cons_succ]
                refine wpAnyH_take (i := 14) (oi := ⟨some 74, _, _, _, _, _⟩) (v := (.tuple #[.agg (DA d'), .bool false])) rfl (by kernel_rfl) (by kernel_rfl) (by kernel_rfl) (fun _ _ _ h => h) (Or.inl ⟨by rfl, fun w' hw => by go_simp⟩) hHeld ?_
                try simp only [Act.put, List.setIfInBounds_toArray, List.set_cons_zero, List.set_cons_succ]
                refine wpAnyH_take (i := 15) (oi := ⟨some 89, _, _, _, _, _⟩) (v := (.agg (DA d'))) rfl (by kernel_rfl) (by kernel_rfl) (by kernel_rfl) (fun _ _ _ h => h) (Or.inl ⟨by rfl, fun w' hw => by go_simp⟩) hHeld ?_
                try simp only [Act.put, List.setIfInBounds_toArray, List.set_cons_zero, List.set_cons_succ]
                refine wpAnyH_take (i := 16) (oi := ⟨some 90, _, _, _, _, _⟩) (v := (.bool false)) rfl (by kernel_rfl) (by kernel_rfl) (by kernel_rfl) (fun _ _ _ h => h) (Or.inl ⟨by rfl, fun w' hw => by go_simp⟩) hHeld ?_
                try simp only [Act.put, List.setIfInBounds_toArray, List.set_cons_zero, List.set_cons_succ]
                refine one_ready 18 (o := ⟨none, _, _, _, _, _⟩) rfl (by kernel_rfl) (fun K hK => ?_)
                refine step_store_data rfl (.tmp 15) (.tmp 89) rfl xb 0 rfl d' rfl (hE.hF.2.there 8 (by decide)) ?_
                have hE' := hE.spent (Z0 := fun i => Z i ∨ i = gb) (b := xb) (only_setCells (S := just xb) (DA d').toList 0 _ (Only.refl _ _) (.inl (just_self _))) (fun i hi => .inl hi) (fun i hi => .inl (HstZ.out i hi)) (fun u u' hs hk q => ⟨HstF.out u u' hs (hk.mono fun i hi => .inl hi) q.1, hk.row q.2 (.inr rfl)⟩) hxz (.inr rfl)
                clear hE hxz
                have hE := hE'
                clear hE'
                refine hK.out _ _ hE.hF (fun hHeld => ?_)
                clear hK K
                simp only [List.setIfInBounds_toArray, List.set_cons_zero, List.set_cons_succ]
                refine wpAnyH_take (i := 19) (oi := ⟨some 16, _, _, _, _, _⟩) (v := (.bool false)) rfl (by kernel_rfl) (by kernel_rfl) (by kernel_rfl) (fun _ _ _ h => h) (Or.inl ⟨by rfl, fun w' hw => by go_simp⟩) hHeld ?_
                try simp only [Act.put, List.setIfInBounds_toArray, List.set_cons_zero, List.set_cons_succ]
                refine wpAnyH_done (by kernel_rfl) ?_ _
                have HE := Lib.hid hE
                have HM := Lib.hid hM
                clear hE hHeld hM hx1 hx2 hx3 hx4
                go_wp2_with fail
                refine (HE.out.lk.over).mono ?_
                rintro e w15 ⟨rfl, rfl⟩
                go_wp2_with fail
                go_roundw
                case rel => exact ⟨kw, id + 1, by go_num, by go_num, by omega, by omega, g, ka + 1, _, _, by omega, hgN, HM.out, HE.out⟩
                case measure => simp [intOf]; omega

          · obtain rfl : id = T := by omega
            have HE := Lib.hid hE
            have HM := Lib.hid hM
            have HgN := Lib.hid hgN
            clear hE hM
            go_wp2_with fail
            go_loopw [17] (fun v17 wr => ∃ j : Nat, v17 = .int .i64 j ∧ j ≤ id ∧ ∃ ka I m, ka ≤ 24 * t + 8 + 2 * j ∧ DrIn t j id g m ∧ LvS N S D id Q mp lp bm w (fun i => Z i ∨ i = gb) (fun u => (Box u cb 25 (cfA N S id) ∧ Nums .i64 u w.heap.size la n2 z2) ∧ u.rowIs gb 3 id (fun j => .int .i64 ((g j : Nat) : Int))) false I m ka wr) (fun v17 _ => id - (intOf v17).toNat)
            case atStart => exact ⟨0, rfl, by omega, ka, _, _, by omega, HM.out, HE.out⟩
            case round =>
              clear HE HM k2
              obtain ⟨j, rfl, hle3, ka, I, mb, hka, hM, hE⟩ := hrel
              have k2 := cf_2 hE.hF.1.1
              by_cases hj : j < id
              · have hx1 : IntKind.i64.wrap (100 * (t : Int)) = 100 * (t : Int) := by rw [IntKind.wrap_i64]; omega
                have hx2 : IntKind.i64.wrap (100 * (t : Int) + (j : Int)) = 100 * (t : Int) + (j : Int) := by rw [IntKind.wrap_i64]; omega
                have hx3 : IntKind.u64.wrap (100 * (t : Int) + (j : Int)) = 100 * (t : Int) + (j : Int) := by rw [IntKind.wrap_u64]; omega
                have hx4 : IntKind.u64.wrap (j : Int) = (j : Int) := by rw [IntKind.wrap_u64]; omega
                have g0 := hE.hF.2.cell hj
                have HE := Lib.hid hE
                have HM := Lib.hid hM
                clear hE hM
                go_wp2_with fail
                refine (HE.out.step HC.out ⟨3, 100 * (t : Int) + (j : Int), 0, fun _ => 0, ((g j : Nat) : Int), ((0 : Nat) : Int)⟩ (by omega) (by show (0 : Int) ≤ 100 * (t : Int) + (j : Int); omega) zero8 (ok_at (op := 3) (by decide) (by omega) (by omega) (HgN.out j) hN1) (fun _ l d e => by rw [HM.out.yes j (Nat.le_refl _) hj] at e; injection e with e; injection e with e _; rw [← e])).mono ?_
                rintro e w7 ⟨d1, b1, rfl, hdb, ov1, -, hroom, hE⟩
                obtain ⟨hd0, hb0⟩ := hdb rfl
                rw [HM.out.yes j (Nat.le_refl _) hj] at hd0 hb0
                have hb1 : b1 = true := hb0
                have hd1 : DA d1 = DA (dw (j : Int)) := hd0
                clear hd0 hb0 hdb
                subst hb1
                have hM1 := HM.out.drop ((g j : Nat) : Int) 0 (fun _ => 0)
                have hov : ov1 = false := hroom rfl (idsOf t (j + 1) id) (fun x b hx => hM1.all x b hx) (by rw [idsOf_len]; omega)
                subst hov
                have HM1 := Lib.hid hM1
                have HE1 := Lib.hid hE
                have HD1 := Lib.hid hd1
                clear hE hM1 hroom HE HM g0 k2 hd1
                go_upto_region 26 with (refine wpList_store_newD rfl (.tmp 18) (.tmp 115) rfl rfl _ rfl rfl ?_)
                rw [HD1.out]
                obtain ⟨db, hdb⟩ : ∃ b, w7.heap.size = b := ⟨_, rfl⟩
                have HE2 := Lib.hid (HE1.out.box 48 (DA (dw (j : Int))) hdb)
                rw [hdb]
                clear hdb HE1 HD1
                generalize w7.alloc (.cells (DA (dw (j : Int))) 48) = w8 at *
                have g0 := HE2.out.hF.1.2.cell hj
                go_wp2_with fail
                refine (HE2.out.step HC.out ⟨0, 100 * (t : Int) + (j : Int), 0, fun _ => 0, ((g j : Nat) : Int), ((0 : Nat) : Int)⟩ (by omega) (by show (0 : Int) ≤ 100 * (t : Int) + (j : Int); omega) zero8 (ok_at (op := 0) (by decide) (by omega) (by omega) (HgN.out j) hN1) (fun _ l d e => by rw [HM1.out.gone (Nat.lt_succ_self j)] at e; cases e)).mono ?_
                rintro e w9 ⟨d2, b2, rfl, hdb, ov2, -, hroom, hE⟩
                obtain ⟨-, hb0⟩ := hdb rfl
                rw [HM1.out.gone (Nat.lt_succ_self j)] at hb0
                have hb2 : b2 = false := hb0
                clear hb0 hdb
                subst hb2
                have hM2 := HM1.out.look (Nat.lt_succ_self j) ((g j : Nat) : Int) 0 (fun _ => 0)
                have hov : ov2 = false := hroom rfl (idsOf t (j + 1) id) (fun x b hx => hM2.all x b hx) (by rw [idsOf_len]; omega)
                subst hov
                have HM2 := Lib.hid hM2
                have HE3 := Lib.hid hE
                clear hE hM2 hroom HE2 HM1 g0
                go_upto_region 27 with (refine wpList_store_newD rfl (.tmp 20) (.tmp 130) rfl rfl _ rfl rfl ?_)
                have hE := HE3.out.nob ((Only.refl nobody w9).alloc (.cells (DA d2) 48))
                generalize w9.alloc (.cells (DA d2) 48) = w10 at *
                clear HE3
                have hE := hE.drew
                refine held_s (S := (fun u => ((Box u cb 25 (cfA N S id) ∧ Nums .i64 u w.heap.size la n2 z2) ∧ u.rowIs gb 3 id (fun j => .int .i64 ((g j : Nat) : Int))) ∧ Box u db 48 (DA (dw (j : Int))))) 16 rfl (by kernel_rfl) hE.hF (fun hHeld => ?_)
                simp only [Array.replicate_succ, Array.replicate_zero, List.push_toArray, List.nil_append, List.cons_append]
                generalize World.drew _ = wd at *
                refine wpAnyH_take (i := 0) (oi := ⟨some 132, _, _, _, _, _⟩) (v := (.bool true)) rfl (by kernel_rfl) (by kernel_rfl) (by kernel_rfl) (fun _ _ _ h => h) (Or.inl ⟨by rfl, fun w' hw => by go_simp⟩) hHeld ?_
                try simp only [Act.put, List.setIfInBounds_toArray, List.set_cons_zero, List.set_cons_succ]
                refine wpAnyH_take (i := 1) (oi := ⟨some 133, _, _, _, _, _⟩) (v := (.bool false)) rfl (by kernel_rfl) (by kernel_rfl) (by kernel_rfl) (fun _ _ _ h => h) (Or.inl ⟨by rfl, fun w' hw => by go_simp⟩) hHeld ?_
                try simp only [Act.put, List.setIfInBounds_toArray, List.set_cons_zero, List.set_cons_succ]
                refine wpAnyH_take (i := 2) (oi := ⟨some 134, _, _, _, _, _⟩) (v := (.bool false)) rfl (by kernel_rfl) (by kernel_rfl) (by kernel_rfl) (fun _ _ _ h => h) (Or.inl ⟨by rfl, fun w' hw => by go_simp⟩) hHeld ?_
                try simp only [Act.put, List.setIfInBounds_toArray, List.set_cons_zero, List.set_cons_succ]
                refine wpAnyH_take (i := 3) (oi := ⟨some 135, _, _, _, _, _⟩) (v := (.bool false)) rfl (by kernel_rfl) (by kernel_rfl) (by kernel_rfl) (fun _ _ _ h => h) (Or.inl ⟨by rfl, fun w' hw => by go_simp⟩) hHeld ?_
                try simp only [Act.put, List.setIfInBounds_toArray, List.set_cons_zero, List.set_cons_succ]
                refine wpAnyH_take (i := 4) (oi := ⟨some 136, _, _, _, _, _⟩) (v := (.bool false)) rfl (by kernel_rfl) (by kernel_rfl) (by kernel_rfl) (fun _ _ _ h => h) (Or.inl ⟨by rfl, fun w' hw => by go_simp⟩) hHeld ?_
                try simp only [Act.put, List.setIfInBounds_toArray, List.set_cons_zero, List.set_cons_succ]
                refine wpAnyH_take (i := 5) (oi := ⟨some 137, _, _, _, _, _⟩) (v := (.bool false)) rfl (by kernel_rfl) (by kernel_rfl) (by kernel_rfl) (fun _ _ _ h => h) (Or.inl ⟨by rfl, fun w' hw => by go_simp⟩) hHeld ?_
                try simp only [Act.put, List.setIfInBounds_toArray, List.set_cons_zero, List.set_cons_succ]
                refine take_row 6 (oi := ⟨some 138, _, _, _, _, _⟩) (DA (dw (j : Int))).toList rfl (by kernel_rfl) (by kernel_rfl) (by kernel_rfl) (fun _ _ _ h => h) (by rfl) _ _ rfl _ _ rfl _ (fun w' hw => hw.2.range) Tryz.underlying48 rfl (infoData (dw (j : Int))) hHeld ?_
                try simp only [Act.put, List.setIfInBounds_toArray, List.set_cons_zero, List.set_cons_succ]
                refine wpAnyH_take (i := 7) (oi := ⟨some 139, _, _, _, _, _⟩) (v := (.int .i64 (j : Int))) rfl (by kernel_rfl) (by kernel_rfl) (by kernel_rfl) (fun _ _ _ h => h) (Or.inl ⟨by rfl, fun w' hw => by go_simp⟩) hHeld ?_
                try simp only [Act.put, List.setIfInBounds_toArray, List.set_cons_zero, List.set_cons_succ]
                refine wpAnyH_take (i := 8) (oi := ⟨some 140, _, _, _, _, _⟩) (v := (.int .u64 (j : Int))) rfl (by kernel_rfl) (by kernel_rfl) (by kernel_rfl) (fun _ _ _ h => h) (Or.inl ⟨by rfl, fun w' hw => by go_simp⟩) hHeld ?_
                try simp only [Act.put, List.setIfInBounds_toArray, List.set_cons_zero, List.set_cons_succ]
                refine one_ready 9 rfl (by kernel_rfl) (fun K hK => ?_)
                go_simp
                refine (data_of (j : Int) _).mono ?_
                rintro e w13 ⟨rfl, hb⟩
                have hE := hE.nob (Only.of_below hb)
                refine hK.out _ _ hE.hF (fun hHeld => ?_)
                clear hK K hb
                simp only [List.setIfInBounds_toArray, List.set_cons_zero, List.set_cons_succ]
                refine wpAnyH_take (i := 10) (oi := ⟨some 142, _, _, _, _, _⟩) (v := (.bool false)) rfl (by kernel_rfl) (by kernel_rfl) (by kernel_rfl) (fun _ _ _ h => h) (Or.inl ⟨by rfl, fun w' hw => by (have q1 := neq_data (dw (j : Int)) (dw (j : Int)); rw [deq_self] at q1; go_simp)⟩) hHeld ?_
                try simp only [Act.put, List.setIfInBounds_toArray, List.set_cons_zero, List.set_cons_succ]
                refine wpAnyH_take (i := 11) (oi := ⟨some 143, _, _, _, _, _⟩) (v := (.bool false)) rfl (by kernel_rfl) (by kernel_rfl) (by kernel_rfl) (fun _ _ _ h => h) (Or.inl ⟨by rfl, fun w' hw => by go_simp⟩) hHeld ?_
                try simp only [Act.put, List.setIfInBounds_toArray, List.set_cons_zero, List.set_cons_succ]
                refine wpAnyH_take (i := 12) (oi := ⟨some 144, _, _, _, _, _⟩) (v := (.bool false)) rfl (by kernel_rfl) (by kernel_rfl) (by kernel_rfl) (fun _ _ _ h => h) (Or.inl ⟨by rfl, fun w' hw => by go_simp⟩) hHeld ?_
                try simp only [Act.put, List.setIfInBounds_toArray, List.set_cons_zero, List.set_cons_succ]
                refine wpAnyH_take (i := 13) (oi := ⟨some 145, _, _, _, _, _⟩) (v := (.pointer (some ⟨lp, 0, none⟩))) rfl (by kernel_rfl) (by kernel_rfl) (by kernel_rfl) (fun _ _ _ h => h) (Or.inl ⟨by rfl, fun w' hw => by go_simp⟩) hHeld ?_
                try simp only [Act.put, List.setIfInBounds_toArray, List.set_cons_zero, List.set_cons_succ]
                refine one_ready 14 rfl (by kernel_rfl) (fun K hK => ?_)
                go_simp
                refine (hE.lk.over).mono ?_
                rintro e w13 ⟨rfl, he⟩
                rw [he]
                refine hK.out _ _ hHeld (fun hHeld => ?_)
                clear hK K he w13
                simp only [List.setIfInBounds_toArray, List.set_cons_zero, List.set_cons_succ]
                refine wpAnyH_take (i := 15) (oi := ⟨some 147, _, _, _, _, _⟩) (v := (.bool false)) rfl (by kernel_rfl) (by kernel_rfl) (by kernel_rfl) (fun _ _ _ h => h) (Or.inl ⟨by rfl, fun w' hw => by go_simp⟩) hHeld ?_
                try simp only [Act.put, List.setIfInBounds_toArray, List.set_cons_zero, List.set_cons_succ]
                refine wpAnyH_done (by kernel_rfl) ?_ _
                have HE4 : Hid (LvS N S D id Q mp lp bm w (fun i => Z i ∨ i = gb) (fun u => (Box u cb 25 (cfA N S id) ∧ Nums .i64 u w.heap.size la n2 z2) ∧ u.rowIs gb 3 id (fun j => .int .i64 ((g j : Nat) : Int))) false _ _ _ _) := Lib.hid (hE.back (fun i hi => .inl hi) (fun i hi => .inl (HstZ.out i hi)) (fun u u' hs hk q => ⟨HstF.out u u' hs (hk.mono fun i hi => .inl hi) q.1, hk.row q.2 (.inr rfl)⟩))
                clear hE hHeld
                go_wp2_with fail
                go_roundw
                case rel => exact ⟨j + 1, by go_num, by omega, ka + 1 + 1, _, _, by omega, HM2.out, HE4.out⟩
                case measure => simp [intOf]; omega
              · obtain rfl : j = id := by omega
                have HE4 := Lib.hid (hE.back (Z0 := Z) (fun i hi => .inl hi) HstZ.out HstF.out)
                have HM := Lib.hid hM
                clear hE hM
                have ht1 : IntKind.i64.wrap ((t : Int) + 1) = (t : Int) + 1 := by rw [IntKind.wrap_i64]; omega
                go_wp2_with fail
                go_roundw
                case rel => exact ⟨kw, t + 1, by go_num, by go_num, by omega, by omega, ka, _, _, by omega, (fun x => HM.out.no x fun i h1 h2 => absurd h1 (by omega)), HE4.out⟩
                case measure => simp [intOf]; omega
      · have htr2 : ¬ (t : Int) < 1 + (r : Int) := by omega
        go_wp2_with fail
        go_ret
        exact ⟨rfl, HE1.out.kp⟩
end Go.Proofs.YtdbjaaalngbpgaaGreat
