/- The walk of the law on what stays: what is put in order by one word is put in order by it again as it is, with as many looks; if no two have the same word, it does not matter where they stood. Conditions: the slice's cells hold words. -/
import Derived.Test.YtojdefaplekieaaSortTwice
import Derived.Test.YtojdefaplekieaaSorted
namespace Go.Proofs.Ytojdefaplekieaa
open Go.RowKit Go.ChangeShapes Go.WideShapes Go.ChangeAt

theorem stays_out (a : Option Addr) (n cap : Nat) (L b : Int) (W : World) (h : L < 0 ∨ 6 < L) :
    Calls Try.prog 6 #[.slice a n cap, .int .i64 L, .int .i64 b] W (Yes W) := by
  by_cases h1 : L < 0
  · go_enter Try.func6, Try.ntmps6
    go_wp2_with fail
    refine (shown_any W).mono ?_
    rintro e w0 ⟨rfl, hb0⟩
    have HB := Lib.hid hb0
    clear hb0
    go_wp2_with fail
    go_ret
    exact ⟨rfl, HB.out⟩
  have h2 : 6 < L := by omega
  go_enter Try.func6, Try.ntmps6
  go_wp2_with fail
  refine (shown_any W).mono ?_
  rintro e w0 ⟨rfl, hb0⟩
  have HB := Lib.hid hb0
  clear hb0
  go_wp2_with fail
  go_ret
  exact ⟨rfl, HB.out⟩
/-- The law's words. -/
def av (z : Nat → Int) (nl j : Nat) : Int := if j < nl then IntKind.u64.wrap (IntKind.u64.wrap (z j * 256) + j) else (j : Int)
theorem av_rng (z : Nat → Int) (nl j : Nat) (hj : j < 1000) : 0 ≤ av z nl j ∧ av z nl j ≤ 18446744073709551615 := by
  unfold av
  split
  · rw [IntKind.wrap_u64]; omega
  · omega
theorem lst_snoc (n : Nat) (x : Nat → Int) : lst (n + 1) x = lst n x ++ [x n] := by unfold lst; rw [List.range_succ, List.map_append]; rfl
/-- The words so far, in a row of the law's own. -/
structure AvAt (w1 : World) (x : Nat → Int) (i : Nat) (v : Value) (wr : World) : Prop where
  row : wr.ownsRow w1.heap.size 38 1 v i (ints (lst i x))
  below : Below w1.heap.size w1 wr
theorem AvAt.next {w1 wr w7 : World} {x : Nat → Int} {i cap : Nat} {v : Value} {A : Option Addr} {t : TypeId} {y : Int} (h : AvAt w1 x i v wr) (hy : x i = y) (ho : w7.ownsRow w1.heap.size 38 1 (.slice A (i + 1) cap) (i + 1) (ints (lst i x) ++ [.int .u64 y])) (hg : (wr.alloc (.cells #[.int .u64 y] t)).grownBy w7 v.ownBlock) : AvAt w1 x (i + 1) (.slice A (i + 1) cap) w7 := by
  constructor
  · rw [lst_snoc, ints_append, hy]
    exact ho
  · refine (h.below.alloc h.below.size _).grown hg (by have := h.below.size; simp; omega) (fun b e => (own_lt h.row e).1)
/-- Words turned by k. -/
def rot (n k : Nat) (x : Nat → Int) : List Int := (lst n x).drop k ++ (lst n x).take k
theorem rot_perm (n k : Nat) (x : Nat → Int) : (rot n k x).Perm (lst n x) := by
  unfold rot
  have h : ((lst n x).drop k ++ (lst n x).take k).Perm ((lst n x).take k ++ (lst n x).drop k) := List.perm_append_comm
  rw [List.take_append_drop] at h
  exact h
theorem lst_lv (l : List Int) (n : Nat) (h : l.length = n) : lst n (lv l) = l := by
  apply List.ext_getElem
  · rw [lst_len, h]
  · intro i h1 h2
    rw [lst_at]
    unfold lv
    rw [List.getD_eq_getElem?_getD, List.getElem?_eq_getElem h2]
    rfl
/-- All that the law asks of the cells. -/
theorem stays_math (L n : Nat) (hn : 2 ^ L = n) (x y : Nat → Int) (hx : ∀ j, j < n → 0 ≤ x j ∧ x j ≤ 18446744073709551615) (hp : (lst n y).Perm (lst n x)) (i : Nat) (hi : i < n) :
    runC 0 (netL L) (runC 0 (netL L) ((laidM 1 n x n).c 0)) i = runC 0 (netL L) ((laidM 1 n y n).c 0) i := by
  subst hn
  have hy : ∀ j, j < 2 ^ L → 0 ≤ y j ∧ y j ≤ 18446744073709551615 := fun j hj => by
    have h1 : y j ∈ lst (2 ^ L) y := by unfold lst; exact List.mem_map.2 ⟨j, by simpa using hj, rfl⟩
    have h2 := hp.mem_iff.1 h1
    unfold lst at h2
    obtain ⟨k, hk, e⟩ := List.mem_map.1 h2
    rw [← e]; exact hx k (by simpa using hk)
  have hc : ∀ (u : Nat → Int) j, j < 2 ^ L → (laidM 1 (2 ^ L) u (2 ^ L)).c 0 j = cw (u j) := fun u j hj => by
    show (if 0 = 0 ∧ j < 2 ^ L then cw (u j) else fun _ => 0) = _
    rw [if_pos ⟨rfl, hj⟩]
  have hC : ∀ (u : Nat → Int), (∀ j, j < 2 ^ L → 0 ≤ u j ∧ u j ≤ 18446744073709551615) → ∀ j, j < 2 ^ L → (laidM 1 (2 ^ L) u (2 ^ L)).c 0 j = cw ((laidM 1 (2 ^ L) u (2 ^ L)).c 0 j 0) := fun u hu j hj => by
    rw [hc u j hj, cw_zero _ (hu j hj).1 (hu j hj).2]
  have hl : ∀ (u : Nat → Int), (∀ j, j < 2 ^ L → 0 ≤ u j ∧ u j ≤ 18446744073709551615) → lst (2 ^ L) (fun j => (laidM 1 (2 ^ L) u (2 ^ L)).c 0 j 0) = lst (2 ^ L) u := fun u hu => by
    unfold lst
    apply List.map_congr_left
    intro j hj
    have hj : j < 2 ^ L := by simpa using hj
    rw [hc u j hj, cw_zero _ (hu j hj).1 (hu j hj).2]
  rw [netC_again 0 L _ cw (hC x hx) i hi]
  refine (netC_same 0 L _ _ cw (hC x hx) (hC y hy) ?_ i hi).symm
  rw [hl x hx, hl y hy]; exact hp
theorem cut_at2 (g cp k : Nat) : ∃ o, (if cp = k then some (⟨g, 0, none⟩ : Addr) else some ⟨g, k, none⟩) = some ⟨g, o, none⟩ ∧ (cp ≠ k → o = k) := by
  by_cases e : cp = k
  · exact ⟨0, by rw [if_pos e], fun h => absurd e h⟩
  · exact ⟨k, by rw [if_neg e], fun _ => rfl⟩
theorem clamp (b : Int) (n : Nat) : ∃ (u : Int) (k : Nat), (if (n : Int) < b then (n : Int) else b) = u ∧ (if 0 < u then u else 0) = (k : Int) ∧ k ≤ n := by
  refine ⟨_, (if 0 < (if (n : Int) < b then (n : Int) else b) then (if (n : Int) < b then (n : Int) else b) else 0).toNat, rfl, ?_, ?_⟩ <;> (split <;> split <;> omega)
/-- Two appends to a new row. -/
theorem two_grown {wb w5 w6 : World} {n1 n2 c3 c4 : Nat} {A3 A4 : Option Addr} (hg3 : (wb.alloc (.cells #[] 38)).grownBy w5 (Value.slice (some ⟨wb.heap.size, 0, none⟩) 0 0).ownBlock)
    (hw3 : (Value.slice A3 n1 c3).ownBlock = (Value.slice (some ⟨wb.heap.size, 0, none⟩) 0 0).ownBlock ∨ (Value.slice A3 n1 c3).ownBlock = some (wb.alloc (.cells #[] 38)).heap.size)
    (hg4 : w5.grownBy w6 (Value.slice A3 n1 c3).ownBlock) (_hw4 : (Value.slice A4 n2 c4).ownBlock = (Value.slice A3 n1 c3).ownBlock ∨ (Value.slice A4 n2 c4).ownBlock = some w5.heap.size) : Only nobody wb w6 ∧ wb.heap.size ≤ w5.heap.size := by
  have hs3 : wb.heap.size + 1 ≤ w5.heap.size := by have := hg3.size; simpa using this
  have hge3 : ∀ k, (Value.slice A3 n1 c3).ownBlock = some k → wb.heap.size ≤ k := fun k e => by
    rcases hw3 with e1 | e1
    · rw [e1] at e; simp [Value.ownBlock] at e; omega
    · rw [e1] at e; simp at e; omega
  have hb : Below wb.heap.size wb w6 :=
    (((Below.refl _ wb).alloc (Nat.le_refl _) _).grown hg3 (by simp) (fun k e => by simp [Value.ownBlock] at e; omega)).grown hg4 (by omega) (fun k e => hge3 k e)
  exact ⟨Only.of_below hb, by omega⟩
theorem news_drop {w : World} {g o k n cp : Nat} {x : Nat → Int} (hc : ∀ j, j < n → w.cell? ⟨g, j, none⟩ = some (.int .u64 (x j))) (hcp : n ≤ cp) (ho : cp ≠ k → o = k) : ∀ j u, (ints ((lst n x).drop k))[j]? = some u → w.cell? ((⟨g, o, none⟩ : Addr).add j) = some u := by
  intro j u hu
  have hj : j < n - k := by
    have := (List.getElem?_eq_some_iff.1 hu).1
    rwa [ints_len, List.length_drop, lst_len] at this
  have e := ho (by omega)
  subst e
  rw [add_plain, hc (o + j) (by omega)]
  unfold ints at hu
  rw [List.getElem?_map, List.getElem?_drop, List.getElem?_eq_getElem (by rw [lst_len]; omega), lst_at] at hu
  exact hu
theorem news_take {w : World} {g k n : Nat} {x : Nat → Int} (hc : ∀ j, j < n → w.cell? ⟨g, j, none⟩ = some (.int .u64 (x j))) (hk : k ≤ n) : ∀ j u, (ints ((lst n x).take k))[j]? = some u → w.cell? ((⟨g, 0, none⟩ : Addr).add j) = some u := by
  intro j u hu
  have hj : j < k := by
    have := (List.getElem?_eq_some_iff.1 hu).1
    rw [ints_len, List.length_take, lst_len] at this; omega
  rw [add_plain, Nat.zero_add, hc j (by omega)]
  unfold ints at hu
  rw [List.getElem?_map, List.getElem?_take, if_pos hj, List.getElem?_eq_getElem (by rw [lst_len]; omega), lst_at] at hu
  exact hu
theorem row_nums {w : World} {base m : Nat} {v : Value} {l : List Int} (h : w.ownsRow base 38 1 v m (ints l)) (h0 : 0 < m) (hl : l.length = m) : ∃ g c, v = .slice (some ⟨g, 0, none⟩) m c ∧ m ≤ c ∧ g < w.heap.size ∧ Nums .u64 w w.heap.size (some ⟨g, 0, none⟩) m (lv l) := by
  have h' := h
  rcases h.2 with ⟨_, h1⟩ | ⟨g, c, cur, rfl, _, hg, hnc, _⟩
  · omega
  · have hgl := (Array.getElem?_eq_some_iff.1 hg).1
    refine ⟨g, c, rfl, hnc, hgl, fun _ => ⟨g, 0, rfl, hgl, fun j hj => ?_⟩⟩
    have := h'.cells (g := g) rfl j (.int .u64 (lv l j)) (by
      unfold ints lv; rw [List.getElem?_map, List.getD_eq_getElem?_getD, List.getElem?_eq_getElem (by omega)]; rfl)
    rwa [add_plain] at this
theorem neq_lits (f : Nat → Int) (w : World) : (binOp .neq 40 (.agg #[.int .u64 (f 0), .int .u64 (f 1), .int .u64 (f 2), .int .u64 (f 3), .int .u64 (f 4), .int .u64 (f 5), .int .u64 (f 6), .int .u64 (f 7), .int .u64 (f 8), .int .u64 (f 9), .int .u64 (f 10), .int .u64 (f 11)]) (.agg #[.int .u64 (f 0), .int .u64 (f 1), .int .u64 (f 2), .int .u64 (f 3), .int .u64 (f 4), .int .u64 (f 5), .int .u64 (f 6), .int .u64 (f 7), .int .u64 (f 8), .int .u64 (f 9), .int .u64 (f 10), .int .u64 (f 11)])).run Try.prog w = .ok (.bool false) w := by
  have := neq_cell f f w
  rw [ceq_self] at this
  exact this
theorem own_empty' (w : World) (base : Nat) (hb : base ≤ w.heap.size) : (w.alloc (.cells #[] 38)).ownsRow base 38 1 (.slice (some ⟨w.heap.size, 0, none⟩) 0 0) 0 (ints []) := own_empty w base hb
/-- Between two looks. -/
def StyAt (wa : World) (p p2 : Nat) (M N : MS) (i : Nat) (wr : World) : Prop := Duo wr (old wa) p (M.looked 0 i) p2 (N.looked 0 i) ∧ Kept (old wa) wa wr
set_option linter.unusedSimpArgs false in
set_option maxRecDepth 100000 in
set_option maxHeartbeats 2000000 in
theorem stays_in (a : Option Addr) (nl cap : Nat) (z : Nat → Int) (L n : Nat) (bb : Int) (W : World) (hz : Nums .u64 W W.heap.size a nl z) (hL : L ≤ 6) (hn : 2 ^ L = n) :
    Calls Try.prog 6 #[.slice a nl cap, .int .i64 (L : Int), .int .i64 bb] W (Yes W) := by
  have HZ := Lib.hid hz
  have hn1 : n ≤ 64 := by rw [← hn]; exact Nat.pow_le_pow_right (by decide) hL
  have hn0 : 1 ≤ n := by rw [← hn]; exact two_pos L
  have hsh := shl_one L n hn (by omega)
  have hps := netL_short L (by omega)
  have HN := Lib.hid hn
  have HNet : Hid (Net (n : Int) (2 ^ L) (netL L)) := ⟨.inl ⟨L, by omega, by rw [hn], rfl, rfl⟩⟩
  obtain ⟨u0, kk, hmin, hmax, hkk⟩ := clamp bb n
  clear hz hn
  have t1 : decide ((L : Int) < 0) = false := decide_eq_false (by omega)
  have t2 : decide (6 < (L : Int)) = false := decide_eq_false (by omega)
  go_enter Try.func6, Try.ntmps6
  go_wp2_with fail
  refine (shown_any W).mono ?_
  rintro e w1 ⟨rfl, hb0⟩
  have B0 := Lib.hid hb0
  clear hb0
  go_wp2_with fail
  try simp only [hsh]
  go_loopw [9, 10] (fun v9 v wr => ∃ i : Nat, v = .int .i64 i ∧ i ≤ n ∧ AvAt w1 (av z nl) i v9 wr) (fun _ v _ => n - (intOf v).toNat)
  case atStart => exact ⟨0, rfl, Nat.zero_le _, World.ownsRow_nil _ _ _ _, Below.refl _ _⟩
  case round =>
    obtain ⟨i, rfl, hi, hI⟩ := hrel
    have HI := Lib.hid hI
    have hIs := hI.below.size
    clear hI
    by_cases hlt : i < n
    · by_cases hl : i < nl
      · obtain ⟨bz, oz, rfl, _, hc⟩ := (HZ.out.below (B0.out.trans (HI.out.below.mono B0.out.size))).at hl
        have hav : av z nl i = IntKind.u64.wrap (IntKind.u64.wrap (z i * 256) + i) := by unfold av; rw [if_pos hl]
        have HAV := Lib.hid hav
        clear hav
        generalize z i = zi at *
        go_wp2_with (with_reducible refine wpList_append_where _ rfl (.tmp 54) (.tmp 56) 22 rfl w1.heap.size 38 (.int .u64 0) 1 8 Try.underlying22 infoWord rfl (by decide) u9 i (ints (lst i (av z nl))) rfl (HI.out.row.alloc _) ⟨wr.heap.size, 0, none⟩ 1 1 [.int .u64 (IntKind.u64.wrap (IntKind.u64.wrap (zi * 256) + i))] rfl rfl (new_int _ _ _ rfl) ?c1 ?c2 ?c3 ?c4 ?_)
        case c1 => simp [Value.oneCell']
        case c2 => simp only [maxLen]; omega
        case c3 => omega
        case c4 => simp; omega
        intro A cap1 w7 hown hgr _
        have HY := Lib.hid (HI.out.next HAV.out hown hgr)
        clear hown hgr
        go_wp2_with fail
        go_roundw
        case rel => exact ⟨i + 1, by go_num, by omega, HY.out⟩
        case measure => simp [intOf]; omega
      · have hav : av z nl i = (i : Int) := by unfold av; rw [if_neg hl]
        have HAV := Lib.hid hav
        clear hav
        go_wp2_with (with_reducible refine wpList_append_where _ rfl (.tmp 54) (.tmp 56) 22 rfl w1.heap.size 38 (.int .u64 0) 1 8 Try.underlying22 infoWord rfl (by decide) u9 i (ints (lst i (av z nl))) rfl (HI.out.row.alloc _) ⟨wr.heap.size, 0, none⟩ 1 1 [.int .u64 (i : Int)] rfl rfl (new_int _ _ _ rfl) ?c1 ?c2 ?c3 ?c4 ?_)
        case c1 => simp [Value.oneCell']
        case c2 => simp only [maxLen]; omega
        case c3 => omega
        case c4 => simp; omega
        intro A cap1 w7 hown hgr _
        have HY := Lib.hid (HI.out.next HAV.out hown hgr)
        clear hown hgr
        go_wp2_with fail
        go_roundw
        case rel => exact ⟨i + 1, by go_num, by omega, HY.out⟩
        case measure => simp [intOf]; omega
    · obtain rfl : i = n := by omega
      obtain ⟨ga, ca, rfl, hca, hga, hnm⟩ := row_nums HI.out.row (by omega) (lst_len _ _)
      have KA : Hid (Kept (old W) W wr) := Only.of_below (B0.out.trans (HI.out.below.mono B0.out.size))
      have hna : Nums .u64 wr wr.heap.size (some ⟨ga, 0, none⟩) i (av z nl) := by
        intro h0
        obtain ⟨b, off, e, hb, hc⟩ := hnm h0
        refine ⟨b, off, e, hb, fun j hj => ?_⟩
        rw [hc j hj]
        unfold lv
        rw [List.getD_eq_getElem?_getD, List.getElem?_eq_getElem (by rw [lst_len]; exact hj), lst_at]
        rfl
      have HNA := Lib.hid hna
      obtain ⟨wa, hwa⟩ : ∃ x, x = wr := ⟨_, rfl⟩
      subst hwa
      clear hnm hna HI B0
      obtain ⟨M0, hM0⟩ : ∃ M, laidM 1 i (av z nl) (min i i) = M := ⟨_, rfl⟩
      have f0 : 0 < M0.k ∧ i ≤ M0.sz 0 ∧ M0.wd ∧ M0.es.length = i := by rw [← hM0]; exact ⟨by show 0 < 1; decide, Nat.le_refl _, laidM_wd _ _ _ _, by rw [laidM_len, Nat.min_self]⟩
      have E0 := Lib.hid hM0
      have F0 := Lib.hid f0
      clear hM0 f0
      go_wp2_with fail
      try simp only [hsh]
      refine (laid_any 1 i _ i ca wa.heap.size (av z nl) _ (by decide) (by decide) hn0 (by omega) HNA.out (Nat.le_refl _)).mono ?_
      rintro e wb ⟨p, q, rfl, hm, ho⟩
      rw [E0.out] at hm
      have OB := Lib.hid hm.left
      have HOB := Lib.hid ho
      have hwb := ho.size
      clear hm ho
      have HCA : Hid (∀ w', Only nobody wa w' → ∀ j, j < i → w'.cell? ⟨ga, j, none⟩ = some (.int .u64 (av z nl j))) := fun w' ho j hj => by
        obtain ⟨b, off, e, hb, hc⟩ := (HNA.out.below ho.none).at hj
        injection e with e
        injection e with e1 e2
        subst e1
        subst e2
        rwa [Nat.zero_add] at hc
      go_wp2_with fail
      try simp only [hsh]
      obtain ⟨o2, ho2, ho3⟩ := cut_at2 ga ca kk
      have hA1 : ((0 : Int) ≤ (kk : Int) ∧ (kk : Int) ≤ (i : Int)) := by omega
      have hA2 : ¬ ca < kk := by omega
      have hA3 : ¬ ca < i := by omega
      have hA4 : ¬ i < kk := by omega
      refine held_n 16 rfl (by kernel_rfl) ?_
      simp only [Array.replicate_succ, Array.replicate_zero, List.push_toArray, List.nil_append, List.cons_append]
      refine wpAnyH_take (i := 0) (oi := ⟨some 69, _, _, _, _, _⟩) (v := .int .i64 (i : Int)) rfl (by kernel_rfl) (by kernel_rfl) (by kernel_rfl) (fun _ _ _ h => h) (Or.inl ⟨by rfl, fun w' _ => by go_simp⟩) trivial ?_
      try simp only [Act.put, List.setIfInBounds_toArray, List.set_cons_zero, List.set_cons_succ]
      refine wpAnyH_take (i := 2) (oi := ⟨some 71, _, _, _, _, _⟩) (v := .slice (some ⟨ga, 0, none⟩) i ca) rfl (by kernel_rfl) (by kernel_rfl) (by kernel_rfl) (fun _ _ _ h => h) (Or.inl ⟨by rfl, fun w' _ => by go_simp⟩) trivial ?_
      try simp only [Act.put, List.setIfInBounds_toArray, List.set_cons_zero, List.set_cons_succ]
      refine wpAnyH_take (i := 3) (oi := ⟨some 72, _, _, _, _, _⟩) (v := .int .i64 (kk : Int)) rfl (by kernel_rfl) (by kernel_rfl) (by kernel_rfl) (fun _ _ _ h => h) (Or.inl ⟨by rfl, fun w' _ => by go_simp⟩) trivial ?_
      try simp only [Act.put, List.setIfInBounds_toArray, List.set_cons_zero, List.set_cons_succ]
      refine wpAnyH_take (i := 4) (oi := ⟨some 73, _, _, _, _, _⟩) (v := .slice (some ⟨ga, o2, none⟩) (i - kk) (ca - kk)) rfl (by kernel_rfl) (by kernel_rfl) (by kernel_rfl) (fun _ _ _ h => h) (Or.inl ⟨by rfl, fun w' _ => by go_simp⟩) trivial ?_
      try simp only [Act.put, List.setIfInBounds_toArray, List.set_cons_zero, List.set_cons_succ]
      refine wpAnyH_take (i := 6) (oi := ⟨some 75, _, _, _, _, _⟩) (v := .slice (some ⟨ga, 0, none⟩) i ca) rfl (by kernel_rfl) (by kernel_rfl) (by kernel_rfl) (fun _ _ _ h => h) (Or.inl ⟨by rfl, fun w' _ => by go_simp⟩) trivial ?_
      try simp only [Act.put, List.setIfInBounds_toArray, List.set_cons_zero, List.set_cons_succ]
      refine wpAnyH_take (i := 7) (oi := ⟨some 76, _, _, _, _, _⟩) (v := .int .i64 (kk : Int)) rfl (by kernel_rfl) (by kernel_rfl) (by kernel_rfl) (fun _ _ _ h => h) (Or.inl ⟨by rfl, fun w' _ => by go_simp⟩) trivial ?_
      try simp only [Act.put, List.setIfInBounds_toArray, List.set_cons_zero, List.set_cons_succ]
      refine wpAnyH_take (i := 8) (oi := ⟨some 77, _, _, _, _, _⟩) (v := .slice (some ⟨ga, 0, none⟩) kk ca) rfl (by kernel_rfl) (by kernel_rfl) (by kernel_rfl) (fun _ _ _ h => h) (Or.inl ⟨by rfl, fun w' _ => by go_simp⟩) trivial ?_
      try simp only [Act.put, List.setIfInBounds_toArray, List.set_cons_zero, List.set_cons_succ]
      refine one_ready 1 rfl (by kernel_rfl) (fun K hK => ?_)
      go_simp
      refine hK.out _ _ trivial (fun _ => ?_)
      clear hK K
      try simp only [Act.put, List.setIfInBounds_toArray, List.set_cons_zero, List.set_cons_succ]
      have OB1 := Lib.hid (OB.out.drewN 1)
      have HOB1 : Hid (Only nobody wa (wb.drewN 1)) := HOB.out.drewN 1
      change wpAnyH _ _ _ _ _ _ _ _ ((wb.drewN 1).alloc (.cells #[] 38))
      have hwb1 : wa.heap.size ≤ (wb.drewN 1).heap.size := hwb
      generalize hwc : wb.drewN 1 = wc at *
      have hbs : wb.heap.size = wc.heap.size := by rw [← hwc]; rfl
      simp only [hbs]
      clear hwc OB HOB
      refine one_ready 5 rfl (by kernel_rfl) (fun K hK => ?_)
      refine step_append_where rfl (.tmp 70) (.tmp 73) 22 rfl wc.heap.size 38 (.int .u64 0) 1 8 Try.underlying22 infoWord rfl (by decide) (.slice (some ⟨wc.heap.size, 0, none⟩) 0 0) 0 (ints []) rfl (own_empty wc wc.heap.size (Nat.le_refl _)) ⟨ga, o2, none⟩ (i - kk) (ca - kk) (ints ((lst i (av z nl)).drop kk)) rfl (by rw [ints_len, List.length_drop, lst_len]; omega) (news_drop (HCA.out _ (HOB1.out.alloc _)) hca ho3) (ints_one _) (by simp only [maxLen]; omega) (by omega) (by simp) ?_
      intro A3 c3 w5 hown3 hgr3 hwh3
      refine hK.out _ _ trivial (fun _ => ?_)
      clear hK K
      try simp only [Act.put, List.setIfInBounds_toArray, List.set_cons_zero, List.set_cons_succ]
      have h5 : Only nobody wa w5 := by
        have hb : Below wc.heap.size wc w5 := ((Below.refl _ wc).alloc (Nat.le_refl _) _).grown hgr3 (by simp) (fun k e => by simp [Value.ownBlock] at e; omega)
        exact HOB1.out.trans (Only.of_below hb)
      refine one_ready 9 rfl (by kernel_rfl) (fun K hK => ?_)
      refine step_append_where rfl (.tmp 74) (.tmp 77) 22 rfl wc.heap.size 38 (.int .u64 0) 1 8 Try.underlying22 infoWord rfl (by decide) (.slice A3 (0 + (i - kk)) c3) (0 + (i - kk)) (ints [] ++ ints ((lst i (av z nl)).drop kk)) rfl hown3 ⟨ga, 0, none⟩ kk ca (ints ((lst i (av z nl)).take kk)) rfl (by rw [ints_len, List.length_take, lst_len]; omega) (news_take (HCA.out _ h5) hkk) (ints_one _) (by simp only [maxLen]; omega) (by omega) (by have := hgr3.size; simp at this; omega) ?_
      intro A4 c4 w6 hown4 hgr4 hwh4
      have HO6 := Lib.hid (two_grown hgr3 hwh3 hgr4 hwh4).1
      have hrot : (rot i kk (av z nl)).length = i := by rw [(rot_perm i kk (av z nl)).length_eq, lst_len]
      have hlen : 0 + (i - kk) + kk = i := by omega
      have hr6 : w6.ownsRow wc.heap.size 38 1 (.slice A4 i c4) i (ints (rot i kk (av z nl))) := by
        rw [hlen] at hown4
        unfold rot
        rw [ints_append]
        simpa [ints] using hown4
      rw [hlen]
      obtain ⟨g4, c4', hv4, _, _, hnm4⟩ := row_nums hr6 (by omega) hrot
      have HNM4 := Lib.hid hnm4
      injection hv4 with hA4' _ hc4'
      subst hA4'
      subst hc4'
      have OB6 := Lib.hid (OB1.out.none HO6.out)
      have K6 := Lib.hid (HOB1.out.trans HO6.out)
      have hperm : (lst i (lv (rot i kk (av z nl)))).Perm (lst i (av z nl)) := by rw [lst_lv _ _ hrot]; exact rot_perm _ _ _
      have HPERM := Lib.hid hperm
      clear hown3 hgr3 hwh3 hown4 hgr4 hwh4 h5 hr6 hnm4 hrot hperm OB1 HOB1 HO6
      generalize lv (rot i kk (av z nl)) = y at *
      refine hK.out _ _ trivial (fun _ => ?_)
      clear hK K
      try simp only [Act.put, List.setIfInBounds_toArray, List.set_cons_zero, List.set_cons_succ]
      obtain ⟨N0, hN0⟩ : ∃ M, laidM 1 i y (min i i) = M := ⟨_, rfl⟩
      have g0 : 0 < N0.k ∧ i ≤ N0.sz 0 ∧ N0.wd ∧ N0.es.length = i := by rw [← hN0]; exact ⟨by show 0 < 1; decide, Nat.le_refl _, laidM_wd _ _ _ _, by rw [laidM_len, Nat.min_self]⟩
      have H0 := Lib.hid hN0
      have G0 := Lib.hid g0
      clear hN0 g0
      refine one_ready 10 rfl (by kernel_rfl) (fun K hK => ?_)
      go_simp
      refine (laid_any 1 i _ i c4 w6.heap.size y _ (by decide) (by decide) hn0 (by omega) HNM4.out (Nat.le_refl _)).mono ?_
      rintro e w7 ⟨p2, q2, rfl, hm, ho⟩
      rw [H0.out] at hm
      have O7 := Lib.hid (duo_new OB6.out ho hm.left)
      have K7 : Hid (Kept (old wa) wa w7) := Kept.of_none (K6.out.trans ho)
      clear hm ho OB6 K6 HNM4
      refine hK.out _ _ trivial (fun _ => ?_)
      clear hK K
      try simp only [Act.put, List.setIfInBounds_toArray, List.set_cons_zero, List.set_cons_succ]
      refine wpAnyH_take (i := 11) (oi := ⟨some 68, _, _, _, _, _⟩) (v := .tuple #[.pointer (some ⟨p2, 0, none⟩), .pointer (some ⟨q2, 0, none⟩)]) rfl (by kernel_rfl) (by kernel_rfl) (by kernel_rfl) (fun _ _ _ h => h) (Or.inl ⟨by rfl, fun w' _ => by go_simp⟩) trivial ?_
      try simp only [Act.put, List.setIfInBounds_toArray, List.set_cons_zero, List.set_cons_succ]
      refine wpAnyH_take (i := 12) (oi := ⟨some 80, _, _, _, _, _⟩) (v := .pointer (some ⟨p2, 0, none⟩)) rfl (by kernel_rfl) (by kernel_rfl) (by kernel_rfl) (fun _ _ _ h => h) (Or.inl ⟨by rfl, fun w' _ => by go_simp⟩) trivial ?_
      try simp only [Act.put, List.setIfInBounds_toArray, List.set_cons_zero, List.set_cons_succ]
      refine wpAnyH_take (i := 13) (oi := ⟨some 81, _, _, _, _, _⟩) (v := .pointer (some ⟨q2, 0, none⟩)) rfl (by kernel_rfl) (by kernel_rfl) (by kernel_rfl) (fun _ _ _ h => h) (Or.inl ⟨by rfl, fun w' _ => by go_simp⟩) trivial ?_
      try simp only [Act.put, List.setIfInBounds_toArray, List.set_cons_zero, List.set_cons_succ]
      refine one_ready 14 rfl (by kernel_rfl) (fun K hK => ?_)
      go_simp
      refine hK.out _ _ trivial (fun _ => ?_)
      clear hK K
      try simp only [Act.put, List.setIfInBounds_toArray, List.set_cons_zero, List.set_cons_succ]
      refine one_ready 15 rfl (by kernel_rfl) (fun K hK => ?_)
      go_simp
      refine hK.out _ _ trivial (fun _ => ?_)
      clear hK K
      refine wpAnyH_done (by kernel_rfl) ?_ _
      have hmath := stays_math L i HN.out (av z nl) y (fun j hj => av_rng z nl j (by omega)) HPERM.out
      obtain ⟨M1, hM1⟩ : ∃ M, M0.sorted 0 0 (netL L) = M := ⟨_, rfl⟩
      obtain ⟨M2, hM2⟩ : ∃ M, M1.sorted 0 0 (netL L) = M := ⟨_, rfl⟩
      obtain ⟨N1, hN1⟩ : ∃ M, N0.sorted 0 0 (netL L) = M := ⟨_, rfl⟩
      have f1 : 0 < M1.k ∧ i ≤ M1.sz 0 ∧ M1.wd ∧ M1.es.length = i + (netL L).length * 4 := by
        rw [← hM1]; exact ⟨F0.out.1, F0.out.2.1, wd_sorted F0.out.2.2.1 _ _ _ ⟨_, netL_within L⟩, by rw [sorted_len, F0.out.2.2.2]⟩
      have f2 : 0 < M2.k ∧ i ≤ M2.sz 0 ∧ M2.es.length < 400000 := by
        rw [← hM2]; exact ⟨f1.1, f1.2.1, by rw [sorted_len, f1.2.2.2]; omega⟩
      have f3 : 0 < N1.k ∧ i ≤ N1.sz 0 ∧ N1.es.length < 400000 := by
        rw [← hN1]; exact ⟨G0.out.1, G0.out.2.1, by rw [sorted_len, G0.out.2.2.2]; omega⟩
      have hsame : ∀ j, j < i → M2.c 0 j = N1.c 0 j := fun j hj => by
        rw [← hM2, ← hN1, ← hM1, ← E0.out, ← H0.out]
        rw [Nat.min_self]
        exact hmath j hj
      have E1 := Lib.hid hM1
      have E2 := Lib.hid hM2
      have H1 := Lib.hid hN1
      have F1 := Lib.hid f1
      have F2 := Lib.hid f2
      have F3 := Lib.hid f3
      have HSM := Lib.hid hsame
      clear hmath hM1 hM2 hN1 f1 f2 f3 hsame HPERM
      go_wp2_with fail
      try simp only [hsh]
      refine (duo_run _ p p2 M0 N0 _ 0 0 L i O7.out HN.out (by omega) F0.out.1 F0.out.2.1 (by decide) F0.out.2.2.1 (by rw [F0.out.2.2.2]; omega)).mono ?_
      rw [E1.out]
      rintro e w10 ⟨rfl, hd, hk⟩
      have O10 := Lib.hid hd.swap
      have K10 := Lib.hid (K7.out.trans hk)
      clear hd hk O7 K7
      go_wp2_with fail
      try simp only [hsh]
      refine (duo_run _ p2 p N0 M1 _ 0 0 L i O10.out HN.out (by omega) G0.out.1 G0.out.2.1 (by decide) G0.out.2.2.1 (by rw [G0.out.2.2.2]; omega)).mono ?_
      rw [H1.out]
      rintro e w11 ⟨rfl, hd, hk⟩
      have O11 := Lib.hid hd.swap
      have K11 := Lib.hid (K10.out.trans hk)
      clear hd hk O10 K10
      go_wp2_with fail
      refine (own_many _ p M1 _ O11.out.left).mono ?_
      rintro e w' ⟨rfl, rfl⟩
      rw [F1.out.2.2.2]
      obtain ⟨lm, hlm⟩ : ∃ x, i + (netL L).length * 4 = x := ⟨_, rfl⟩
      rw [hlm] at F1 ⊢
      have hlm2 : lm ≤ 200000 := by omega
      clear hlm
      go_wp2_with fail
      try simp only [hsh]
      refine (duo_run _ p p2 M1 N1 _ 0 0 L i O11.out HN.out (by omega) F1.out.1 F1.out.2.1 (by decide) F1.out.2.2.1 (by rw [F1.out.2.2.2]; omega)).mono ?_
      rintro e w12 ⟨rfl, hd, hk⟩
      have O12 := Lib.hid hd
      have K12 := Lib.hid (K11.out.trans hk)
      clear hd hk O11 K11
      go_wp2_with fail
      refine (since_run _ p M1 0 0 (netL L) lm _ O12.out.left F1.out.2.2.2 (by omega)).mono ?_
      rintro e w13 ⟨A13, c13, rfl, hv, ho⟩
      have V13 := Lib.hid hv
      have O13 := Lib.hid (O12.out.none ho)
      have K13 := Lib.hid (K12.out.trans (Kept.of_none ho))
      clear hv ho O12 K12
      go_wp2_with fail
      try simp only [hsh]
      refine (events_any ((0 : Nat) : Int) (i : Int) (2 ^ L) (netL L) HNet.out _).mono ?_
      rintro e w14 ⟨A14, c14, rfl, hv, ho⟩
      rw [ilooks_len]
      have V14 := Lib.hid hv
      have V13' := Lib.hid (V13.out.only ho)
      have O14 := Lib.hid (O13.out.none ho)
      have K14 := Lib.hid (K13.out.trans (Kept.of_none ho))
      clear hv ho O13 K13 V13
      go_wp2_with fail
      refine (same_told A13 A14 _ c13 c14 (ilooks ((0 : Nat) : Int) (netL L)) _ _ (ilooks_len _ _) rfl V13'.out V14.out (by omega)).mono ?_
      rintro e w15 ⟨rfl, ho⟩
      have R15 : Hid (StyAt wa p p2 M2 N1 0 w15) := by
        show StyAt wa p p2 M2 N1 0 w15
        unfold StyAt
        rw [looked_zero, looked_zero, ← E2.out]
        exact ⟨O14.out.none ho, K14.out.trans (Kept.of_none ho)⟩
      clear ho O14 K14 V13' V14
      go_wp2_with fail
      try simp only [hsh]
      go_loopw [18] (fun v wr => ∃ j : Nat, v = .int .i64 j ∧ j ≤ i ∧ StyAt wa p p2 M2 N1 j wr) (fun v _ => i - (intOf v).toNat)
      case atStart => exact ⟨0, rfl, Nat.zero_le _, R15.out⟩
      case round =>
        obtain ⟨j, rfl, hj, hD, hK⟩ := hrel
        have HD := Lib.hid hD
        have HK := Lib.hid hK
        clear hD hK R15
        by_cases hlt2 : j < i
        · have HST := Lib.hid (looked_step M2 0 j F2.out.1 (by have := F2.out.2.1; omega))
          have HCL := Lib.hid (looked_cell M2 0 j F2.out.1 (by have := F2.out.2.1; omega))
          have HEL : Hid ((M2.looked 0 j).es.length < 900000000) := by show (M2.looked 0 j).es.length < 900000000; rw [looked_len]; have := F2.out.2.2; omega
          have HST2 := Lib.hid (looked_step N1 0 j F3.out.1 (by have := F3.out.2.1; omega))
          have HCL2 := Lib.hid (looked_cell N1 0 j F3.out.1 (by have := F3.out.2.1; omega))
          have HEL2 : Hid ((N1.looked 0 j).es.length < 900000000) := by show (N1.looked 0 j).es.length < 900000000; rw [looked_len]; have := F3.out.2.2; omega
          rw [← HSM.out j hlt2] at HCL2
          obtain ⟨c, hc⟩ : ∃ c, M2.c 0 j = c := ⟨_, rfl⟩
          rw [hc] at HCL HCL2
          clear hc
          go_wp2_with fail
          refine (duo_read _ p p2 (M2.looked 0 j) (N1.looked 0 j) _ (0 : Nat) (j : Int) HD.out (by have := HEL.out; omega)).mono ?_
          rw [HST.out, HCL.out]
          rintro e w20 ⟨rfl, hd, hk⟩
          have O20 := Lib.hid (hd.alloc (.cells (CA c) 40)).swap
          have K20 := Lib.hid ((HK.out.trans hk).alloc (.cells (CA c) 40))
          clear hd hk HD HK HST HCL HEL
          go_wp2_with (with_reducible refine wpList_store_new rfl (.tmp 19) (.tmp 122) rfl rfl c rfl rfl ?_)
          refine (duo_read _ p2 p (N1.looked 0 j) (M2.looked 0 (j + 1)) _ (0 : Nat) (j : Int) O20.out (by have := HEL2.out; omega)).mono ?_
          rw [HST2.out, HCL2.out]
          rintro e w21 ⟨rfl, hd, hk⟩
          have hs21 : w20.heap.size < w21.heap.size := by have := hk.size; simp at this; omega
          have O21 := Lib.hid ((hd.alloc (.cells (CA c) 40)).weak (Y := old wa) (fun i hi => .inl (.inl hi))).swap
          have K21 := Lib.hid ((K20.out.trans (hk.mono (Y := old wa) (fun i hi => .inl hi))).alloc (.cells (CA c) 40))
          have RX := Lib.hid (World.rangeAt_alloc (hk.range (range_alloc_new w20 c 40) (.inr rfl)) (.cells (CA c) 40))
          have RY := Lib.hid (range_alloc_new w21 c 40)
          have HNC : Hid (Nums .u64 (w21.alloc (.cells (CA c) 40)) wa.heap.size (some ⟨ga, 0, none⟩) i (av z nl)) := HNA.out.below (K21.out.below (Nat.le_refl _) (fun i hi => hi))
          clear hd hk O20 K20 HST2 HCL2 HEL2
          go_wp2_with (with_reducible refine wpList_store_new rfl (.tmp 20) (.tmp 125) rfl rfl c rfl rfl ?_)
          refine (twice_any _ i ca wa.heap.size (av z nl) _ (by omega) HNC.out).mono ?_
          rintro e w8 ⟨⟨tb, rfl⟩, ho⟩
          have RX8 : Hid (w8.rangeAt w20.heap.size 0 (CA c).toList) := (Kept.of_none (X := fun _ => True) ho).range RX.out trivial
          have RY8 : Hid (w8.rangeAt w21.heap.size 0 (CA c).toList) := (Kept.of_none (X := fun _ => True) ho).range RY.out trivial
          have HE : Hid (StyAt wa p p2 M2 N1 (j + 1) w8) := ⟨O21.out.none ho, K21.out.trans (Kept.of_none ho)⟩
          clear ho O21 K21 RX RY HNC
          have x0 : w8.cell? ⟨w20.heap.size, 0, none⟩ = some (.int .u64 (c 0)) := cell_in_range RX8.out (by decide)
          have x1 : w8.cell? ⟨w20.heap.size, 1, none⟩ = some (.int .u64 (c 1)) := cell_in_range RX8.out (by decide)
          have x2 : w8.cell? ⟨w20.heap.size, 2, none⟩ = some (.int .u64 (c 2)) := cell_in_range RX8.out (by decide)
          have x3 : w8.cell? ⟨w20.heap.size, 3, none⟩ = some (.int .u64 (c 3)) := cell_in_range RX8.out (by decide)
          have x4 : w8.cell? ⟨w20.heap.size, 4, none⟩ = some (.int .u64 (c 4)) := cell_in_range RX8.out (by decide)
          have x5 : w8.cell? ⟨w20.heap.size, 5, none⟩ = some (.int .u64 (c 5)) := cell_in_range RX8.out (by decide)
          have x6 : w8.cell? ⟨w20.heap.size, 6, none⟩ = some (.int .u64 (c 6)) := cell_in_range RX8.out (by decide)
          have x7 : w8.cell? ⟨w20.heap.size, 7, none⟩ = some (.int .u64 (c 7)) := cell_in_range RX8.out (by decide)
          have x8 : w8.cell? ⟨w20.heap.size, 8, none⟩ = some (.int .u64 (c 8)) := cell_in_range RX8.out (by decide)
          have x9 : w8.cell? ⟨w20.heap.size, 9, none⟩ = some (.int .u64 (c 9)) := cell_in_range RX8.out (by decide)
          have x10 : w8.cell? ⟨w20.heap.size, 10, none⟩ = some (.int .u64 (c 10)) := cell_in_range RX8.out (by decide)
          have x11 : w8.cell? ⟨w20.heap.size, 11, none⟩ = some (.int .u64 (c 11)) := cell_in_range RX8.out (by decide)
          have y0 : w8.cell? ⟨w21.heap.size, 0, none⟩ = some (.int .u64 (c 0)) := cell_in_range RY8.out (by decide)
          have y1 : w8.cell? ⟨w21.heap.size, 1, none⟩ = some (.int .u64 (c 1)) := cell_in_range RY8.out (by decide)
          have y2 : w8.cell? ⟨w21.heap.size, 2, none⟩ = some (.int .u64 (c 2)) := cell_in_range RY8.out (by decide)
          have y3 : w8.cell? ⟨w21.heap.size, 3, none⟩ = some (.int .u64 (c 3)) := cell_in_range RY8.out (by decide)
          have y4 : w8.cell? ⟨w21.heap.size, 4, none⟩ = some (.int .u64 (c 4)) := cell_in_range RY8.out (by decide)
          have y5 : w8.cell? ⟨w21.heap.size, 5, none⟩ = some (.int .u64 (c 5)) := cell_in_range RY8.out (by decide)
          have y6 : w8.cell? ⟨w21.heap.size, 6, none⟩ = some (.int .u64 (c 6)) := cell_in_range RY8.out (by decide)
          have y7 : w8.cell? ⟨w21.heap.size, 7, none⟩ = some (.int .u64 (c 7)) := cell_in_range RY8.out (by decide)
          have y8 : w8.cell? ⟨w21.heap.size, 8, none⟩ = some (.int .u64 (c 8)) := cell_in_range RY8.out (by decide)
          have y9 : w8.cell? ⟨w21.heap.size, 9, none⟩ = some (.int .u64 (c 9)) := cell_in_range RY8.out (by decide)
          have y10 : w8.cell? ⟨w21.heap.size, 10, none⟩ = some (.int .u64 (c 10)) := cell_in_range RY8.out (by decide)
          have y11 : w8.cell? ⟨w21.heap.size, 11, none⟩ = some (.int .u64 (c 11)) := cell_in_range RY8.out (by decide)
          have q1 := neq_lits c
          cases tb
          · go_wp2_with fail
            go_roundw
            case rel => exact ⟨j + 1, by go_num, by omega, HE.out⟩
            case measure => simp [intOf]; omega
          · go_wp2_with fail
            go_roundw
            case rel => exact ⟨j + 1, by go_num, by omega, HE.out⟩
            case measure => simp [intOf]; omega
        · have HE := Lib.hid ((KA.out.trans (HK.out.mono (fun i (hi : i < W.heap.size) => Nat.lt_of_lt_of_le hi KA.out.size))).below (B := W.heap.size) (Nat.le_refl _) (fun i hi => hi))
          clear HD HK
          go_wp2_with fail
          go_ret
          exact ⟨rfl, HE.out⟩
theorem stays_law (a : Option Addr) (nl cap : Nat) (z : Nat → Int) (L b : Int) (W : World) (hz : Nums .u64 W W.heap.size a nl z) :
    Calls Try.prog 6 #[.slice a nl cap, .int .i64 L, .int .i64 b] W (Yes W) := by
  by_cases h : L < 0 ∨ 6 < L
  · exact stays_out a nl cap L b W h
  · obtain ⟨L', rfl⟩ := Int.eq_ofNat_of_zero_le (a := L) (by omega)
    exact stays_in a nl cap z L' _ b W hz (by omega) rfl
end Go.Proofs.Ytojdefaplekieaa
