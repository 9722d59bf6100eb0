/- The walk of the law on order: behind a run the words are in order, the cells are those that were there, and none beyond them is touched. Conditions: the slice's cells hold words. -/
import Derived.Test.YtojdefaplekieaaSortLooks
import Derived.Test.YtojdefaplekieaaSorted
namespace Go.Proofs.Ytojdefaplekieaa
open Go.RowKit Go.ChangeShapes Go.WideShapes Go.ChangeAt

theorem orders_out (a : Option Addr) (n cap : Nat) (L : Int) (W : World) (hn : n ≤ 9223372036854775807) (h : L < 0 ∨ 7 < L ∨ 130 < n) :
    Calls Try.prog 4 #[.slice a n cap, .int .i64 L] W (Yes W) := by
  by_cases h1 : L < 0
  · go_enter Try.func4, Try.ntmps4
    go_wp2_with fail
    refine (shown_any W).mono ?_
    rintro e w0 ⟨rfl, hb0⟩
    have HB := Lib.hid hb0
    clear hb0
    go_wp2_with fail
    go_ret
    exact ⟨rfl, HB.out⟩
  by_cases h2 : 7 < L
  · go_enter Try.func4, Try.ntmps4
    go_wp2_with fail
    refine (shown_any W).mono ?_
    rintro e w0 ⟨rfl, hb0⟩
    have HB := Lib.hid hb0
    clear hb0
    go_wp2_with fail
    go_ret
    exact ⟨rfl, HB.out⟩
  have h3 : 130 < n := by omega
  go_enter Try.func4, Try.ntmps4
  go_wp2_with fail
  refine (shown_any W).mono ?_
  rintro e w0 ⟨rfl, hb0⟩
  have HB := Lib.hid hb0
  clear hb0
  go_wp2_with fail
  go_ret
  exact ⟨rfl, HB.out⟩
/-- What turns blocks of X alone leaves the memory; what is new is none of its own. -/
theorem Own.grow_only {w w' : World} {X S : Nat → Prop} {p : Nat} {M : MS} (h : Own w X p M) (ho : Only S w w') (hs : ∀ i, S i → X i) : Own w' (fun i => X i ∨ (w.heap.size ≤ i ∧ i < w'.heap.size)) p M := by
  obtain ⟨F, hm, hF, hX⟩ := h
  refine ⟨F, hm.only ho (fun i hi k => hF i hi (hs i k)), fun i hi k => ?_, fun i hi => ?_⟩
  · rcases k with k | k
    · exact hF i hi k
    · have := hm.lt i hi; omega
  · rcases hi with hi | hi
    · exact Nat.lt_of_lt_of_le (hX i hi) ho.size
    · exact hi.2
/-- The words that were read so far, in a row of the law's own. -/
structure InAt (W w1 : World) (p : Nat) (M : MS) (x : Nat → Int) (i : Nat) (v : Value) (wr : World) : Prop where
  own : ∃ X : Nat → Prop, Own wr X p (M.looked 0 i) ∧ (∀ b, old W b → X b) ∧ ∀ b, v.ownBlock = some b → X b
  row : wr.ownsRow w1.heap.size 38 1 v i (ints (lst i x))
  kept : Kept (old W) W wr
  lt : w1.heap.size ≤ wr.heap.size
theorem lst_snoc (n : Nat) (x : Nat → Int) : lst (n + 1) x = lst n x ++ [x n] := by unfold lst; rw [List.range_succ, List.map_append]; rfl
theorem InAt.next {W w1 w6 w7 : World} {X : Nat → Prop} {p : Nat} {M : MS} {x : Nat → Int} {i cap : Nat} {v : Value} {A : Option Addr} {t : TypeId} (hW : W.heap.size ≤ w1.heap.size) (ho : Own w6 X p (M.looked 0 (i + 1))) (hX : ∀ b, old W b → X b) (hv : ∀ b, v.ownBlock = some b → X b)
    (hr : w6.ownsRow w1.heap.size 38 1 v i (ints (lst i x))) (hk : Kept (old W) W w6) (hl : w1.heap.size ≤ w6.heap.size)
    (hn : w7.ownsRow w1.heap.size 38 1 (.slice A (i + 1) cap) (i + 1) (ints (lst i x) ++ [.int .u64 (x i)])) (hg : (w6.alloc (.cells #[.int .u64 (x i)] t)).grownBy w7 v.ownBlock)
    (hw : (Value.slice A (i + 1) cap).ownBlock = v.ownBlock ∨ (Value.slice A (i + 1) cap).ownBlock = some (w6.alloc (.cells #[.int .u64 (x i)] t)).heap.size) : InAt W w1 p M x (i + 1) (.slice A (i + 1) cap) w7 := by
  have o1 : Only (fun b => v.ownBlock = some b) w6 w7 := ((Only.refl _ w6).alloc _).grown hg (fun k hk => .inl hk)
  have hsz : w6.heap.size + 1 ≤ w7.heap.size := by have := hg.size; simpa using this
  refine ⟨⟨_, ho.grow_only o1 hv, fun b hb => .inl (hX b hb), fun b hb => ?_⟩, ?_, ?_, by omega⟩
  · rcases hw with h | h
    · rw [h] at hb; exact .inl (hv b hb)
    · rw [h] at hb
      injection hb with hb
      have hlt := (own_lt hn (g := b) (by rw [h, hb])).2
      simp at hb
      exact .inr ⟨by omega, hlt⟩
  · rw [lst_snoc, ints_append]; exact hn
  · refine hk.trans (o1.mono (fun b _ hb => ?_))
    have := (own_lt hr hb).1
    intro hb'
    have : b < W.heap.size := hb'
    omega
/-- Between two looks. -/
def OrdAt (W ws : World) (g p : Nat) (M : MS) (i : Nat) (wr : World) : Prop := Own wr (fun b => old W b ∨ b = g) p (M.looked 0 i) ∧ Kept (fun b => old W b ∨ b = g) ws wr
set_option maxRecDepth 100000 in
set_option maxHeartbeats 2000000 in
theorem orders_in (a : Option Addr) (nl cap : Nat) (z : Nat → Int) (L n : Nat) (W : World) (hnl : nl ≤ 130) (hz : Nums .u64 W W.heap.size a nl z) (hzr : ∀ j, j < nl → 0 ≤ z j ∧ z j ≤ 18446744073709551615) (hL : L ≤ 7) (hn : 2 ^ L = n) :
    Calls Try.prog 4 #[.slice a nl cap, .int .i64 (L : Int)] W (Yes W) := by
  have HZ := Lib.hid hz
  have hn1 : n ≤ 128 := by rw [← hn]; exact Nat.pow_le_pow_right (by decide) hL
  have hn0 : 1 ≤ n := by rw [← hn]; exact two_pos L
  have hsh := shl_one L n hn (by omega)
  have hps := netL_short L (by omega)
  obtain ⟨M0, hM0⟩ : ∃ M, laidM 1 130 z (min nl 130) = M := ⟨_, rfl⟩
  obtain ⟨M1, hM1⟩ : ∃ M, M0.looked 0 n = M := ⟨_, rfl⟩
  obtain ⟨M2, hM2⟩ : ∃ M, M1.sorted 0 0 (netL L) = M := ⟨_, rfl⟩
  have f0 : 0 < M0.k ∧ M0.sz 0 = 130 ∧ M0.wd ∧ M0.es.length < 1000 := by rw [← hM0]; exact ⟨by show 0 < 1; decide, rfl, laidM_wd _ _ _ _, by rw [laidM_len]; omega⟩
  have f1 : 0 < M1.k ∧ M1.sz 0 = 130 ∧ M1.wd ∧ M1.es.length < 2000 := by
    rw [← hM1]; exact ⟨f0.1, f0.2.1, f0.2.2.1, by rw [looked_len]; have := f0.2.2.2; omega⟩
  have f2 : 0 < M2.k ∧ M2.sz 0 = 130 ∧ M2.wd ∧ M2.es.length < 400000 := by
    rw [← hM2]; exact ⟨f1.1, f1.2.1, wd_sorted f1.2.2.1 _ _ _ ⟨_, netL_within L⟩, by rw [sorted_len]; have := f1.2.2.2; omega⟩
  have hc1 : M1.c 0 = M0.c 0 := by rw [← hM1]; rfl
  have hc2 : M2.c 0 = runC 0 (netL L) (M0.c 0) := by
    rw [← hM2, ← hc1]
    show (if 0 = 0 then runC 0 (netL L) (M1.c 0) else M1.c 0) = _
    rw [if_pos rfl]
  have hg0 : ∀ j, Good (M0.c 0 j) := fun j => by rw [← hM0]; exact laid_good 1 130 z _ (fun j hj => hzr j (by omega)) j
  have hg2 : ∀ j, Good (M2.c 0 j) := fun j => by
    rw [hc2]
    by_cases hj : j < n
    · exact runC_all 0 (2 ^ L) _ _ (netL_within L) Good (fun j _ => hg0 j) j (by omega)
    · rw [runC_far 0 (2 ^ L) _ _ (netL_within L) j (by omega)]; exact hg0 j
  have hfar : ∀ j, n ≤ j → j < nl → M2.c 0 j = cw (z j) := fun j h1 h2 => by
    rw [hc2, runC_far 0 (2 ^ L) _ _ (netL_within L) j (by omega), ← hM0]
    show (if 0 = 0 ∧ j < min nl 130 then cw (z j) else fun _ => 0) = _
    rw [if_pos ⟨rfl, by omega⟩]
  have hwant : ∀ j, run (netL L) (fun i => M0.c 0 i 0) j = M2.c 0 j 0 := fun j => by rw [hc2, runC_word]
  have HN := Lib.hid hn
  have E0 := Lib.hid hM0
  have E1 := Lib.hid hM1
  have E2 := Lib.hid hM2
  have F0 := Lib.hid f0
  have F1 := Lib.hid f1
  have F2 := Lib.hid f2
  have HG := Lib.hid hg2
  have HFAR := Lib.hid hfar
  have HWA := Lib.hid hwant
  clear hz hzr hn hM0 hM1 hM2 f0 f1 f2 hg0 hg2 hc1 hc2 hfar hwant
  have t1 : decide ((L : Int) < 0) = false := decide_eq_false (by omega)
  have t2 : decide (7 < (L : Int)) = false := decide_eq_false (by omega)
  have t3 : decide (130 < (nl : Int)) = false := decide_eq_false (by omega)
  go_enter Try.func4, Try.ntmps4
  go_wp2_with fail
  refine (shown_any W).mono ?_
  rintro e w0 ⟨rfl, hb0⟩
  have B0 := Lib.hid hb0
  have K0 : Hid (Kept (old W) W w0) := Only.of_below hb0
  clear hb0
  go_wp2_with fail
  try simp only [hsh]
  refine (laid_any 1 130 a nl cap W.heap.size z _ (by decide) (by decide) (by decide) (by decide) (HZ.out.below B0.out) B0.out.size).mono ?_
  rintro e w1 ⟨p, q, rfl, hm, ho⟩
  rw [E0.out] at hm
  have O1 := Lib.hid (hm.left.weak (Y := old W) (fun i (hi : i < W.heap.size) => Nat.lt_of_lt_of_le hi B0.out.size))
  have K1 := Lib.hid (K0.out.trans (Kept.of_none ho))
  have hW1 : W.heap.size ≤ w1.heap.size := K1.out.size
  have R1 : Hid (InAt W w1 p M0 (fun i => M0.c 0 i 0) 0 (.slice none 0 0) w1) := ⟨⟨old W, by rw [looked_zero]; exact O1.out, fun _ h => h, fun b h => by simp [Value.ownBlock] at h⟩, World.ownsRow_nil _ _ _ _, K1.out, Nat.le_refl _⟩
  clear hm ho K0 B0 O1 K1
  go_wp2_with fail
  try simp only [hsh]
  go_loopw [9, 10] (fun v9 v wr => ∃ i : Nat, v = .int .i64 i ∧ i ≤ n ∧ InAt W w1 p M0 (fun i => M0.c 0 i 0) i v9 wr) (fun _ v _ => n - (intOf v).toNat)
  case atStart => exact ⟨0, rfl, Nat.zero_le _, R1.out⟩
  case round =>
    obtain ⟨i, rfl, hi, hI⟩ := hrel
    have HI := Lib.hid hI
    clear hI R1
    by_cases hlt : i < n
    · have HST := Lib.hid (looked_step M0 0 i F0.out.1 (by have := F0.out.2.1; omega))
      have HCL := Lib.hid (looked_cell M0 0 i F0.out.1 (by have := F0.out.2.1; omega))
      have HEL : Hid ((M0.looked 0 i).es.length < 900000000) := by show (M0.looked 0 i).es.length < 900000000; rw [looked_len]; have := F0.out.2.2.2; omega
      obtain ⟨X, hX0, hX1, hX2⟩ := HI.out.own
      have HX0 := Lib.hid hX0
      have HX1 := Lib.hid hX1
      have HX2 := Lib.hid hX2
      clear hX0 hX1 hX2
      obtain ⟨c, hc⟩ : ∃ c, M0.c 0 i = c := ⟨_, rfl⟩
      rw [hc] at HCL
      go_wp2_with fail
      refine (own_read _ p (M0.looked 0 i) _ (0 : Nat) (i : Int) HX0.out (by have := HEL.out; omega)).mono ?_
      rw [HST.out, HCL.out]
      rintro e w5 ⟨rfl, ho, hk⟩
      have O5 := Lib.hid ((ho.alloc (.cells (CA c) 40)).weak (fun i hi => .inl hi))
      have K5 := Lib.hid ((HI.out.kept.trans (hk.mono HX1.out)).alloc (.cells (CA c) 40))
      have R5 := Lib.hid (row_block (w' := w5.alloc (.cells (CA c) 40)) HI.out.row (fun g hg => by
        have hgX := HX2.out g hg
        have hl := (own_lt HI.out.row hg).2
        exact (Below.heap_alloc w5 _ g (Nat.lt_of_lt_of_le hl hk.size)).trans (hk.block g hl (fun k => k hgX))))
      have hl5 : w1.heap.size ≤ (w5.alloc (.cells (CA c) 40)).heap.size := by have := hk.size; have := HI.out.lt; simp; omega
      have x0 : (w5.alloc (.cells (CA c) 40)).cell? ⟨w5.heap.size, 0, none⟩ = some (.int .u64 (c 0)) := cell_in_range (range_alloc_new w5 c 40) (by decide)
      clear ho hk HX0
      go_wp2_with (first | with_reducible refine wpList_store_new rfl (.tmp 11) (.tmp 48) rfl rfl c rfl rfl ?_ | with_reducible refine wpList_append_where _ rfl (.tmp 49) (.tmp 52) 22 rfl w1.heap.size 38 (.int .u64 0) 1 8 Try.underlying22 infoWord rfl (by decide) u9 i (ints (lst i (fun i => M0.c 0 i 0))) rfl (R5.out.alloc _) ⟨w5.heap.size + 1, 0, none⟩ 1 1 [.int .u64 (c 0)] rfl rfl (new_int _ _ _ (by simp)) ?c1 ?c2 ?c3 ?c4 ?_)
      case c1 => simp [Value.oneCell']
      case c2 => simp only [maxLen]; omega
      case c3 => omega
      case c4 => simp at hl5 ⊢; omega
      intro A cap1 w7 hown hgr hwh
      have HY : Hid (InAt W w1 p M0 (fun i => M0.c 0 i 0) (i + 1) (.slice A (i + 1) cap1) w7) := by
        have hc' : c 0 = (fun i => M0.c 0 i 0) i := by show c 0 = M0.c 0 i 0; rw [hc]
        rw [hc'] at hown hgr
        exact InAt.next hW1 O5.out HX1.out HX2.out R5.out K5.out hl5 hown hgr (by simpa using hwh)
      clear hown hgr hwh hc
      go_wp2_with fail
      go_roundw
      case rel => exact ⟨i + 1, by go_num, by omega, HY.out⟩
      case measure => simp [intOf]; omega
    · obtain rfl : i = n := by omega
      obtain ⟨X, hX0, hX1, hX2⟩ := HI.out.own
      rw [E1.out] at hX0
      have HX0 := Lib.hid hX0
      have HX1 := Lib.hid hX1
      have HX2 := Lib.hid hX2
      clear hX0 hX1 hX2
      obtain ⟨v9, hv9⟩ : ∃ v, u9 = v := ⟨_, rfl⟩
      have HROW := Lib.hid HI.out.row
      have HKW := Lib.hid HI.out.kept
      clear HI
      go_wp2_with fail
      try simp only [hsh]
      refine (run_n _ p M1 0 0 L i _ HX0.out HN.out (by omega) F1.out.1 (by have := F1.out.2.1; omega) (by decide) F1.out.2.2.1 (by have := F1.out.2.2.2; omega)).mono ?_
      rw [E2.out]
      rintro e w5 ⟨rfl, ho, hk⟩
      have O5 := Lib.hid ho
      have K5 := Lib.hid (HKW.out.trans (hk.mono HX1.out))
      have R5 := Lib.hid (row_block (w' := w5) HROW.out (fun g hg => hk.block g (own_lt HROW.out hg).2 (fun k => k (HX2.out g hg))))
      clear ho hk HX0 HROW HKW hv9
      have hin : ∃ g c, u9 = .slice (some ⟨g, 0, none⟩) i c ∧ ∀ j, j < i → w5.cell? ⟨g, 0 + j, none⟩ = some (.int .u64 (M0.c 0 j 0)) := by
        have h' := R5.out
        rcases R5.out.2 with ⟨_, h1⟩ | ⟨g, c, cur, rfl, _⟩
        · omega
        · refine ⟨g, c, rfl, fun j hj => ?_⟩
          have := h'.cells (g := g) rfl j (.int .u64 (M0.c 0 j 0)) (by simp [ints, lst, hj])
          rwa [add_plain] at this
      obtain ⟨gi, ci, rfl, hcin⟩ := hin
      have HCIN := Lib.hid hcin
      clear hcin R5
      go_wp2_with fail
      refine (sorted_any gi 0 i ci (fun j => M0.c 0 j 0) _ (by omega) (by omega) HCIN.out).mono ?_
      rintro e w6 ⟨v, Os, rfl, hown, hperm, hsrt, hb⟩
      have hOl : Os.length = i := by rw [hperm.length_eq, lst_len]
      have hO : lst i (run (netL L) (fun j => M0.c 0 j 0)) = Os := by
        have := HN.out
        subst this
        exact net_only L (fun j => M0.c 0 j 0) Os hsrt hperm
      obtain ⟨g, cw6, hv6, hgl, hnums⟩ := own_nums (f := fun j => M2.c 0 j 0) hown (by omega) (fun j hj => by
        rw [← hO, lst_len] at hj
        rw [← HWA.out j, ← hO]
        unfold lv
        rw [List.getD_eq_getElem?_getD, List.getElem?_eq_getElem (by rw [lst_len]; exact hj), lst_at]
        first | rfl | simp)
      have hgb : w5.heap.size ≤ g := (own_lt hown (g := g) (by rw [hv6]; rfl)).1
      subst hv6
      rw [hOl] at hnums ⊢
      have hcw : ∀ j, j < i → w6.cell? ⟨g, j, none⟩ = some (.int .u64 (M2.c 0 j 0)) := fun j hj => by
        obtain ⟨b, off, e, _, h⟩ := hnums.at hj
        injection e with e
        injection e with e1 e2
        subst e1
        subst e2
        rwa [Nat.zero_add] at h
      have HCW := Lib.hid hcw
      have R6 : Hid (OrdAt W w6 g p M2 0 w6) := by
        show OrdAt W w6 g p M2 0 w6
        unfold OrdAt
        rw [looked_zero]
        refine ⟨(O5.out.grow (Only.of_below hb)).weak (fun b hb' => ?_), Kept.refl _ _⟩
        rcases hb' with hb' | hb'
        · exact .inl (HX1.out b hb')
        · subst hb'; exact .inr ⟨hgb, hgl⟩
      have K6 : Hid (Kept (old W) W w6) := K5.out.trans (Only.of_below hb)
      clear hown hperm hsrt hb hnums hO hgb hgl hcw O5 K5 HX1 HX2 HCIN hOl
      go_wp2_with fail
      go_loopw [13] (fun v wr => ∃ k : Nat, v = .int .i64 k ∧ k ≤ 130 ∧ OrdAt W w6 g p M2 k wr) (fun v _ => 130 - (intOf v).toNat)
      case atStart => exact ⟨0, rfl, Nat.zero_le _, R6.out⟩
      case round =>
        obtain ⟨k, rfl, hk130, hO, hK⟩ := hrel
        have HO := Lib.hid hO
        have HK := Lib.hid hK
        clear hO hK R6
        by_cases hlt2 : k < 130
        · have HST := Lib.hid (looked_step M2 0 k F2.out.1 (by have := F2.out.2.1; omega))
          have HCL := Lib.hid (looked_cell M2 0 k F2.out.1 (by have := F2.out.2.1; omega))
          have HEL : Hid ((M2.looked 0 k).es.length < 900000000) := by show (M2.looked 0 k).es.length < 900000000; rw [looked_len]; have := F2.out.2.2.2; omega
          have HGD := Lib.hid (HG.out k)
          have HWK : Hid (k < i → w6.cell? ⟨g, k, none⟩ = some (.int .u64 (M2.c 0 k 0))) := HCW.out k
          have HFK : Hid (i ≤ k → k < nl → M2.c 0 k = cw (z k)) := HFAR.out k
          obtain ⟨c, hc⟩ : ∃ c, M2.c 0 k = c := ⟨_, rfl⟩
          rw [hc] at HCL HGD HWK HFK
          clear hc
          go_wp2_with fail
          refine (own_read _ p (M2.looked 0 k) _ (0 : Nat) (k : Int) HO.out (by have := HEL.out; omega)).mono ?_
          rw [HST.out, HCL.out]
          rintro e w7 ⟨rfl, ho, hk⟩
          have O7 := Lib.hid ((ho.alloc (.cells (CA c) 40)).weak (fun i hi => .inl hi))
          have K7 := Lib.hid ((HK.out.trans hk).alloc (.cells (CA c) 40))
          have R7 := Lib.hid (range_alloc_new w7 c 40)
          clear ho hk HO HK HST HCL HEL
          go_wp2_with (with_reducible refine wpList_store_new rfl (.tmp 14) (.tmp 66) rfl rfl c rfl rfl ?_)
          simp only [Act.put]
          obtain ⟨y0, y1, y2, y3, y4, y5, y6, y7, y8, y9, y10, y11⟩ := grow_cells R7.out
          have O6 : Hid (∀ h : Gr (w7.alloc (.cells (CA c) 40)), OrdAt W w6 g p M2 (k + 1) h.w') := fun h => ⟨O7.out.none h.ok, K7.out.trans (Kept.of_none h.ok)⟩
          have HB7 : Hid (Below W.heap.size W (w7.alloc (.cells (CA c) 40))) := (K6.out.trans (K7.out.mono (fun i hi => .inl hi))).below (Nat.le_refl _) (fun i hi => hi)
          by_cases hki : k < i
          · have xw := Gr.cell (w := w7.alloc (.cells (CA c) 40)) (K7.out.cell (HWK.out hki) (.inr rfl))
            have g1 : decide ((k : Int) < (i : Int)) = true := decide_eq_true (by omega)
            have g2 : decide ((i : Int) ≤ (k : Int)) = false := decide_eq_false (by omega)
            have g4 : decide (i ≤ k) = false := decide_eq_false (by omega)
            cases hq : ceq c (fun _ => 0)
            · skip
              have q1 := neq_nul c false hq
              have q2 := neq_own c (cw (c 0)) true (HGD.out.eq hq)
              refine wp_region_grow (by kernel_rfl) (by kernel_rfl) ?_
              repeat (go_big_quiet_step (first | (go_at_call 20; exact Gr.calls (cell_only _ _))))
              refine wpQuiet_nil ?_
              intro w9 hw9
              obtain ⟨G9, hG9⟩ := hw9
              subst hG9
              have F9 := Lib.hid (O6.out G9)
              obtain ⟨w9, hw9⟩ : ∃ w9, G9.w' = w9 := ⟨_, rfl⟩
              rw [hw9] at F9 ⊢
              clear hw9 G9 y0 y1 y2 y3 y4 y5 y6 y7 y8 y9 y10 y11 O6
              go_wp2_with fail
              go_roundw
              case rel => exact ⟨k + 1, by go_num, by omega, F9.out⟩
              case measure => simp [intOf]; omega
            · skip
              have q1 := neq_nul c true hq
              refine wp_region_grow (by kernel_rfl) (by kernel_rfl) ?_
              repeat (go_big_quiet_step (first | (go_at_call 20; exact Gr.calls (cell_only _ _))))
              refine wpQuiet_nil ?_
              intro w9 hw9
              obtain ⟨G9, hG9⟩ := hw9
              subst hG9
              have F9 := Lib.hid (O6.out G9)
              obtain ⟨w9, hw9⟩ : ∃ w9, G9.w' = w9 := ⟨_, rfl⟩
              rw [hw9] at F9 ⊢
              clear hw9 G9 y0 y1 y2 y3 y4 y5 y6 y7 y8 y9 y10 y11 O6
              go_wp2_with fail
              go_roundw
              case rel => exact ⟨k + 1, by go_num, by omega, F9.out⟩
              case measure => simp [intOf]; omega
          · have g1 : decide ((k : Int) < (i : Int)) = false := decide_eq_false (by omega)
            have g2 : decide ((i : Int) ≤ (k : Int)) = true := decide_eq_true (by omega)
            have g4 : decide (i ≤ k) = true := decide_eq_true (by omega)
            have g5 : decide (k < i) = false := decide_eq_false (by omega)
            by_cases hkn : k < nl
            · have g3 : decide ((k : Int) < (nl : Int)) = true := decide_eq_true (by omega)
              have g6 : decide (k < nl) = true := decide_eq_true (by omega)
              obtain ⟨bz, oz, rfl, _, hcz⟩ := (HZ.out.below HB7.out).at hkn
              have xz := Gr.cell (w := w7.alloc (.cells (CA c) 40)) hcz
              have hcz' := HFK.out (by omega) hkn
              have q3 := neq_own c (cw (z k)) true (ceq_of _ _ (fun j _ => congrFun hcz' j))
              clear hcz' hcz
              cases hq : ceq c (fun _ => 0)
              · skip
                have q1 := neq_nul c false hq
                have q2 := neq_own c (cw (c 0)) true (HGD.out.eq hq)
                refine wp_region_grow (by kernel_rfl) (by kernel_rfl) ?_
                repeat (go_big_quiet_step (first | (go_at_call 20; exact Gr.calls (cell_only _ _))))
                refine wpQuiet_nil ?_
                intro w9 hw9
                obtain ⟨G9, hG9⟩ := hw9
                subst hG9
                have F9 := Lib.hid (O6.out G9)
                obtain ⟨w9, hw9⟩ : ∃ w9, G9.w' = w9 := ⟨_, rfl⟩
                rw [hw9] at F9 ⊢
                clear hw9 G9 y0 y1 y2 y3 y4 y5 y6 y7 y8 y9 y10 y11 O6
                go_wp2_with fail
                go_roundw
                case rel => exact ⟨k + 1, by go_num, by omega, F9.out⟩
                case measure => simp [intOf]; omega
              · skip
                have q1 := neq_nul c true hq
                refine wp_region_grow (by kernel_rfl) (by kernel_rfl) ?_
                repeat (go_big_quiet_step (first | (go_at_call 20; exact Gr.calls (cell_only _ _))))
                refine wpQuiet_nil ?_
                intro w9 hw9
                obtain ⟨G9, hG9⟩ := hw9
                subst hG9
                have F9 := Lib.hid (O6.out G9)
                obtain ⟨w9, hw9⟩ : ∃ w9, G9.w' = w9 := ⟨_, rfl⟩
                rw [hw9] at F9 ⊢
                clear hw9 G9 y0 y1 y2 y3 y4 y5 y6 y7 y8 y9 y10 y11 O6
                go_wp2_with fail
                go_roundw
                case rel => exact ⟨k + 1, by go_num, by omega, F9.out⟩
                case measure => simp [intOf]; omega
            · have g3 : decide ((k : Int) < (nl : Int)) = false := decide_eq_false (by omega)
              have g6 : decide (k < nl) = false := decide_eq_false (by omega)
              cases hq : ceq c (fun _ => 0)
              · skip
                have q1 := neq_nul c false hq
                have q2 := neq_own c (cw (c 0)) true (HGD.out.eq hq)
                refine wp_region_grow (by kernel_rfl) (by kernel_rfl) ?_
                repeat (go_big_quiet_step (first | (go_at_call 20; exact Gr.calls (cell_only _ _))))
                refine wpQuiet_nil ?_
                intro w9 hw9
                obtain ⟨G9, hG9⟩ := hw9
                subst hG9
                have F9 := Lib.hid (O6.out G9)
                obtain ⟨w9, hw9⟩ : ∃ w9, G9.w' = w9 := ⟨_, rfl⟩
                rw [hw9] at F9 ⊢
                clear hw9 G9 y0 y1 y2 y3 y4 y5 y6 y7 y8 y9 y10 y11 O6
                go_wp2_with fail
                go_roundw
                case rel => exact ⟨k + 1, by go_num, by omega, F9.out⟩
                case measure => simp [intOf]; omega
              · skip
                have q1 := neq_nul c true hq
                refine wp_region_grow (by kernel_rfl) (by kernel_rfl) ?_
                repeat (go_big_quiet_step (first | (go_at_call 20; exact Gr.calls (cell_only _ _))))
                refine wpQuiet_nil ?_
                intro w9 hw9
                obtain ⟨G9, hG9⟩ := hw9
                subst hG9
                have F9 := Lib.hid (O6.out G9)
                obtain ⟨w9, hw9⟩ : ∃ w9, G9.w' = w9 := ⟨_, rfl⟩
                rw [hw9] at F9 ⊢
                clear hw9 G9 y0 y1 y2 y3 y4 y5 y6 y7 y8 y9 y10 y11 O6
                go_wp2_with fail
                go_roundw
                case rel => exact ⟨k + 1, by go_num, by omega, F9.out⟩
                case measure => simp [intOf]; omega
        · obtain rfl : k = 130 := by omega
          have HE := Lib.hid ((K6.out.trans (HK.out.mono (fun i hi => .inl hi))).below (Nat.le_refl _) (fun i hi => hi))
          clear HO HK
          go_wp2_with fail
          go_ret
          exact ⟨rfl, HE.out⟩
theorem orders_law (a : Option Addr) (nl cap : Nat) (z : Nat → Int) (L : Int) (W : World) (hn : nl ≤ 9223372036854775807) (hz : Nums .u64 W W.heap.size a nl z) (hw : ∀ j, j < nl → (Lit.int .u64 (z j)).wf = true) :
    Calls Try.prog 4 #[.slice a nl cap, .int .i64 L] W (Yes W) := by
  by_cases h : L < 0 ∨ 7 < L ∨ 130 < nl
  · exact orders_out a nl cap L W hn h
  · obtain ⟨L', rfl⟩ := Int.eq_ofNat_of_zero_le (a := L) (by omega)
    exact orders_in a nl cap z L' _ W (by omega) hz (fun j hj => u64_rng (hw j hj)) (by omega) rfl
end Go.Proofs.Ytojdefaplekieaa
