/- The walk of the law on the last: a cell is what was written there last, or noughts; events that were told stay as they are. Conditions: the slice's cells hold looks; it is no longer than memory can hold. -/
import Derived.Test.YtmkikelbllejjaaMemOthers
namespace Go.Proofs.Ytmkikelbllejjaa
open Go.RowKit Go.ChangeShapes Go.WideShapes Go.ChangeAt

/-- The memory behind k looks that are all written. -/
def Mst (x : Nat → Lk) : Nat → MS
  | 0 => MS.new [4, 3].length fun i => [4, 3].getD i 0
  | k + 1 => (Mst x k).write (x k).1 (x k).2.1 (cw (x k).2.2.1)
theorem Mst_len (x : Nat → Lk) : ∀ k, (Mst x k).es.length ≤ k
  | 0 => Nat.le_refl _
  | k + 1 => Nat.le_trans (len_write _ _ _ _) (by have := Mst_len x k; omega)
theorem Mst_sized (x : Nat → Lk) : ∀ k, Sized (Mst x k) [4, 3]
  | 0 => ⟨rfl, rfl⟩
  | k + 1 => (Mst_sized x k).write _ _ _
theorem es_write (M : MS) (r a : Int) (f : Nat → Int) : (M.write r a f).es.take M.es.length = M.es := by
  unfold MS.write
  split
  · simp [MS.see, MS.put]
  · simp [MS.bad]
theorem len_write' (M : MS) (r a : Int) (f : Nat → Int) : M.es.length ≤ (M.write r a f).es.length := by
  unfold MS.write
  split
  · simp [MS.see, MS.put]
  · simp [MS.bad]
/-- What was written last at a place, by the first k looks. -/
def wantUp (x : Nat → Lk) (r a : Int) : Nat → Nat → Int
  | 0 => fun _ => 0
  | k + 1 => if (x k).1 = r ∧ (x k).2.1 = a then cw (x k).2.2.1 else wantUp x r a k
theorem Mst_cell (x : Nat → Lk) (r a : Int) (h : (Mst x 0).hit r a = true) : ∀ k, (Mst x k).cell r a = wantUp x r a k ∧ (Mst x k).hit r a = true
  | 0 => ⟨MS.new_cell _ _ _ _, h⟩
  | k + 1 => by
    obtain ⟨h1, h2⟩ := Mst_cell x r a h k
    refine ⟨?_, by show ((Mst x k).write _ _ _).hit r a = true; rw [MS.hit_write]; exact h2⟩
    show ((Mst x k).write _ _ _).cell r a = _
    rw [MS.cell_write, h2, h1]
    simp only [wantUp, true_and]

/-- The blocks that a caller keeps who holds a slice of events. -/
def wasX (W : World) (A : Option Addr) (l : List Ev) : Nat → Prop := fun i => old W i ∨ (l ≠ [] ∧ ∃ a, A = some a ∧ a.block = i)
theorem View.kept {w w' : World} {X : Nat → Prop} {A : Option Addr} {l : List Ev} (h : View w A l) (hk : Kept X w w') (hX : ∀ a, A = some a → l ≠ [] → X a.block) : View w' A l := fun hl => by
  obtain ⟨b, off, e, hr⟩ := h hl
  exact ⟨b, off, e, hk.range hr (hX _ e hl)⟩
/-- Behind Trace: what was told is the caller's. -/
theorem told_own {W w w' : World} {Y : Nat → Prop} {p : Nat} {M : MS} {A : Option Addr} {cap : Nat} (h : Own w Y p M) (hY : ∀ i, old W i → Y i) (ht : Told w' w.heap.size A cap M.es) (ho : Only nobody w w') : Own w' (wasX W A M.es) p M ∧ View w' A M.es := by
  refine ⟨(h.grow ho).weak (fun i hi => ?_), ht.view⟩
  rcases hi with hi | ⟨hl, a, ea, ei⟩
  · exact .inl (hY i hi)
  · have hown := ht hl
    rcases hown.2 with ⟨h0, _⟩ | ⟨g, cap', cur, h0, hb, hg, _⟩
    · injection h0 with h0
      rw [h0] at ea; cases ea
    · injection h0 with h0
      rw [h0] at ea
      injection ea with ea
      subst ea
      subst ei
      exact .inr ⟨hb, (Array.getElem?_eq_some_iff.1 hg).1⟩
/-- In the first loop. -/
def LastAt (W : World) (p : Nat) (x : Nat → Lk) (k : Nat) (A : Option Addr) (wr : World) : Prop := Own wr (wasX W A (Mst x k).es) p (Mst x k) ∧ Kept (old W) W wr ∧ View wr A (Mst x k).es

/-- Behind the first loop: j cells were read. -/
def ReadsAt (W : World) (p : Nat) (x : Nat → Lk) (T j : Nat) (wr : World) : Prop := ∃ M, Own wr (old W) p M ∧ Kept (old W) W wr ∧ (∀ r a, M.cell r a = (Mst x T).cell r a) ∧ M.es.length ≤ 80 + j
/-- In the innermost loop: what is wanted of a place lies in block wb. -/
def WantAt (W : World) (p : Nat) (x : Nat → Lk) (T j wb : Nat) (r a : Int) (k : Nat) (wr : World) : Prop :=
  ∃ M, Own wr (fun i => old W i ∨ i = wb) p M ∧ Kept (old W) W wr ∧ (∀ r a, M.cell r a = (Mst x T).cell r a) ∧ M.es.length ≤ 80 + j ∧ wr.rangeAt wb 0 (CA (wantUp x r a k)).toList ∧ wr.there wb 0 12
theorem WantAt.start {W : World} {p : Nat} {x : Nat → Lk} {T j : Nat} {r a : Int} {wr : World} (h : ReadsAt W p x T j wr) : WantAt W p x T j wr.heap.size r a 0 (wr.alloc (.cells (CA fun _ => 0) 37)) := by
  obtain ⟨M, hO, hK, hc, hl⟩ := h
  exact ⟨M, hO.alloc _, hK.alloc _, hc, hl, rg_new wr (fun _ => 0) _ _ rfl, there_result (Only.refl nobody _) (not_nobody _)⟩
theorem WantAt.other {W : World} {p : Nat} {x : Nat → Lk} {T j wb : Nat} {r a : Int} {k : Nat} {wr : World} (h : WantAt W p x T j wb r a k wr) (hne : ¬ ((x k).1 = r ∧ (x k).2.1 = a)) : WantAt W p x T j wb r a (k + 1) wr := by
  obtain ⟨M, hO, hK, hc, hl, hr, ht⟩ := h
  exact ⟨M, hO, hK, hc, hl, by simp only [wantUp]; rw [if_neg hne]; exact hr, ht⟩
theorem WantAt.there {W : World} {p : Nat} {x : Nat → Lk} {T j wb : Nat} {r a : Int} {k : Nat} {wr w' : World} (h : WantAt W p x T j wb r a k wr) (ho : Only nobody wr w') : w'.there wb 0 12 := by
  obtain ⟨M, hO, hK, hc, hl, hr, ht⟩ := h
  intro i hi
  obtain ⟨h1, h2⟩ := ht i hi
  obtain ⟨v, hv⟩ := Option.isSome_iff_exists.1 h1
  have hb := ho.block wb (World.block_lt_of_cell? wr ⟨wb, 0 + i, none⟩ hv) (not_nobody _)
  exact ⟨by rw [World.cell?_of_block (w := wr) (a := ⟨wb, 0 + i, none⟩) hb]; exact h1, by rw [World.frozen?_of_block (w := wr) (a := ⟨wb, 0 + i, none⟩) hb]; exact h2⟩
theorem WantAt.hit {W : World} {p : Nat} {x : Nat → Lk} {T j wb : Nat} {r a : Int} {k : Nat} {wr w' : World} (h : WantAt W p x T j wb r a k wr) (ho : Only nobody wr w') (he : (x k).1 = r ∧ (x k).2.1 = a) (hw : ¬ old W wb) : WantAt W p x T j wb r a (k + 1) (w'.setCells wb 0 (CA (cw (x k).2.2.1)).toList) := by
  have ht' := h.there ho
  obtain ⟨M, hO, hK, hc, hl, hr, ht⟩ := h
  have o1 : Only (just wb) w' (w'.setCells wb 0 (CA (cw (x k).2.2.1)).toList) := only_setCells _ _ _ (Only.refl _ _) (.inl (just_self _))
  refine ⟨M, (hO.none ho).only o1 (fun i hi => .inr hi), ?_, hc, hl, ?_, World.there_setCells ht' _ _ _⟩
  · exact (hK.trans (Kept.of_none ho)).trans (o1.mono (fun i _ hi => by rw [hi]; exact hw))
  · simp only [wantUp]
    rw [if_pos he]
    exact World.rangeAt_setCells_same w' wb 0 _ ht'

set_option maxRecDepth 100000 in
set_option maxHeartbeats 4000000 in
theorem last_loop (a : Option Addr) (T cap : Nat) (x : Nat → Lk) (W : World) (hx : Looks W W.heap.size a T x) (hT : T ≤ 80) :
    Calls Try.prog 5 #[.slice a T cap] W (Yes W) := by
  have HX := Lib.hid hx
  clear hx
  go_enter Try.func5, Try.ntmps5
  go_wp2_with fail
  refine (shown_any W).mono ?_
  rintro e w0 ⟨rfl, hb0⟩
  have K0 : Hid (Kept (old W) W w0) := Only.of_below hb0
  have S0 := Lib.hid hb0.size
  clear hb0
  go_wp2_with fail
  refine (new_list [4, 3] (by decide) w0 _ _ rfl).mono ?_
  rintro e w1 ⟨p, rfl, ho, hn⟩
  have R1 := Lib.hid (show LastAt W p x 0 none w1 from ⟨ho.weak (fun i hi => by
    rcases hi with hi | ⟨hl, _⟩
    · show i < _
      have := S0.out
      have hi' : i < W.heap.size := hi
      simp; omega
    · exact absurd rfl hl), (K0.out.alloc _).trans (Kept.of_none hn), fun hl => absurd rfl hl⟩)
  clear ho hn K0 S0
  go_wp2
  go_loopw [6, 7] (fun s i wr => ∃ (k : Nat) (A : Option Addr) (c : Nat), i = .int .i64 k ∧ k ≤ T ∧ s = .slice A (Mst x k).es.length c ∧ LastAt W p x k A wr) (fun _ i _ => T - (intOf i).toNat)
  case atStart => exact ⟨0, none, 0, rfl, Nat.zero_le _, rfl, R1.out⟩
  case round =>
    obtain ⟨w9, hw9⟩ : ∃ x, x = wr := ⟨_, rfl⟩
    subst hw9
    obtain ⟨k, A, c, rfl, hk, rfl, hO, hK, hV⟩ := hrel
    have HO := Lib.hid hO
    have HK := Lib.hid hK
    have HV := Lib.hid hV
    clear hO hK hV
    have hl := Mst_len x k
    by_cases hlt : k < T
    · obtain ⟨b, off, rfl, hr⟩ := HX.out.at (HK.out.below (Nat.le_refl _) (fun i hi => hi)) hlt
      obtain ⟨M', hM'⟩ : ∃ M', Mst x (k + 1) = M' := ⟨_, rfl⟩
      have hMw : (Mst x k).write (x k).1 (x k).2.1 (cw (x k).2.2.1) = M' := hM'
      obtain ⟨⟨r, at', nn, v⟩, hxk⟩ : ∃ y, x k = y := ⟨_, rfl⟩
      rw [hxk] at hr hMw
      dsimp only at hMw
      obtain ⟨x0, x1, x2, x3⟩ := lk_cells hr
      clear hr
      dsimp only at x0 x1 x2 x3
      obtain ⟨M, hM⟩ : ∃ M, Mst x k = M := ⟨_, rfl⟩
      rw [hM] at HO HV hl hMw ⊢
      have htake : M'.es.take M.es.length = M.es := by rw [← hMw]; exact es_write M r at' _
      have hle : M.es.length ≤ M'.es.length := by rw [← hMw]; exact len_write' M r at' _
      have hl' : M'.es.length ≤ k + 1 := by rw [← hM']; exact Mst_len x (k + 1)
      have HMw := Lib.hid hMw
      have HTK := Lib.hid htake
      have HM' := Lib.hid hM'
      clear hMw htake hM' hxk hM
      obtain ⟨n, hn⟩ : ∃ n, M.es.length = n := ⟨_, rfl⟩
      obtain ⟨n', hn'⟩ : ∃ n, M'.es.length = n := ⟨_, rfl⟩
      rw [hn] at HTK hle hl ⊢
      rw [hn'] at hle hl'
      have HN := Lib.hid hn
      have HN' := Lib.hid hn'
      clear hn hn'
      have HD3 := Lib.hid (HO.out.alloc (.cells #[.int .i64 r, .int .i64 at', .int .u64 nn, .bool v] 34))
      have HR3 := Lib.hid (Rd.new HK.out (r, at', nn, v) 34)
      have HV3 := Lib.hid (HV.out.alloc (.cells #[.int .i64 r, .int .i64 at', .int .u64 nn, .bool v] 34))
      go_wp2_with fail
      have hR3 := HR3.out
      go_region_held3 (fun w' => Kept (old W) W w' ∧ w'.cell? ⟨w9.heap.size, 0, none⟩ = some (.int .i64 r) ∧ w'.cell? ⟨w9.heap.size, 1, none⟩ = some (.int .i64 at') ∧ w'.cell? ⟨w9.heap.size, 2, none⟩ = some (.int .u64 nn)) (first | assumption | (exact Rd.none (x := (r, at', nn, v)) (by assumption) (Only.refl _ _).drew) | (exact Rd.none (x := (r, at', nn, v)) (by assumption) (((Only.refl _ _).alloc _).alloc _))) (first | (go_at_call 12; refine (cell_any _ _).mono ?_; rintro e w' ⟨rfl, rfl⟩) | (go_at_call 11; refine (own_write _ p M _ r at' _ (HD3.out.none (by first | exact (((Only.refl _ _).alloc _).alloc _).drew | exact ((Only.refl _ _).drew.alloc _).alloc _)) (by rw [HN.out]; omega)).mono ?_; rw [HMw.out]; rintro e w4 ⟨rfl, hO, hk4⟩; have HO4 := Lib.hid hO; have hR4 : Rd W w9.heap.size (r, at', nn, v) w4 := Rd.kept (by assumption) hk4 (.inr rfl) (fun i h => .inl (.inl h)); have HV4 := Lib.hid ((HV3.out.only (by first | exact (((Only.refl _ _).alloc _).alloc _).drew | exact ((Only.refl _ _).drew.alloc _).alloc _)).kept hk4 (fun a ea hl => .inl (.inr ⟨hl, a, ea, rfl⟩))); clear hO hk4))
      have HK4 := Lib.hid hR4.1
      clear hR3 hR4 HR3 HD3 HV3
      go_wp2_with fail
      refine (own_trace _ p M' _ HO4.out (by rw [HN'.out]; omega)).mono ?_
      rintro e w5 ⟨A', c', rfl, ht, ho, hsh⟩
      rw [HN'.out] at hsh ⊢
      have HTO := Lib.hid (told_own HO4.out (fun i h => .inl (.inl h)) ht ho)
      have HT5 := Lib.hid ht
      have HV5 := Lib.hid (HV4.out.only ho)
      have HK5 := Lib.hid (HK4.out.trans (Kept.of_none ho))
      have HKs : Hid (W.heap.size ≤ w4.heap.size) := HK4.out.size
      clear ht ho HV4 HK4 HO4
      have hnn : decide ((n' : Int) < (n : Int)) = false := decide_eq_false (by omega)
      have hnn' : decide (n' < n) = false := decide_eq_false (by omega)
      by_cases hes : M'.es = []
      · have e1 : n' = 0 := by rw [← HN'.out, hes]; rfl
        subst e1
        obtain rfl : n = 0 := by omega
        have hes0 : M.es = [] := List.eq_nil_of_length_eq_zero HN.out
        rcases hsh with ⟨rfl, _, rfl⟩ | ⟨b5, o5, rfl, _⟩
        all_goals
          go_wp2_with fail
          refine (same_len _ A 0 0 _ c [] [] _ rfl rfl (fun h => absurd rfl h) (fun h => absurd rfl h) (by omega)).mono ?_
          rw [decide_eq_true rfl]
          rintro e w6 ⟨rfl, n6, rfl⟩
          go_wp2
          go_roundw
          case rel => exact ⟨k + 1, _, _, by go_num, by omega, by rw [HM'.out, HN'.out], by rw [LastAt, HM'.out]; exact ⟨HTO.out.1.drewN n6, HK5.out.drewN n6, HTO.out.2.drewN n6⟩⟩
          case measure => simp [intOf]; omega
      · have hown := HT5.out hes
        rcases hown.2 with ⟨h0, h1⟩ | ⟨g, c'', cur, h0, hg0, hg, hnc, _, _, _⟩
        · exact absurd (List.eq_nil_of_length_eq_zero h1) hes
        injection h0 with h0 _ h2
        subst h0 h2
        rw [HN'.out] at hnc
        have hpos : 0 < n' := by rw [← HN'.out]; exact List.length_pos_iff.2 hes
        have HG0 := Lib.hid hg0
        have hc1 : ∃ y : Int, w5.cell? ⟨g, 1, none⟩ = some (.int .i64 y) := by
          obtain ⟨_, h1, _⟩ := evs_at M'.es 0 (by rw [HN'.out]; exact hpos)
          have := hown.cells (g := g) rfl 1 _ h1
          rw [add_plain] at this
          exact ⟨_, this⟩
        obtain ⟨yv, hc1⟩ := hc1
        have hf1 : w5.frozen? ⟨g, 1, none⟩ = false := Box.frozen (show Box w5 g _ cur from hg) 1
        have HVT : Hid (View w5 (some ⟨g, 0, none⟩) M.es) := fun hl => by
          obtain ⟨b6, o6, e6, hr6⟩ := HTO.out.2 hes
          injection e6 with e6
          injection e6 with e7 e8
          subst e7 e8
          refine ⟨g, 0, rfl, fun j v hv => hr6 j v ?_⟩
          rw [← HTK.out, evs_take] at hv
          rw [List.getElem?_take] at hv
          split at hv
          · exact hv
          · cases hv
        have HES := Lib.hid hes
        clear hown hg hes hg0
        go_wp2_with fail
        refine (same_len (some ⟨g, 0, none⟩) A n n c' c M.es M.es _ HN.out HN.out HVT.out HV5.out (by omega)).mono ?_
        rw [decide_eq_true rfl]
        rintro e w6 ⟨rfl, n6, rfl⟩
        go_wp2_with fail
        obtain ⟨w7, hw7⟩ : ∃ w7, (w5.setCell ⟨g, 1, none⟩ (.int .i64 99)).drewN n6 = w7 := ⟨_, rfl⟩
        have HO7 : Hid (Own w7 (wasX W (some ⟨g, 0, none⟩) M'.es) p M') := by
          have ho7 : Only (just g) w5 w7 := by rw [← hw7]; exact ((Only.refl _ _).setCell (.inl (just_self g)) _).drewN n6
          exact HTO.out.1.only ho7 (fun i hi => .inr ⟨HES.out, _, rfl, hi.symm⟩)
        have HK7 : Hid (Kept (old W) W w7) := by
          rw [← hw7]
          refine Kept.drewN (Only.setCell HK5.out (.inl ?_) _) n6
          intro (h : g < W.heap.size)
          have := HG0.out
          have := HKs.out
          omega
        change Calls Try.prog 21 _ ((w5.setCell ⟨g, 1, none⟩ (.int .i64 99)).drewN n6) _
        rw [hw7]
        refine (own_trace _ p M' _ HO7.out (by rw [HN'.out]; omega)).mono ?_
        rintro e w8 ⟨A8, c8, rfl, ht, ho, _⟩
        rw [HN'.out]
        have HTO8 := Lib.hid (told_own (W := W) HO7.out (fun i h => .inl h) ht ho)
        have HK8 := Lib.hid (HK7.out.trans (Kept.of_none ho))
        clear ht ho hw7
        go_wp2
        go_roundw
        case rel => exact ⟨k + 1, A8, c8, by go_num, by omega, by rw [HM'.out, HN'.out], by rw [LastAt, HM'.out]; exact ⟨HTO8.out.1, HK8.out, HTO8.out.2⟩⟩
        case measure => simp [intOf]; omega
    · obtain rfl : T = k := by omega
      have R2 := Lib.hid (show ReadsAt W p x T 0 w9 from ⟨_, HO.out.weak (fun i h => .inl h), HK.out, fun _ _ => rfl, by omega⟩)
      clear HO HK HV R1
      go_wp2
      go_loopw [10] (fun i wr => ∃ rr : Nat, i = .int .i64 rr ∧ rr ≤ 2 ∧ ReadsAt W p x T (4 * rr) wr) (fun i _ => 2 - (intOf i).toNat)
      case atStart => exact ⟨0, rfl, by omega, R2.out⟩
      case round =>
        obtain ⟨w10, hw10⟩ : ∃ x, x = wr := ⟨_, rfl⟩
        subst hw10
        obtain ⟨rr, rfl, hrr, hR⟩ := hrel
        have HR := Lib.hid hR
        clear hR
        by_cases hr2 : rr < 2
        · have hr2' : decide ((rr : Int) < 2) = true := decide_eq_true (by omega)
          have h4 : IntKind.i64.wrap (4 - (rr : Int)) = ((4 - rr : Nat) : Int) := by rw [IntKind.wrap_i64]; omega
          go_wp2
          go_loopw [11] (fun i wr => ∃ j : Nat, i = .int .i64 j ∧ j ≤ 4 - rr ∧ ReadsAt W p x T (4 * rr + j) wr) (fun i _ => 4 - (intOf i).toNat)
          case atStart => exact ⟨0, rfl, by omega, HR.out⟩
          case round =>
            obtain ⟨w11, hw11⟩ : ∃ x, x = wr := ⟨_, rfl⟩
            subst hw11
            obtain ⟨j, rfl, hj, hR3⟩ := hrel
            have HR3 := Lib.hid hR3
            clear hR3
            by_cases hj4 : j < 4 - rr
            · have HW := Lib.hid (WantAt.start (r := (rr : Int)) (a := (j : Int)) HR3.out)
              have hwb : Hid (¬ old W w11.heap.size) := by
                obtain ⟨M, _, hK, _⟩ := HR3.out
                intro (h : w11.heap.size < W.heap.size)
                have := hK.size
                omega
              obtain ⟨wb, hwbe⟩ : ∃ wb, w11.heap.size = wb := ⟨_, rfl⟩
              rw [hwbe] at HW hwb
              go_wp2
              clear hwbe
              go_loopw [13] (fun i wr => ∃ k : Nat, i = .int .i64 k ∧ k ≤ T ∧ WantAt W p x T (4 * rr + j) wb rr j k wr) (fun i _ => T - (intOf i).toNat)
              case atStart => exact ⟨0, rfl, Nat.zero_le _, HW.out⟩
              case round =>
                obtain ⟨k, rfl, hk', hW4⟩ := hrel
                have HW4 := Lib.hid hW4
                have HK4 : Hid (Kept (old W) W wr) := by obtain ⟨M, _, hK, _⟩ := hW4; exact hK
                clear hW4
                by_cases hkT : k < T
                · obtain ⟨b, off, rfl, hr⟩ := HX.out.at (HK4.out.below (Nat.le_refl _) (fun i hi => hi)) hkT
                  obtain ⟨⟨xr, xa, nn, v⟩, hxk⟩ : ∃ y, x k = y := ⟨_, rfl⟩
                  rw [hxk] at hr
                  obtain ⟨x0, x1, x2, x3⟩ := lk_cells hr
                  have HXK := Lib.hid hxk
                  clear hr hxk
                  dsimp only at x0 x1 x2 x3
                  by_cases h1 : xr = (rr : Int)
                  · by_cases h2 : xa = (j : Int)
                    · have HH := Lib.hid (fun w' ho => WantAt.hit (w' := w') HW4.out ho (by rw [HXK.out]; exact ⟨h1, h2⟩) hwb.out)
                      have HTH : Hid (((wr.alloc (.cells (CA (cw nn)) 37)).alloc (.cells (CA (cw nn)) 37)).there wb 0 12) := HW4.out.there (((Only.refl _ _).alloc _).alloc _)
                      go_wp2_with fail
                      refine (cell_any _ _).mono ?_
                      rintro e w' ⟨rfl, rfl⟩
                      go_wp2_with (with_reducible refine wpList_store_cell rfl (.tmp 12) (.tmp 117) rfl wb 0 rfl (cw nn) rfl HTH.out ?_)
                      go_roundw
                      case rel =>
                        have := HH.out _ (((Only.refl nobody wr).alloc (.cells (CA (cw nn)) 37)).alloc (.cells (CA (cw nn)) 37))
                        rw [HXK.out] at this
                        exact ⟨k + 1, by go_num, by omega, this⟩
                      case measure => simp [intOf]; omega
                    · have HH := Lib.hid (HW4.out.other (by rw [HXK.out]; rintro ⟨_, h⟩; exact h2 h))
                      go_wp2
                      go_roundw
                      case rel => exact ⟨k + 1, by go_num, by omega, HH.out⟩
                      case measure => simp [intOf]; omega
                  · have HH := Lib.hid (HW4.out.other (by rw [HXK.out]; rintro ⟨h, _⟩; exact h1 h))
                    go_wp2
                    go_roundw
                    case rel => exact ⟨k + 1, by go_num, by omega, HH.out⟩
                    case measure => simp [intOf]; omega
                · obtain rfl : T = k := by omega
                  obtain ⟨M, hO, hK, hc, hl', hrg, _⟩ := HW4.out
                  have hhit : (Mst x 0).hit rr j = true := by
                    unfold MS.hit
                    rw [(Mst_sized x 0).size rr]
                    refine decide_eq_true ⟨by omega, ?_⟩
                    rcases (show rr = 0 ∨ rr = 1 by omega) with rfl | rfl
                    · show (j : Int) < ((4 : Nat) : Int); omega
                    · show (j : Int) < ((3 : Nat) : Int); omega
                  have hcell : M.cell rr j = wantUp x rr j T := by rw [hc]; exact (Mst_cell x rr j hhit T).1
                  have HCELL := Lib.hid hcell
                  have HO5 := Lib.hid hO
                  have HC5 := Lib.hid hc
                  have HKR : Kept (old W) W wr ∧ wr.rangeAt wb 0 (CA (wantUp x rr j T)).toList := ⟨hK, hrg⟩
                  obtain ⟨f, hf⟩ : ∃ f, wantUp x rr j T = f := ⟨_, rfl⟩
                  rw [hf] at HKR HCELL
                  have hq := neq_cell f f
                  rw [ceq_self, Bool.not_true] at hq
                  have hu := Try.underlying37
                  have hi : (Try.prog.info? 37).map (·.size) = some (CA f).toList.length := infoCell
                  clear hO hK hc hrg hhit hcell hf HW4 HW
                  go_wp2_with fail
                  go_region_held3 (fun w' => Kept (old W) W w' ∧ w'.rangeAt wb 0 (CA f).toList) (first | assumption | (exact ⟨Kept.drewN (And.left (by assumption)) 1, (And.right (by assumption))⟩)) (first | (go_at_call 14; refine (own_read _ p M _ rr j (HO5.out.drewN 1) (by omega)).mono ?_; rw [HCELL.out]; rintro e w12 ⟨rfl, hO, hk12⟩; have hS12 : Kept (old W) W w12 ∧ w12.rangeAt wb 0 (CA f).toList := ⟨(Kept.trans (Kept.drewN HKR.1 1) (hk12.mono (fun i h => .inl h))), hk12.range (rg_drewN' (n := 1) HKR.2) (.inr rfl)⟩; have HB := Lib.hid (show ReadsAt W p x T (4 * rr + (j + 1)) w12 from ⟨_, hO.weak (fun i h => .inl h), hS12.1, fun r a => by rw [MS.cell_read]; exact HC5.out r a, Nat.le_trans (len_read M rr j) (by omega)⟩); clear hO hk12))
                  go_wp2
                  go_roundw
                  case rel => exact ⟨j + 1, by go_num, by omega, HB.out⟩
                  case measure => simp [intOf]; omega
            · have HB := Lib.hid (show ReadsAt W p x T (4 * (rr + 1)) w11 from by
                obtain ⟨M, hO, hK, hc, hl'⟩ := HR3.out
                exact ⟨M, hO, hK, hc, by omega⟩)
              go_wp2
              go_roundw
              case rel => exact ⟨rr + 1, by go_num, by omega, HB.out⟩
              case measure => simp [intOf]; omega
        · have HK10 : Hid (Kept (old W) W w10) := by obtain ⟨M, _, hK, _⟩ := HR.out; exact hK
          go_wp2
          go_ret
          exact ⟨rfl, HK10.out.below (Nat.le_refl _) (fun i hi => hi)⟩

set_option maxRecDepth 100000 in
set_option maxHeartbeats 2000000 in
theorem last_many (a : Option Addr) (T cap : Nat) (W : World) (hT : 80 < T) (hT2 : T ≤ 9223372036854775807) :
    Calls Try.prog 5 #[.slice a T cap] W (Yes W) := by
  go_enter Try.func5, Try.ntmps5
  go_wp2_with fail
  refine (shown_any W).mono ?_
  rintro e w0 ⟨rfl, hb0⟩
  have K0 : Hid (Kept (old W) W w0) := Only.of_below hb0
  clear hb0
  go_wp2_with fail
  refine (new_list [4, 3] (by decide) w0 _ _ rfl).mono ?_
  rintro e w1 ⟨p, rfl, ho, hn⟩
  have K1 : Hid (Kept (old W) W w1) := (K0.out.alloc _).trans (Kept.of_none hn)
  clear ho hn K0
  go_wp2
  go_ret
  exact ⟨rfl, K1.out.below (Nat.le_refl _) (fun i hi => hi)⟩

theorem last_any (a : Option Addr) (T cap : Nat) (x : Nat → Lk) (W : World) (hT : T ≤ 9223372036854775807) (hx : Looks W W.heap.size a T x) :
    Calls Try.prog 5 #[.slice a T cap] W (Yes W) := by
  by_cases h : 80 < T
  · exact last_many a T cap W h hT
  · exact last_loop a T cap x W hx (by omega)
end Go.Proofs.Ytmkikelbllejjaa
