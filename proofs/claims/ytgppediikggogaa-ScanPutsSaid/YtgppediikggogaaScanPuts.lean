/- The walk of the law on Put: what is put is got, all else is as it was; what is not put changes nothing; both look at all cells alike. Conditions: the slice's cells hold numbers, the words are words of 64 bits. -/
import Derived.Test.YtgppediikggogaaSeen
namespace Go.Proofs.Ytgppediikggogaa
open Go.RowKit Go.ChangeShapes Go.WideShapes Go.ChangeAt

theorem puts_out (a : Option Addr) (n cap : Nat) (at' x : Int) (on : Bool) (W : World) (hn : n ≤ 9223372036854775807) (h : 40 < n) :
    Calls Try.prog 4 #[.slice a n cap, .int .u64 at', .int .u64 x, .bool on] W (Yes W) := by
  go_enter Try.func4, Try.ntmps4
  go_wp2_with fail
  refine (shown_any W).mono ?_
  rintro e w0 ⟨rfl, hb0⟩
  have HB := Lib.hid hb0
  clear hb0
  go_wp2_with fail
  go_ret
  exact ⟨rfl, HB.out⟩
/-- Cells, one behind the other. -/
def cellsL (C : Nat → Nat → Int) (i : Nat) : List Value := (List.range i).flatMap fun j => (CA (C j)).toList
theorem cellsL_succ (C : Nat → Nat → Int) (i : Nat) : cellsL C (i + 1) = cellsL C i ++ (CA (C i)).toList := by unfold cellsL; rw [List.range_succ, List.flatMap_append]; simp
theorem cellsL_len (C : Nat → Nat → Int) (i : Nat) : (cellsL C i).length = i * 12 := by
  induction i with
  | zero => rfl
  | succ i ih => rw [cellsL_succ, List.length_append, ih, show (CA (C i)).toList.length = 12 from rfl]; omega
theorem cellsL_at (C : Nat → Nat → Int) : ∀ (s i j : Nat), i < s → j < 12 → (cellsL C s)[i * 12 + j]? = (CA (C i)).toList[j]?
  | 0, i, j, h, _ => by omega
  | s + 1, i, j, h, hj => by
    rw [cellsL_succ]
    by_cases e : i = s
    · subst e
      rw [List.getElem?_append_right (by rw [cellsL_len]; omega), cellsL_len]
      congr 1; omega
    · rw [List.getElem?_append_left (by rw [cellsL_len]; omega)]
      exact cellsL_at C s i j (by omega) hj
theorem infoCellW : (Try.prog.info? 30).map (fun i => (i.zero, i.size, i.bytes)) = some (some (.agg (CA fun _ => 0)), 12, 96) := by kernel_rfl
theorem own_lt' {w : World} {base : Nat} {e : TypeId} {size : Nat} {v : Value} {n : Nat} {xs : List Value} (h : w.ownsRow base e size v n xs) {g : Nat} (hg : v.ownBlock = some g) : base ≤ g ∧ g < w.heap.size := by
  rcases h.2 with ⟨rfl, _⟩ | ⟨g', cap, cur, rfl, h1, h2, h3⟩
  · simp [Value.ownBlock] at hg
  · obtain rfl : g' = g := by simpa [Value.ownBlock] using hg
    exact ⟨h1, (Array.getElem?_eq_some_iff.1 h2).1⟩
/-- A slice literal of one cell, as the walk leaves it. -/
theorem CA_fold (c : Nat → Int) : Array.foldl (fun (cs : Array Value) (x : Value × Nat) => cs.setIfInBounds x.snd x.fst) #[Value.int IntKind.u64 0, Value.int IntKind.u64 0, Value.int IntKind.u64 0, Value.int IntKind.u64 0, Value.int IntKind.u64 0, Value.int IntKind.u64 0, Value.int IntKind.u64 0, Value.int IntKind.u64 0, Value.int IntKind.u64 0, Value.int IntKind.u64 0, Value.int IntKind.u64 0, Value.int IntKind.u64 0] (CA c).zipIdx 0 (CA c).size = CA c := by
  kernel_rfl
set_option maxHeartbeats 1000000 in
theorem run_slice_cell (f : Nat → Int) (w : World) (ρ : Operand → Value) (x : Operand) (hx : ρ x = .agg (CA f)) (op : Oper) (ho : op.op = .buildSlice 47 1 #[(0, x)]) :
    (execOp ρ op).run Try.prog w = .ok (.value (.slice (some ⟨w.heap.size, 0, none⟩) 1 1)) (w.alloc (.cells (CA f) 30)) := by
  unfold execOp
  simp only [ho]
  have hs : (CA f).size = 12 := rfl
  have hc := CA_fold f
  rw [hs] at hc
  simp [hx, go_sem, hs, hc]
theorem wpList_slice_cell {ops : Array Oper} {rest : List Oper} {op : Oper} {a : Act} {w : World} {Q : Exit → Act → World → Prop} (hgd : op.guard = none) (x : Operand) (ho : op.op = .buildSlice 47 1 #[(0, x)]) (f : Nat → Int) (hx : a.eval x = .agg (CA f))
    (h : wpList Try.prog ops Q rest (a.put op.dst (.slice (some ⟨w.heap.size, 0, none⟩) 1 1)) (w.alloc (.cells (CA f) 30))) : wpList Try.prog ops Q (op :: rest) a w :=
  wpList_plain hgd fun K hK => by
    unfold Oper.wp
    rw [run_slice_cell f w a.eval x hx op ho]
    exact hK _ _ h
theorem CA_onel (f : Nat → Int) : ∀ u ∈ (CA f).toList, u.oneCell' = true := by simp [CA, Value.oneCell']
theorem CA_new (W : World) (t : TypeId) (f : Nat → Int) {b : Nat} (hb : b = W.heap.size) : ∀ j u, (CA f).toList[j]? = some u → (W.alloc (.cells (CA f) t)).cell? ((⟨b, 0, none⟩ : Addr).add j) = some u := by
  subst hb
  intro j u h
  have := (Box.new W t (CA f)).cell j
  rw [add_plain, Nat.zero_add, this, ← Array.getElem?_toList]
  exact h
/-- The cells that were read so far, in a row of the law's own. -/
structure WasAt (W w1 : World) (p : Nat) (M : MS) (i : Nat) (v : Value) (wr : World) : Prop where
  own : ∃ X : Nat → Prop, Own wr X p (M.looked 0 i) ∧ (∀ b, old W b → X b) ∧ ∀ b, v.ownBlock = some b → X b
  row : wr.ownsRow w1.heap.size 30 12 v i (cellsL (M.c 0) i)
  kept : Kept (old W) W wr
  lt : w1.heap.size ≤ wr.heap.size
theorem WasAt.next {W w1 w6 w7 : World} {X : Nat → Prop} {p : Nat} {M : MS} {i cap : Nat} {v : Value} {A : Option Addr} {t : TypeId} (hW : W.heap.size ≤ w1.heap.size) (ho : Own w6 X p (M.looked 0 (i + 1))) (hX : ∀ b, old W b → X b) (hv : ∀ b, v.ownBlock = some b → X b)
    (hr : w6.ownsRow w1.heap.size 30 12 v i (cellsL (M.c 0) i)) (hk : Kept (old W) W w6) (hl : w1.heap.size ≤ w6.heap.size)
    (hn : w7.ownsRow w1.heap.size 30 12 (.slice A (i + 1) cap) (i + 1) (cellsL (M.c 0) i ++ (CA (M.c 0 i)).toList)) (hg : (w6.alloc (.cells (CA (M.c 0 i)) t)).grownBy w7 v.ownBlock)
    (hw : (Value.slice A (i + 1) cap).ownBlock = v.ownBlock ∨ (Value.slice A (i + 1) cap).ownBlock = some (w6.alloc (.cells (CA (M.c 0 i)) t)).heap.size) : WasAt W w1 p M (i + 1) (.slice A (i + 1) cap) w7 := by
  have o1 : Only (fun b => v.ownBlock = some b) w6 w7 := ((Only.refl _ w6).alloc _).grown hg (fun k hk => .inl hk)
  have hsz : w6.heap.size + 1 ≤ w7.heap.size := by have := hg.size; simpa using this
  refine ⟨⟨_, ho.grow_only o1 hv, fun b hb => .inl (hX b hb), fun b hb => ?_⟩, ?_, ?_, by omega⟩
  · rcases hw with h | h
    · rw [h] at hb; exact .inl (hv b hb)
    · rw [h] at hb
      injection hb with hb
      have hlt := (own_lt' hn (g := b) (by rw [h, hb])).2
      simp at hb
      exact .inr ⟨by omega, hlt⟩
  · rw [cellsL_succ]; exact hn
  · refine hk.trans (o1.mono (fun b _ hb => ?_))
    have := (own_lt' hr hb).1
    intro hb'
    have : b < W.heap.size := hb'
    omega
/-- What is told of the row when it is whole: where it lies, and each cell. -/
theorem WasAt.done {W w1 wr : World} {p : Nat} {M : MS} {i : Nat} {v : Value} (h : WasAt W w1 p M i v wr) (hi : 0 < i) : ∃ g cap, v = .slice (some ⟨g, 0, none⟩) i cap ∧ ∃ X : Nat → Prop, Own wr X p (M.looked 0 i) ∧ (∀ b, old W b → X b) ∧ X g ∧ ∀ j, j < i → wr.rangeAt g (j * 12) (CA (M.c 0 j)).toList := by
  obtain ⟨X, h1, h2, h3⟩ := h.own
  have h' := h.row
  rcases h.row.2 with ⟨_, h0⟩ | ⟨g, cap, cur, rfl, _⟩
  · omega
  · refine ⟨g, cap, rfl, X, h1, h2, h3 g rfl, fun j hj k u hu => ?_⟩
    have hk : k < 12 := by
      have := (List.getElem?_eq_some_iff.1 hu).1
      simpa [CA] using this
    have := h'.cells (g := g) rfl (j * 12 + k) u (by rw [cellsL_at _ _ _ _ hj hk]; exact hu)
    rw [add_plain] at this
    simpa using this
/-- Between two looks behind the Put: what of the memory still stands. -/
structure PutsAt (W : World) (X : Nat → Prop) (p g : Nat) (C D : Nat → Nat → Int) (A : Option Addr) (i : Nat) (wr : World) : Prop where
  own : ∃ N : MS, Own wr X p N ∧ N.c 0 = D ∧ N.size 0 = 20 ∧ N.wd ∧ N.es.length ≤ 200 + i * 20
  kept : Kept (old W) W wr
  row : ∀ j, j < 20 → wr.rangeAt g (j * 12) (CA (C j)).toList
  told : Seen X wr A (iwrites 0 20)
set_option linter.unusedSimpArgs false in
set_option maxRecDepth 100000 in
set_option maxHeartbeats 2000000 in
theorem puts_on (a : Option Addr) (n cap : Nat) (z : Nat → Int) (at' x : Int) (W : World) (hn : n ≤ 40) (hz : Nums .u64 W W.heap.size a n z) (a0 : 0 ≤ at') (a1 : at' ≤ 18446744073709551615) :
    Calls Try.prog 4 #[.slice a n cap, .int .u64 at', .int .u64 x, .bool true] W (Yes W) := by
  have HZ := Lib.hid hz
  clear hz
  go_enter Try.func4, Try.ntmps4
  go_wp2_with fail
  refine (shown_any W).mono ?_
  rintro e w0 ⟨rfl, hb0⟩
  have B0 := Lib.hid hb0
  have K0 : Hid (Kept (old W) W w0) := Only.of_below hb0
  clear hb0
  go_wp2_with fail
  refine (laid_any 1 20 a n cap W.heap.size z _ (by decide) (by decide) (by decide) (by decide) (HZ.out.below B0.out) B0.out.size).mono ?_
  rintro e w1 ⟨p, q, rfl, hm, ho⟩
  have O1 := Lib.hid (hm.left.weak (Y := old W) (fun i (hi : i < W.heap.size) => Nat.lt_of_lt_of_le hi B0.out.size))
  have K1 := Lib.hid (K0.out.trans (Kept.of_none ho))
  have hW1 : W.heap.size ≤ w1.heap.size := K1.out.size
  clear hm ho K0 B0
  have l1 := laidM_len 1 20 z (min n 20)
  have S1 : Hid ((laidM 1 20 z (min n 20)).size 0 = 20) := rfl
  have W1 := Lib.hid (laidM_wd 1 20 z (min n 20))
  have T1 : Hid (0 < (laidM 1 20 z (min n 20)).k ∧ (laidM 1 20 z (min n 20)).sz 0 = 20) := ⟨Nat.zero_lt_one, rfl⟩
  have hl1 : (laidM 1 20 z (min n 20)).es.length ≤ 20 := by rw [l1]; omega
  clear l1
  generalize laidM 1 20 z (min n 20) = M0 at *
  have R1 : Hid (WasAt W w1 p M0 0 (.slice none 0 0) w1) := ⟨⟨old W, by rw [looked_zero]; exact O1.out, fun _ h => h, fun b h => by simp [Value.ownBlock] at h⟩, World.ownsRow_nil _ _ _ _, K1.out, Nat.le_refl _⟩
  clear O1 K1
  go_wp2_with fail
  go_loopw [12, 13] (fun v12 v wr => ∃ i : Nat, v = .int .i64 i ∧ i ≤ 20 ∧ WasAt W w1 p M0 i v12 wr) (fun _ v _ => 20 - (intOf v).toNat)
  case atStart => exact ⟨0, rfl, Nat.zero_le _, R1.out⟩
  case round =>
    obtain ⟨i, rfl, hi, hI⟩ := hrel
    have HI := Lib.hid hI
    clear hI R1
    by_cases hlt : i < 20
    · have HST := Lib.hid (looked_step M0 0 i T1.out.1 (by rw [T1.out.2]; exact hlt))
      have HCL := Lib.hid (looked_cell M0 0 i T1.out.1 (by rw [T1.out.2]; exact hlt))
      have HEL : Hid ((M0.looked 0 i).es.length < 1000000000) := by show (M0.looked 0 i).es.length < 1000000000; rw [looked_len]; omega
      obtain ⟨X, hX0, hX1, hX2⟩ := HI.out.own
      have HX0 := Lib.hid hX0
      have HX1 := Lib.hid hX1
      have HX2 := Lib.hid hX2
      clear hX0 hX1 hX2
      obtain ⟨c, hc⟩ : ∃ c, M0.c 0 i = c := ⟨_, rfl⟩
      rw [hc] at HCL
      go_wp2_with fail
      refine (own_read _ p (M0.looked 0 i) _ (0 : Nat) (i : Int) HX0.out HEL.out).mono ?_
      rw [HST.out, HCL.out]
      rintro e w5 ⟨rfl, ho, hk⟩
      have O5 := Lib.hid ho
      have K5 := Lib.hid (HI.out.kept.trans (hk.mono HX1.out))
      have R5 := Lib.hid (own_block (w' := w5) HI.out.row (fun g hg => hk.block g (own_lt' HI.out.row hg).2 (fun k => k (HX2.out g hg))))
      have hl5 : w1.heap.size ≤ w5.heap.size := by have := hk.size; have := HI.out.lt; omega
      clear ho hk HX0
      go_wp2_with (first | with_reducible refine wpList_slice_cell rfl (.tmp 42) rfl c rfl ?_ | with_reducible refine wpList_append_where _ rfl (.tmp 39) (.tmp 43) 47 rfl w1.heap.size 30 (.agg (CA fun _ => 0)) 12 96 Try.underlying47 infoCellW rfl (by decide) u12 i (cellsL (M0.c 0) i) rfl (R5.out.alloc _) ⟨w5.heap.size, 0, none⟩ 1 1 (CA c).toList rfl rfl ?c0 (CA_onel c) ?c2 ?c3 ?c4 ?_)
      case c0 => exact CA_new w5 _ c rfl
      case c2 => simp only [maxLen]; omega
      case c3 => omega
      case c4 => simp; omega
      intro A cap1 w7 hown hgr hwh
      have HY : Hid (WasAt W w1 p M0 (i + 1) (.slice A (i + 1) cap1) w7) := by
        rw [← hc] at hown hgr
        exact WasAt.next hW1 O5.out HX1.out HX2.out R5.out K5.out hl5 hown hgr (by simpa using hwh)
      clear hown hgr hwh hc O5 K5 R5
      go_wp2_with fail
      go_roundw
      case rel => exact ⟨i + 1, by go_num, by omega, HY.out⟩
      case measure => simp [intOf]; omega
    · obtain rfl : i = 20 := by omega
      obtain ⟨g, cap1, rfl, X, hX0, hX1, hX2, hrow⟩ := HI.out.done (by decide)
      have HX0 := Lib.hid hX0
      have HX1 := Lib.hid hX1
      have HX2 := Lib.hid hX2
      have HROW := Lib.hid hrow
      have HKW := Lib.hid HI.out.kept
      obtain ⟨C, hC⟩ : ∃ C, M0.c 0 = C := ⟨_, rfl⟩
      rw [hC] at HROW
      have S2 : Hid ((M0.looked 0 20).size 0 = 20) := S1.out
      have W2 : Hid (M0.looked 0 20).wd := W1.out
      have C2 : Hid ((M0.looked 0 20).c 0 = C) := hC
      obtain ⟨lm, l2⟩ : ∃ lm, (M0.looked 0 20).es.length = lm := ⟨_, rfl⟩
      have hlm : lm ≤ 40 := by rw [← l2, looked_len]; omega
      clear hX0 hX1 hX2 hrow HI hC S1 W1 T1
      generalize M0.looked 0 20 = M1 at *
      go_wp2_with fail
      refine (own_many _ p M1 _ HX0.out).mono ?_
      rintro e w' ⟨rfl, rfl⟩
      rw [l2]
      go_wp2_with fail
      refine (cell_only x _).mono ?_
      rintro e w5 ⟨rfl, ho⟩
      have O5 := Lib.hid (HX0.out.none ho)
      have K5 := Lib.hid (HKW.out.trans (Kept.of_none ho))
      have R5 : Hid (∀ j, j < 20 → w5.rangeAt g (j * 12) (CA (C j)).toList) := fun j hj => (Kept.of_none (X := X) ho).range (HROW.out j hj) HX2.out
      clear ho HX0 HKW HROW
      go_wp2_with fail
      refine (put_any _ p M1 0 at' (cw x) true _ O5.out W2.out (wd_cw x) a0 a1 (by rw [S2.out]; omega)).mono ?_
      rw [S2.out, show ((0 : Int).toNat) = 0 from rfl]
      rintro e w6 ⟨rfl, ho, hk⟩
      have O6 := Lib.hid ho
      have K6 := Lib.hid (K5.out.trans (hk.mono HX1.out))
      have R6 : Hid (∀ j, j < 20 → w6.rangeAt g (j * 12) (CA (C j)).toList) := fun j hj => hk.range (R5.out j hj) HX2.out
      clear ho hk O5 K5 R5
      go_wp2_with fail
      refine (seen_writes _ p M1 0 at'.toNat (cw x) true 20 lm _ O6.out (fun _ => rfl) l2 (by omega)).mono ?_
      rw [show (20 * 2 : Nat) = 40 from rfl, show ((0 : Int).toNat) = 0 from rfl]
      rintro e w7 ⟨A7, c7, Y, rfl, ho, hv, hy, hk⟩
      have HY1 : Hid (∀ b, old W b → Y b) := fun b hb => hy b (HX1.out b hb)
      have HY2 : Hid (Y g) := hy g HX2.out
      obtain ⟨D, hD⟩ : ∃ D, (M1.anew 0 at'.toNat (cw x) true 20).c 0 = D := ⟨_, rfl⟩
      have HD : Hid (∀ j, j < 20 → D j = if j = at'.toNat ∧ true = true then cw x else C j) := fun j hj => by
        rw [← hD, anew_c, C2.out]
        by_cases e : j = at'.toNat ∧ true = true
        · rw [if_pos e, if_pos ⟨rfl, hj, e⟩]
        · rw [if_neg e, if_neg (fun h => e h.2.2)]
      have R7 : Hid (PutsAt W Y p g C D A7 0 w7) := by
        refine ⟨⟨_, ho, hD, S2.out, wd_anew W2.out (wd_cw x) _ _ _ _, ?_⟩, K6.out.trans (hk.mono HX1.out), fun j hj => hk.range (R6.out j hj) HX2.out, hv⟩
        rw [anew_len, l2]; omega
      clear ho hv hy hk O6 K6 R6 HX1 HX2 S2 W2 C2 hD
      go_wp2_with fail
      go_loopw [17] (fun v wr => ∃ i : Nat, v = .int .i64 i ∧ i ≤ 20 ∧ PutsAt W Y p g C D A7 i wr) (fun v _ => 20 - (intOf v).toNat)
      case atStart => exact ⟨0, rfl, Nat.zero_le _, R7.out⟩
      case round =>
        obtain ⟨i, rfl, hi, hP⟩ := hrel
        have HP := Lib.hid hP
        clear hP R7
        by_cases hlt2 : i < 20
        · obtain ⟨N, hN0, hN1, hN2, hN3, hN4⟩ := HP.out.own
          have HN0 := Lib.hid hN0
          have HN1 := Lib.hid hN1
          have HN2 := Lib.hid hN2
          have HN3 := Lib.hid hN3
          clear hN0 hN1 hN2 hN3
          have hu : IntKind.u64.wrap (i : Int) = (i : Int) := by rw [IntKind.wrap_u64]; omega
          have HRI := Lib.hid (HP.out.row i hlt2)
          obtain ⟨c, hc⟩ : ∃ c, C i = c := ⟨_, rfl⟩
          rw [hc] at HRI
          have HDI := Lib.hid (HD.out i hlt2)
          rw [hc] at HDI
          obtain ⟨w9, h9⟩ : ∃ v, v = wr := ⟨_, rfl⟩
          have HO8 := Lib.hid (HN0.out.alloc (.cells (CA c) 30))
          have HV8 := Lib.hid (Var.new wr c 30)
          by_cases ha : (i : Int) = at'
          · have hb1 : ((i : Int) == at') = true := by simp [ha]
            have hb2 : decide ((i : Int) = at') = true := decide_eq_true ha
            have hat : i = at'.toNat := by omega
            rw [if_pos ⟨hat, by simp⟩] at HDI
            have HK8 := Lib.hid (HP.out.kept.alloc (.cells (CA c) 30))
            have HR8 : Hid (∀ j, j < 20 → (wr.alloc (.cells (CA c) 30)).rangeAt g (j * 12) (CA (C j)).toList) := fun j hj => World.rangeAt_alloc (HP.out.row j hj) _
            have HT8 : Hid (Seen Y (wr.alloc (.cells (CA c) 30)) A7 (iwrites 0 20)) := HP.out.told.none' ((Only.refl nobody wr).alloc _)
            have hgl : g < wr.heap.size := World.block_lt_of_cell? wr ⟨g, i * 12 + 0, none⟩ (HRI.out 0 _ rfl)
            have hYl : Hid (∀ b, Y b → b < wr.heap.size) := by obtain ⟨_, _, _, hx⟩ := HN0.out; exact hx
            have hwl := HP.out.kept.size
            clear HP h9 hat ha
            go_wp2_with (first | with_reducible refine wpList_load_cell rfl (.tmp 63) rfl g (i * 12) rfl c HRI.out ?_ | with_reducible refine wpList_store_new rfl (.tmp 18) (.tmp 64) rfl rfl c rfl rfl ?_)
            generalize wr.alloc (.cells (CA c) 30) = w8 at *
            refine (cell_only x _).mono ?_
            rintro e w12 ⟨rfl, ho⟩
            have HV12 := Lib.hid (HV8.out.nob ho)
            have HO10 := Lib.hid ((HO8.out.none ho).setCells wr.heap.size (CA (cw x)).toList (.inr rfl))
            have HV10 := Lib.hid (HV12.out.set (cw x))
            have HK10 := Lib.hid ((HK8.out.trans (Kept.of_none ho)).setCells wr.heap.size (CA (cw x)).toList hwl)
            have KY : Kept Y w8 (w12.setCells wr.heap.size 0 (CA (cw x)).toList) := (Only.mono ho (fun _ _ h => absurd h (not_nobody _))).then (only_setCells (S := just wr.heap.size) _ 0 w12 (Only.refl _ _) (.inl (just_self _))) (fun i hi => .inl (fun hy => by have := hYl.out i hy; have : i = wr.heap.size := hi; omega))
            have HR10 : Hid (∀ j, j < 20 → (w12.setCells wr.heap.size 0 (CA (cw x)).toList).rangeAt g (j * 12) (CA (C j)).toList) := fun j hj => KY.range (HR8.out j hj) HY2.out
            have HT10 : Hid (Seen Y (w12.setCells wr.heap.size 0 (CA (cw x)).toList) A7 (iwrites 0 20)) := HT8.out.kept KY
            clear ho HO8 HV8 HK8 HR8 HT8 KY
            go_wp2_with (with_reducible refine wpList_store_cell rfl (.tmp 18) (.tmp 73) rfl wr.heap.size 0 rfl (cw x) rfl HV12.out.there ?_)
            clear HV12
            generalize w12.setCells wr.heap.size 0 (CA (cw x)).toList = w10 at *
            have hq := neq_cell (cw x) (cw x)
            rw [ceq_self, Bool.not_true] at hq
            refine held_S (S := fun w' => Var w' wr.heap.size (cw x)) 6 rfl (by kernel_rfl) HV10.out.drew (fun hHeld => ?_)
            simp only [Array.replicate_succ, Array.replicate_zero, List.push_toArray, List.nil_append, List.cons_append]
            refine wpAnyH_take (i := 0) (oi := ⟨some 74, _, _, _, _, _⟩) (v := .pointer (some ⟨p, 0, none⟩)) rfl (by kernel_rfl) (by kernel_rfl) (by kernel_rfl) (fun _ _ _ h => h) (Or.inl ⟨by rfl, fun w' hw => by go_simp⟩) hHeld ?_
            try simp only [Act.put, List.setIfInBounds_toArray, List.set_cons_zero, List.set_cons_succ]
            refine wpAnyH_take (i := 1) (oi := ⟨some 75, _, _, _, _, _⟩) (v := .int .i64 (i : Int)) rfl (by kernel_rfl) (by kernel_rfl) (by kernel_rfl) (fun _ _ _ h => h) (Or.inl ⟨by rfl, fun w' hw => by go_simp⟩) hHeld ?_
            try simp only [Act.put, List.setIfInBounds_toArray, List.set_cons_zero, List.set_cons_succ]
            refine wpAnyH_take (i := 2) (oi := ⟨some 76, _, _, _, _, _⟩) (v := .int .u64 (i : Int)) rfl (by kernel_rfl) (by kernel_rfl) (by kernel_rfl) (fun _ _ _ h => h) (Or.inl ⟨by rfl, fun w' hw => by go_simp⟩) hHeld ?_
            try simp only [Act.put, List.setIfInBounds_toArray, List.set_cons_zero, List.set_cons_succ]
            refine take_row 4 (oi := ⟨some 78, _, _, _, _, _⟩) (CA (cw x)).toList rfl (by kernel_rfl) (by kernel_rfl) (by kernel_rfl) (fun _ _ _ h => h) (by rfl) _ _ rfl _ _ rfl _ (fun _ h => h.rng) Try.underlying30 rfl (infoCellL (cw x)) hHeld ?_
            try simp only [Act.put, List.setIfInBounds_toArray, List.set_cons_zero, List.set_cons_succ]
            refine one_ready 3 rfl (by kernel_rfl) (fun K hK => ?_)
            go_simp
            refine (get_any _ p N 0 (i : Int) _ (HO10.out.drewN 1) HN3.out (by omega) (by omega) (by rw [HN2.out]; omega)).mono ?_
            rw [HN2.out, show ((0 : Int).toNat) = 0 from rfl, gt_in i _ 20 hlt2, HN1.out, HDI.out]
            rintro e w11 ⟨rfl, ho, hk⟩
            have HE : Hid (PutsAt W Y p g C D A7 (i + 1) w11) := by
              refine ⟨⟨_, ho.weak (fun b hb => .inl hb), HN1.out, HN2.out, HN3.out, ?_⟩, (HK10.out.drewN 1).trans (hk.mono (fun b hb => .inl (HY1.out b hb))), fun j hj => hk.range (rg_drew' (HR10.out j hj)) (.inl HY2.out), (HT10.out.none' ((Only.refl nobody w10).drewN 1)).kept (hk.mono (fun b hb => .inl hb))⟩
              rw [looked_len]; omega
            have hV := hHeld.kept hk (.inr rfl)
            clear ho hk HO10 HK10 HR10 HT10
            refine hK.out _ _ (hV) (fun hHeld => ?_)
            clear hK K
            try simp only [Act.put, List.setIfInBounds_toArray, List.set_cons_zero, List.set_cons_succ]
            refine wpAnyH_take (i := 5) (oi := ⟨some 79, _, _, _, _, _⟩) (v := .bool false) rfl (by kernel_rfl) (by kernel_rfl) (by kernel_rfl) (fun _ _ _ h => h) (Or.inl ⟨by rfl, fun w' hw => by go_simp⟩) hHeld ?_
            try simp only [Act.put, List.setIfInBounds_toArray, List.set_cons_zero, List.set_cons_succ]
            refine wpAnyH_done (by kernel_rfl) ?_ _
            go_wp2_with fail
            go_roundw
            case rel => exact ⟨i + 1, by go_num, by omega, HE.out⟩
            case measure => simp [intOf]; omega
          · have hb1 : ((i : Int) == at') = false := beq_eq_false_iff_ne.2 ha
            have hb2 : decide ((i : Int) = at') = false := decide_eq_false ha
            have hat : ¬ i = at'.toNat := by omega
            rw [if_neg (fun h => hat h.1)] at HDI
            have HO10 := HO8
            have HV10 := HV8
            have HK10 := Lib.hid (HP.out.kept.alloc (.cells (CA c) 30))
            have HR10 : Hid (∀ j, j < 20 → (wr.alloc (.cells (CA c) 30)).rangeAt g (j * 12) (CA (C j)).toList) := fun j hj => World.rangeAt_alloc (HP.out.row j hj) _
            have HT10 : Hid (Seen Y (wr.alloc (.cells (CA c) 30)) A7 (iwrites 0 20)) := HP.out.told.none' ((Only.refl nobody wr).alloc _)
            clear HO8 HV8 HP h9
            go_wp2_with (first | with_reducible refine wpList_load_cell rfl (.tmp 63) rfl g (i * 12) rfl c HRI.out ?_ | with_reducible refine wpList_store_new rfl (.tmp 18) (.tmp 64) rfl rfl c rfl rfl ?_)
            generalize wr.alloc (.cells (CA c) 30) = w10 at *
            have hq := neq_cell c c
            rw [ceq_self, Bool.not_true] at hq
            refine held_S (S := fun w' => Var w' wr.heap.size c) 6 rfl (by kernel_rfl) HV10.out.drew (fun hHeld => ?_)
            simp only [Array.replicate_succ, Array.replicate_zero, List.push_toArray, List.nil_append, List.cons_append]
            refine wpAnyH_take (i := 0) (oi := ⟨some 74, _, _, _, _, _⟩) (v := .pointer (some ⟨p, 0, none⟩)) rfl (by kernel_rfl) (by kernel_rfl) (by kernel_rfl) (fun _ _ _ h => h) (Or.inl ⟨by rfl, fun w' hw => by go_simp⟩) hHeld ?_
            try simp only [Act.put, List.setIfInBounds_toArray, List.set_cons_zero, List.set_cons_succ]
            refine wpAnyH_take (i := 1) (oi := ⟨some 75, _, _, _, _, _⟩) (v := .int .i64 (i : Int)) rfl (by kernel_rfl) (by kernel_rfl) (by kernel_rfl) (fun _ _ _ h => h) (Or.inl ⟨by rfl, fun w' hw => by go_simp⟩) hHeld ?_
            try simp only [Act.put, List.setIfInBounds_toArray, List.set_cons_zero, List.set_cons_succ]
            refine wpAnyH_take (i := 2) (oi := ⟨some 76, _, _, _, _, _⟩) (v := .int .u64 (i : Int)) rfl (by kernel_rfl) (by kernel_rfl) (by kernel_rfl) (fun _ _ _ h => h) (Or.inl ⟨by rfl, fun w' hw => by go_simp⟩) hHeld ?_
            try simp only [Act.put, List.setIfInBounds_toArray, List.set_cons_zero, List.set_cons_succ]
            refine take_row 4 (oi := ⟨some 78, _, _, _, _, _⟩) (CA c).toList rfl (by kernel_rfl) (by kernel_rfl) (by kernel_rfl) (fun _ _ _ h => h) (by rfl) _ _ rfl _ _ rfl _ (fun _ h => h.rng) Try.underlying30 rfl (infoCellL c) hHeld ?_
            try simp only [Act.put, List.setIfInBounds_toArray, List.set_cons_zero, List.set_cons_succ]
            refine one_ready 3 rfl (by kernel_rfl) (fun K hK => ?_)
            go_simp
            refine (get_any _ p N 0 (i : Int) _ (HO10.out.drewN 1) HN3.out (by omega) (by omega) (by rw [HN2.out]; omega)).mono ?_
            rw [HN2.out, show ((0 : Int).toNat) = 0 from rfl, gt_in i _ 20 hlt2, HN1.out, HDI.out]
            rintro e w11 ⟨rfl, ho, hk⟩
            have HE : Hid (PutsAt W Y p g C D A7 (i + 1) w11) := by
              refine ⟨⟨_, ho.weak (fun b hb => .inl hb), HN1.out, HN2.out, HN3.out, ?_⟩, (HK10.out.drewN 1).trans (hk.mono (fun b hb => .inl (HY1.out b hb))), fun j hj => hk.range (rg_drew' (HR10.out j hj)) (.inl HY2.out), (HT10.out.none' ((Only.refl nobody w10).drewN 1)).kept (hk.mono (fun b hb => .inl hb))⟩
              rw [looked_len]; omega
            have hV := hHeld.kept hk (.inr rfl)
            clear ho hk HO10 HK10 HR10 HT10
            refine hK.out _ _ (hV) (fun hHeld => ?_)
            clear hK K
            try simp only [Act.put, List.setIfInBounds_toArray, List.set_cons_zero, List.set_cons_succ]
            refine wpAnyH_take (i := 5) (oi := ⟨some 79, _, _, _, _, _⟩) (v := .bool false) rfl (by kernel_rfl) (by kernel_rfl) (by kernel_rfl) (fun _ _ _ h => h) (Or.inl ⟨by rfl, fun w' hw => by go_simp⟩) hHeld ?_
            try simp only [Act.put, List.setIfInBounds_toArray, List.set_cons_zero, List.set_cons_succ]
            refine wpAnyH_done (by kernel_rfl) ?_ _
            go_wp2_with fail
            go_roundw
            case rel => exact ⟨i + 1, by go_num, by omega, HE.out⟩
            case measure => simp [intOf]; omega
        · obtain rfl : i = 20 := by omega
          have HK := Lib.hid HP.out.kept
          have HT := Lib.hid HP.out.told.view
          clear HP
          go_wp2_with fail
          refine (writes_any 0 20 (by decide) _).mono ?_
          rintro e w14 ⟨A14, c14, rfl, hv, ho⟩
          rw [iwrites_len, show (20 * 2 : Nat) = 40 from rfl]
          have V14 := Lib.hid hv
          have HT' := Lib.hid (HT.out.only ho)
          have K14 := Lib.hid (HK.out.trans (Kept.of_none ho))
          clear hv ho HT HK
          go_wp2_with fail
          refine (same_told A7 A14 40 c7 c14 (iwrites 0 20) _ _ (iwrites_len 0 20) rfl HT'.out V14.out (by omega)).mono ?_
          rintro e w15 ⟨rfl, ho⟩
          have K15 := Lib.hid ((K14.out.trans (Kept.of_none ho)).below (B := W.heap.size) (Nat.le_refl _) (fun i hi => hi))
          clear ho K14 V14 HT'
          go_wp2_with fail
          go_ret
          exact ⟨rfl, K15.out⟩
set_option linter.unusedSimpArgs false in
set_option maxRecDepth 100000 in
set_option maxHeartbeats 2000000 in
theorem puts_off (a : Option Addr) (n cap : Nat) (z : Nat → Int) (at' x : Int) (W : World) (hn : n ≤ 40) (hz : Nums .u64 W W.heap.size a n z) (a0 : 0 ≤ at') (a1 : at' ≤ 18446744073709551615) :
    Calls Try.prog 4 #[.slice a n cap, .int .u64 at', .int .u64 x, .bool false] W (Yes W) := by
  have HZ := Lib.hid hz
  clear hz
  go_enter Try.func4, Try.ntmps4
  go_wp2_with fail
  refine (shown_any W).mono ?_
  rintro e w0 ⟨rfl, hb0⟩
  have B0 := Lib.hid hb0
  have K0 : Hid (Kept (old W) W w0) := Only.of_below hb0
  clear hb0
  go_wp2_with fail
  refine (laid_any 1 20 a n cap W.heap.size z _ (by decide) (by decide) (by decide) (by decide) (HZ.out.below B0.out) B0.out.size).mono ?_
  rintro e w1 ⟨p, q, rfl, hm, ho⟩
  have O1 := Lib.hid (hm.left.weak (Y := old W) (fun i (hi : i < W.heap.size) => Nat.lt_of_lt_of_le hi B0.out.size))
  have K1 := Lib.hid (K0.out.trans (Kept.of_none ho))
  have hW1 : W.heap.size ≤ w1.heap.size := K1.out.size
  clear hm ho K0 B0
  have l1 := laidM_len 1 20 z (min n 20)
  have S1 : Hid ((laidM 1 20 z (min n 20)).size 0 = 20) := rfl
  have W1 := Lib.hid (laidM_wd 1 20 z (min n 20))
  have T1 : Hid (0 < (laidM 1 20 z (min n 20)).k ∧ (laidM 1 20 z (min n 20)).sz 0 = 20) := ⟨Nat.zero_lt_one, rfl⟩
  have hl1 : (laidM 1 20 z (min n 20)).es.length ≤ 20 := by rw [l1]; omega
  clear l1
  generalize laidM 1 20 z (min n 20) = M0 at *
  have R1 : Hid (WasAt W w1 p M0 0 (.slice none 0 0) w1) := ⟨⟨old W, by rw [looked_zero]; exact O1.out, fun _ h => h, fun b h => by simp [Value.ownBlock] at h⟩, World.ownsRow_nil _ _ _ _, K1.out, Nat.le_refl _⟩
  clear O1 K1
  go_wp2_with fail
  go_loopw [12, 13] (fun v12 v wr => ∃ i : Nat, v = .int .i64 i ∧ i ≤ 20 ∧ WasAt W w1 p M0 i v12 wr) (fun _ v _ => 20 - (intOf v).toNat)
  case atStart => exact ⟨0, rfl, Nat.zero_le _, R1.out⟩
  case round =>
    obtain ⟨i, rfl, hi, hI⟩ := hrel
    have HI := Lib.hid hI
    clear hI R1
    by_cases hlt : i < 20
    · have HST := Lib.hid (looked_step M0 0 i T1.out.1 (by rw [T1.out.2]; exact hlt))
      have HCL := Lib.hid (looked_cell M0 0 i T1.out.1 (by rw [T1.out.2]; exact hlt))
      have HEL : Hid ((M0.looked 0 i).es.length < 1000000000) := by show (M0.looked 0 i).es.length < 1000000000; rw [looked_len]; omega
      obtain ⟨X, hX0, hX1, hX2⟩ := HI.out.own
      have HX0 := Lib.hid hX0
      have HX1 := Lib.hid hX1
      have HX2 := Lib.hid hX2
      clear hX0 hX1 hX2
      obtain ⟨c, hc⟩ : ∃ c, M0.c 0 i = c := ⟨_, rfl⟩
      rw [hc] at HCL
      go_wp2_with fail
      refine (own_read _ p (M0.looked 0 i) _ (0 : Nat) (i : Int) HX0.out HEL.out).mono ?_
      rw [HST.out, HCL.out]
      rintro e w5 ⟨rfl, ho, hk⟩
      have O5 := Lib.hid ho
      have K5 := Lib.hid (HI.out.kept.trans (hk.mono HX1.out))
      have R5 := Lib.hid (own_block (w' := w5) HI.out.row (fun g hg => hk.block g (own_lt' HI.out.row hg).2 (fun k => k (HX2.out g hg))))
      have hl5 : w1.heap.size ≤ w5.heap.size := by have := hk.size; have := HI.out.lt; omega
      clear ho hk HX0
      go_wp2_with (first | with_reducible refine wpList_slice_cell rfl (.tmp 42) rfl c rfl ?_ | with_reducible refine wpList_append_where _ rfl (.tmp 39) (.tmp 43) 47 rfl w1.heap.size 30 (.agg (CA fun _ => 0)) 12 96 Try.underlying47 infoCellW rfl (by decide) u12 i (cellsL (M0.c 0) i) rfl (R5.out.alloc _) ⟨w5.heap.size, 0, none⟩ 1 1 (CA c).toList rfl rfl ?c0 (CA_onel c) ?c2 ?c3 ?c4 ?_)
      case c0 => exact CA_new w5 _ c rfl
      case c2 => simp only [maxLen]; omega
      case c3 => omega
      case c4 => simp; omega
      intro A cap1 w7 hown hgr hwh
      have HY : Hid (WasAt W w1 p M0 (i + 1) (.slice A (i + 1) cap1) w7) := by
        rw [← hc] at hown hgr
        exact WasAt.next hW1 O5.out HX1.out HX2.out R5.out K5.out hl5 hown hgr (by simpa using hwh)
      clear hown hgr hwh hc O5 K5 R5
      go_wp2_with fail
      go_roundw
      case rel => exact ⟨i + 1, by go_num, by omega, HY.out⟩
      case measure => simp [intOf]; omega
    · obtain rfl : i = 20 := by omega
      obtain ⟨g, cap1, rfl, X, hX0, hX1, hX2, hrow⟩ := HI.out.done (by decide)
      have HX0 := Lib.hid hX0
      have HX1 := Lib.hid hX1
      have HX2 := Lib.hid hX2
      have HROW := Lib.hid hrow
      have HKW := Lib.hid HI.out.kept
      obtain ⟨C, hC⟩ : ∃ C, M0.c 0 = C := ⟨_, rfl⟩
      rw [hC] at HROW
      have S2 : Hid ((M0.looked 0 20).size 0 = 20) := S1.out
      have W2 : Hid (M0.looked 0 20).wd := W1.out
      have C2 : Hid ((M0.looked 0 20).c 0 = C) := hC
      obtain ⟨lm, l2⟩ : ∃ lm, (M0.looked 0 20).es.length = lm := ⟨_, rfl⟩
      have hlm : lm ≤ 40 := by rw [← l2, looked_len]; omega
      clear hX0 hX1 hX2 hrow HI hC S1 W1 T1
      generalize M0.looked 0 20 = M1 at *
      go_wp2_with fail
      refine (own_many _ p M1 _ HX0.out).mono ?_
      rintro e w' ⟨rfl, rfl⟩
      rw [l2]
      go_wp2_with fail
      refine (cell_only x _).mono ?_
      rintro e w5 ⟨rfl, ho⟩
      have O5 := Lib.hid (HX0.out.none ho)
      have K5 := Lib.hid (HKW.out.trans (Kept.of_none ho))
      have R5 : Hid (∀ j, j < 20 → w5.rangeAt g (j * 12) (CA (C j)).toList) := fun j hj => (Kept.of_none (X := X) ho).range (HROW.out j hj) HX2.out
      clear ho HX0 HKW HROW
      go_wp2_with fail
      refine (put_any _ p M1 0 at' (cw x) false _ O5.out W2.out (wd_cw x) a0 a1 (by rw [S2.out]; omega)).mono ?_
      rw [S2.out, show ((0 : Int).toNat) = 0 from rfl]
      rintro e w6 ⟨rfl, ho, hk⟩
      have O6 := Lib.hid ho
      have K6 := Lib.hid (K5.out.trans (hk.mono HX1.out))
      have R6 : Hid (∀ j, j < 20 → w6.rangeAt g (j * 12) (CA (C j)).toList) := fun j hj => hk.range (R5.out j hj) HX2.out
      clear ho hk O5 K5 R5
      go_wp2_with fail
      refine (seen_writes _ p M1 0 at'.toNat (cw x) false 20 lm _ O6.out (fun _ => rfl) l2 (by omega)).mono ?_
      rw [show (20 * 2 : Nat) = 40 from rfl, show ((0 : Int).toNat) = 0 from rfl]
      rintro e w7 ⟨A7, c7, Y, rfl, ho, hv, hy, hk⟩
      have HY1 : Hid (∀ b, old W b → Y b) := fun b hb => hy b (HX1.out b hb)
      have HY2 : Hid (Y g) := hy g HX2.out
      obtain ⟨D, hD⟩ : ∃ D, (M1.anew 0 at'.toNat (cw x) false 20).c 0 = D := ⟨_, rfl⟩
      have HD : Hid (∀ j, j < 20 → D j = if j = at'.toNat ∧ false = true then cw x else C j) := fun j hj => by
        rw [← hD, anew_c, C2.out]
        by_cases e : j = at'.toNat ∧ false = true
        · rw [if_pos e, if_pos ⟨rfl, hj, e⟩]
        · rw [if_neg e, if_neg (fun h => e h.2.2)]
      have R7 : Hid (PutsAt W Y p g C D A7 0 w7) := by
        refine ⟨⟨_, ho, hD, S2.out, wd_anew W2.out (wd_cw x) _ _ _ _, ?_⟩, K6.out.trans (hk.mono HX1.out), fun j hj => hk.range (R6.out j hj) HX2.out, hv⟩
        rw [anew_len, l2]; omega
      clear ho hv hy hk O6 K6 R6 HX1 HX2 S2 W2 C2 hD
      go_wp2_with fail
      go_loopw [17] (fun v wr => ∃ i : Nat, v = .int .i64 i ∧ i ≤ 20 ∧ PutsAt W Y p g C D A7 i wr) (fun v _ => 20 - (intOf v).toNat)
      case atStart => exact ⟨0, rfl, Nat.zero_le _, R7.out⟩
      case round =>
        obtain ⟨i, rfl, hi, hP⟩ := hrel
        have HP := Lib.hid hP
        clear hP R7
        by_cases hlt2 : i < 20
        · obtain ⟨N, hN0, hN1, hN2, hN3, hN4⟩ := HP.out.own
          have HN0 := Lib.hid hN0
          have HN1 := Lib.hid hN1
          have HN2 := Lib.hid hN2
          have HN3 := Lib.hid hN3
          clear hN0 hN1 hN2 hN3
          have hu : IntKind.u64.wrap (i : Int) = (i : Int) := by rw [IntKind.wrap_u64]; omega
          have HRI := Lib.hid (HP.out.row i hlt2)
          obtain ⟨c, hc⟩ : ∃ c, C i = c := ⟨_, rfl⟩
          rw [hc] at HRI
          have HDI := Lib.hid (HD.out i hlt2)
          rw [hc] at HDI
          obtain ⟨w9, h9⟩ : ∃ v, v = wr := ⟨_, rfl⟩
          have HO8 := Lib.hid (HN0.out.alloc (.cells (CA c) 30))
          have HV8 := Lib.hid (Var.new wr c 30)
          rw [if_neg (fun h => by simp at h)] at HDI
          have HO10 := HO8
          have HV10 := HV8
          have HK10 := Lib.hid (HP.out.kept.alloc (.cells (CA c) 30))
          have HR10 : Hid (∀ j, j < 20 → (wr.alloc (.cells (CA c) 30)).rangeAt g (j * 12) (CA (C j)).toList) := fun j hj => World.rangeAt_alloc (HP.out.row j hj) _
          have HT10 : Hid (Seen Y (wr.alloc (.cells (CA c) 30)) A7 (iwrites 0 20)) := HP.out.told.none' ((Only.refl nobody wr).alloc _)
          clear HO8 HV8 HP h9
          go_wp2_with (first | with_reducible refine wpList_load_cell rfl (.tmp 63) rfl g (i * 12) rfl c HRI.out ?_ | with_reducible refine wpList_store_new rfl (.tmp 18) (.tmp 64) rfl rfl c rfl rfl ?_)
          generalize wr.alloc (.cells (CA c) 30) = w10 at *
          have hq := neq_cell c c
          rw [ceq_self, Bool.not_true] at hq
          refine held_S (S := fun w' => Var w' wr.heap.size c) 6 rfl (by kernel_rfl) HV10.out.drew (fun hHeld => ?_)
          simp only [Array.replicate_succ, Array.replicate_zero, List.push_toArray, List.nil_append, List.cons_append]
          refine wpAnyH_take (i := 0) (oi := ⟨some 74, _, _, _, _, _⟩) (v := .pointer (some ⟨p, 0, none⟩)) rfl (by kernel_rfl) (by kernel_rfl) (by kernel_rfl) (fun _ _ _ h => h) (Or.inl ⟨by rfl, fun w' hw => by go_simp⟩) hHeld ?_
          try simp only [Act.put, List.setIfInBounds_toArray, List.set_cons_zero, List.set_cons_succ]
          refine wpAnyH_take (i := 1) (oi := ⟨some 75, _, _, _, _, _⟩) (v := .int .i64 (i : Int)) rfl (by kernel_rfl) (by kernel_rfl) (by kernel_rfl) (fun _ _ _ h => h) (Or.inl ⟨by rfl, fun w' hw => by go_simp⟩) hHeld ?_
          try simp only [Act.put, List.setIfInBounds_toArray, List.set_cons_zero, List.set_cons_succ]
          refine wpAnyH_take (i := 2) (oi := ⟨some 76, _, _, _, _, _⟩) (v := .int .u64 (i : Int)) rfl (by kernel_rfl) (by kernel_rfl) (by kernel_rfl) (fun _ _ _ h => h) (Or.inl ⟨by rfl, fun w' hw => by go_simp⟩) hHeld ?_
          try simp only [Act.put, List.setIfInBounds_toArray, List.set_cons_zero, List.set_cons_succ]
          refine take_row 4 (oi := ⟨some 78, _, _, _, _, _⟩) (CA c).toList rfl (by kernel_rfl) (by kernel_rfl) (by kernel_rfl) (fun _ _ _ h => h) (by rfl) _ _ rfl _ _ rfl _ (fun _ h => h.rng) Try.underlying30 rfl (infoCellL c) hHeld ?_
          try simp only [Act.put, List.setIfInBounds_toArray, List.set_cons_zero, List.set_cons_succ]
          refine one_ready 3 rfl (by kernel_rfl) (fun K hK => ?_)
          go_simp
          refine (get_any _ p N 0 (i : Int) _ (HO10.out.drewN 1) HN3.out (by omega) (by omega) (by rw [HN2.out]; omega)).mono ?_
          rw [HN2.out, show ((0 : Int).toNat) = 0 from rfl, gt_in i _ 20 hlt2, HN1.out, HDI.out]
          rintro e w11 ⟨rfl, ho, hk⟩
          have HE : Hid (PutsAt W Y p g C D A7 (i + 1) w11) := by
            refine ⟨⟨_, ho.weak (fun b hb => .inl hb), HN1.out, HN2.out, HN3.out, ?_⟩, (HK10.out.drewN 1).trans (hk.mono (fun b hb => .inl (HY1.out b hb))), fun j hj => hk.range (rg_drew' (HR10.out j hj)) (.inl HY2.out), (HT10.out.none' ((Only.refl nobody w10).drewN 1)).kept (hk.mono (fun b hb => .inl hb))⟩
            rw [looked_len]; omega
          have hV := hHeld.kept hk (.inr rfl)
          clear ho hk HO10 HK10 HR10 HT10
          refine hK.out _ _ (hV) (fun hHeld => ?_)
          clear hK K
          try simp only [Act.put, List.setIfInBounds_toArray, List.set_cons_zero, List.set_cons_succ]
          refine wpAnyH_take (i := 5) (oi := ⟨some 79, _, _, _, _, _⟩) (v := .bool false) rfl (by kernel_rfl) (by kernel_rfl) (by kernel_rfl) (fun _ _ _ h => h) (Or.inl ⟨by rfl, fun w' hw => by go_simp⟩) hHeld ?_
          try simp only [Act.put, List.setIfInBounds_toArray, List.set_cons_zero, List.set_cons_succ]
          refine wpAnyH_done (by kernel_rfl) ?_ _
          go_wp2_with fail
          go_roundw
          case rel => exact ⟨i + 1, by go_num, by omega, HE.out⟩
          case measure => simp [intOf]; omega
        · obtain rfl : i = 20 := by omega
          have HK := Lib.hid HP.out.kept
          have HT := Lib.hid HP.out.told.view
          clear HP
          go_wp2_with fail
          refine (writes_any 0 20 (by decide) _).mono ?_
          rintro e w14 ⟨A14, c14, rfl, hv, ho⟩
          rw [iwrites_len, show (20 * 2 : Nat) = 40 from rfl]
          have V14 := Lib.hid hv
          have HT' := Lib.hid (HT.out.only ho)
          have K14 := Lib.hid (HK.out.trans (Kept.of_none ho))
          clear hv ho HT HK
          go_wp2_with fail
          refine (same_told A7 A14 40 c7 c14 (iwrites 0 20) _ _ (iwrites_len 0 20) rfl HT'.out V14.out (by omega)).mono ?_
          rintro e w15 ⟨rfl, ho⟩
          have K15 := Lib.hid ((K14.out.trans (Kept.of_none ho)).below (B := W.heap.size) (Nat.le_refl _) (fun i hi => hi))
          clear ho K14 V14 HT'
          go_wp2_with fail
          go_ret
          exact ⟨rfl, K15.out⟩
theorem puts_law (a : Option Addr) (n cap : Nat) (z : Nat → Int) (at' x : Int) (on : Bool) (W : World) (hn : n ≤ 9223372036854775807) (hz : Nums .u64 W W.heap.size a n z) (ha : (Lit.int .u64 at').wf = true) :
    Calls Try.prog 4 #[.slice a n cap, .int .u64 at', .int .u64 x, .bool on] W (Yes W) := by
  by_cases h : 40 < n
  · exact puts_out a n cap at' x on W hn h
  · cases on
    · exact puts_off a n cap z at' x W (by omega) hz (u64_rng ha).1 (u64_rng ha).2
    · exact puts_on a n cap z at' x W (by omega) hz (u64_rng ha).1 (u64_rng ha).2
end Go.Proofs.Ytgppediikggogaa
