/- policy.Victims: the cells of those that go first, in a new slice; nothing that was in memory changes. -/
import Derived.Test.YtigifbijmchdcaaPolSort
import Derived.Test.YtigifbijmchdcaaIntRow
import Derived.Lib.SliceRun
namespace Go.Proofs.Ytigifbijmchdcaa
open Go.RowKit Go.ChangeShapes Go.WideShapes Go.ChangeAt

theorem infoPit : (Try.prog.info? 29).map (fun i => (i.zero, i.size, i.bytes)) = some (some (.agg #[.int .i64 0, .int .u64 0, .bool false]), 3, 24) := by kernel_rfl
set_option maxHeartbeats 1000000 in
theorem ins_zero (v f : Value) (w : World) : Calls Try.prog 30 #[v, .int .i64 0, .int .i64 0, f] w fun e w' => e = .returned (.tuple #[]) ∧ w' = w := by
  go_enter Try.func30, Try.ntmps30
  go_wp2
  go_loopg [8] 1 (fun kx v wr => v = .int .i64 1 ∧ wr = w)
  case atStart => exact ⟨rfl, rfl⟩
  case round =>
    obtain ⟨rfl, rfl⟩ := hrel
    go_wp2
    go_end0
    exact ⟨rfl, rfl⟩
set_option maxHeartbeats 1000000 in
theorem stab_zero (v f : Value) (w : World) : Calls Try.prog 26 #[v, .int .i64 0, f] w fun e w' => e = .returned (.tuple #[]) ∧ w' = w := by
  go_enter Try.func26, Try.ntmps26
  go_wp2
  go_loopg [7, 8] 1 (fun kx v7 v8 wr => v7 = .int .i64 0 ∧ v8 = .int .i64 20 ∧ wr = w)
  case atStart => exact ⟨rfl, rfl, rfl⟩
  case round =>
    obtain ⟨rfl, rfl, rfl⟩ := hrel
    go_wp2_with fail
    refine (ins_zero _ _ _).mono ?_
    rintro e w2 ⟨rfl, rfl⟩
    go_wp2
    go_loopg [6, 7, 8, 9] 1 (fun kx v6 v7 v8 v9 wr => v6 = .int .i64 20 ∧ wr = w2)
    case atStart => exact ⟨rfl, rfl⟩
    case round =>
      obtain ⟨rfl, rfl⟩ := hrel
      go_wp2
      go_end0
      exact ⟨rfl, rfl⟩
set_option maxHeartbeats 1000000 in
theorem sort_zero (a : Option Addr) (cap : Nat) (f : Value) (w : World) : Calls Try.prog 23 #[.slice a 0 cap, f] w fun e w' => e = .returned (.tuple #[]) ∧ w' = w := by
  go_enter Try.func23, Try.ntmps23
  go_wp2_with fail
  refine (stab_zero _ _ _).mono ?_
  rintro e w2 ⟨rfl, rfl⟩
  go_wp2
  go_end0
  exact ⟨rfl, rfl⟩
set_option maxHeartbeats 1000000 in
/-- How many have their time over. -/
theorem count_any16 (a : Option Addr) (n cap : Nat) (y : Nat → Pi) (w : World) (hn : n ≤ 1000) (hP : Pits w w.heap.size a n y) :
    Calls Try.prog 21 #[.slice a n cap] w fun e w' => e = .returned (.int .i64 (expd (lsP n y) : Nat)) ∧ Below w.heap.size w w' := by
  have HP := Lib.hid hP
  clear hP
  go_enter Try.func21, Try.ntmps21
  go_wp2_with fail
  go_loopw [3, 5, 8] (fun v3 _ v8 wr => ∃ k : Nat, v3 = .int .i64 (expd (lsP k y) : Nat) ∧ v8 = .int .i64 k ∧ k ≤ n ∧ Below w.heap.size w wr) (fun _ _ v _ => n - (intOf v).toNat)
  case atStart => exact ⟨0, rfl, rfl, by omega, Below.refl _ _⟩
  case round =>
    obtain ⟨k, rfl, rfl, hk, hB⟩ := hrel
    have HB := Lib.hid hB
    clear hB
    have hle := expd_le (lsP k y)
    rw [lsP_len] at hle
    by_cases hlt : k < n
    · obtain ⟨b, off, rfl, hb, c0, c1, c2⟩ := (HP.out.below HB.out).at hlt
      have HE := Lib.hid (expd_succ k y)
      generalize expd (lsP k y) = q at *
      generalize y k = x at *
      obtain ⟨x1, x2, x3⟩ := x
      dsimp only at c0 c1 c2
      have hbs := HB.out.size
      have hbl : b < wr.heap.size := by omega
      obtain ⟨it, hit⟩ : ∃ it, wr.heap.size = it := ⟨_, rfl⟩
      have HIT := Lib.hid hit
      have hne : ¬ b = it := by omega
      have hio : w.heap.size ≤ it := by omega
      clear hbs hit
      go_upto_region 5 with fail
      have hbx : Box (wr.alloc (.cells #[.int .i64 x1, .int .u64 (x2 : Int), .bool x3] 29)) it 29 #[.int .i64 x1, .int .u64 (x2 : Int), .bool x3] := by rw [← HIT.out]; exact Box.new wr _ _
      have HB2 := Lib.hid (HB.out.alloc HB.out.size (.cells #[.int .i64 x1, .int .u64 (x2 : Int), .bool x3] 29))
      rw [HIT.out]
      generalize wr.alloc (.cells #[.int .i64 x1, .int .u64 (x2 : Int), .bool x3] 29) = w2 at *
      have k2 := hbx.cell 2
      clear HIT c0 c1 c2 hbx HB
      cases x3
      · go_wp2_with fail
        go_roundw
        case rel => exact ⟨k + 1, by rw [HE.out]; go_num, by go_num, by omega, HB2.out⟩
        case measure => simp [intOf]; omega
      · go_wp2_with fail
        go_roundw
        case rel => exact ⟨k + 1, by rw [HE.out]; go_num, by go_num, by omega, HB2.out⟩
        case measure => simp [intOf]; omega
    · obtain rfl : k = n := by omega
      go_wp2_with fail
      go_ret
      exact ⟨rfl, HB.out⟩
/-- What a row of items holds. -/
def PitAt (w : World) (g n : Nat) (d : Nat → Pi) : Prop := ∀ j, j < n → w.cell? ⟨g, j * 3, none⟩ = some (.int .i64 (d j).1) ∧ w.cell? ⟨g, j * 3 + 1, none⟩ = some (.int .u64 ((d j).2.1 : Int)) ∧ w.cell? ⟨g, j * 3 + 2, none⟩ = some (.bool (d j).2.2)
theorem PitAt.of {w w' : World} {g n : Nat} {d : Nat → Pi} (h : PitAt w g n d) (e : w'.heap[g]? = w.heap[g]?) : PitAt w' g n d := fun j hj =>
  ⟨(World.cell?_of_block (w := w) e).trans (h j hj).1, (World.cell?_of_block (w := w) e).trans (h j hj).2.1, (World.cell?_of_block (w := w) e).trans (h j hj).2.2⟩
theorem own_pitAt {w : World} {base g : Nat} {e : TypeId} {n cap : Nat} {y : Nat → Pi} (h : w.ownsRow base e 3 (.slice (some ⟨g, 0, none⟩) n cap) n (pil (lsP n y))) : base ≤ g ∧ g < w.heap.size ∧ n ≤ cap ∧ (∀ i, w.frozen? ⟨g, i, none⟩ = false) ∧ PitAt w g n y := by
  have h' := h
  have hlt := own_lt h (show _ = some g by rfl)
  refine ⟨hlt.1, hlt.2, ?_, ?_, fun j hj => ?_⟩
  · rcases h.2 with ⟨h1, _⟩ | ⟨g', cap', cur, e, _, _, hc, _⟩
    · cases h1
    · cases e; exact hc
  · rcases h.2 with ⟨h1, _⟩ | ⟨g', cap', cur, e, _, hg, _⟩
    · cases h1
    · cases e; exact fun i => Box.frozen (t := _) (cs := cur) hg i
  · have hl := pil_at (lsP n y) j (by rw [lsP_len]; exact hj)
    have e0 : (lsP n y)[j]'(by rw [lsP_len]; exact hj) = y j := by simp [lsP]
    rw [e0] at hl
    have q0 := h'.cells (g := g) rfl (j * 3) _ hl.1
    have q1 := h'.cells (g := g) rfl (j * 3 + 1) _ hl.2.1
    have q2 := h'.cells (g := g) rfl (j * 3 + 2) _ hl.2.2
    rw [add_plain, Nat.zero_add] at q0 q1 q2
    exact ⟨q0, q1, q2⟩
set_option maxHeartbeats 1000000 in
theorem clone_pits (b off n cap : Nat) (y : Nat → Pi) (w : World) (hn : 0 < n) (hn2 : n ≤ 1000) (hP : Pits w w.heap.size (some ⟨b, off, none⟩) n y) :
    Calls Try.prog 22 #[.slice (some ⟨b, off, none⟩) n cap] w fun e w' => ∃ g c, e = .returned (.slice (some ⟨g, 0, none⟩) n c) ∧ w.heap.size ≤ g ∧ g < w'.heap.size ∧ n ≤ c ∧ (∀ i, w'.frozen? ⟨g, i, none⟩ = false) ∧ PitAt w' g n y ∧ Below w.heap.size w w' := by
  have hnil : (binOp .eql 22 (.slice (some ⟨b, off, none⟩) n cap) (.slice none 0 0)).run Try.prog w = .ok (.bool false) w := Lib.run_eql_slice_nil w _ _ _ n cap 0 0 Try.underlying22
  have hnew : ∀ j u, (pil (lsP n y))[j]? = some u → (w.alloc (.cells #[] 29)).cell? ((⟨b, off, none⟩ : Addr).add j) = some u := by
    intro j u hu
    have hj : j < n * 3 := by
      have := (List.getElem?_eq_some_iff.1 hu).1; rwa [pil_len, lsP_len] at this
    have h3 : j / 3 < n := by omega
    obtain ⟨b', off', e, hb, c0, c1, c2⟩ := hP.at h3
    injection e with e
    injection e with e1 e2
    subst e1 e2
    have hl := pil_at (lsP n y) (j / 3) (by rw [lsP_len]; exact h3)
    have e0 : (lsP n y)[j / 3]'(by rw [lsP_len]; exact h3) = y (j / 3) := by simp [lsP]
    rw [e0] at hl
    rw [add_plain]
    have hj3 : j = j / 3 * 3 ∨ j = j / 3 * 3 + 1 ∨ j = j / 3 * 3 + 2 := by omega
    generalize j / 3 = q at *
    rcases hj3 with rfl | rfl | rfl
    · rw [World.cell?_alloc_past _ _ _ (World.block_lt_of_cell? w ⟨b, off + q * 3, none⟩ c0), c0, ← hu, hl.1]
    · rw [← Nat.add_assoc, World.cell?_alloc_past _ _ _ (World.block_lt_of_cell? w ⟨b, off + q * 3 + 1, none⟩ c1), c1, ← hu, hl.2.1]
    · rw [← Nat.add_assoc, World.cell?_alloc_past _ _ _ (World.block_lt_of_cell? w ⟨b, off + q * 3 + 2, none⟩ c2), c2, ← hu, hl.2.2]
  go_enter Try.func22, Try.ntmps22
  go_wp2_with (with_reducible refine wpList_append_fresh _ rfl (.tmp 5) (.tmp 6) 22 rfl 29 (.agg #[.int .i64 0, .int .u64 0, .bool false]) 3 24 Try.underlying22 infoPit rfl ⟨w.heap.size, 0, none⟩ rfl ⟨b, off, none⟩ n cap (pil (lsP n y)) rfl ?c1 hnew ?c2 ?c3 ?c4 ?_)
  case c1 => rw [pil_len, lsP_len]
  case c2 => simp only [maxLen]; omega
  case c3 => omega
  case c4 => intro h; omega
  intro c w1 ho hg
  go_wp2
  go_ret
  have h := own_pitAt ho
  exact ⟨_, c, rfl, by omega, h.2.1, h.2.2.1, h.2.2.2.1, h.2.2.2.2, ((Below.refl _ w).alloc (Nat.le_refl _) _).grown hg (by simp) (fun k e => by cases e)⟩
set_option maxHeartbeats 1000000 in
theorem clone_zero (a : Option Addr) (cap : Nat) (w : World) (ha : a = none → cap = 0) :
    Calls Try.prog 22 #[.slice a 0 cap] w fun e w' => ∃ A c, e = .returned (.slice A 0 c) ∧ Below w.heap.size w w' := by
  cases a with
  | none =>
    obtain rfl := ha rfl
    have hnil : (binOp .eql 22 (.slice none 0 0) (.slice none 0 0)).run Try.prog w = .ok (.bool true) w := Lib.run_eql_slice_nil w _ _ _ 0 0 0 0 Try.underlying22
    go_enter Try.func22, Try.ntmps22
    go_wp2_with fail
    go_ret
    exact ⟨⟨none, 0, rfl⟩, Below.refl _ _⟩
  | some p =>
    obtain ⟨b, off, sp⟩ := p
    have hnil : (binOp .eql 22 (.slice (some ⟨b, off, sp⟩) 0 cap) (.slice none 0 0)).run Try.prog w = .ok (.bool false) w := Lib.run_eql_slice_nil w _ _ _ 0 cap 0 0 Try.underlying22
    go_enter Try.func22, Try.ntmps22
    go_wp2_with fail
    go_ret
    exact ⟨_, _, rfl, (Below.refl _ w).alloc (Nat.le_refl _) _⟩
/-- The cells of those that go, out of what is in order. -/
theorem vic_at {n : Nat} {y d : Nat → Pi} {c b : Int} (h : (lsP n d).map kc = ranked (lsP n y)) {j : Nat} (hj : j < kMany (lsP n y) c b) : (victims (lsP n y) c b).getD j 0 = (d j).1 := by
  have hle := kMany_le (lsP n y) c b
  rw [lsP_len] at hle
  unfold victims
  rw [← h]
  rw [List.getD_eq_getElem?_getD, List.getElem?_map, List.getElem?_take, if_pos hj, List.getElem?_map, lsP_at n d j (by omega)]
  rfl
/-- In the middle of telling them. -/
structure VcAt (w : World) (gs g K n : Nat) (d : Nat → Pi) (k : Nat) (wr : World) : Prop where
  le : k ≤ K
  row : wr.rowIs g 3 K (fun i => .int .i64 (if i < k then (d i).1 else 0))
  old : w.heap.size ≤ g
  ne : gs ≠ g
  lt : gs < wr.heap.size
  its : PitAt wr gs n d
  below : Below w.heap.size w wr
theorem VcAt.next {w wr : World} {gs g K n : Nat} {d : Nat → Pi} {k : Nat} (h : VcAt w gs g K n d k wr) (hk : k < K) (ob : Obj) : VcAt w gs g K n d (k + 1) ((wr.alloc ob).setCell ⟨g, k, none⟩ (.int .i64 (d k).1)) := by
  have hg := h.row.lt
  refine ⟨hk, ((h.row.alloc ob).set _ _).congr fun i _ => ?_, h.old, h.ne, ?_, h.its.of ?_, (h.below.alloc h.below.size ob).setCell (p := ⟨g, k, none⟩) h.old _⟩
  · show (if i = k then _ else _) = _
    by_cases e : i = k
    · subst e; rw [if_pos rfl, if_pos (by omega)]
    · rw [if_neg e]
      by_cases e2 : i < k
      · rw [if_pos e2, if_pos (by omega)]
      · rw [if_neg e2, if_neg (by omega)]
  · have := h.lt; simp [World.setCell]; omega
  · exact (Below.heap_setCell _ ⟨g, k, none⟩ _ gs h.ne).trans (Below.heap_alloc wr ob gs h.lt)
def VicPost (w : World) (l : List Pi) (c b : Int) (e : Ending) (w' : World) : Prop :=
  ∃ g, e = .returned (.slice (some ⟨g, 0, none⟩) (kMany l c b) (kMany l c b)) ∧ Ir w' w.heap.size g (kMany l c b) (fun j => (victims l c b).getD j 0) ∧ Below w.heap.size w w'
set_option maxRecDepth 100000 in
set_option maxHeartbeats 2000000 in
theorem victims_any (a : Option Addr) (n cap : Nat) (y : Nat → Pi) (c b : Int) (w : World) (hn : n ≤ 1000) (ha : a = none → n = 0 ∧ cap = 0) (hP : Pits w w.heap.size a n y) :
    Calls Try.prog 18 #[.slice a n cap, .int .i64 c, .int .i64 b] w (VicPost w (lsP n y) c b) := by
  have HC := Lib.hid (fun W (h : Below w.heap.size w W) => count_any16 a n cap y W hn ((hP.below h).more h.size))
  have hle := expd_le (lsP n y)
  rw [lsP_len] at hle
  have hK : Hid (kMany (lsP n y) c b = (min (n : Int) (manyI n (expd (lsP n y)) c b)).toNat) := by show _ = _; unfold kMany; rw [lsP_len]
  have HM := Lib.hid (fun W => many_any n (expd (lsP n y) : Nat) c b W)
  have hm0 : 0 ≤ manyI n (expd (lsP n y) : Nat) c b := by unfold manyI; omega
  obtain ⟨K, hKK⟩ : ∃ K, K = kMany (lsP n y) c b := ⟨_, rfl⟩
  have hKn : K ≤ n := by have := kMany_le (lsP n y) c b; rw [lsP_len] at this; omega
  have HKK := Lib.hid hKK
  rw [← hKK] at hK
  clear hKK
  generalize expd (lsP n y) = q at *
  obtain ⟨M, hM⟩ : ∃ M : Nat, manyI n q c b = (M : Int) := ⟨_, (Int.toNat_of_nonneg hm0).symm⟩
  rw [hM] at hK HM
  have hmin : min (n : Int) (M : Int) = (K : Int) := by have := hK.out; omega
  clear hM hm0 hK
  have hmi := run_make_row' (P := Try.prog) 35 3 (.int .i64 0) 8 Try.underlying35 infoI64 rfl .i64 .i64 K (by omega) (by omega)
  have HPP := Lib.hid hP
  have HA := Lib.hid ha
  clear hP ha
  go_enter Try.func18, Try.ntmps18
  go_wp2_with fail
  refine (HC.out _ (Below.refl _ _)).mono ?_
  rintro e w1 ⟨rfl, hb1⟩
  have HB1 := Lib.hid hb1
  clear hb1 HC
  go_wp2_with fail
  refine (HM.out _).mono ?_
  rintro e w2 ⟨rfl, rfl⟩
  clear HM
  by_cases h0 : n = 0
  · subst h0
    have hK0 : K = 0 := by omega
    subst hK0
    have hm2 : min (0 : Int) (M : Int) = 0 := by omega
    have hmi0 : ∀ w, (Instr.makeSlice 35 (.int .i64 0) (.int .i64 0)).run Try.prog w = .ok (.slice (some ⟨w.heap.size, 0, none⟩) 0 0) (w.alloc (.cells (madeCells #[.int .i64 0] 0) 3)) := hmi
    have hC0 : ∀ W, Calls Try.prog 22 #[.slice a 0 cap] W fun e w' => ∃ A c, e = .returned (.slice A 0 c) ∧ Below W.heap.size W w' := fun W => clone_zero a cap W fun e => (HA.out e).2
    have HC0 := Lib.hid hC0
    clear hC0 hmin hmi
    go_wp2_with fail
    refine (HC0.out _).mono ?_
    rintro e w3 ⟨A, cp, rfl, hb3⟩
    have HB3 := Lib.hid (HB1.out.trans (hb3.mono HB1.out.size))
    clear hb3 HC0
    go_wp2_with fail
    refine (sort_zero _ _ _ _).mono ?_
    rintro e w4 ⟨rfl, rfl⟩
    obtain ⟨g, hg⟩ : ∃ g, w4.heap.size = g := ⟨_, rfl⟩
    have HR : Hid (w.heap.size ≤ g ∧ g < (w4.alloc (.cells (madeCells #[.int .i64 0] 0) 3)).heap.size ∧ Below w.heap.size w (w4.alloc (.cells (madeCells #[.int .i64 0] 0) 3))) := by
      rw [← hg]; exact ⟨HB3.out.size, by simp, HB3.out.alloc HB3.out.size _⟩
    have HG := Lib.hid hg
    clear hg HB3
    go_wp2_with fail
    rw [HG.out]
    generalize w4.alloc (.cells (madeCells #[.int .i64 0] 0) 3) = w5 at *
    go_loopw [10, 11, 32] (fun _ _ v wr => v = .int .i64 0 ∧ wr = w5) (fun _ _ v _ => 0)
    case atStart => exact ⟨rfl, rfl⟩
    case round =>
      obtain ⟨rfl, rfl⟩ := hrel
      go_wp2_with fail
      go_ret
      refine ⟨g, by rw [← HKK.out]; rfl, ⟨HR.out.1, HR.out.2.1, fun j hj => ?_⟩, HR.out.2.2⟩
      rw [← HKK.out] at hj
      omega
  · obtain ⟨bb, off, rfl, hbb, hcc⟩ := HPP.out (by omega)
    have HCl := Lib.hid (clone_pits bb off n cap y w2 (by omega) hn ((HPP.out.below HB1.out).more HB1.out.size))
    go_wp2_with fail
    refine HCl.out.mono ?_
    rintro e w3 ⟨gs, cs, rfl, hg0, hg1, hcap, hfz, hits, hb3⟩
    have hs3 := HB1.out.size
    have HSo := Lib.hid (sort_pits y n gs cs w3 hn hg1 (fun j hj => ⟨hits j hj, hfz⟩))
    have HB3 := Lib.hid (HB1.out.trans (hb3.mono HB1.out.size))
    clear hb3 HCl HB1 hits hfz
    go_wp2_with fail
    refine HSo.out.mono ?_
    rintro e w4 ⟨rfl, d, hd, hb4, hg4, hits4⟩
    have HB4 := Lib.hid (HB3.out.trans (hb4.mono (by have := HB3.out.size; omega)))
    have HV : Hid (∀ j, j < K → (victims (lsP n y) c b).getD j 0 = (d j).1) := fun j hj => vic_at hd (by rw [← HKK.out]; exact hj)
    obtain ⟨g, hg⟩ : ∃ g, w4.heap.size = g := ⟨_, rfl⟩
    have hVc : VcAt w gs g K n d 0 (w4.alloc (.cells (madeCells #[.int .i64 0] K) 3)) := by
      rw [← hg]
      refine ⟨by omega, (World.rowIs_made w4 (.int .i64 0) K 3).congr fun k _ => by simp, HB4.out.size, by omega, by simp; omega, PitAt.of hits4 (Below.heap_alloc w4 _ gs hg4), HB4.out.alloc HB4.out.size _⟩
    have HVc := Lib.hid hVc
    have HG := Lib.hid hg
    clear hb4 hits4 hd HSo HB3 hVc hg hcc
    have hKc : K ≤ cs := by omega
    go_wp2_with fail
    rw [HG.out]
    go_loopw [10, 11, 32] (fun _ _ v wr => ∃ k : Nat, v = .int .i64 k ∧ VcAt w gs g K n d k wr) (fun _ _ v _ => K - (intOf v).toNat)
    case atStart => exact ⟨0, rfl, HVc.out⟩
    case round =>
      obtain ⟨k, rfl, hS⟩ := hrel
      clear HVc
      have hle2 := hS.le
      by_cases hlt : k < K
      · obtain ⟨c0, c1, c2⟩ := hS.its k (by omega)
        have HN := Lib.hid (fun ob => hS.next hlt ob)
        have r0 := (hS.row.cell hlt)
        have HR := Lib.hid (fun ob => hS.row.alloc ob)
        have hgl := hS.row.lt
        have hgsl := hS.lt
        clear hS
        generalize hdk : d k = x at *
        obtain ⟨x1, x2, x3⟩ := x
        dsimp only at c0 c1 c2 HN
        obtain ⟨it, hit⟩ : ∃ it, wr.heap.size = it := ⟨_, rfl⟩
        have HIT := Lib.hid hit
        have HDK := Lib.hid hdk
        have hne : ¬ g = it := by omega
        clear hit hdk
        go_upto_region 8 with fail
        have hbx : Box (wr.alloc (.cells #[.int .i64 x1, .int .u64 (x2 : Int), .bool x3] 29)) it 29 #[.int .i64 x1, .int .u64 (x2 : Int), .bool x3] := by rw [← HIT.out]; exact Box.new wr _ _
        have q0 := (HR.out (.cells #[.int .i64 x1, .int .u64 (x2 : Int), .bool x3] 29)).cell hlt
        have q1 := (HR.out (.cells #[.int .i64 x1, .int .u64 (x2 : Int), .bool x3] 29)).frozen k
        have HN2 := Lib.hid (HN.out (.cells #[.int .i64 x1, .int .u64 (x2 : Int), .bool x3] 29))
        rw [HIT.out]
        generalize wr.alloc (.cells #[.int .i64 x1, .int .u64 (x2 : Int), .bool x3] 29) = w6 at *
        have k0 := hbx.cell 0
        clear HIT HN HR c0 c1 c2 r0 hbx
        go_wp2_with fail
        go_roundw
        case rel => exact ⟨k + 1, by go_num, HN2.out⟩
        case measure => simp [intOf]; omega
      · obtain rfl : k = K := by omega
        have HS := Lib.hid hS
        clear hS hlt hle2
        go_wp2_with fail
        go_ret
        refine ⟨g, by rw [← HKK.out]; rfl, ⟨HS.out.old, HS.out.row.lt, fun j hj => ?_⟩, HS.out.below⟩
        rw [← HKK.out] at hj
        have := HS.out.row.cell hj
        rw [if_pos hj] at this
        rw [HV.out j hj]
        exact this
end Go.Proofs.Ytigifbijmchdcaa
