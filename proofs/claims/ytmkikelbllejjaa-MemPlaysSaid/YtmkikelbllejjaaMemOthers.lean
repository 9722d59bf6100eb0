/- The walk of the law on others: what is written to one cell does not change another one. Conditions: the looks' words are numbers. -/
import Derived.Test.YtmkikelbllejjaaMemVals
import Derived.Test.YtmkikelbllejjaaGrow
import Derived.Test.YtmkikelbllejjaaMemParts
import Derived.Deep.Cut
namespace Go.Proofs.Ytmkikelbllejjaa
open Go.RowKit Go.ChangeShapes Go.WideShapes Go.ChangeAt

/-- The two looks' own blocks. -/
def twoBoxes (W : World) (x y : Lk) : World := (W.alloc (.cells #[.int .i64 x.1, .int .i64 x.2.1, .int .u64 x.2.2.1, .bool x.2.2.2] 34)).alloc (.cells #[.int .i64 y.1, .int .i64 y.2.1, .int .u64 y.2.2.1, .bool y.2.2.2] 34)
/-- What stands while the law is walked: what was there, and both looks' cells. -/
def Ot (V : World) (b c : Nat) (x y : Lk) (w' : World) : Prop := Kept (old V) V w' ∧ (w'.cell? ⟨b, 0, none⟩ = some (.int .i64 x.1) ∧ w'.cell? ⟨b, 1, none⟩ = some (.int .i64 x.2.1) ∧ w'.cell? ⟨b, 2, none⟩ = some (.int .u64 x.2.2.1)) ∧
  (w'.cell? ⟨c, 0, none⟩ = some (.int .i64 y.1) ∧ w'.cell? ⟨c, 1, none⟩ = some (.int .i64 y.2.1) ∧ w'.cell? ⟨c, 2, none⟩ = some (.int .u64 y.2.2.1))
section
variable {V w1 w2 : World} {X : Nat → Prop} {b c : Nat} {x y : Lk}
theorem Ot.kept (h : Ot V b c x y w1) (hk : Kept X w1 w2) (hb : X b) (hc : X c) (hX : ∀ i, old V i → X i) : Ot V b c x y w2 :=
  ⟨h.1.trans (hk.mono hX), ⟨hk.cell h.2.1.1 hb, hk.cell h.2.1.2.1 hb, hk.cell h.2.1.2.2 hb⟩, ⟨hk.cell h.2.2.1 hc, hk.cell h.2.2.2.1 hc, hk.cell h.2.2.2.2 hc⟩⟩
theorem Ot.none (h : Ot V b c x y w1) (ho : Only nobody w1 w2) : Ot V b c x y w2 := h.kept (X := fun _ => True) (Kept.of_none ho) trivial trivial (fun _ _ => trivial)
theorem Ot.new (W : World) (x y : Lk) : Ot (twoBoxes W x y) W.heap.size (W.heap.size + 1) x y (twoBoxes W x y) := by
  have h1 : Box (twoBoxes W x y) W.heap.size 34 #[.int .i64 x.1, .int .i64 x.2.1, .int .u64 x.2.2.1, .bool x.2.2.2] := (Box.new W _ _).alloc _
  have h2 : Box (twoBoxes W x y) (W.heap.size + 1) 34 #[.int .i64 y.1, .int .i64 y.2.1, .int .u64 y.2.2.1, .bool y.2.2.2] := by
    have := Box.new (W.alloc (.cells #[.int .i64 x.1, .int .i64 x.2.1, .int .u64 x.2.2.1, .bool x.2.2.2] 34)) 34 #[.int .i64 y.1, .int .i64 y.2.1, .int .u64 y.2.2.1, .bool y.2.2.2]
    simpa [twoBoxes] using this
  exact ⟨Kept.refl _ _, ⟨h1.cell 0, h1.cell 1, h1.cell 2⟩, ⟨h2.cell 0, h2.cell 1, h2.cell 2⟩⟩
end

/-- What there is at the end: the memory, what was read of both cells, and what was there. -/
structure Fin (V : World) (b c p xb yb : Nat) (x y : Lk) (M : MS) (f g : Nat → Int) (w' : World) : Prop where
  ot : Ot V b c x y w'
  own : Own w' (old V) p M
  xs : w'.rangeAt xb 0 (CA f).toList
  ys : w'.rangeAt yb 0 (CA g).toList
theorem Fin.none {V : World} {b c p xb yb : Nat} {x y : Lk} {M : MS} {f g : Nat → Int} {w1 w2 : World} (h : Fin V b c p xb yb x y M f g w1) (ho : Only nobody w1 w2) : Fin V b c p xb yb x y M f g w2 :=
  ⟨h.ot.none ho, h.own.none ho, (Kept.of_none (X := fun _ => True) ho).range h.xs trivial, (Kept.of_none (X := fun _ => True) ho).range h.ys trivial⟩

/-- Cells compared, as the walk spells one that was loaded. -/
theorem neq_lit (f : Nat → Int) (w : World) : (binOp .neq 37 (.agg #[.int .u64 (f 0), .int .u64 (f 1), .int .u64 (f 2), .int .u64 (f 3), .int .u64 (f 4), .int .u64 (f 5), .int .u64 (f 6), .int .u64 (f 7), .int .u64 (f 8), .int .u64 (f 9), .int .u64 (f 10), .int .u64 (f 11)]) (.agg (CA f))).run Try.prog w = .ok (.bool false) w := by
  have := neq_cell f f w
  rw [ceq_self] at this
  exact this
theorem eql_lit (f : Nat → Int) (w : World) : (binOp .eql 37 (.agg #[.int .u64 (f 0), .int .u64 (f 1), .int .u64 (f 2), .int .u64 (f 3), .int .u64 (f 4), .int .u64 (f 5), .int .u64 (f 6), .int .u64 (f 7), .int .u64 (f 8), .int .u64 (f 9), .int .u64 (f 10), .int .u64 (f 11)]) (.agg (CA f))).run Try.prog w = .ok (.bool true) w := by
  have := eql_cell f f w
  rw [ceq_self] at this
  exact this
theorem neq_nul (w : World) : (binOp .neq 37 (.agg #[.int .u64 0, .int .u64 0, .int .u64 0, .int .u64 0, .int .u64 0, .int .u64 0, .int .u64 0, .int .u64 0, .int .u64 0, .int .u64 0, .int .u64 0, .int .u64 0]) (.agg #[.int .u64 0, .int .u64 0, .int .u64 0, .int .u64 0, .int .u64 0, .int .u64 0, .int .u64 0, .int .u64 0, .int .u64 0, .int .u64 0, .int .u64 0, .int .u64 0])).run Try.prog w = .ok (.bool false) w := by
  have := neq_cell (fun _ => 0) (fun _ => 0) w
  rw [ceq_self] at this
  exact this
theorem cell_grow (n : Int) (w : World) : Calls Try.prog 12 #[.int .u64 n] w fun e w' => e = .returned (.agg (CA (cw n))) ∧ Only nobody w w' :=
  (cell_any n w).mono fun e w' ⟨he, hw⟩ => ⟨he, by rw [hw]; exact ((Only.refl _ _).alloc _).alloc _⟩
/-- What is read of two cells, both written. -/
theorem others_vals (r1 a1 : Int) (f1 : Nat → Int) (r2 a2 : Int) (f2 : Nat → Int) {n : Nat} {sz : Nat → Nat} {M0 M1 M2 M : MS} {f g : Nat → Int} (h0 : MS.new n sz = M0) (h1 : M0.write r1 a1 f1 = M1) (h2 : M1.write r2 a2 f2 = M2) (h3 : (M2.read r1 a1).read r2 a2 = M)
    (hf : M2.cell r1 a1 = f) (hg : (M2.read r1 a1).cell r2 a2 = g) :
    (M.hit r1 a1 = false → f = fun _ => 0) ∧ (M.hit r1 a1 = true → (decide (r1 = r2) && decide (a1 = a2)) = true → f = f2) ∧ (M.hit r1 a1 = true → (decide (r1 = r2) && decide (a1 = a2)) = false → f = f1) ∧
    (M.hit r2 a2 = false → g = fun _ => 0) ∧ (M.hit r2 a2 = true → g = f2) ∧ ((decide (r1 = r2) && decide (a1 = a2)) = true → M.hit r1 a1 = M.hit r2 a2) := by
  have e1 : ∀ x y, M.hit x y = M0.hit x y := fun x y => by rw [← h3, MS.hit_read, MS.hit_read, ← h2, MS.hit_write, ← h1, MS.hit_write]
  have e2 : ∀ x y, M2.cell x y = if M0.hit x y = true ∧ r2 = x ∧ a2 = y then f2 else if M0.hit x y = true ∧ r1 = x ∧ a1 = y then f1 else fun _ => 0 := fun x y => by
    rw [← h2, MS.cell_write, ← h1, MS.hit_write, MS.cell_write, ← h0, MS.new_cell]
  rw [MS.cell_read] at hg
  rw [e2] at hf hg
  simp only [Bool.and_eq_true, decide_eq_true_eq, Bool.and_eq_false_iff, decide_eq_false_iff_not, e1]
  refine ⟨fun h => ?_, fun h k => ?_, fun h k => ?_, fun h => ?_, fun h => ?_, fun k => ?_⟩
  · rw [← hf]; simp [h]
  · rw [← hf, if_pos ⟨h, k.1.symm, k.2.symm⟩]
  · rw [← hf, if_neg (by rintro ⟨_, e, e'⟩; rcases k with k | k; exact k e.symm; exact k e'.symm), if_pos ⟨h, rfl, rfl⟩]
  · rw [← hg]; simp [h]
  · rw [← hg, if_pos ⟨h, rfl, rfl⟩]
  · rw [k.1, k.2]

set_option maxRecDepth 100000 in
set_option maxHeartbeats 4000000 in
theorem others_any (x y : Lk) (W : World) :
    Calls Try.prog 7 #[.agg (lkc x), .agg (lkc y)] W (Yes W) := by
  obtain ⟨r1, a1, n1, v1⟩ := x
  obtain ⟨r2, a2, n2, v2⟩ := y
  obtain ⟨V, hV⟩ : ∃ V, twoBoxes W (r1, a1, n1, v1) (r2, a2, n2, v2) = V := ⟨_, rfl⟩
  have T0 := Lib.hid (Ot.new W (r1, a1, n1, v1) (r2, a2, n2, v2))
  have hsz : V.heap.size = W.heap.size + 2 := by rw [← hV]; simp [twoBoxes]
  have hVW : Below W.heap.size W V := by rw [← hV]; exact (((Only.refl nobody W).alloc _).alloc _).none
  rw [hV] at T0
  have HVW := Lib.hid hVW
  clear hVW
  show Calls Try.prog 7 #[.agg #[.int .i64 r1, .int .i64 a1, .int .u64 n1, .bool v1], .agg #[.int .i64 r2, .int .i64 a2, .int .u64 n2, .bool v2]] W (Yes W)
  go_enter Try.func7, Try.ntmps7
  go_wp2_with fail
  change Calls Try.prog 8 _ (twoBoxes W (r1, a1, n1, v1) (r2, a2, n2, v2)) _
  rw [hV]
  obtain ⟨b, hb⟩ : ∃ b, W.heap.size = b := ⟨_, rfl⟩
  rw [hb] at T0 hsz ⊢
  refine (shown_any V).mono ?_
  rintro e w0 ⟨rfl, hb0⟩
  have T0' := Lib.hid (T0.out.kept (X := old V) (Only.of_below hb0) (by show b < _; omega) (by show b + 1 < _; omega) (fun i h => h))
  have S0 := Lib.hid hb0.size
  clear hb0 T0 hV
  go_wp2_with fail
  refine (new_list [4, 3, 2] (by decide) w0 _ _ rfl).mono ?_
  rintro e w1 ⟨p, rfl, ho, hn⟩
  obtain ⟨M0, hM0⟩ : ∃ M, (MS.new [4, 3, 2].length fun i => [4, 3, 2].getD i 0) = M := ⟨_, rfl⟩
  rw [hM0] at ho
  have hl0 : M0.es.length = 0 := by rw [← hM0]; rfl
  have HM0 := Lib.hid hM0
  have O1 := Lib.hid (ho.weak (Y := old V) (fun i (hi : i < V.heap.size) => by show i < _; have := S0.out; simp; omega))
  have hT1 := T0'.out.none (((Only.refl nobody w0).alloc _).trans hn)
  have T1 := Lib.hid hT1
  clear ho hn T0' S0 hT1 hM0
  go_wp2_with fail
  have hT1 := T1.out
  go_region_held3 (fun w' => Kept (old V) V w' ∧ (w'.cell? ⟨b, 0, none⟩ = some (.int .i64 r1) ∧ w'.cell? ⟨b, 1, none⟩ = some (.int .i64 a1) ∧ w'.cell? ⟨b, 2, none⟩ = some (.int .u64 n1)) ∧ (w'.cell? ⟨b + 1, 0, none⟩ = some (.int .i64 r2) ∧ w'.cell? ⟨b + 1, 1, none⟩ = some (.int .i64 a2) ∧ w'.cell? ⟨b + 1, 2, none⟩ = some (.int .u64 n2))) (first | assumption | (exact Ot.none (x := (r1, a1, n1, v1)) (y := (r2, a2, n2, v2)) (by assumption) (Only.refl _ _).drew) | (exact Ot.none (x := (r1, a1, n1, v1)) (y := (r2, a2, n2, v2)) (by assumption) (((Only.refl _ _).alloc _).alloc _))) (first | (go_at_call 12; refine (cell_any _ _).mono ?_; rintro e w' ⟨rfl, rfl⟩) | (go_at_call 11; refine (own_write _ p M0 _ r1 a1 _ (O1.out.none (by first | exact (((Only.refl _ _).alloc _).alloc _).drew | exact ((Only.refl _ _).drew.alloc _).alloc _)) (by omega)).mono ?_; rintro e w2 ⟨rfl, hO, hk⟩; have O2 := Lib.hid hO; have hT2 : Ot V b (b + 1) (r1, a1, n1, v1) (r2, a2, n2, v2) w2 := Ot.kept (by assumption) hk (by show b < _; omega) (by show b + 1 < _; omega) (fun i h => h); clear hO hk))
  have T2 := Lib.hid hT2
  clear hT2 hT1 T1 O1
  obtain ⟨M1, hM1⟩ : ∃ M, M0.write r1 a1 (cw n1) = M := ⟨_, rfl⟩
  have hl1 : M1.es.length ≤ 1 := by rw [← hM1]; exact Nat.le_trans (len_write M0 r1 a1 _) (by omega)
  rw [hM1] at O2
  have HM1 := Lib.hid hM1
  clear hM1 hl0
  go_wp2_with fail
  have hT2 := T2.out
  go_region_held3 (fun w' => Kept (old V) V w' ∧ (w'.cell? ⟨b, 0, none⟩ = some (.int .i64 r1) ∧ w'.cell? ⟨b, 1, none⟩ = some (.int .i64 a1) ∧ w'.cell? ⟨b, 2, none⟩ = some (.int .u64 n1)) ∧ (w'.cell? ⟨b + 1, 0, none⟩ = some (.int .i64 r2) ∧ w'.cell? ⟨b + 1, 1, none⟩ = some (.int .i64 a2) ∧ w'.cell? ⟨b + 1, 2, none⟩ = some (.int .u64 n2))) (first | assumption | (exact Ot.none (x := (r1, a1, n1, v1)) (y := (r2, a2, n2, v2)) (by assumption) (Only.refl _ _).drew) | (exact Ot.none (x := (r1, a1, n1, v1)) (y := (r2, a2, n2, v2)) (by assumption) (((Only.refl _ _).alloc _).alloc _))) (first | (go_at_call 12; refine (cell_any _ _).mono ?_; rintro e w' ⟨rfl, rfl⟩) | (go_at_call 11; refine (own_write _ p M1 _ r2 a2 _ (O2.out.none (by first | exact (((Only.refl _ _).alloc _).alloc _).drew | exact ((Only.refl _ _).drew.alloc _).alloc _)) (by omega)).mono ?_; rintro e w3 ⟨rfl, hO, hk⟩; have O3 := Lib.hid hO; have hT3 : Ot V b (b + 1) (r1, a1, n1, v1) (r2, a2, n2, v2) w3 := Ot.kept (by assumption) hk (by show b < _; omega) (by show b + 1 < _; omega) (fun i h => h); clear hO hk))
  have T3 := Lib.hid hT3
  clear hT3 hT2 T2 O2
  obtain ⟨M2, hM2⟩ : ∃ M, M1.write r2 a2 (cw n2) = M := ⟨_, rfl⟩
  have hl2 : M2.es.length ≤ 2 := by rw [← hM2]; exact Nat.le_trans (len_write M1 r2 a2 _) (by omega)
  rw [hM2] at O3
  have HM2 := Lib.hid hM2
  clear hM2 hl1
  have c0 := T3.out.2.1.1
  have c1 := T3.out.2.1.2.1
  dsimp only at c0 c1
  go_wp2_with fail
  refine (own_read _ p M2 _ r1 a1 O3.out (by omega)).mono ?_
  obtain ⟨f, hf⟩ : ∃ f, M2.cell r1 a1 = f := ⟨_, rfl⟩
  rw [hf]
  have HF := Lib.hid hf
  rintro e w4 ⟨rfl, hO, hk⟩
  have O4 := Lib.hid (hO.alloc (.cells (CA f) 37))
  have T4 := Lib.hid ((T3.out.kept hk (by show b < _; omega) (by show b + 1 < _; omega) (fun i h => h)).none ((Only.refl nobody _).alloc (.cells (CA f) 37)))
  have R4 := Lib.hid (rg_new w4 f 37 _ rfl)
  have hbx : b + 2 ≤ w4.heap.size := by have := hk.size; have := T3.out.1.size; omega
  clear hO hk O3 T3 hf c0 c1
  have c0 := T4.out.2.2.1
  have c1 := T4.out.2.2.2.1
  dsimp only at c0 c1
  go_wp2_with (refine wpList_store_new rfl (.tmp 8) (.tmp 48) rfl rfl _ rfl rfl ?_)
  obtain ⟨xb, hxb⟩ : ∃ xb, w4.heap.size = xb := ⟨_, rfl⟩
  refine (own_read _ p (M2.read r1 a1) _ r2 a2 O4.out (by have := len_read M2 r1 a1; omega)).mono ?_
  obtain ⟨g, hg⟩ : ∃ g, (M2.read r1 a1).cell r2 a2 = g := ⟨_, rfl⟩
  rw [hg]
  have HG := Lib.hid hg
  rintro e w5 ⟨rfl, hO, hk⟩
  have F5 := Lib.hid (show Fin V b (b + 1) p w4.heap.size w5.heap.size (r1, a1, n1, v1) (r2, a2, n2, v2) ((M2.read r1 a1).read r2 a2) f g (w5.alloc (.cells (CA g) 37)) from
    ⟨(T4.out.kept hk (.inl (by show b < _; omega)) (.inl (by show b + 1 < _; omega)) (fun i h => .inl h)).none ((Only.refl nobody _).alloc _), (hO.none ((Only.refl nobody _).alloc _)).weak (fun i h => .inl h), World.rangeAt_alloc (hk.range R4.out (.inr rfl)) _, rg_new w5 g 37 _ rfl⟩)
  clear hO hk O4 T4 R4 hg c0 c1
  rw [hxb] at F5 hbx ⊢
  clear hxb
  go_wp2_with (refine wpList_store_new rfl (.tmp 9) (.tmp 54) rfl rfl _ rfl rfl ?_)
  obtain ⟨yb, hyb⟩ : ∃ yb, w5.heap.size = yb := ⟨_, rfl⟩
  obtain ⟨w6, hw6⟩ : ∃ w6, w5.alloc (.cells (CA g) 37) = w6 := ⟨_, rfl⟩
  obtain ⟨M, hM⟩ : ∃ M, (M2.read r1 a1).read r2 a2 = M := ⟨_, rfl⟩
  rw [hyb, hw6] at F5 ⊢
  rw [hM] at F5
  have HM := Lib.hid hM
  clear hyb hw6 hM
  simp only [Act.put]
  go_cut [10] from 13 (fun s w' => s = .bool (M.hit r1 a1) ∧ Fin V b (b + 1) p xb yb (r1, a1, n1, v1) (r2, a2, n2, v2) M f g w')
  case first =>
    have c0 := F5.out.ot.2.1.1
    have c1 := F5.out.ot.2.1.2.1
    dsimp only at c0 c1
    by_cases h0 : 0 ≤ a1
    · have HE : Hid (M.hit r1 a1 = decide (a1 < (M.size r1 : Int))) := by
        show M.hit r1 a1 = decide (a1 < (M.size r1 : Int))
        unfold MS.hit; exact decide_eq_decide.2 (by omega)
      go_quiet (first | (go_at_call 18; exact quiet_eq (own_size _ p M _ r1 (F5.out.own.drewN _))))
      go_wp2_with fail
      go_meet
      case rel => exact ⟨by rw [HE.out], F5.out.none ((Only.refl _ _).drewN _)⟩
    · have HE : Hid (M.hit r1 a1 = false) := decide_eq_false (by omega)
      have hd : decide (0 ≤ a1) = false := decide_eq_false h0
      go_quiet (first | (go_at_call 18; exact quiet_eq (own_size _ p M _ r1 (F5.out.own.drewN _))))
      go_wp2_with fail
      go_meet
      case rel => exact ⟨by rw [HE.out], F5.out.none ((Only.refl _ _).drewN _)⟩
  case rest =>
    obtain ⟨rfl, hF6⟩ := hcut
    have F6 := Lib.hid hF6
    clear hF6 F5
    go_wp2_with fail
    go_cut [11] from 13 (fun s w' => s = .bool (M.hit r2 a2) ∧ Fin V b (b + 1) p xb yb (r1, a1, n1, v1) (r2, a2, n2, v2) M f g w')
    case first =>
      have c0 := F6.out.ot.2.2.1
      have c1 := F6.out.ot.2.2.2.1
      dsimp only at c0 c1
      by_cases h0 : 0 ≤ a2
      · have HE : Hid (M.hit r2 a2 = decide (a2 < (M.size r2 : Int))) := by
          show M.hit r2 a2 = decide (a2 < (M.size r2 : Int))
          unfold MS.hit; exact decide_eq_decide.2 (by omega)
        go_quiet (first | (go_at_call 18; exact quiet_eq (own_size _ p M _ r2 (F6.out.own.drewN _))))
        go_wp2_with fail
        go_meet
        case rel => exact ⟨by rw [HE.out], F6.out.none ((Only.refl _ _).drewN _)⟩
      · have HE : Hid (M.hit r2 a2 = false) := decide_eq_false (by omega)
        have hd : decide (0 ≤ a2) = false := decide_eq_false h0
        go_quiet (first | (go_at_call 18; exact quiet_eq (own_size _ p M _ r2 (F6.out.own.drewN _))))
        go_wp2_with fail
        go_meet
        case rel => exact ⟨by rw [HE.out], F6.out.none ((Only.refl _ _).drewN _)⟩
    case rest =>
      obtain ⟨rfl, hF7⟩ := hcut
      have F7 := Lib.hid hF7
      clear hF7 F6
      go_upto_region 11 with fail
      go_cut [12] from 13 (fun s w' => s = .bool (decide (r1 = r2) && decide (a1 = a2)) ∧ Fin V b (b + 1) p xb yb (r1, a1, n1, v1) (r2, a2, n2, v2) M f g w')
      case first =>
        have c0 := F7.out.ot.2.1.1
        have c1 := F7.out.ot.2.1.2.1
        have d0 := F7.out.ot.2.2.1
        have d1 := F7.out.ot.2.2.2.1
        dsimp only at c0 c1 d0 d1
        by_cases h1 : r1 = r2
        · by_cases h2 : a1 = a2
          · go_wp2_with fail
            go_meet
            case rel => exact ⟨by simp [h1, h2], F7.out⟩
          · go_wp2_with fail
            go_meet
            case rel => exact ⟨by simp [h1, h2], F7.out⟩
        · go_wp2_with fail
          go_meet
          case rel => exact ⟨by simp [h1], F7.out⟩
      case rest =>
        obtain ⟨rfl, hF8⟩ := hcut
        have F8 := Lib.hid hF8
        clear hF8 F7
        obtain ⟨v1', v2', v3', v4', v5', v6'⟩ := others_vals r1 a1 (cw n1) r2 a2 (cw n2) HM0.out HM1.out HM2.out HM.out HF.out HG.out
        obtain ⟨one, hone⟩ : ∃ one, M.hit r1 a1 = one := ⟨_, rfl⟩
        obtain ⟨two, htwo⟩ : ∃ two, M.hit r2 a2 = two := ⟨_, rfl⟩
        obtain ⟨sm, hsm⟩ : ∃ sm, (decide (r1 = r2) && decide (a1 = a2)) = sm := ⟨_, rfl⟩
        rw [hone] at v1'
        rw [hone, hsm] at v2' v3'
        rw [htwo] at v4' v5'
        rw [hone, htwo, hsm] at v6'
        rw [hone, htwo, hsm]
        have HV := Lib.hid (And.intro v1' (And.intro v2' (And.intro v3' (And.intro v4' (And.intro v5' v6')))))
        clear v1' v2' v3' v4' v5' v6' hone htwo hsm
        have H8 := Lib.hid (HVW.out.trans (F8.out.ot.1.below (B := W.heap.size) (by omega) (fun i (hi : i < _) => by show i < V.heap.size; omega)))
        cases one
        · cases two
          · skip
            obtain rfl : f = fun _ => 0 := HV.out.1 rfl
            obtain rfl : g = fun _ => 0 := HV.out.2.2.2.1 rfl
            go_wp2_with fail
            have x0 := Gr.cell (w := wc) (v := .int .u64 (0)) ((F8.out.xs 0 _ rfl : wc.cell? ⟨xb, 0 + 0, none⟩ = _))
            have x1 := Gr.cell (w := wc) (v := .int .u64 (0)) ((F8.out.xs 1 _ rfl : wc.cell? ⟨xb, 0 + 1, none⟩ = _))
            have x2 := Gr.cell (w := wc) (v := .int .u64 (0)) ((F8.out.xs 2 _ rfl : wc.cell? ⟨xb, 0 + 2, none⟩ = _))
            have x3 := Gr.cell (w := wc) (v := .int .u64 (0)) ((F8.out.xs 3 _ rfl : wc.cell? ⟨xb, 0 + 3, none⟩ = _))
            have x4 := Gr.cell (w := wc) (v := .int .u64 (0)) ((F8.out.xs 4 _ rfl : wc.cell? ⟨xb, 0 + 4, none⟩ = _))
            have x5 := Gr.cell (w := wc) (v := .int .u64 (0)) ((F8.out.xs 5 _ rfl : wc.cell? ⟨xb, 0 + 5, none⟩ = _))
            have x6 := Gr.cell (w := wc) (v := .int .u64 (0)) ((F8.out.xs 6 _ rfl : wc.cell? ⟨xb, 0 + 6, none⟩ = _))
            have x7 := Gr.cell (w := wc) (v := .int .u64 (0)) ((F8.out.xs 7 _ rfl : wc.cell? ⟨xb, 0 + 7, none⟩ = _))
            have x8 := Gr.cell (w := wc) (v := .int .u64 (0)) ((F8.out.xs 8 _ rfl : wc.cell? ⟨xb, 0 + 8, none⟩ = _))
            have x9 := Gr.cell (w := wc) (v := .int .u64 (0)) ((F8.out.xs 9 _ rfl : wc.cell? ⟨xb, 0 + 9, none⟩ = _))
            have x10 := Gr.cell (w := wc) (v := .int .u64 (0)) ((F8.out.xs 10 _ rfl : wc.cell? ⟨xb, 0 + 10, none⟩ = _))
            have x11 := Gr.cell (w := wc) (v := .int .u64 (0)) ((F8.out.xs 11 _ rfl : wc.cell? ⟨xb, 0 + 11, none⟩ = _))
            simp only [Nat.zero_add] at x0 x1 x2 x3 x4 x5 x6 x7 x8 x9 x10 x11
            have y0 := Gr.cell (w := wc) (v := .int .u64 (0)) ((F8.out.ys 0 _ rfl : wc.cell? ⟨yb, 0 + 0, none⟩ = _))
            have y1 := Gr.cell (w := wc) (v := .int .u64 (0)) ((F8.out.ys 1 _ rfl : wc.cell? ⟨yb, 0 + 1, none⟩ = _))
            have y2 := Gr.cell (w := wc) (v := .int .u64 (0)) ((F8.out.ys 2 _ rfl : wc.cell? ⟨yb, 0 + 2, none⟩ = _))
            have y3 := Gr.cell (w := wc) (v := .int .u64 (0)) ((F8.out.ys 3 _ rfl : wc.cell? ⟨yb, 0 + 3, none⟩ = _))
            have y4 := Gr.cell (w := wc) (v := .int .u64 (0)) ((F8.out.ys 4 _ rfl : wc.cell? ⟨yb, 0 + 4, none⟩ = _))
            have y5 := Gr.cell (w := wc) (v := .int .u64 (0)) ((F8.out.ys 5 _ rfl : wc.cell? ⟨yb, 0 + 5, none⟩ = _))
            have y6 := Gr.cell (w := wc) (v := .int .u64 (0)) ((F8.out.ys 6 _ rfl : wc.cell? ⟨yb, 0 + 6, none⟩ = _))
            have y7 := Gr.cell (w := wc) (v := .int .u64 (0)) ((F8.out.ys 7 _ rfl : wc.cell? ⟨yb, 0 + 7, none⟩ = _))
            have y8 := Gr.cell (w := wc) (v := .int .u64 (0)) ((F8.out.ys 8 _ rfl : wc.cell? ⟨yb, 0 + 8, none⟩ = _))
            have y9 := Gr.cell (w := wc) (v := .int .u64 (0)) ((F8.out.ys 9 _ rfl : wc.cell? ⟨yb, 0 + 9, none⟩ = _))
            have y10 := Gr.cell (w := wc) (v := .int .u64 (0)) ((F8.out.ys 10 _ rfl : wc.cell? ⟨yb, 0 + 10, none⟩ = _))
            have y11 := Gr.cell (w := wc) (v := .int .u64 (0)) ((F8.out.ys 11 _ rfl : wc.cell? ⟨yb, 0 + 11, none⟩ = _))
            simp only [Nat.zero_add] at y0 y1 y2 y3 y4 y5 y6 y7 y8 y9 y10 y11
            have e2 := Gr.cell (w := wc) F8.out.ot.2.2.2.2
            dsimp only at e2
            have q1 := neq_nul
            have q2 := neq_lit (cw n2)
            refine wp_region_grow (by kernel_rfl) (by kernel_rfl) ?_
            repeat (go_big_quiet_step (first | (go_at_call 12; exact Gr.calls (cell_grow _ _))))
            refine wpQuiet_nil ?_
            intro w9 hw9
            obtain ⟨G9, hG9⟩ := hw9
            subst hG9
            have F9 := Lib.hid (F8.out.none G9.ok)
            have H9 := Lib.hid (H8.out.trans (G9.ok.none.mono H8.out.size))
            obtain ⟨w9, hw9⟩ : ∃ w9, G9.w' = w9 := ⟨_, rfl⟩
            rw [hw9] at F9 H9 ⊢
            clear hw9 G9 e2 q1 q2 x0 x1 x2 x3 x4 x5 x6 x7 x8 x9 x10 x11 y0 y1 y2 y3 y4 y5 y6 y7 y8 y9 y10 y11
            go_wp2_with fail
            refine wp_region_grow (by kernel_rfl) (by kernel_rfl) ?_
            repeat (go_big_quiet_step (first | (go_at_call 12; exact Gr.calls (cell_grow _ _))))
            refine wpQuiet_nil ?_
            intro w10 hw10
            obtain ⟨G10, hG10⟩ := hw10
            subst hG10
            go_wp2
            go_ret
            exact ⟨rfl, H9.out.trans (G10.ok.none.mono H9.out.size)⟩
          · skip
            obtain rfl : f = fun _ => 0 := HV.out.1 rfl
            obtain rfl : g = cw n2 := HV.out.2.2.2.2.1 rfl
            go_wp2_with fail
            have x0 := Gr.cell (w := wc) (v := .int .u64 (0)) ((F8.out.xs 0 _ rfl : wc.cell? ⟨xb, 0 + 0, none⟩ = _))
            have x1 := Gr.cell (w := wc) (v := .int .u64 (0)) ((F8.out.xs 1 _ rfl : wc.cell? ⟨xb, 0 + 1, none⟩ = _))
            have x2 := Gr.cell (w := wc) (v := .int .u64 (0)) ((F8.out.xs 2 _ rfl : wc.cell? ⟨xb, 0 + 2, none⟩ = _))
            have x3 := Gr.cell (w := wc) (v := .int .u64 (0)) ((F8.out.xs 3 _ rfl : wc.cell? ⟨xb, 0 + 3, none⟩ = _))
            have x4 := Gr.cell (w := wc) (v := .int .u64 (0)) ((F8.out.xs 4 _ rfl : wc.cell? ⟨xb, 0 + 4, none⟩ = _))
            have x5 := Gr.cell (w := wc) (v := .int .u64 (0)) ((F8.out.xs 5 _ rfl : wc.cell? ⟨xb, 0 + 5, none⟩ = _))
            have x6 := Gr.cell (w := wc) (v := .int .u64 (0)) ((F8.out.xs 6 _ rfl : wc.cell? ⟨xb, 0 + 6, none⟩ = _))
            have x7 := Gr.cell (w := wc) (v := .int .u64 (0)) ((F8.out.xs 7 _ rfl : wc.cell? ⟨xb, 0 + 7, none⟩ = _))
            have x8 := Gr.cell (w := wc) (v := .int .u64 (0)) ((F8.out.xs 8 _ rfl : wc.cell? ⟨xb, 0 + 8, none⟩ = _))
            have x9 := Gr.cell (w := wc) (v := .int .u64 (0)) ((F8.out.xs 9 _ rfl : wc.cell? ⟨xb, 0 + 9, none⟩ = _))
            have x10 := Gr.cell (w := wc) (v := .int .u64 (0)) ((F8.out.xs 10 _ rfl : wc.cell? ⟨xb, 0 + 10, none⟩ = _))
            have x11 := Gr.cell (w := wc) (v := .int .u64 (0)) ((F8.out.xs 11 _ rfl : wc.cell? ⟨xb, 0 + 11, none⟩ = _))
            simp only [Nat.zero_add] at x0 x1 x2 x3 x4 x5 x6 x7 x8 x9 x10 x11
            have y0 := Gr.cell (w := wc) (v := .int .u64 (cw n2 0)) ((F8.out.ys 0 _ rfl : wc.cell? ⟨yb, 0 + 0, none⟩ = _))
            have y1 := Gr.cell (w := wc) (v := .int .u64 (cw n2 1)) ((F8.out.ys 1 _ rfl : wc.cell? ⟨yb, 0 + 1, none⟩ = _))
            have y2 := Gr.cell (w := wc) (v := .int .u64 (cw n2 2)) ((F8.out.ys 2 _ rfl : wc.cell? ⟨yb, 0 + 2, none⟩ = _))
            have y3 := Gr.cell (w := wc) (v := .int .u64 (cw n2 3)) ((F8.out.ys 3 _ rfl : wc.cell? ⟨yb, 0 + 3, none⟩ = _))
            have y4 := Gr.cell (w := wc) (v := .int .u64 (cw n2 4)) ((F8.out.ys 4 _ rfl : wc.cell? ⟨yb, 0 + 4, none⟩ = _))
            have y5 := Gr.cell (w := wc) (v := .int .u64 (cw n2 5)) ((F8.out.ys 5 _ rfl : wc.cell? ⟨yb, 0 + 5, none⟩ = _))
            have y6 := Gr.cell (w := wc) (v := .int .u64 (cw n2 6)) ((F8.out.ys 6 _ rfl : wc.cell? ⟨yb, 0 + 6, none⟩ = _))
            have y7 := Gr.cell (w := wc) (v := .int .u64 (cw n2 7)) ((F8.out.ys 7 _ rfl : wc.cell? ⟨yb, 0 + 7, none⟩ = _))
            have y8 := Gr.cell (w := wc) (v := .int .u64 (cw n2 8)) ((F8.out.ys 8 _ rfl : wc.cell? ⟨yb, 0 + 8, none⟩ = _))
            have y9 := Gr.cell (w := wc) (v := .int .u64 (cw n2 9)) ((F8.out.ys 9 _ rfl : wc.cell? ⟨yb, 0 + 9, none⟩ = _))
            have y10 := Gr.cell (w := wc) (v := .int .u64 (cw n2 10)) ((F8.out.ys 10 _ rfl : wc.cell? ⟨yb, 0 + 10, none⟩ = _))
            have y11 := Gr.cell (w := wc) (v := .int .u64 (cw n2 11)) ((F8.out.ys 11 _ rfl : wc.cell? ⟨yb, 0 + 11, none⟩ = _))
            simp only [Nat.zero_add] at y0 y1 y2 y3 y4 y5 y6 y7 y8 y9 y10 y11
            have e2 := Gr.cell (w := wc) F8.out.ot.2.2.2.2
            dsimp only at e2
            have q1 := neq_nul
            have q2 := neq_lit (cw n2)
            refine wp_region_grow (by kernel_rfl) (by kernel_rfl) ?_
            repeat (go_big_quiet_step (first | (go_at_call 12; exact Gr.calls (cell_grow _ _))))
            refine wpQuiet_nil ?_
            intro w9 hw9
            obtain ⟨G9, hG9⟩ := hw9
            subst hG9
            have F9 := Lib.hid (F8.out.none G9.ok)
            have H9 := Lib.hid (H8.out.trans (G9.ok.none.mono H8.out.size))
            obtain ⟨w9, hw9⟩ : ∃ w9, G9.w' = w9 := ⟨_, rfl⟩
            rw [hw9] at F9 H9 ⊢
            clear hw9 G9 e2 q1 q2 x0 x1 x2 x3 x4 x5 x6 x7 x8 x9 x10 x11 y0 y1 y2 y3 y4 y5 y6 y7 y8 y9 y10 y11
            go_wp2_with fail
            refine wp_region_grow (by kernel_rfl) (by kernel_rfl) ?_
            repeat (go_big_quiet_step (first | (go_at_call 12; exact Gr.calls (cell_grow _ _))))
            refine wpQuiet_nil ?_
            intro w10 hw10
            obtain ⟨G10, hG10⟩ := hw10
            subst hG10
            go_wp2
            go_ret
            exact ⟨rfl, H9.out.trans (G10.ok.none.mono H9.out.size)⟩
        · cases two
          · cases sm
            · skip
              obtain rfl : f = cw n1 := HV.out.2.2.1 rfl rfl
              obtain rfl : g = fun _ => 0 := HV.out.2.2.2.1 rfl
              go_wp2_with fail
              have y0 := Gr.cell (w := wc) (v := .int .u64 (0)) ((F8.out.ys 0 _ rfl : wc.cell? ⟨yb, 0 + 0, none⟩ = _))
              have y1 := Gr.cell (w := wc) (v := .int .u64 (0)) ((F8.out.ys 1 _ rfl : wc.cell? ⟨yb, 0 + 1, none⟩ = _))
              have y2 := Gr.cell (w := wc) (v := .int .u64 (0)) ((F8.out.ys 2 _ rfl : wc.cell? ⟨yb, 0 + 2, none⟩ = _))
              have y3 := Gr.cell (w := wc) (v := .int .u64 (0)) ((F8.out.ys 3 _ rfl : wc.cell? ⟨yb, 0 + 3, none⟩ = _))
              have y4 := Gr.cell (w := wc) (v := .int .u64 (0)) ((F8.out.ys 4 _ rfl : wc.cell? ⟨yb, 0 + 4, none⟩ = _))
              have y5 := Gr.cell (w := wc) (v := .int .u64 (0)) ((F8.out.ys 5 _ rfl : wc.cell? ⟨yb, 0 + 5, none⟩ = _))
              have y6 := Gr.cell (w := wc) (v := .int .u64 (0)) ((F8.out.ys 6 _ rfl : wc.cell? ⟨yb, 0 + 6, none⟩ = _))
              have y7 := Gr.cell (w := wc) (v := .int .u64 (0)) ((F8.out.ys 7 _ rfl : wc.cell? ⟨yb, 0 + 7, none⟩ = _))
              have y8 := Gr.cell (w := wc) (v := .int .u64 (0)) ((F8.out.ys 8 _ rfl : wc.cell? ⟨yb, 0 + 8, none⟩ = _))
              have y9 := Gr.cell (w := wc) (v := .int .u64 (0)) ((F8.out.ys 9 _ rfl : wc.cell? ⟨yb, 0 + 9, none⟩ = _))
              have y10 := Gr.cell (w := wc) (v := .int .u64 (0)) ((F8.out.ys 10 _ rfl : wc.cell? ⟨yb, 0 + 10, none⟩ = _))
              have y11 := Gr.cell (w := wc) (v := .int .u64 (0)) ((F8.out.ys 11 _ rfl : wc.cell? ⟨yb, 0 + 11, none⟩ = _))
              simp only [Nat.zero_add] at y0 y1 y2 y3 y4 y5 y6 y7 y8 y9 y10 y11
              have e2 := Gr.cell (w := wc) F8.out.ot.2.2.2.2
              dsimp only at e2
              have q1 := neq_nul
              have q2 := neq_lit (cw n2)
              refine wp_region_grow (by kernel_rfl) (by kernel_rfl) ?_
              repeat (go_big_quiet_step (first | (go_at_call 12; exact Gr.calls (cell_grow _ _))))
              refine wpQuiet_nil ?_
              intro w9 hw9
              obtain ⟨G9, hG9⟩ := hw9
              subst hG9
              have F9 := Lib.hid (F8.out.none G9.ok)
              have H9 := Lib.hid (H8.out.trans (G9.ok.none.mono H8.out.size))
              obtain ⟨w9, hw9⟩ : ∃ w9, G9.w' = w9 := ⟨_, rfl⟩
              rw [hw9] at F9 H9 ⊢
              clear hw9 G9 e2 q1 q2 y0 y1 y2 y3 y4 y5 y6 y7 y8 y9 y10 y11
              go_wp2_with fail
              have x0 := Gr.cell (w := w9) (v := .int .u64 (cw n1 0)) ((F9.out.xs 0 _ rfl : w9.cell? ⟨xb, 0 + 0, none⟩ = _))
              have x1 := Gr.cell (w := w9) (v := .int .u64 (cw n1 1)) ((F9.out.xs 1 _ rfl : w9.cell? ⟨xb, 0 + 1, none⟩ = _))
              have x2 := Gr.cell (w := w9) (v := .int .u64 (cw n1 2)) ((F9.out.xs 2 _ rfl : w9.cell? ⟨xb, 0 + 2, none⟩ = _))
              have x3 := Gr.cell (w := w9) (v := .int .u64 (cw n1 3)) ((F9.out.xs 3 _ rfl : w9.cell? ⟨xb, 0 + 3, none⟩ = _))
              have x4 := Gr.cell (w := w9) (v := .int .u64 (cw n1 4)) ((F9.out.xs 4 _ rfl : w9.cell? ⟨xb, 0 + 4, none⟩ = _))
              have x5 := Gr.cell (w := w9) (v := .int .u64 (cw n1 5)) ((F9.out.xs 5 _ rfl : w9.cell? ⟨xb, 0 + 5, none⟩ = _))
              have x6 := Gr.cell (w := w9) (v := .int .u64 (cw n1 6)) ((F9.out.xs 6 _ rfl : w9.cell? ⟨xb, 0 + 6, none⟩ = _))
              have x7 := Gr.cell (w := w9) (v := .int .u64 (cw n1 7)) ((F9.out.xs 7 _ rfl : w9.cell? ⟨xb, 0 + 7, none⟩ = _))
              have x8 := Gr.cell (w := w9) (v := .int .u64 (cw n1 8)) ((F9.out.xs 8 _ rfl : w9.cell? ⟨xb, 0 + 8, none⟩ = _))
              have x9 := Gr.cell (w := w9) (v := .int .u64 (cw n1 9)) ((F9.out.xs 9 _ rfl : w9.cell? ⟨xb, 0 + 9, none⟩ = _))
              have x10 := Gr.cell (w := w9) (v := .int .u64 (cw n1 10)) ((F9.out.xs 10 _ rfl : w9.cell? ⟨xb, 0 + 10, none⟩ = _))
              have x11 := Gr.cell (w := w9) (v := .int .u64 (cw n1 11)) ((F9.out.xs 11 _ rfl : w9.cell? ⟨xb, 0 + 11, none⟩ = _))
              simp only [Nat.zero_add] at x0 x1 x2 x3 x4 x5 x6 x7 x8 x9 x10 x11
              have e1 := Gr.cell (w := w9) F9.out.ot.2.1.2.2
              have e2 := Gr.cell (w := w9) F9.out.ot.2.2.2.2
              dsimp only at e1 e2
              have q1 := eql_lit (cw n1)
              have q2 := eql_lit (cw n2)
              refine wp_region_grow (by kernel_rfl) (by kernel_rfl) ?_
              repeat (go_big_quiet_step (first | (go_at_call 12; exact Gr.calls (cell_grow _ _))))
              refine wpQuiet_nil ?_
              intro w10 hw10
              obtain ⟨G10, hG10⟩ := hw10
              subst hG10
              go_wp2
              go_ret
              exact ⟨rfl, H9.out.trans (G10.ok.none.mono H9.out.size)⟩
            · exact absurd (HV.out.2.2.2.2.2 rfl) (by simp)
          · cases sm
            · skip
              obtain rfl : f = cw n1 := HV.out.2.2.1 rfl rfl
              obtain rfl : g = cw n2 := HV.out.2.2.2.2.1 rfl
              go_wp2_with fail
              have y0 := Gr.cell (w := wc) (v := .int .u64 (cw n2 0)) ((F8.out.ys 0 _ rfl : wc.cell? ⟨yb, 0 + 0, none⟩ = _))
              have y1 := Gr.cell (w := wc) (v := .int .u64 (cw n2 1)) ((F8.out.ys 1 _ rfl : wc.cell? ⟨yb, 0 + 1, none⟩ = _))
              have y2 := Gr.cell (w := wc) (v := .int .u64 (cw n2 2)) ((F8.out.ys 2 _ rfl : wc.cell? ⟨yb, 0 + 2, none⟩ = _))
              have y3 := Gr.cell (w := wc) (v := .int .u64 (cw n2 3)) ((F8.out.ys 3 _ rfl : wc.cell? ⟨yb, 0 + 3, none⟩ = _))
              have y4 := Gr.cell (w := wc) (v := .int .u64 (cw n2 4)) ((F8.out.ys 4 _ rfl : wc.cell? ⟨yb, 0 + 4, none⟩ = _))
              have y5 := Gr.cell (w := wc) (v := .int .u64 (cw n2 5)) ((F8.out.ys 5 _ rfl : wc.cell? ⟨yb, 0 + 5, none⟩ = _))
              have y6 := Gr.cell (w := wc) (v := .int .u64 (cw n2 6)) ((F8.out.ys 6 _ rfl : wc.cell? ⟨yb, 0 + 6, none⟩ = _))
              have y7 := Gr.cell (w := wc) (v := .int .u64 (cw n2 7)) ((F8.out.ys 7 _ rfl : wc.cell? ⟨yb, 0 + 7, none⟩ = _))
              have y8 := Gr.cell (w := wc) (v := .int .u64 (cw n2 8)) ((F8.out.ys 8 _ rfl : wc.cell? ⟨yb, 0 + 8, none⟩ = _))
              have y9 := Gr.cell (w := wc) (v := .int .u64 (cw n2 9)) ((F8.out.ys 9 _ rfl : wc.cell? ⟨yb, 0 + 9, none⟩ = _))
              have y10 := Gr.cell (w := wc) (v := .int .u64 (cw n2 10)) ((F8.out.ys 10 _ rfl : wc.cell? ⟨yb, 0 + 10, none⟩ = _))
              have y11 := Gr.cell (w := wc) (v := .int .u64 (cw n2 11)) ((F8.out.ys 11 _ rfl : wc.cell? ⟨yb, 0 + 11, none⟩ = _))
              simp only [Nat.zero_add] at y0 y1 y2 y3 y4 y5 y6 y7 y8 y9 y10 y11
              have e2 := Gr.cell (w := wc) F8.out.ot.2.2.2.2
              dsimp only at e2
              have q1 := neq_nul
              have q2 := neq_lit (cw n2)
              refine wp_region_grow (by kernel_rfl) (by kernel_rfl) ?_
              repeat (go_big_quiet_step (first | (go_at_call 12; exact Gr.calls (cell_grow _ _))))
              refine wpQuiet_nil ?_
              intro w9 hw9
              obtain ⟨G9, hG9⟩ := hw9
              subst hG9
              have F9 := Lib.hid (F8.out.none G9.ok)
              have H9 := Lib.hid (H8.out.trans (G9.ok.none.mono H8.out.size))
              obtain ⟨w9, hw9⟩ : ∃ w9, G9.w' = w9 := ⟨_, rfl⟩
              rw [hw9] at F9 H9 ⊢
              clear hw9 G9 e2 q1 q2 y0 y1 y2 y3 y4 y5 y6 y7 y8 y9 y10 y11
              go_wp2_with fail
              have x0 := Gr.cell (w := w9) (v := .int .u64 (cw n1 0)) ((F9.out.xs 0 _ rfl : w9.cell? ⟨xb, 0 + 0, none⟩ = _))
              have x1 := Gr.cell (w := w9) (v := .int .u64 (cw n1 1)) ((F9.out.xs 1 _ rfl : w9.cell? ⟨xb, 0 + 1, none⟩ = _))
              have x2 := Gr.cell (w := w9) (v := .int .u64 (cw n1 2)) ((F9.out.xs 2 _ rfl : w9.cell? ⟨xb, 0 + 2, none⟩ = _))
              have x3 := Gr.cell (w := w9) (v := .int .u64 (cw n1 3)) ((F9.out.xs 3 _ rfl : w9.cell? ⟨xb, 0 + 3, none⟩ = _))
              have x4 := Gr.cell (w := w9) (v := .int .u64 (cw n1 4)) ((F9.out.xs 4 _ rfl : w9.cell? ⟨xb, 0 + 4, none⟩ = _))
              have x5 := Gr.cell (w := w9) (v := .int .u64 (cw n1 5)) ((F9.out.xs 5 _ rfl : w9.cell? ⟨xb, 0 + 5, none⟩ = _))
              have x6 := Gr.cell (w := w9) (v := .int .u64 (cw n1 6)) ((F9.out.xs 6 _ rfl : w9.cell? ⟨xb, 0 + 6, none⟩ = _))
              have x7 := Gr.cell (w := w9) (v := .int .u64 (cw n1 7)) ((F9.out.xs 7 _ rfl : w9.cell? ⟨xb, 0 + 7, none⟩ = _))
              have x8 := Gr.cell (w := w9) (v := .int .u64 (cw n1 8)) ((F9.out.xs 8 _ rfl : w9.cell? ⟨xb, 0 + 8, none⟩ = _))
              have x9 := Gr.cell (w := w9) (v := .int .u64 (cw n1 9)) ((F9.out.xs 9 _ rfl : w9.cell? ⟨xb, 0 + 9, none⟩ = _))
              have x10 := Gr.cell (w := w9) (v := .int .u64 (cw n1 10)) ((F9.out.xs 10 _ rfl : w9.cell? ⟨xb, 0 + 10, none⟩ = _))
              have x11 := Gr.cell (w := w9) (v := .int .u64 (cw n1 11)) ((F9.out.xs 11 _ rfl : w9.cell? ⟨xb, 0 + 11, none⟩ = _))
              simp only [Nat.zero_add] at x0 x1 x2 x3 x4 x5 x6 x7 x8 x9 x10 x11
              have e1 := Gr.cell (w := w9) F9.out.ot.2.1.2.2
              have e2 := Gr.cell (w := w9) F9.out.ot.2.2.2.2
              dsimp only at e1 e2
              have q1 := eql_lit (cw n1)
              have q2 := eql_lit (cw n2)
              refine wp_region_grow (by kernel_rfl) (by kernel_rfl) ?_
              repeat (go_big_quiet_step (first | (go_at_call 12; exact Gr.calls (cell_grow _ _))))
              refine wpQuiet_nil ?_
              intro w10 hw10
              obtain ⟨G10, hG10⟩ := hw10
              subst hG10
              go_wp2
              go_ret
              exact ⟨rfl, H9.out.trans (G10.ok.none.mono H9.out.size)⟩
            · skip
              obtain rfl : f = cw n2 := HV.out.2.1 rfl rfl
              obtain rfl : g = cw n2 := HV.out.2.2.2.2.1 rfl
              go_wp2_with fail
              have y0 := Gr.cell (w := wc) (v := .int .u64 (cw n2 0)) ((F8.out.ys 0 _ rfl : wc.cell? ⟨yb, 0 + 0, none⟩ = _))
              have y1 := Gr.cell (w := wc) (v := .int .u64 (cw n2 1)) ((F8.out.ys 1 _ rfl : wc.cell? ⟨yb, 0 + 1, none⟩ = _))
              have y2 := Gr.cell (w := wc) (v := .int .u64 (cw n2 2)) ((F8.out.ys 2 _ rfl : wc.cell? ⟨yb, 0 + 2, none⟩ = _))
              have y3 := Gr.cell (w := wc) (v := .int .u64 (cw n2 3)) ((F8.out.ys 3 _ rfl : wc.cell? ⟨yb, 0 + 3, none⟩ = _))
              have y4 := Gr.cell (w := wc) (v := .int .u64 (cw n2 4)) ((F8.out.ys 4 _ rfl : wc.cell? ⟨yb, 0 + 4, none⟩ = _))
              have y5 := Gr.cell (w := wc) (v := .int .u64 (cw n2 5)) ((F8.out.ys 5 _ rfl : wc.cell? ⟨yb, 0 + 5, none⟩ = _))
              have y6 := Gr.cell (w := wc) (v := .int .u64 (cw n2 6)) ((F8.out.ys 6 _ rfl : wc.cell? ⟨yb, 0 + 6, none⟩ = _))
              have y7 := Gr.cell (w := wc) (v := .int .u64 (cw n2 7)) ((F8.out.ys 7 _ rfl : wc.cell? ⟨yb, 0 + 7, none⟩ = _))
              have y8 := Gr.cell (w := wc) (v := .int .u64 (cw n2 8)) ((F8.out.ys 8 _ rfl : wc.cell? ⟨yb, 0 + 8, none⟩ = _))
              have y9 := Gr.cell (w := wc) (v := .int .u64 (cw n2 9)) ((F8.out.ys 9 _ rfl : wc.cell? ⟨yb, 0 + 9, none⟩ = _))
              have y10 := Gr.cell (w := wc) (v := .int .u64 (cw n2 10)) ((F8.out.ys 10 _ rfl : wc.cell? ⟨yb, 0 + 10, none⟩ = _))
              have y11 := Gr.cell (w := wc) (v := .int .u64 (cw n2 11)) ((F8.out.ys 11 _ rfl : wc.cell? ⟨yb, 0 + 11, none⟩ = _))
              simp only [Nat.zero_add] at y0 y1 y2 y3 y4 y5 y6 y7 y8 y9 y10 y11
              have e2 := Gr.cell (w := wc) F8.out.ot.2.2.2.2
              dsimp only at e2
              have q1 := neq_nul
              have q2 := neq_lit (cw n2)
              refine wp_region_grow (by kernel_rfl) (by kernel_rfl) ?_
              repeat (go_big_quiet_step (first | (go_at_call 12; exact Gr.calls (cell_grow _ _))))
              refine wpQuiet_nil ?_
              intro w9 hw9
              obtain ⟨G9, hG9⟩ := hw9
              subst hG9
              have F9 := Lib.hid (F8.out.none G9.ok)
              have H9 := Lib.hid (H8.out.trans (G9.ok.none.mono H8.out.size))
              obtain ⟨w9, hw9⟩ : ∃ w9, G9.w' = w9 := ⟨_, rfl⟩
              rw [hw9] at F9 H9 ⊢
              clear hw9 G9 e2 q1 q2 y0 y1 y2 y3 y4 y5 y6 y7 y8 y9 y10 y11
              go_wp2_with fail
              have x0 := Gr.cell (w := w9) (v := .int .u64 (cw n2 0)) ((F9.out.xs 0 _ rfl : w9.cell? ⟨xb, 0 + 0, none⟩ = _))
              have x1 := Gr.cell (w := w9) (v := .int .u64 (cw n2 1)) ((F9.out.xs 1 _ rfl : w9.cell? ⟨xb, 0 + 1, none⟩ = _))
              have x2 := Gr.cell (w := w9) (v := .int .u64 (cw n2 2)) ((F9.out.xs 2 _ rfl : w9.cell? ⟨xb, 0 + 2, none⟩ = _))
              have x3 := Gr.cell (w := w9) (v := .int .u64 (cw n2 3)) ((F9.out.xs 3 _ rfl : w9.cell? ⟨xb, 0 + 3, none⟩ = _))
              have x4 := Gr.cell (w := w9) (v := .int .u64 (cw n2 4)) ((F9.out.xs 4 _ rfl : w9.cell? ⟨xb, 0 + 4, none⟩ = _))
              have x5 := Gr.cell (w := w9) (v := .int .u64 (cw n2 5)) ((F9.out.xs 5 _ rfl : w9.cell? ⟨xb, 0 + 5, none⟩ = _))
              have x6 := Gr.cell (w := w9) (v := .int .u64 (cw n2 6)) ((F9.out.xs 6 _ rfl : w9.cell? ⟨xb, 0 + 6, none⟩ = _))
              have x7 := Gr.cell (w := w9) (v := .int .u64 (cw n2 7)) ((F9.out.xs 7 _ rfl : w9.cell? ⟨xb, 0 + 7, none⟩ = _))
              have x8 := Gr.cell (w := w9) (v := .int .u64 (cw n2 8)) ((F9.out.xs 8 _ rfl : w9.cell? ⟨xb, 0 + 8, none⟩ = _))
              have x9 := Gr.cell (w := w9) (v := .int .u64 (cw n2 9)) ((F9.out.xs 9 _ rfl : w9.cell? ⟨xb, 0 + 9, none⟩ = _))
              have x10 := Gr.cell (w := w9) (v := .int .u64 (cw n2 10)) ((F9.out.xs 10 _ rfl : w9.cell? ⟨xb, 0 + 10, none⟩ = _))
              have x11 := Gr.cell (w := w9) (v := .int .u64 (cw n2 11)) ((F9.out.xs 11 _ rfl : w9.cell? ⟨xb, 0 + 11, none⟩ = _))
              simp only [Nat.zero_add] at x0 x1 x2 x3 x4 x5 x6 x7 x8 x9 x10 x11
              have e1 := Gr.cell (w := w9) F9.out.ot.2.1.2.2
              have e2 := Gr.cell (w := w9) F9.out.ot.2.2.2.2
              dsimp only at e1 e2
              have q1 := eql_lit (cw n1)
              have q2 := eql_lit (cw n2)
              refine wp_region_grow (by kernel_rfl) (by kernel_rfl) ?_
              repeat (go_big_quiet_step (first | (go_at_call 12; exact Gr.calls (cell_grow _ _))))
              refine wpQuiet_nil ?_
              intro w10 hw10
              obtain ⟨G10, hG10⟩ := hw10
              subst hG10
              go_wp2
              go_ret
              exact ⟨rfl, H9.out.trans (G10.ok.none.mono H9.out.size)⟩
end Go.Proofs.Ytmkikelbllejjaa
