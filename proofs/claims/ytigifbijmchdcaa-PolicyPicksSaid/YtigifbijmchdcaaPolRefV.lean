/- The document's Victims, walked: what goes first, picked one by one. -/
import Derived.Test.YtigifbijmchdcaaPolRef
import Derived.Test.YtigifbijmchdcaaIntRow
namespace Go.Proofs.Ytigifbijmchdcaa
open Go.RowKit Go.ChangeShapes Go.WideShapes Go.ChangeAt

theorem infoBool16 : (Try.prog.info? 4).map (fun i => (i.zero, i.size, i.bytes)) = some (some (.bool false), 1, 1) := by kernel_rfl
section
variable {y : Nat → Pi} {sel : List Nat} {i : Nat}
theorem Best.zero (y : Nat → Pi) (sel : List Nat) : Best y sel 0 none := fun j hj => absurd hj (by omega)
theorem Best.skip {a : Option Nat} (h : Best y sel i a) (hi : i ∈ sel) : Best y sel (i + 1) a := by
  cases a with
  | none =>
    intro j hj
    rcases Nat.lt_or_ge j i with h1 | h1
    · exact h j h1
    · have : j = i := by omega
      subst this; exact hi
  | some a =>
    obtain ⟨h1, h2, h3⟩ := h
    refine ⟨by omega, h2, fun j hj hn => ?_⟩
    rcases Nat.lt_or_ge j i with h4 | h4
    · exact h3 j h4 hn
    · have : j = i := by omega
      subst this; exact absurd hi hn
theorem Best.first (h : Best y sel i none) (hi : i ∉ sel) : Best y sel (i + 1) (some i) := by
  refine ⟨by omega, hi, fun j hj hn => ?_⟩
  rcases Nat.lt_or_ge j i with h4 | h4
  · exact absurd (h j h4) hn
  · have : j = i := by omega
    subst this; exact kle_refl _
theorem Best.better {a : Nat} (h : Best y sel i (some a)) (hi : i ∉ sel) (hb : ahd (y i) (y a) = true) : Best y sel (i + 1) (some i) := by
  obtain ⟨h1, h2, h3⟩ := h
  rw [ahd_kle, Bool.not_eq_true'] at hb
  have ht := kle_total (kc (y i)) (kc (y a))
  rw [hb, Bool.or_false] at ht
  refine ⟨by omega, hi, fun j hj hn => ?_⟩
  rcases Nat.lt_or_ge j i with h4 | h4
  · exact kle_trans _ _ _ ht (h3 j h4 hn)
  · have : j = i := by omega
    subst this; exact kle_refl _
theorem Best.worse {a : Nat} (h : Best y sel i (some a)) (hb : ahd (y i) (y a) = false) : Best y sel (i + 1) (some a) := by
  obtain ⟨h1, h2, h3⟩ := h
  rw [ahd_kle, Bool.not_eq_false'] at hb
  refine ⟨by omega, h2, fun j hj hn => ?_⟩
  rcases Nat.lt_or_ge j i with h4 | h4
  · exact h3 j h4 hn
  · have : j = i := by omega
    subst this; exact hb
end
/-- At `at`. -/
def atV (a : Option Nat) : Value := .int .i64 (match a with | none => -1 | some a => (a : Int))
structure RvAt (w w1 : World) (gu n K : Nat) (y : Nat → Pi) (sel : List Nat) (v10 : Value) (r : Nat) (wr : World) : Prop where
  sum : r + sel.length = K
  sel_ : Sel y n sel
  row : wr.rowIs gu 4 n (fun j => .bool (decide (j ∈ sel)))
  own : wr.ownsRow w1.heap.size 3 1 v10 sel.length (irow (sel.map fun j => (y j).1))
  size : w1.heap.size ≤ wr.heap.size
  old : w.heap.size ≤ gu
  lt : gu < w1.heap.size
  below : Below w.heap.size w wr
theorem RvAt.grow {w w1 wr wx : World} {gu n K r : Nat} {y : Nat → Pi} {sel : List Nat} {v10 : Value} (h : RvAt w w1 gu n K y sel v10 r wr) (hb : Below wr.heap.size wr wx) : RvAt w w1 gu n K y sel v10 r wx :=
  ⟨h.sum, h.sel_, h.row.of_block (hb.block gu h.row.lt), row_keep h.own (fun g hg => hb.block g (own_lt h.own hg).2), Nat.le_trans h.size hb.size, h.old, h.lt, h.below.trans (hb.mono h.below.size)⟩
theorem RvAt.mark {w w1 wr : World} {gu n K r a : Nat} {y : Nat → Pi} {sel : List Nat} {v10 : Value} (h : RvAt w w1 gu n K y sel v10 r wr) :
    (wr.setCell ⟨gu, a, none⟩ (.bool true)).ownsRow w1.heap.size 3 1 v10 sel.length (irow (sel.map fun j => (y j).1)) := row_keep h.own (fun g e => Below.heap_setCell wr ⟨gu, a, none⟩ _ g (by have := (own_lt h.own e).1; have := h.lt; show g ≠ gu; omega))
theorem RvAt.next {w w1 wr w5 w7 : World} {gu n K r a : Nat} {y : Nat → Pi} {sel : List Nat} {v10 : Value} {A : Option Addr} {cp : Nat} {t : TypeId} (h : RvAt w w1 gu n K y sel v10 (r + 1) wr) (hb : Best y sel n (some a)) (h5 : w5 = wr.setCell ⟨gu, a, none⟩ (.bool true))
    (ho : w7.ownsRow w1.heap.size 3 1 (.slice A (sel.length + 1) cp) (sel.length + 1) (irow (sel.map fun j => (y j).1) ++ irow [(y a).1])) (hg : (w5.alloc (.cells (irow [(y a).1]).toArray t)).grownBy w7 v10.ownBlock) :
    RvAt w w1 gu n K y (sel ++ [a]) (.slice A (sel.length + 1) cp) r w7 := by
  subst h5
  have hge : ∀ g, v10.ownBlock = some g → w1.heap.size ≤ g := fun g e => (own_lt h.own e).1
  have hlt := h.lt
  have hold := h.old
  have hs1 := h.size
  have hsum := h.sum
  have hsz : wr.heap.size + 1 ≤ w7.heap.size := by have := hg.size; simpa [World.setCell] using this
  have hq : w7.heap[gu]? = (wr.setCell ⟨gu, a, none⟩ (.bool true)).heap[gu]? := (hg.block gu (by simp [World.setCell]; omega) (fun e => by have := hge gu e.symm; omega)).trans (Below.heap_alloc _ _ gu (by simp [World.setCell]; omega))
  refine ⟨by rw [List.length_append, List.length_singleton]; omega, h.sel_.next hb, ((h.row.set a (.bool true)).of_block hq).congr fun j _ => ?_, ?_, by omega, hold, hlt, ?_⟩
  · show (if j = a then _ else _) = _
    by_cases e : j = a
    · subst e; rw [if_pos rfl]; simp
    · rw [if_neg e]; simp [e]
  · rw [List.length_append, List.map_append, irow_append]
    exact ho
  · exact ((h.below.setCell (p := ⟨gu, a, none⟩) hold _).alloc (by have := h.below.size; simpa [World.setCell] using this) _).grown hg (by have := h.below.size; simp [World.setCell]; omega) (fun g e => by have := hge g e; omega)
theorem own_slice1 {w : World} {base : Nat} {t : TypeId} {v : Value} {n : Nat} {xs : List Value} (h : w.ownsRow base t 1 v n xs) : ∃ A cap, v = .slice A n cap := by
  rcases h.2 with ⟨rfl, h0⟩ | ⟨g, cap', cur, e, _⟩
  · exact ⟨none, 0, by rw [h0]⟩
  · exact ⟨_, _, e⟩
theorem own_numsI {w : World} {base : Nat} {A : Option Addr} {n cap : Nat} {l : List Int} (h : w.ownsRow base 3 1 (.slice A n cap) n (irow l)) (hl : l.length = n) : Nums .i64 w w.heap.size A n (fun j => l.getD j 0) := fun hn => by
  have h' := h
  rcases h.2 with ⟨h1, h0⟩ | ⟨g, cap', cur, e, hb, hg, _⟩
  · omega
  · injection e with e1
    subst e1
    refine ⟨g, 0, rfl, (Array.getElem?_eq_some_iff.1 hg).1, fun j hj => ?_⟩
    have := h'.cells (g := g) rfl j (.int .i64 (l.getD j 0)) (by rw [irow_at l j (by omega)]; simp [List.getD_eq_getElem?_getD, show j < l.length by omega])
    rw [add_plain] at this
    exact this
def RvPost (w : World) (l : List Pi) (c b : Int) (e : Ending) (w' : World) : Prop :=
  ∃ A cp, e = .returned (.slice A (kMany l c b) cp) ∧ Nums .i64 w' w'.heap.size A (kMany l c b) (fun j => (victims l c b).getD j 0) ∧ Below w.heap.size w w'
set_option maxRecDepth 100000 in
set_option maxHeartbeats 4000000 in
theorem rvictims_any (a : Option Addr) (n cap : Nat) (y : Nat → Pi) (c b : Int) (w : World) (hn : n ≤ 1000) (hP : Pits w w.heap.size a n y) :
    Calls Try.prog 19 #[.slice a n cap, .int .i64 c, .int .i64 b] w (RvPost w (lsP n y) c b) := by
  have HP := Lib.hid hP
  have hK : Hid (kMany (lsP n y) c b = (min (n : Int) (manyI n (expd (lsP n y)) c b)).toNat) := by show _ = _; unfold kMany; rw [lsP_len]
  have HM := Lib.hid (fun W => rmany_any n (expd (lsP n y) : Nat) c b W)
  have hm0 : 0 ≤ manyI n (expd (lsP n y) : Nat) c b := by unfold manyI; omega
  obtain ⟨K, hKK⟩ : ∃ K, K = kMany (lsP n y) c b := ⟨_, rfl⟩
  have hKn : K ≤ n := by have := kMany_le (lsP n y) c b; rw [lsP_len] at this; omega
  have HKK := Lib.hid hKK
  rw [← hKK] at hK
  clear hKK
  obtain ⟨M, hM⟩ : ∃ M : Nat, manyI n (expd (lsP n y) : Nat) c b = (M : Int) := ⟨_, (Int.toNat_of_nonneg hm0).symm⟩
  rw [hM] at hK HM
  have hmin : min (M : Int) (n : Int) = (K : Int) := by have := hK.out; omega
  have hmk := run_make_row' (P := Try.prog) 40 4 (.bool false) 1 Try.underlying40 infoBool16 rfl .i64 .i64 n (by omega) (by omega)
  clear hM hm0 hK hP
  go_enter Try.func19, Try.ntmps19
  go_wp2_with fail
  go_loopw [7, 8] (fun v7 v8 wr => ∃ k : Nat, v7 = .int .i64 (expd (lsP k y) : Nat) ∧ v8 = .int .i64 k ∧ k ≤ n ∧ ∃ q, wr = w.drewN q) (fun _ v _ => n - (intOf v).toNat)
  case atStart => exact ⟨0, rfl, rfl, by omega, 0, rfl⟩
  case round =>
    obtain ⟨k, rfl, rfl, hk, q9, rfl⟩ := hrel
    have hle := expd_le (lsP k y)
    rw [lsP_len] at hle
    by_cases hlt : k < n
    · obtain ⟨bb, off, rfl, hb, _, _, d2⟩ := HP.out.at hlt
      have d2' : (w.drewN q9).cell? ⟨bb, off + k * 3 + 2, none⟩ = some (.bool (y k).2.2) := d2
      have HE := Lib.hid (expd_succ k y)
      generalize expd (lsP k y) = q at *
      obtain ⟨w2, hw2⟩ : ∃ w2, w.drewN q9 = w2 := ⟨_, rfl⟩
      rw [hw2] at d2' ⊢
      have HW2 := Lib.hid hw2
      clear d2 hw2
      generalize (y k).2.2 = ex at *
      cases ex
      · go_wp2_with fail
        go_roundw
        case rel => exact ⟨k + 1, by rw [HE.out]; go_num, by go_num, by omega, q9, HW2.out.symm⟩
        case measure => simp [intOf]; omega
      · go_wp2_with fail
        go_roundw
        case rel => exact ⟨k + 1, by rw [HE.out]; go_num, by go_num, by omega, q9, HW2.out.symm⟩
        case measure => simp [intOf]; omega
    · obtain rfl : k = n := by omega
      have HP2 : Hid (Pits (w.drewN q9) w.heap.size a k y) := HP.out
      have HB2 : Hid (Below w.heap.size w (w.drewN q9)) := below_drewN (Below.refl _ w) q9
      have hws : (w.drewN q9).heap.size = w.heap.size := rfl
      generalize w.drewN q9 = w2 at *
      have HWS := Lib.hid hws
      generalize expd (lsP k y) = q at *
      obtain ⟨gu, hgu⟩ : ∃ gu, w2.heap.size = gu := ⟨_, rfl⟩
      have HR0 : Hid (RvAt w (w2.alloc (.cells (madeCells #[.bool false] k) 4)) gu k K y [] (.slice none 0 0) K (w2.alloc (.cells (madeCells #[.bool false] k) 4))) := by
        rw [← hgu]
        exact ⟨by simp, Sel.nil y k, (World.rowIs_made w2 (.bool false) k 4).congr fun j _ => by simp, World.ownsRow_nil _ _ _ _, Nat.le_refl _, by omega, by simp, HB2.out.alloc HB2.out.size _⟩
      have HB3 : Hid (Below w.heap.size w (w2.alloc (.cells (madeCells #[.bool false] k) 4))) := HB2.out.alloc HB2.out.size _
      have HP3 : Hid (Pits (w2.alloc (.cells (madeCells #[.bool false] k) 4)) w.heap.size a k y) := HP2.out.below ((Below.refl _ w2).alloc (by omega) _)
      have HG := Lib.hid hgu
      clear hws hgu HP HP2 hlt hk HB2
      go_wp2_with fail
      refine (HM.out _).mono ?_
      rintro e w9 ⟨rfl, rfl⟩
      rw [HG.out]
      generalize w2.alloc (.cells (madeCells #[.bool false] k) 4) = w3 at *
      clear HM hmk HG
      go_wp2_with fail
      go_loopw [10, 11, 12, 13] (fun v10 v11 _ _ wr => ∃ (r : Nat) (sel : List Nat), v11 = .int .i64 r ∧ RvAt w w3 gu k K y sel v10 r wr) (fun _ v _ _ _ => (intOf v).toNat)
      case atStart => exact ⟨K, [], rfl, HR0.out⟩
      case round =>
        obtain ⟨r, sel, rfl, hS⟩ := hrel
        have hsum := hS.sum
        have HS := Lib.hid hS
        clear hS HR0
        obtain ⟨w4, h4⟩ : ∃ x, x = wr := ⟨_, rfl⟩
        subst h4
        by_cases hr : 0 < r
        · obtain ⟨r, rfl⟩ : ∃ q, r = q + 1 := ⟨r - 1, by omega⟩
          have hrz : ((r + 1 : Nat) : Int) > 0 := by omega
          have hrd : decide (((r + 1 : Nat) : Int) > 0) = true := decide_eq_true hrz
          have hrd2 : decide ((r : Int) + 1 > 0) = true := decide_eq_true (by omega)
          have hrd3 : decide (0 < (r : Int) + 1) = true := decide_eq_true (by omega)
          go_wp2_with fail
          go_loopw [12, 13] (fun v12 v13 wx => ∃ (i : Nat) (bst : Option Nat), v12 = atV bst ∧ v13 = .int .i64 i ∧ i ≤ k ∧ Best y sel i bst ∧ Below w4.heap.size w4 wx) (fun _ v _ => k - (intOf v).toNat)
          case atStart => exact ⟨0, none, rfl, rfl, by omega, Best.zero y sel, Below.refl _ _⟩
          case round =>
            obtain ⟨i, bst, rfl, rfl, hi, hBst, hbw⟩ := hrel
            have HS2 := Lib.hid (HS.out.grow hbw)
            have HBW := Lib.hid hbw
            have HBst := Lib.hid hBst
            have HPw : Hid (Pits wr w.heap.size a k y) := HP3.out.below (by have := HS2.out.below; exact (show Below w.heap.size w3 wr from ⟨HS2.out.below.os.trans HB3.out.os.symm, HS2.out.below.tape.trans HB3.out.tape.symm, HS2.out.below.output.trans HB3.out.output.symm, HS2.out.size, fun q hq => (HS2.out.below.block q hq).trans (HB3.out.block q hq).symm⟩))
            clear hBst hbw
            by_cases hik : i < k
            · have hiz : (i : Int) < (k : Int) := by omega
              have hu := HS2.out.row.cell hik
              obtain ⟨bb, off, rfl, hb, d0, d1, d2⟩ := HPw.out.at hik
              by_cases hm : i ∈ sel
              · rw [decide_eq_true hm] at hu
                have HN := Lib.hid (HBst.out.skip hm)
                obtain ⟨av, hav⟩ : ∃ av, atV bst = av := ⟨_, rfl⟩
                have HAV := Lib.hid hav
                have hav2 : ∃ q : Int, av = .int .i64 q := ⟨_, hav.symm⟩
                obtain ⟨avi, rfl⟩ := hav2
                rw [hav]
                clear hav
                go_upto_region 16 with fail
                have q0 := Gr.cell hu
                have q1 := Gr.cell d0
                have q2 := Gr.cell d1
                have q3 := Gr.cell d2
                clear hu d0 d1 d2
                refine wp_region_grow (by kernel_rfl) (by kernel_rfl) ?_
                repeat (go_big_quiet_step (first |  fail))
                refine wpQuiet_nil ?_
                intro w12 hw12
                obtain ⟨G, hG⟩ := hw12
                subst hG
                have HBG := Lib.hid (HBW.out.trans (G.ok.none.mono HBW.out.size))
                clear q0 q1 q2 q3
                go_wp2_with fail
                go_roundw
                case rel => exact ⟨i + 1, bst, by rw [HAV.out], by go_num, by omega, HN.out, HBG.out⟩
                case measure => simp [intOf]; omega
              · rw [decide_eq_false hm] at hu
                cases bst with
                | none =>
                  have HN := Lib.hid (HBst.out.first hm)
                  rw [show atV none = .int .i64 (-1) from rfl]
                  go_upto_region 16 with fail
                  have q0 := Gr.cell hu
                  have q1 := Gr.cell d0
                  have q2 := Gr.cell d1
                  have q3 := Gr.cell d2
                  clear hu d0 d1 d2
                  refine wp_region_grow (by kernel_rfl) (by kernel_rfl) ?_
                  repeat (go_big_quiet_step (first |  fail))
                  refine wpQuiet_nil ?_
                  intro w12 hw12
                  obtain ⟨G, hG⟩ := hw12
                  subst hG
                  have HBG := Lib.hid (HBW.out.trans (G.ok.none.mono HBW.out.size))
                  clear q0 q1 q2 q3
                  go_wp2_with fail
                  go_roundw
                  case rel => exact ⟨i + 1, some i, rfl, by go_num, by omega, HN.out, HBG.out⟩
                  case measure => simp [intOf]; omega
                | some at9 =>
                  have hat := HBst.out.1
                  obtain ⟨b', off', ea, _, f0, f1, f2⟩ := HPw.out.at (show at9 < k by omega)
                  cases ea
                  rw [show atV (some at9) = .int .i64 (at9 : Int) from rfl]
                  have haz : ¬ (at9 : Int) < 0 := by omega
                  have haz2 : (at9 : Int) < (k : Int) := by omega
                  cases hah : ahd (y i) (y at9)
                  · have HN := Lib.hid (HBst.out.worse hah)
                    generalize y i = x at *
                    generalize y at9 = z at *
                    obtain ⟨x1, x2, x3⟩ := x
                    obtain ⟨z1, z2, z3⟩ := z
                    dsimp only at d0 d1 d2 f0 f1 f2
                    go_upto_region 16 with fail
                    have q0 := Gr.cell hu
                    have q1 := Gr.cell d0
                    have q2 := Gr.cell d1
                    have q3 := Gr.cell d2
                    have q4 := Gr.cell f0
                    have q5 := Gr.cell f1
                    have q6 := Gr.cell f2
                    clear hu d0 d1 d2 f0 f1 f2
                    have HAh : Hid (∀ (c1 : Int) (r1 : Nat) (b1 : Bool) (c2 : Int) (r2 : Nat) (b2 : Bool) W, Calls Try.prog 25 #[.agg #[.int .i64 c1, .int .u64 (r1 : Int), .bool b1], .agg #[.int .i64 c2, .int .u64 (r2 : Int), .bool b2]] W fun e w' => e = .returned (.bool (ahd (c1, r1, b1) (c2, r2, b2))) ∧ Below W.heap.size W w') := fun c1 r1 b1 c2 r2 b2 W => ahead_any (c1, r1, b1) (c2, r2, b2) W
                    refine wp_region_grow (by kernel_rfl) (by kernel_rfl) ?_
                    repeat (go_big_quiet_step (first | (go_at_call 25; exact Gr.blw (HAh.out _ _ _ _ _ _ _)) | fail))
                    refine wpQuiet_nil ?_
                    intro w12 hw12
                    obtain ⟨G, hG⟩ := hw12
                    subst hG
                    have HBG := Lib.hid (HBW.out.trans (G.ok.none.mono HBW.out.size))
                    clear q0 q1 q2 q3 q4 q5 q6
                    go_wp2_with fail
                    go_roundw
                    case rel => exact ⟨i + 1, some at9, rfl, by go_num, by omega, HN.out, HBG.out⟩
                    case measure => simp [intOf]; omega
                  · have HN := Lib.hid (HBst.out.better hm hah)
                    generalize y i = x at *
                    generalize y at9 = z at *
                    obtain ⟨x1, x2, x3⟩ := x
                    obtain ⟨z1, z2, z3⟩ := z
                    dsimp only at d0 d1 d2 f0 f1 f2
                    go_upto_region 16 with fail
                    have q0 := Gr.cell hu
                    have q1 := Gr.cell d0
                    have q2 := Gr.cell d1
                    have q3 := Gr.cell d2
                    have q4 := Gr.cell f0
                    have q5 := Gr.cell f1
                    have q6 := Gr.cell f2
                    clear hu d0 d1 d2 f0 f1 f2
                    have HAh : Hid (∀ (c1 : Int) (r1 : Nat) (b1 : Bool) (c2 : Int) (r2 : Nat) (b2 : Bool) W, Calls Try.prog 25 #[.agg #[.int .i64 c1, .int .u64 (r1 : Int), .bool b1], .agg #[.int .i64 c2, .int .u64 (r2 : Int), .bool b2]] W fun e w' => e = .returned (.bool (ahd (c1, r1, b1) (c2, r2, b2))) ∧ Below W.heap.size W w') := fun c1 r1 b1 c2 r2 b2 W => ahead_any (c1, r1, b1) (c2, r2, b2) W
                    refine wp_region_grow (by kernel_rfl) (by kernel_rfl) ?_
                    repeat (go_big_quiet_step (first | (go_at_call 25; exact Gr.blw (HAh.out _ _ _ _ _ _ _)) | fail))
                    refine wpQuiet_nil ?_
                    intro w12 hw12
                    obtain ⟨G, hG⟩ := hw12
                    subst hG
                    have HBG := Lib.hid (HBW.out.trans (G.ok.none.mono HBW.out.size))
                    clear q0 q1 q2 q3 q4 q5 q6
                    go_wp2_with fail
                    go_roundw
                    case rel => exact ⟨i + 1, some i, rfl, by go_num, by omega, HN.out, HBG.out⟩
                    case measure => simp [intOf]; omega
            · obtain rfl : i = k := by omega
              cases bst with
              | none => exact absurd HBst.out (best_more (by omega))
              | some at9 =>
                have hat := HBst.out.1
                obtain ⟨bb, off, rfl, hb, d0, _, _⟩ := HPw.out.at hat
                rw [show atV (some at9) = .int .i64 (at9 : Int) from rfl]
                have hrow := HS2.out.row.cell hat
                have hfz := HS2.out.row.frozen at9
                have hatz : (at9 : Int) < (i : Int) := by omega
                have hold := HS2.out.old
                have hbg : ¬ bb = gu := by omega
                have hd5 : (wr.setCell ⟨gu, at9, none⟩ (.bool true)).cell? ⟨bb, off + at9 * 3, none⟩ = some (.int .i64 (y at9).1) := (World.cell?_setCell_far wr _ _ _ (fun e => hbg e.symm)).trans d0
                have HOM := Lib.hid (HS2.out.mark (a := at9))
                obtain ⟨w5, hw5⟩ : ∃ w5, wr.setCell ⟨gu, at9, none⟩ (.bool true) = w5 := ⟨_, rfl⟩
                rw [hw5] at hd5 HOM
                have HW5 := Lib.hid hw5.symm
                have hs5 : w3.heap.size ≤ w5.heap.size := by rw [← hw5]; have := HS2.out.size; simpa [World.setCell] using this
                have hil : ¬ (i : Int) < (i : Int) := by omega
                clear d0
                go_upto_region 19 with fail
                clear hw5 hrow hfz
                obtain ⟨xv, hxv⟩ : ∃ xv, (y at9).1 = xv := ⟨_, rfl⟩
                rw [hxv] at hd5
                have HXV := Lib.hid hxv
                clear hxv
                go_wp2_with (with_reducible refine wpList_append_where _ rfl (.tmp 73) (.tmp 79) 35 rfl w3.heap.size 3 (.int .i64 0) 1 8 Try.underlying35 infoI64 rfl (by decide) u10 sel.length (irow (sel.map fun j => (y j).1)) rfl (HOM.out.alloc _) ⟨w5.heap.size, 0, none⟩ 1 1 (irow [xv]) rfl rfl ?c0 (irow_one _) ?c2 ?c3 ?c4 ?_)
                case c0 => exact fun j u h => h
                case c2 => simp only [maxLen]; omega
                case c3 => omega
                case c4 => omega
                intro A2 cap2 w7 hown hgr _
                have HN := Lib.hid (HS2.out.next HBst.out HW5.out (by rw [HXV.out]; exact hown) (by rw [HXV.out]; exact hgr))
                clear hown hgr
                go_wp2_with fail
                go_roundw
                case rel => exact ⟨r, sel ++ [at9], by go_num, HN.out⟩
                case measure => simp [intOf]
        · have hr0 : r = 0 := by omega
          subst hr0
          have hsl : sel.length = K := by omega
          have HL : Hid (sel.map (fun j => (y j).1) = victims (lsP k y) c b) := by
            show _ = _
            unfold victims
            rw [← HKK.out, ← hsl, ← HS.out.sel_.take, List.map_map]
            rfl
          have ho := HS.out.own
          rw [HL.out, hsl] at ho
          obtain ⟨A, cp, rfl⟩ := own_slice1 ho
          have HO := Lib.hid ho
          have HB := Lib.hid HS.out.below
          clear ho hsl hsum HS
          go_wp2_with fail
          go_ret
          refine ⟨A, cp, by rw [← HKK.out]; rfl, ?_, HB.out⟩
          rw [← HKK.out]
          exact own_numsI HO.out (by rw [victims_len, ← HKK.out])
end Go.Proofs.Ytigifbijmchdcaa
