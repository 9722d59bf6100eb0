/- NetOne: for every input the law returns true, and of what was in memory nothing changes. -/
import Derived.Test.YtceoopkcpkbdaaaNetSort
import Derived.Test.YtceoopkcpkbdaaaNetShape
namespace Go.Proofs.Ytceoopkcpkbdaaa
open Go.RowKit Go.Shelf Go.ChangeShapes Go.WideShapes Go.ChangeAt

/-- The tens, the first i of them; with one word in its place. -/
def ten (i k : Nat) : Int := if k < i then 10 * (k : Int) else 0
def tenWith (n k : Nat) (v : Int) (j : Nat) : Int := if j = k then v else ten n j
theorem ten_succ (i k : Nat) : ten (i + 1) k = if k = i then 10 * (i : Int) else ten i k := by
  unfold ten
  by_cases h : k = i
  · subst h; simp
  · rw [if_neg h]
    by_cases h2 : k < i
    · rw [if_pos h2, if_pos (by omega)]
    · rw [if_neg h2, if_neg (by omega)]
/-- Has the word been met? -/
def metB (y : Nat → Int) (v : Int) (i : Nat) : Bool := (List.range i).any fun j => y j == v
theorem metB_succ (y : Nat → Int) (v : Int) (i : Nat) : metB y v (i + 1) = (metB y v i || (y i == v)) := by
  unfold metB; rw [List.range_succ, List.any_append]; simp
theorem mem_lst {n : Nat} {x : Nat → Int} {v : Int} : v ∈ lst n x ↔ ∃ i, i < n ∧ x i = v := by
  unfold lst; simp [List.mem_map]
/-- What the network makes of them. -/
theorem one_math (P k : Nat) (v : Int) (hk : k < 2 ^ P) (h0 : 0 ≤ v) : (∀ i, 0 < i → i < 2 ^ P → run (netL P) (tenWith (2 ^ P) k v) (i - 1) ≤ run (netL P) (tenWith (2 ^ P) k v) i) ∧
    metB (run (netL P) (tenWith (2 ^ P) k v)) v (2 ^ P) = true ∧ (k ≠ 0 → run (netL P) (tenWith (2 ^ P) k v) 0 = 0) ∧ (k ≠ 2 ^ P - 1 → run (netL P) (tenWith (2 ^ P) k v) (2 ^ P - 1) = max v (10 * ((2 ^ P - 1 : Nat) : Int))) := by
  have hp := net_perm P (tenWith (2 ^ P) k v)
  have hN := two_pos P
  have hmem : ∀ u, u ∈ lst (2 ^ P) (run (netL P) (tenWith (2 ^ P) k v)) ↔ u ∈ lst (2 ^ P) (tenWith (2 ^ P) k v) := fun u => hp.mem_iff
  have hso : ∀ i j, i ≤ j → j < 2 ^ P → run (netL P) (tenWith (2 ^ P) k v) i ≤ run (netL P) (tenWith (2 ^ P) k v) j := fun i j h1 h2 => run_sorted P _ i j h1 h2
  have hv : v ∈ lst (2 ^ P) (tenWith (2 ^ P) k v) := mem_lst.2 ⟨k, hk, by unfold tenWith; rw [if_pos rfl]⟩
  have hall : ∀ u ∈ lst (2 ^ P) (tenWith (2 ^ P) k v), 0 ≤ u ∧ u ≤ max v (10 * ((2 ^ P - 1 : Nat) : Int)) := fun u hu => by
    obtain ⟨i, hi, rfl⟩ := mem_lst.1 hu
    unfold tenWith ten
    by_cases h : i = k
    · rw [if_pos h]; omega
    · rw [if_neg h, if_pos hi]; omega
  refine ⟨fun i h1 h2 => hso _ _ (by omega) h2, ?_, fun hk0 => ?_, fun hk1 => ?_⟩
  · obtain ⟨i, hi, e⟩ := mem_lst.1 ((hmem v).2 hv)
    unfold metB
    rw [List.any_eq_true]
    exact ⟨i, List.mem_range.2 hi, by simp [e]⟩
  · have h1 : (0 : Int) ∈ lst (2 ^ P) (tenWith (2 ^ P) k v) := mem_lst.2 ⟨0, hN, by unfold tenWith ten; rw [if_neg (by omega), if_pos hN]; rfl⟩
    obtain ⟨i, hi, e⟩ := mem_lst.1 ((hmem 0).2 h1)
    have h2 := hso 0 i (by omega) hi
    have h3 := (hall _ ((hmem _).1 (mem_lst.2 ⟨0, hN, rfl⟩))).1
    omega
  · have h3 := (hall _ ((hmem _).1 (mem_lst.2 ⟨2 ^ P - 1, by omega, rfl⟩))).2
    have h1 : (10 * ((2 ^ P - 1 : Nat) : Int)) ∈ lst (2 ^ P) (tenWith (2 ^ P) k v) := mem_lst.2 ⟨2 ^ P - 1, by omega, by unfold tenWith ten; rw [if_neg (by omega), if_pos (by omega)]⟩
    obtain ⟨i, hi, e⟩ := mem_lst.1 ((hmem _).2 h1)
    obtain ⟨j, hj, e2⟩ := mem_lst.1 ((hmem _).2 hv)
    have h4 := hso i (2 ^ P - 1) (by omega) (by omega)
    have h5 := hso j (2 ^ P - 1) (by omega) (by omega)
    omega
theorem clamp_at (n : Nat) (p : Int) (h : 0 < n) : ∃ (M : Int) (k : Nat), (if (n : Int) - 1 < p then (n : Int) - 1 else p) = M ∧ (if 0 < M then M else 0) = (k : Int) ∧ k < n := by
  refine ⟨_, (max 0 (min p ((n : Int) - 1))).toNat, rfl, ?_, by omega⟩
  split <;> split <;> omega
theorem tenWith_rng (n k : Nat) (v : Int) (h0 : 0 ≤ v) (h1 : v ≤ 18446744073709551615) (hn : n ≤ 256) (j : Nat) : 0 ≤ tenWith n k v j ∧ tenWith n k v j ≤ 18446744073709551615 := by
  unfold tenWith ten
  split
  · exact ⟨h0, h1⟩
  · split <;> omega
theorem drew_more {w w' : World} (h : ∃ q, w' = w.drewN q) (k : Nat) : ∃ q, w'.drewN k = w.drewN q := by
  obtain ⟨q, rfl⟩ := h
  exact ⟨q + k, by simp [World.drewN, Nat.add_assoc]⟩
theorem ret_true {b : Bool} (h : b = true) : Ending.returned (.bool b) = .returned (.bool true) := by rw [h]
/-- In the middle of laying tens. -/
structure TenAt (w : World) (gl n i : Nat) (wr : World) : Prop where
  le : i ≤ n
  row : wr.rowIs gl 39 n (fun k => .int .u64 (ten i k))
  old : w.heap.size ≤ gl
  below : Below w.heap.size w wr
theorem TenAt.next {w : World} {gl n i : Nat} {wr : World} (h : TenAt w gl n i wr) (hi : i < n) : TenAt w gl n (i + 1) (wr.setCell ⟨gl, i, none⟩ (.int .u64 (10 * (i : Int)))) :=
  ⟨hi, (h.row.set _ _).congr fun k _ => by
    show (if k = i then _ else _) = _
    rw [ten_succ]
    by_cases e : k = i
    · rw [if_pos e, if_pos e]
    · rw [if_neg e, if_neg e], h.old, h.below.setCell (p := ⟨gl, i, none⟩) h.old _⟩
theorem TenAt.with {w : World} {gl n : Nat} {wr : World} (h : TenAt w gl n n wr) (k : Nat) (v : Int) : (wr.setCell ⟨gl, k, none⟩ (.int .u64 v)).rowIs gl 39 n (fun j => .int .u64 (tenWith n k v j)) :=
  (h.row.set k _).congr fun j _ => by
    show (if j = k then _ else _) = _
    unfold tenWith
    by_cases e : j = k
    · rw [if_pos e, if_pos e]
    · rw [if_neg e, if_neg e]
set_option maxRecDepth 100000 in
set_option maxHeartbeats 1000000 in
theorem one_in (L n : Nat) (hL : L ≤ 8) (hn : 2 ^ L = n) (p v : Int) (w : World) (h0v : 0 ≤ v) (h1v : v ≤ 18446744073709551615) : Calls Try.prog 9 #[.int .i64 (L : Int), .int .i64 p, .int .u64 v] w fun e w' => e = .returned (.bool true) ∧ Below w.heap.size w w' := by
  have h0 : decide ((L : Int) < 0) = false := by simp
  have h1 : decide (8 < (L : Int)) = false := by simp; omega
  have hn1 : n ≤ 256 := by rw [← hn]; exact Nat.pow_le_pow_right (by decide) hL
  have hn0 : 0 < n := by rw [← hn]; exact two_pos L
  have hsh := shl_one L n hn (by omega)
  have hmk := run_make_row' (P := Try.prog) 32 39 (.int .u64 0) 8 Try.underlying32 infoU64 rfl .i64 .i64 n (by omega) (by omega)
  have HM := Lib.hid (fun k (hk : k < 2 ^ L) => one_math L k v hk h0v)
  rw [hn] at HM
  have HN := Lib.hid hn
  clear hn
  obtain ⟨M, k, hM, hk, hkn⟩ := clamp_at n p hn0
  go_enter Try.func9, Try.ntmps9
  go_wp2_with fail
  refine (shown_any _).mono ?_
  rintro e w1 ⟨rfl, hb1⟩
  have HTA : TenAt w w1.heap.size n 0 (w1.alloc (.cells (madeCells #[.int .u64 0] n) 39)) :=
    ⟨by omega, (World.rowIs_made w1 (.int .u64 0) n 39).congr fun k _ => by unfold ten; simp, hb1.size, hb1.alloc hb1.size _⟩
  have HA := Lib.hid HTA
  clear HTA hb1
  go_wp2_with fail
  go_loopw [10] (fun v10 wr => ∃ i : Nat, v10 = .int .i64 i ∧ TenAt w w1.heap.size n i wr) (fun v10 _ => n - (intOf v10).toNat)
  case atStart => exact ⟨0, rfl, HA.out⟩
  case round =>
    obtain ⟨i, rfl, hS⟩ := hrel
    clear HA
    have hle := hS.le
    by_cases hlt : i < n
    · have cl := hS.row.cell hlt
      have fl := hS.row.frozen i
      have HX := Lib.hid (hS.next hlt)
      clear hS
      go_wp2_with fail
      go_roundw
      case rel => exact ⟨i + 1, by go_num, HX.out⟩
      case measure => simp [intOf]; omega
    · have hin : n = i := by omega
      subst hin
      have ck := hS.row.cell hkn
      have fk := hS.row.frozen k
      have HS := Lib.hid hS
      have HR := Lib.hid (hS.with k v)
      have HB := Lib.hid (hS.below.setCell (p := ⟨w1.heap.size, k, none⟩) hS.old (.int .u64 v))
      clear hS
      go_wp2_with fail
      with_reducible refine (sort_right L w1.heap.size 0 n n (tenWith n k v) _ (by omega) HN.out (fun j hj => by rw [Nat.zero_add]; exact HR.out.cell hj) (fun j => tenWith_rng n k v h0v h1v hn1 j)).mono ?_
      rintro e w2 ⟨g, c, rfl, hg, hnc, hnum, hb2⟩
      have HB2 := Lib.hid (HB.out.trans (hb2.mono HB.out.size))
      obtain ⟨m1, m2, m3, m4⟩ := HM.out k hkn
      have HY := Lib.hid hnum
      clear hnum hb2 HM
      generalize run (netL L) (tenWith n k v) = y at *
      have M1 := Lib.hid m1
      have M2 := Lib.hid m2
      have M3 := Lib.hid m3
      have M4 := Lib.hid m4
      clear m1 m2 m3 m4 HS HR HB
      go_wp2_with fail
      go_loopw [14, 15] (fun v14 v15 wr => ∃ j : Nat, v15 = .int .i64 j ∧ v14 = .bool (metB y v j) ∧ j ≤ n ∧ ∃ q, wr = w2.drewN q) (fun _ v15 _ => n - (intOf v15).toNat)
      case atStart => exact ⟨0, rfl, rfl, by omega, 0, rfl⟩
      case round =>
        obtain ⟨j, rfl, rfl, hj, hw⟩ := hrel
        have HW := Lib.hid hw
        obtain ⟨q, hq⟩ := hw
        by_cases hjn : j < n
        · have cj : wr.cell? ⟨g, j, none⟩ = some (.int .u64 (y j)) := by rw [hq]; exact HY.out.cell hjn
          have hms := metB_succ y v j
          by_cases hj0 : j = 0
          · subst hj0
            have hme : metB y v 0 = false := rfl
            rw [hme] at hms ⊢
            have HMS := Lib.hid hms
            clear hms hq
            go_wp2_with fail
            go_quiet (fail)
            go_wp2_with fail
            go_roundw
            case rel => exact ⟨1, rfl, by rw [HMS.out, Bool.false_or], by omega, drew_more HW.out nq⟩
            case measure => simp [intOf]; omega
          · have ck : wr.cell? ⟨g, j - 1, none⟩ = some (.int .u64 (y (j - 1))) := by rw [hq]; exact HY.out.cell (by omega)
            have hlt2 : decide (y j < y (j - 1)) = false := by have := M1.out j (by omega) hjn; simp; omega
            have hpos : 0 < j := by omega
            clear hq
            cases hme : metB y v j
            · rw [hme] at hms
              have HMS := Lib.hid hms
              clear hms
              go_wp2_with fail
              go_quiet (fail)
              go_wp2_with fail
              go_roundw
              case rel => exact ⟨j + 1, by go_num, by rw [HMS.out, Bool.false_or], by omega, drew_more HW.out nq⟩
              case measure => simp [intOf]; omega
            · rw [hme] at hms
              have HMS := Lib.hid hms
              clear hms
              go_wp2_with fail
              go_quiet (fail)
              go_wp2_with fail
              go_roundw
              case rel => exact ⟨j + 1, by go_num, by rw [HMS.out, Bool.true_or], by omega, drew_more HW.out nq⟩
              case measure => simp [intOf]; omega
        · have hjn2 : n = j := by omega
          subst hjn2
          rw [M2.out]
          have c0 : wr.cell? ⟨g, 0, none⟩ = some (.int .u64 (y 0)) := by rw [hq]; exact HY.out.cell hn0
          have cN : wr.cell? ⟨g, n - 1, none⟩ = some (.int .u64 (y (n - 1))) := by rw [hq]; exact HY.out.cell (by omega)
          have hb3 : Below w.heap.size w wr := by rw [hq]; exact below_drewN HB2.out q
          have HB3 := Lib.hid hb3
          clear hb3 hq
          have hmin : (if (0 : Int) < v then 0 else v) = 0 := by split <;> omega
          by_cases hk0 : k = 0
          · by_cases hkN : k = n - 1
            · go_wp2_with fail
              all_goals (go_ret; refine ⟨?_, HB3.out⟩; first | rfl | (apply ret_true; simp only [Bool.or_eq_true, beq_iff_eq]; right; omega))
            · rw [M4.out hkN] at cN
              go_wp2_with fail
              all_goals (go_ret; refine ⟨?_, HB3.out⟩; first | rfl | (apply ret_true; simp only [Bool.or_eq_true, beq_iff_eq]; right; omega))
          · rw [M3.out hk0] at c0
            by_cases hkN : k = n - 1
            · go_wp2_with fail
              all_goals (go_ret; refine ⟨?_, HB3.out⟩; first | rfl | (apply ret_true; simp only [Bool.or_eq_true, beq_iff_eq]; right; omega))
            · rw [M4.out hkN] at cN
              go_wp2_with fail
              all_goals (go_ret; refine ⟨?_, HB3.out⟩; first | rfl | (apply ret_true; simp only [Bool.or_eq_true, beq_iff_eq]; right; omega))
set_option maxHeartbeats 1000000 in
theorem one_out (L : Int) (h : L < 0 ∨ 8 < L) (p v : Int) (w : World) : Calls Try.prog 9 #[.int .i64 L, .int .i64 p, .int .u64 v] w fun e w' => e = .returned (.bool true) ∧ Below w.heap.size w w' := by
  go_enter Try.func9, Try.ntmps9
  go_wp2_with fail
  refine (shown_any _).mono ?_
  rintro e w1 ⟨rfl, hb1⟩
  have HB := Lib.hid hb1
  clear hb1
  have hor : (decide (L < 0) || decide (8 < L)) = true := by simp; exact h
  go_wp2_with fail
  all_goals (go_ret; exact ⟨rfl, HB.out⟩)
theorem one_law (L p v : Int) (w : World) (hw : (Lit.int .u64 v).wf = true) : Calls Try.prog 9 #[.int .i64 L, .int .i64 p, .int .u64 v] w fun e w' => e = .returned (.bool true) ∧ Below w.heap.size w w' := by
  by_cases h : L < 0 ∨ 8 < L
  · exact one_out L h p v w
  · obtain ⟨k, rfl⟩ := Int.eq_ofNat_of_zero_le (a := L) (by omega)
    exact one_in k _ (by omega) rfl p v w (u64_rng hw).1 (u64_rng hw).2
end Go.Proofs.Ytceoopkcpkbdaaa
