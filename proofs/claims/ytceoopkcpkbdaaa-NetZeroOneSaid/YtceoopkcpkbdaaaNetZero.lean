/- NetZeroOne: for every number and every row of bools the law returns true, and of what was in memory nothing changes. -/
import Derived.Test.YtceoopkcpkbdaaaBools
import Derived.Test.YtceoopkcpkbdaaaNetSort
import Derived.Test.YtceoopkcpkbdaaaNetShape
namespace Go.Proofs.Ytceoopkcpkbdaaa
open Go.RowKit Go.Shelf Go.ChangeShapes Go.WideShapes Go.ChangeAt

/-- Which words are ones when i bools were looked at; how many. -/
def zo (z : Nat → Bool) (i k : Nat) : Int := if k < i ∧ z k = true then 1 else 0
def cnt (z : Nat → Bool) (i : Nat) : Nat := (List.range i).countP z
theorem cnt_succ (z : Nat → Bool) (i : Nat) : cnt z (i + 1) = cnt z i + if z i then 1 else 0 := by
  unfold cnt; rw [List.range_succ, List.countP_append]; simp [List.countP_cons]
theorem cnt_le (z : Nat → Bool) (i : Nat) : cnt z i ≤ i := by
  have := List.countP_le_length (p := z) (l := List.range i)
  rw [List.length_range] at this; exact this
theorem zo_succ (z : Nat → Bool) (i k : Nat) : zo z (i + 1) k = if k = i then (if z i then 1 else 0) else zo z i k := by
  unfold zo
  by_cases h : k = i
  · subst h; simp
  · rw [if_neg h]
    by_cases h2 : k < i
    · simp [h2, show k < i + 1 by omega]
    · simp [h2, show ¬ k < i + 1 by omega]
theorem zo_cases (z : Nat → Bool) (i k : Nat) : zo z i k = 0 ∨ zo z i k = 1 := by unfold zo; split <;> simp
theorem count_zo (z : Nat → Bool) (m : Nat) : ∀ n, (lst n (zo z m)).count 1 = cnt z (min n m)
  | 0 => by simp [lst, cnt]
  | n + 1 => by
    have ih := count_zo z m n
    have e : lst (n + 1) (zo z m) = lst n (zo z m) ++ [zo z m n] := by unfold lst; rw [List.range_succ, List.map_append]; rfl
    rw [e, List.count_append, ih]
    by_cases h : n < m
    · rw [show min n m = n by omega, show min (n + 1) m = n + 1 by omega, cnt_succ]
      congr 1
      unfold zo
      cases z n <;> simp [h]
    · rw [show min (n + 1) m = min n m by omega]
      unfold zo
      simp [h]
/-- The network makes of them: first the noughts. -/
theorem zo_sorted (P m : Nat) (z : Nat → Bool) (hm : m ≤ 2 ^ P) (i : Nat) (hi : i < 2 ^ P) : run (netL P) (zo z m) i = if 2 ^ P - cnt z m ≤ i then 1 else 0 := by
  have h01 : ∀ v ∈ lst (2 ^ P) (zo z m), v = 0 ∨ v = 1 := fun v hv => by
    unfold lst at hv
    obtain ⟨k, _, rfl⟩ := List.mem_map.1 hv
    exact zo_cases z m k
  obtain ⟨h1, h2⟩ := zeros_ones (lst (2 ^ P) (zo z m)) h01
  have h3 := net_only P (zo z m) _ h1 h2
  rw [count_zo, lst_len, show min (2 ^ P) m = m by omega] at h3
  have h4 : run (netL P) (zo z m) i = (lst (2 ^ P) (run (netL P) (zo z m)))[i]'(by rw [lst_len]; exact hi) := (lst_at _ _ i _).symm
  rw [h4]
  simp only [h3]
  have hc := cnt_le z m
  rw [List.getElem_append]
  split
  · rename_i h
    simp at h ⊢
    omega
  · rename_i h
    simp at h ⊢
    omega
/-- In the middle of laying ones. -/
structure ZoAt (w : World) (a : Option Addr) (nb : Nat) (z : Nat → Bool) (gl n i : Nat) (wr : World) : Prop where
  le : i ≤ n ∧ i ≤ nb
  bools : Bools wr w.heap.size a nb z
  row : wr.rowIs gl 39 n (fun k => .int .u64 (zo z i k))
  old : w.heap.size ≤ gl
  below : Below w.heap.size w wr
theorem ZoAt.no {w : World} {a : Option Addr} {nb : Nat} {z : Nat → Bool} {gl n i : Nat} {wr : World} (h : ZoAt w a nb z gl n i wr) (h1 : i < n) (h2 : i < nb) (hz : z i = false) : ZoAt w a nb z gl n (i + 1) wr :=
  ⟨by omega, h.bools, h.row.congr fun k _ => by
    rw [zo_succ, hz]
    by_cases e : k = i
    · subst e; rw [if_pos rfl]; unfold zo; simp
    · rw [if_neg e], h.old, h.below⟩
theorem ZoAt.yes {w : World} {a : Option Addr} {nb : Nat} {z : Nat → Bool} {gl n i : Nat} {wr : World} (h : ZoAt w a nb z gl n i wr) (h1 : i < n) (h2 : i < nb) (hz : z i = true) : ZoAt w a nb z gl n (i + 1) (wr.setCell ⟨gl, i, none⟩ (.int .u64 1)) :=
  ⟨by omega, h.bools.below ((Below.refl _ _).setCell (p := ⟨gl, i, none⟩) h.old _), (h.row.set _ _).congr fun k _ => by
    show (if k = i then _ else _) = _
    rw [zo_succ, hz]
    by_cases e : k = i
    · rw [if_pos e, if_pos e]; rfl
    · rw [if_neg e, if_neg e], h.old, h.below.setCell (p := ⟨gl, i, none⟩) h.old _⟩
set_option maxRecDepth 100000 in
set_option maxHeartbeats 1000000 in
theorem zero_in (L n : Nat) (hL : L ≤ 8) (hn : 2 ^ L = n) (a : Option Addr) (nb cb : Nat) (z : Nat → Bool) (w : World) (hnb : nb ≤ 9223372036854775807) (hz : Bools w w.heap.size a nb z) : Calls Try.prog 5 #[.int .i64 (L : Int), .slice a nb cb] w fun e w' => e = .returned (.bool true) ∧ Below w.heap.size w w' := by
  have h0 : decide ((L : Int) < 0) = false := by simp
  have h1 : decide (8 < (L : Int)) = false := by simp; omega
  have hn1 : n ≤ 1024 := by rw [← hn]; exact two_le L (by omega)
  have hn0 : 0 < n := by rw [← hn]; exact two_pos L
  have hsh := shl_one L n hn hn1
  have hmk := run_make_row' (P := Try.prog) 32 39 (.int .u64 0) 8 Try.underlying32 infoU64 rfl .i64 .i64 n (by omega) (by omega)
  have hso : ∀ m i, m ≤ n → i < n → run (netL L) (zo z m) i = if n - cnt z m ≤ i then 1 else 0 := fun m i h1 h2 => by
    have := zo_sorted L m z (by rw [hn]; exact h1) i (by rw [hn]; exact h2)
    rwa [hn] at this
  have HSO := Lib.hid hso
  have HZ := Lib.hid hz
  have HN := Lib.hid hn
  clear hso hz hn
  go_enter Try.func5, Try.ntmps5
  go_wp2_with fail
  refine (shown_any _).mono ?_
  rintro e w1 ⟨rfl, hb1⟩
  have HZA : ZoAt w a nb z w1.heap.size n 0 (w1.alloc (.cells (madeCells #[.int .u64 0] n) 39)) :=
    ⟨by omega, HZ.out.below (hb1.alloc hb1.size _), (World.rowIs_made w1 (.int .u64 0) n 39).congr fun k _ => by unfold zo; simp, hb1.size, hb1.alloc hb1.size _⟩
  have HA := Lib.hid HZA
  clear HZA hb1
  go_wp2_with fail
  go_loopw [7, 8] (fun v7 v8 wr => ∃ i : Nat, v8 = .int .i64 i ∧ v7 = .int .i64 (cnt z i : Nat) ∧ ZoAt w a nb z w1.heap.size n i wr) (fun _ v8 _ => n - (intOf v8).toNat)
  case atStart => exact ⟨0, rfl, rfl, HA.out⟩
  case round =>
    obtain ⟨i, rfl, rfl, hS⟩ := hrel
    clear HA
    have hle := hS.le
    by_cases h2 : i < n
    · by_cases h3 : i < nb
      · obtain ⟨b, off, rfl, _, hcb⟩ := hS.bools (by omega)
        have cb := hcb i h3
        have cl := hS.row.cell h2
        have fl := hS.row.frozen i
        have hcc := cnt_le z i
        have hcs := cnt_succ z i
        cases hzi : z i
        · rw [hzi] at cb hcs
          have HX := Lib.hid (hS.no h2 h3 hzi)
          have HC := Lib.hid hcs
          clear hS hcs hcb
          go_wp2_with fail
          go_roundw
          case rel => exact ⟨i + 1, by go_num, by rw [HC.out]; go_num, HX.out⟩
          case measure => simp [intOf]; omega
        · rw [hzi] at cb hcs
          have HX := Lib.hid (hS.yes h2 h3 hzi)
          have HC := Lib.hid hcs
          clear hS hcs hcb
          go_wp2_with fail
          go_roundw
          case rel => exact ⟨i + 1, by go_num, by rw [HC.out]; go_num, HX.out⟩
          case measure => simp [intOf]; omega
      · have hcl := hS.row
        have HB := Lib.hid hS.below
        have hc0 := cnt_le z i
        have hso := HSO.out i
        clear hS HSO
        have HR := Lib.hid hcl
        clear hcl
        obtain ⟨w9, h9⟩ : ∃ x, x = wr := ⟨_, rfl⟩
        subst h9
        go_wp2_with fail
        with_reducible refine (sort_right L w1.heap.size 0 n n (zo z i) _ (by omega) HN.out (fun j hj => by rw [Nat.zero_add]; exact HR.out.cell hj) (fun k => by have := zo_cases z i k; omega)).mono ?_
        rintro e w2 ⟨g, c, rfl, hg, hnc, hnum, hb2⟩
        have HB2 := Lib.hid (HB.out.trans (hb2.mono HB.out.size))
        have HNum := Lib.hid hnum
        have HSo := Lib.hid hso
        clear hb2 hnum hso
        go_wp2_with fail
        go_loopw [11] (fun v wr => ∃ k : Nat, v = .int .i64 k ∧ k ≤ n ∧ wr = w2) (fun v _ => n - (intOf v).toNat)
        case atStart => exact ⟨0, rfl, by omega, rfl⟩
        case round =>
          obtain ⟨k, rfl, hk, rfl⟩ := hrel
          by_cases hkn : k < n
          · have ck := HNum.out.cell hkn
            rw [HSo.out k (by omega) hkn] at ck
            generalize cnt z i = t at *
            by_cases hge : n - t ≤ k
            · rw [if_pos hge] at ck
              have hd : (n : Int) - (t : Int) ≤ (k : Int) := by omega
              go_wp2_with fail
              go_roundw
              case rel => exact ⟨k + 1, by go_num, by omega, trivial⟩
              case measure => simp [intOf]; omega
            · rw [if_neg hge] at ck
              have hd : ¬ (n : Int) - (t : Int) ≤ (k : Int) := by omega
              go_wp2_with fail
              go_roundw
              case rel => exact ⟨k + 1, by go_num, by omega, trivial⟩
              case measure => simp [intOf]; omega
          · go_wp2_with fail
            go_ret
            exact ⟨rfl, HB2.out⟩
    · have hcl := hS.row
      have HB := Lib.hid hS.below
      have hc0 := cnt_le z i
      have hso := HSO.out i
      clear hS HSO
      have HR := Lib.hid hcl
      clear hcl
      obtain ⟨w9, h9⟩ : ∃ x, x = wr := ⟨_, rfl⟩
      subst h9
      go_wp2_with fail
      with_reducible refine (sort_right L w1.heap.size 0 n n (zo z i) _ (by omega) HN.out (fun j hj => by rw [Nat.zero_add]; exact HR.out.cell hj) (fun k => by have := zo_cases z i k; omega)).mono ?_
      rintro e w2 ⟨g, c, rfl, hg, hnc, hnum, hb2⟩
      have HB2 := Lib.hid (HB.out.trans (hb2.mono HB.out.size))
      have HNum := Lib.hid hnum
      have HSo := Lib.hid hso
      clear hb2 hnum hso
      go_wp2_with fail
      go_loopw [11] (fun v wr => ∃ k : Nat, v = .int .i64 k ∧ k ≤ n ∧ wr = w2) (fun v _ => n - (intOf v).toNat)
      case atStart => exact ⟨0, rfl, by omega, rfl⟩
      case round =>
        obtain ⟨k, rfl, hk, rfl⟩ := hrel
        by_cases hkn : k < n
        · have ck := HNum.out.cell hkn
          rw [HSo.out k (by omega) hkn] at ck
          generalize cnt z i = t at *
          by_cases hge : n - t ≤ k
          · rw [if_pos hge] at ck
            have hd : (n : Int) - (t : Int) ≤ (k : Int) := by omega
            go_wp2_with fail
            go_roundw
            case rel => exact ⟨k + 1, by go_num, by omega, trivial⟩
            case measure => simp [intOf]; omega
          · rw [if_neg hge] at ck
            have hd : ¬ (n : Int) - (t : Int) ≤ (k : Int) := by omega
            go_wp2_with fail
            go_roundw
            case rel => exact ⟨k + 1, by go_num, by omega, trivial⟩
            case measure => simp [intOf]; omega
        · go_wp2_with fail
          go_ret
          exact ⟨rfl, HB2.out⟩
set_option maxHeartbeats 1000000 in
theorem zero_out (L : Int) (h : L < 0 ∨ 8 < L) (v : Value) (w : World) : Calls Try.prog 5 #[.int .i64 L, v] w fun e w' => e = .returned (.bool true) ∧ Below w.heap.size w w' := by
  go_enter Try.func5, Try.ntmps5
  go_wp2_with fail
  refine (shown_any _).mono ?_
  rintro e w1 ⟨rfl, hb1⟩
  have HB := Lib.hid hb1
  clear hb1
  have hor : (decide (L < 0) || decide (8 < L)) = true := by simp; exact h
  go_wp2_with fail
  all_goals (go_ret; exact ⟨rfl, HB.out⟩)
theorem zero_law (L : Int) (a : Option Addr) (nb cb : Nat) (z : Nat → Bool) (w : World) (hnb : nb ≤ 9223372036854775807) (hz : Bools w w.heap.size a nb z) : Calls Try.prog 5 #[.int .i64 L, .slice a nb cb] w fun e w' => e = .returned (.bool true) ∧ Below w.heap.size w w' := by
  by_cases h : L < 0 ∨ 8 < L
  · exact zero_out L h _ w
  · obtain ⟨k, rfl⟩ := Int.eq_ofNat_of_zero_le (a := L) (by omega)
    exact zero_in k _ (by omega) rfl a nb cb z w hnb hz
end Go.Proofs.Ytceoopkcpkbdaaa
