/- fill: those that have no place are given the ones that are left, in order. Only the slice's own block changes. -/
import Derived.Test.YtnpddimepcblkaaDealNext
import Derived.Test.YtnpddimepcblkaaIntRow
import Derived.Test.YtnpddimepcblkaaDealLast
namespace Go.Proofs.Ytnpddimepcblkaa
open Go.RowKit Go.ChangeShapes Go.WideShapes Go.ChangeAt

theorem infoBool : (Try.prog.info? 4).map (fun i => (i.zero, i.size, i.bytes)) = some (some (.bool false), 1, 1) := by kernel_rfl
theorem isAt_succ (A : Nat → Option Nat) (i p : Nat) : isAt A (i + 1) p = (isAt A i p || (A i == some p)) := by
  unfold isAt
  rw [List.range_succ, List.any_append]
  simp
/-- How many of the first i items have no place. -/
def rnk (A : Nat → Option Nat) (i : Nat) : Nat := (List.range i).countP fun j => (A j).isNone
theorem rnk_succ (A : Nat → Option Nat) (i : Nat) : rnk A (i + 1) = rnk A i + (if (A i).isNone then 1 else 0) := by
  unfold rnk
  rw [List.range_succ, List.countP_append]
  simp
/-- Where one looks for the next place that is left. -/
def lft (l : List Nat) (k : Nat) : Nat := if k = 0 then 0 else l.getD (k - 1) 0 + 1
theorem lft_succ (l : List Nat) (k : Nat) : lft l (k + 1) = l.getD k 0 + 1 := by unfold lft; simp
theorem getD_at {l : List Nat} {k : Nat} (hk : k < l.length) : l.getD k 0 = l[k] := by simp [hk]
section
variable {A : Nat → Option Nat} {n k : Nat}
theorem fre_mem (p : Nat) : p ∈ fre A n ↔ p < n ∧ isAt A n p = false := by
  unfold fre
  rw [List.mem_filter, List.mem_range]
  simp
theorem fre_skip (hk : k < (fre A n).length) (x : Nat) (h1 : lft (fre A n) k ≤ x) (h2 : x < (fre A n).getD k 0) : isAt A n x = true := by
  rw [getD_at hk] at h2
  cases h : isAt A n x
  · have hn : (fre A n)[k] < n := ((fre_mem _).1 (List.getElem_mem hk)).1
    have hx : x ∈ fre A n := (fre_mem x).2 ⟨by omega, h⟩
    obtain ⟨m, hm, rfl⟩ := List.mem_iff_getElem.1 hx
    have hp := List.pairwise_iff_getElem.1 (fre_up A n)
    have hmk : m < k := by
      apply Nat.lt_of_not_le
      intro hle
      rcases Nat.lt_or_eq_of_le hle with h3 | h3
      · have := hp k m hk hm h3; omega
      · subst h3; omega
    unfold lft at h1
    rw [if_neg (by omega), getD_at (by omega)] at h1
    by_cases e : m = k - 1
    · subst e; omega
    · have := hp m (k - 1) hm (by omega) (by omega); omega
  · rfl
theorem fre_stop (hk : k < (fre A n).length) : isAt A n ((fre A n).getD k 0) = false ∧ (fre A n).getD k 0 < n := by
  rw [getD_at hk]
  have := (fre_mem (A := A) (n := n) _).1 (List.getElem_mem hk)
  exact ⟨this.2, this.1⟩
theorem fre_first (hk : k < (fre A n).length) : lft (fre A n) k ≤ (fre A n).getD k 0 := by
  unfold lft
  by_cases e : k = 0
  · rw [if_pos e]; exact Nat.zero_le _
  · rw [if_neg e, getD_at hk, getD_at (by omega)]
    have := (List.pairwise_iff_getElem.1 (fre_up A n)) (k - 1) k (by omega) hk (by omega)
    omega
theorem outP_none {i : Nat} (h : A i = none) : outP A n i = (fre A n).getD (rnk A i) 0 := by
  unfold outP
  rw [h]
  show (fre A n)[rnk A i]?.getD 0 = _
  rw [List.getD_eq_getElem?_getD]
end
/-- In the middle of marking the places that are dealt. -/
structure MkAt (w : World) (g t n : Nat) (A : Nat → Option Nat) (i : Nat) (wr : World) : Prop where
  le : i ≤ n
  row : wr.rowIs g 3 n (fun j => .int .i64 (optI (A j)))
  tk : wr.rowIs t 4 n (fun p => .bool (isAt A i p))
  old : w.heap.size ≤ t
  only : Only (just g) w wr
theorem MkAt.skip {w wr : World} {g t n : Nat} {A : Nat → Option Nat} {i : Nat} (h : MkAt w g t n A i wr) (hi : i < n) (hA : A i = none) : MkAt w g t n A (i + 1) wr :=
  ⟨hi, h.row, h.tk.congr fun p _ => by rw [isAt_succ, hA]; simp, h.old, h.only⟩
theorem MkAt.mark {w wr : World} {g t n : Nat} {A : Nat → Option Nat} {i p : Nat} (h : MkAt w g t n A i wr) (hg : g ≠ t) (hi : i < n) (hA : A i = some p) : MkAt w g t n A (i + 1) (wr.setCell ⟨t, p, none⟩ (.bool true)) := by
  refine ⟨hi, h.row.setOther hg _, (h.tk.set _ _).congr fun q _ => ?_, h.old, h.only.setCell (p := ⟨t, p, none⟩) (.inr h.old) _⟩
  show (if q = p then _ else _) = _
  rw [isAt_succ, hA]
  by_cases e : q = p
  · subst e; simp
  · rw [if_neg e]
    have : (some p == some q) = false := by simp; omega
    rw [this, Bool.or_false]
/-- In the middle of giving the places that are left. -/
structure FlAt (w : World) (g t n : Nat) (A : Nat → Option Nat) (i : Nat) (wr : World) : Prop where
  le : i ≤ n
  row : wr.rowIs g 3 n (fun j => .int .i64 (if j < i then (outP A n j : Int) else optI (A j)))
  tk : wr.rowIs t 4 n (fun p => .bool (isAt A n p))
  only : Only (just g) w wr
theorem FlAt.skip {w wr : World} {g t n : Nat} {A : Nat → Option Nat} {i p : Nat} (h : FlAt w g t n A i wr) (hi : i < n) (hA : A i = some p) : FlAt w g t n A (i + 1) wr :=
  ⟨hi, h.row.congr fun j _ => by
    by_cases e : j = i
    · subst e; rw [if_neg (by omega), if_pos (by omega), out_some hA, hA]; rfl
    · by_cases e2 : j < i
      · rw [if_pos e2, if_pos (by omega)]
      · rw [if_neg e2, if_neg (by omega)], h.tk, h.only⟩
theorem FlAt.give {w wr : World} {g t n : Nat} {A : Nat → Option Nat} {i x : Nat} (h : FlAt w g t n A i wr) (hg : g ≠ t) (hi : i < n) (hx : outP A n i = x) : FlAt w g t n A (i + 1) (wr.setCell ⟨g, i, none⟩ (.int .i64 (x : Int))) := by
  refine ⟨hi, (h.row.set _ _).congr fun j _ => ?_, h.tk.setOther (fun e => hg e.symm) _, h.only.setCell (p := ⟨g, i, none⟩) (.inl (just_self g)) _⟩
  show (if j = i then _ else _) = _
  by_cases e : j = i
  · subst e; rw [if_pos rfl, if_pos (by omega), hx]
  · rw [if_neg e]
    by_cases e2 : j < i
    · rw [if_pos e2, if_pos (by omega)]
    · rw [if_neg e2, if_neg (by omega)]
def FlPost (w : World) (g n : Nat) (A : Nat → Option Nat) (e : Ending) (w' : World) : Prop :=
  e = .returned (.tuple #[]) ∧ w'.rowIs g 3 n (fun i => .int .i64 (outP A n i : Nat)) ∧ Only (just g) w w'
set_option maxRecDepth 100000 in
set_option maxHeartbeats 2000000 in
theorem fill_any (g n c : Nat) (A : Nat → Option Nat) (w : World) (hn : n ≤ 1000) (hlt : ∀ i p, i < n → A i = some p → p < n) (hinj : ∀ i j p, i < n → j < n → A i = some p → A j = some p → i = j)
    (hr : w.rowIs g 3 n (fun i => .int .i64 (optI (A i)))) : Calls Try.prog 19 #[.slice (some ⟨g, 0, none⟩) n c] w (FlPost w g n A) := by
  have hmk := run_make_row' (P := Try.prog) 50 4 (.bool false) 1 Try.underlying50 infoBool rfl .i64 .i64 n (by omega) (by omega)
  have hgl := hr.lt
  have HM : Hid (MkAt w g w.heap.size n A 0 (w.alloc (.cells (madeCells #[.bool false] n) 4))) :=
    ⟨by omega, hr.alloc _, (World.rowIs_made w (.bool false) n 4).congr fun p _ => by simp [isAt], Nat.le_refl _, (Only.refl _ w).alloc _⟩
  obtain ⟨t, ht⟩ : ∃ t, w.heap.size = t := ⟨_, rfl⟩
  have hgt : ¬ g = t := by omega
  have htg : ¬ t = g := fun e => hgt e.symm
  rw [ht] at HM
  have HT := Lib.hid ht
  have HLt := Lib.hid hlt
  have HLen := Lib.hid (fre_len hlt hinj)
  clear hr ht hlt hinj hgl
  go_enter Try.func19, Try.ntmps19
  go_wp2_with fail
  rw [HT.out]
  go_loopw [13] (fun v wr => ∃ i : Nat, v = .int .i64 i ∧ MkAt w g t n A i wr) (fun v _ => n - (intOf v).toNat)
  case atStart => exact ⟨0, rfl, HM.out⟩
  case round =>
    obtain ⟨i, rfl, hS⟩ := hrel
    clear HM
    have hle := hS.le
    by_cases hin : i < n
    · have c0 := hS.row.cell hin
      cases hA : A i with
      | none =>
        rw [hA] at c0
        replace c0 : wr.cell? ⟨g, i, none⟩ = some (.int .i64 (-1)) := c0
        have HN := Lib.hid (hS.skip hin hA)
        clear hS hA
        go_wp2_with fail
        go_roundw
        case rel => exact ⟨i + 1, by go_num, HN.out⟩
        case measure => simp [intOf]; omega
      | some p =>
        rw [hA] at c0
        replace c0 : wr.cell? ⟨g, i, none⟩ = some (.int .i64 (p : Int)) := c0
        have hp := HLt.out i p hin hA
        have c1 := hS.tk.cell hp
        have f1 := hS.tk.frozen p
        have hne : ((p : Int) != -1) = true := by rw [bne_iff_ne]; omega
        have HN := Lib.hid (hS.mark hgt hin hA)
        clear hS hA
        go_wp2_with fail
        go_roundw
        case rel => exact ⟨i + 1, by go_num, HN.out⟩
        case measure => simp [intOf]; omega
    · obtain rfl : i = n := by omega
      have hF : FlAt w g t i A 0 wr := ⟨by omega, hS.row.congr fun j _ => by rw [if_neg (by omega)], hS.tk, hS.only⟩
      have HF := Lib.hid hF
      clear hS hF hin hle
      obtain ⟨w9, h9⟩ : ∃ x, x = wr := ⟨_, rfl⟩
      subst h9
      go_wp2_with fail
      go_loopw [5, 25] (fun v5 v25 wr => ∃ k : Nat, v25 = .int .i64 k ∧ v5 = .int .i64 (lft (fre A i) (rnk A k) : Nat) ∧ FlAt w g t i A k wr) (fun _ v _ => i - (intOf v).toNat)
      case atStart => exact ⟨0, rfl, by simp [lft, rnk], HF.out⟩
      case round =>
        obtain ⟨k, rfl, rfl, hS⟩ := hrel
        clear HF
        have hle := hS.le
        obtain ⟨w8, h8⟩ : ∃ x, x = wr := ⟨_, rfl⟩
        subst h8
        by_cases hki : k < i
        · have c0 := hS.row.cell hki
          rw [if_neg (by omega)] at c0
          cases hA : A k with
          | none =>
            rw [hA] at c0
            replace c0 : w8.cell? ⟨g, k, none⟩ = some (.int .i64 (-1)) := c0
            have hrk : rnk A k < (fre A i).length := by rw [HLen.out]; exact rank_lt hki hA
            have hrs : rnk A (k + 1) = rnk A k + 1 := by rw [rnk_succ, hA]; rfl
            have HSk := Lib.hid (fre_skip hrk)
            obtain ⟨hst, hsn⟩ := fre_stop hrk
            have hff := fre_first hrk
            have HG := Lib.hid (hS.give hgt hki (outP_none hA))
            have HR := Lib.hid (And.intro hrs (lft_succ (fre A i) (rnk A k)))
            have HTk := Lib.hid hS.tk
            have c1 := hS.row.cell hki
            have f1 := hS.row.frozen k
            rw [if_neg (by omega), hA] at c1
            replace c1 : w8.cell? ⟨g, k, none⟩ = some (.int .i64 (-1)) := c1
            clear hS hA hrk hrs c0
            generalize lft (fre A i) (rnk A k) = lo at *
            generalize (fre A i).getD (rnk A k) 0 = hi at *
            have HSt := Lib.hid hst
            clear hst
            go_wp2_with fail
            go_loopw [5] (fun v wr => ∃ x : Nat, v = .int .i64 x ∧ lo ≤ x ∧ x ≤ hi ∧ wr = w8) (fun v _ => hi - (intOf v).toNat)
            case atStart => exact ⟨lo, rfl, by omega, hff, rfl⟩
            case round =>
              obtain ⟨x, rfl, hx1, hx2, rfl⟩ := hrel
              have ct := HTk.out.cell (show x < i by omega)
              by_cases hxh : x < hi
              · rw [HSk.out x hx1 hxh] at ct
                go_wp2_with fail
                go_roundw
                case rel => exact ⟨x + 1, by go_num, by omega, by omega, trivial⟩
                case measure => simp [intOf]; omega
              · obtain rfl : x = hi := by omega
                rw [HSt.out] at ct
                clear hxh hx1 hx2
                go_wp2_with fail
                go_roundw
                case rel => exact ⟨k + 1, by go_num, by rw [HR.out.1, HR.out.2]; go_num, HG.out⟩
                case measure => simp [intOf]; omega
          | some p =>
            rw [hA] at c0
            replace c0 : w8.cell? ⟨g, k, none⟩ = some (.int .i64 (p : Int)) := c0
            have hrs : rnk A (k + 1) = rnk A k := by rw [rnk_succ, hA]; rfl
            have hne : ((p : Int) != -1) = true := by rw [bne_iff_ne]; omega
            have HN := Lib.hid (hS.skip hki hA)
            have HR := Lib.hid hrs
            clear hS hA hrs
            go_wp2_with fail
            go_roundw
            case rel => exact ⟨k + 1, by go_num, by rw [HR.out], HN.out⟩
            case measure => simp [intOf]; omega
        · obtain rfl : k = i := by omega
          have HS := Lib.hid hS
          clear hS hki hle
          go_wp2_with fail
          go_end0
          exact ⟨rfl, HS.out.row.congr fun j hj => by rw [if_pos hj], HS.out.only⟩
end Go.Proofs.Ytnpddimepcblkaa
