/- Reads and Writes, the program's and the document's: the looks of a scan, in a new slice; of what was in memory nothing turns. Conditions: no more than 100,000 cells. -/
import Derived.Test.YtgppediikggogaaEvRow
import Derived.Test.YtgppediikggogaaScanMath
namespace Go.Proofs.Ytgppediikggogaa
open Go.RowKit Go.ChangeShapes Go.WideShapes Go.ChangeAt

/-- The looks of scans at a region, whatever its number. -/
def ireads (r : Int) (i : Nat) : List IEv := (List.range i).map fun (a : Nat) => (r, (a : Int), false)
def iwrites (r : Int) (i : Nat) : List IEv := (List.range i).flatMap fun (a : Nat) => [(r, (a : Int), false), (r, (a : Int), true)]
theorem ireads_succ (r : Int) (i : Nat) : ireads r (i + 1) = ireads r i ++ [(r, (i : Int), false)] := by unfold ireads; rw [List.range_succ, List.map_append]; rfl
theorem iwrites_succ (r : Int) (i : Nat) : iwrites r (i + 1) = iwrites r i ++ [(r, (i : Int), false), (r, (i : Int), true)] := by unfold iwrites; rw [List.range_succ, List.flatMap_append]; rfl
theorem ireads_len (r : Int) (i : Nat) : (ireads r i).length = i := by simp [ireads]
theorem iwrites_len (r : Int) (i : Nat) : (iwrites r i).length = i * 2 := by
  induction i with
  | zero => rfl
  | succ i ih => rw [iwrites_succ, List.length_append, ih]; simp; omega
theorem ireads_nat (r i : Nat) : ireads (r : Int) i = ((List.range i).map fun a => (r, a, false)).map evI := by
  unfold ireads; rw [List.map_map]; rfl
theorem iwrites_nat (r i : Nat) : iwrites (r : Int) i = (scanW r i).map evI := by
  induction i with
  | zero => rfl
  | succ i ih => rw [iwrites_succ, scanW_succ, List.map_append, ih]; rfl
set_option linter.unusedSimpArgs false in
set_option maxRecDepth 100000 in
set_option maxHeartbeats 1000000 in
theorem reads_any (r : Int) (n : Nat) (hn : n ≤ 100000) (w : World) : Calls Try.prog 21 #[.int .i64 r, .int .i64 (n : Int)] w (EvPost w (ireads r n)) := by
  go_enter Try.func21, Try.ntmps21
  go_wp2_with fail
  go_loopw [5, 8] (fun v5 v wr => ∃ i : Nat, v = .int .i64 i ∧ i ≤ n ∧ EvAt w v5 (ireads r i) wr) (fun _ v _ => n - (intOf v).toNat)
  case atStart => exact ⟨0, rfl, Nat.zero_le _, EvAt.nil w⟩
  case round =>
    obtain ⟨i, rfl, hi, hE⟩ := hrel
    have HE := Lib.hid hE
    clear hE
    by_cases hlt : i < n
    · have hsz := HE.out.below.size
      have HLE := Lib.hid (ireads_len r i)
      have HOW : Hid (wr.ownsRow w.heap.size 54 3 u5 i (ievs (ireads r i))) := by
        have := HE.out.own
        rwa [HLE.out] at this
      go_wp2_with (with_reducible refine wpList_append_where _ rfl (.tmp 11) (.tmp 15) 43 rfl w.heap.size 54 (.agg #[.int .i64 0, .int .i64 0, .bool false]) 3 24 Try.underlying43 infoEvent rfl (by decide) u5 i (ievs (ireads r i)) rfl (HOW.out.alloc _) ⟨wr.heap.size, 0, none⟩ 1 1 (ievs [(r, (i : Int), false)]) rfl rfl ?c0 (ievs_one _) ?c2 ?c3 ?c4 ?_)
      case c0 => exact ievs_new wr _ [(r, (i : Int), false)] rfl
      case c2 => simp only [maxLen]; omega
      case c3 => omega
      case c4 => simp; omega
      intro A2 cap2 w7 hown hgr _
      have HN2 : Hid (EvAt w (.slice A2 (i + 1) cap2) (ireads r (i + 1)) w7) := by
        have h := HE.out.next (m := [(r, (i : Int), false)]) (Below.refl _ wr) (by rw [HLE.out]; exact hown) hgr
        rw [HLE.out] at h
        rw [ireads_succ]
        exact h
      clear hown hgr
      go_wp2_with fail
      go_roundw
      case rel => exact ⟨i + 1, by go_num, by omega, HN2.out⟩
      case measure => simp [intOf]; omega
    · obtain rfl : i = n := by omega
      have HD : Hid (EvPost w (ireads r i) (.returned u5) wr) := ev_done HE.out (Below.refl _ _)
      clear HE
      go_wp2_with fail
      go_ret
      exact HD.out
set_option linter.unusedSimpArgs false in
set_option maxRecDepth 100000 in
set_option maxHeartbeats 1000000 in
theorem writes_any (r : Int) (n : Nat) (hn : n ≤ 100000) (w : World) : Calls Try.prog 23 #[.int .i64 r, .int .i64 (n : Int)] w (EvPost w (iwrites r n)) := by
  go_enter Try.func23, Try.ntmps23
  go_wp2_with fail
  go_loopw [5, 8] (fun v5 v wr => ∃ i : Nat, v = .int .i64 i ∧ i ≤ n ∧ EvAt w v5 (iwrites r i) wr) (fun _ v _ => n - (intOf v).toNat)
  case atStart => exact ⟨0, rfl, Nat.zero_le _, EvAt.nil w⟩
  case round =>
    obtain ⟨i, rfl, hi, hE⟩ := hrel
    have HE := Lib.hid hE
    clear hE
    by_cases hlt : i < n
    · have hsz := HE.out.below.size
      have HLE := Lib.hid (iwrites_len r i)
      have HOW : Hid (wr.ownsRow w.heap.size 54 3 u5 (i * 2) (ievs (iwrites r i))) := by
        have := HE.out.own
        rwa [HLE.out] at this
      go_wp2_with (with_reducible refine wpList_append_where _ rfl (.tmp 11) (.tmp 18) 43 rfl w.heap.size 54 (.agg #[.int .i64 0, .int .i64 0, .bool false]) 3 24 Try.underlying43 infoEvent rfl (by decide) u5 (i * 2) (ievs (iwrites r i)) rfl (HOW.out.alloc _) ⟨wr.heap.size, 0, none⟩ 2 2 (ievs [(r, (i : Int), false), (r, (i : Int), true)]) rfl rfl ?c0 (ievs_one _) ?c2 ?c3 ?c4 ?_)
      case c0 => exact ievs_new wr _ [(r, (i : Int), false), (r, (i : Int), true)] rfl
      case c2 => simp only [maxLen]; omega
      case c3 => omega
      case c4 => simp; omega
      intro A2 cap2 w7 hown hgr _
      have HN2 : Hid (EvAt w (.slice A2 (i * 2 + 2) cap2) (iwrites r (i + 1)) w7) := by
        have h := HE.out.next (m := [(r, (i : Int), false), (r, (i : Int), true)]) (Below.refl _ wr) (by rw [HLE.out]; exact hown) hgr
        rw [HLE.out] at h
        rw [iwrites_succ]
        exact h
      clear hown hgr
      go_wp2_with fail
      go_roundw
      case rel => exact ⟨i + 1, by go_num, by omega, HN2.out⟩
      case measure => simp [intOf]; omega
    · obtain rfl : i = n := by omega
      have HD : Hid (EvPost w (iwrites r i) (.returned u5) wr) := ev_done HE.out (Below.refl _ _)
      clear HE
      go_wp2_with fail
      go_ret
      exact HD.out
set_option linter.unusedSimpArgs false in
set_option maxRecDepth 100000 in
set_option maxHeartbeats 1000000 in
theorem refReads_any (r : Int) (n : Nat) (hn : n ≤ 100000) (w : World) : Calls Try.prog 22 #[.int .i64 r, .int .i64 (n : Int)] w (EvPost w (ireads r n)) := by
  go_enter Try.func22, Try.ntmps22
  go_wp2_with fail
  go_loopw [5, 6] (fun v5 v wr => ∃ i : Nat, v = .int .i64 i ∧ i ≤ n ∧ EvAt w v5 (ireads r i) wr) (fun _ v _ => n - (intOf v).toNat)
  case atStart => exact ⟨0, rfl, Nat.zero_le _, EvAt.nil w⟩
  case round =>
    obtain ⟨i, rfl, hi, hE⟩ := hrel
    have HE := Lib.hid hE
    clear hE
    by_cases hlt : i < n
    · have hsz := HE.out.below.size
      have HLE := Lib.hid (ireads_len r i)
      have HOW : Hid (wr.ownsRow w.heap.size 54 3 u5 i (ievs (ireads r i))) := by
        have := HE.out.own
        rwa [HLE.out] at this
      go_wp2_with (with_reducible refine wpList_append_where _ rfl (.tmp 12) (.tmp 16) 43 rfl w.heap.size 54 (.agg #[.int .i64 0, .int .i64 0, .bool false]) 3 24 Try.underlying43 infoEvent rfl (by decide) u5 i (ievs (ireads r i)) rfl (HOW.out.alloc _) ⟨wr.heap.size, 0, none⟩ 1 1 (ievs [(r, (i : Int), false)]) rfl rfl ?c0 (ievs_one _) ?c2 ?c3 ?c4 ?_)
      case c0 => exact ievs_new wr _ [(r, (i : Int), false)] rfl
      case c2 => simp only [maxLen]; omega
      case c3 => omega
      case c4 => simp; omega
      intro A2 cap2 w7 hown hgr _
      have HN2 : Hid (EvAt w (.slice A2 (i + 1) cap2) (ireads r (i + 1)) w7) := by
        have h := HE.out.next (m := [(r, (i : Int), false)]) (Below.refl _ wr) (by rw [HLE.out]; exact hown) hgr
        rw [HLE.out] at h
        rw [ireads_succ]
        exact h
      clear hown hgr
      go_wp2_with fail
      go_roundw
      case rel => exact ⟨i + 1, by go_num, by omega, HN2.out⟩
      case measure => simp [intOf]; omega
    · obtain rfl : i = n := by omega
      have HD : Hid (EvPost w (ireads r i) (.returned u5) wr) := ev_done HE.out (Below.refl _ _)
      clear HE
      go_wp2_with fail
      go_ret
      exact HD.out
set_option linter.unusedSimpArgs false in
set_option maxRecDepth 100000 in
set_option maxHeartbeats 1000000 in
theorem refWrites_any (r : Int) (n : Nat) (hn : n ≤ 100000) (w : World) : Calls Try.prog 24 #[.int .i64 r, .int .i64 (n : Int)] w (EvPost w (iwrites r n)) := by
  go_enter Try.func24, Try.ntmps24
  go_wp2_with fail
  go_loopw [5, 6] (fun v5 v wr => ∃ i : Nat, v = .int .i64 i ∧ i ≤ n ∧ EvAt w v5 (iwrites r i) wr) (fun _ v _ => n - (intOf v).toNat)
  case atStart => exact ⟨0, rfl, Nat.zero_le _, EvAt.nil w⟩
  case round =>
    obtain ⟨i, rfl, hi, hE⟩ := hrel
    have HE := Lib.hid hE
    clear hE
    by_cases hlt : i < n
    · have hsz := HE.out.below.size
      have HLE := Lib.hid (iwrites_len r i)
      have HOW : Hid (wr.ownsRow w.heap.size 54 3 u5 (i * 2) (ievs (iwrites r i))) := by
        have := HE.out.own
        rwa [HLE.out] at this
      go_wp2_with (with_reducible refine wpList_append_where _ rfl (.tmp 12) (.tmp 19) 43 rfl w.heap.size 54 (.agg #[.int .i64 0, .int .i64 0, .bool false]) 3 24 Try.underlying43 infoEvent rfl (by decide) u5 (i * 2) (ievs (iwrites r i)) rfl (HOW.out.alloc _) ⟨wr.heap.size, 0, none⟩ 2 2 (ievs [(r, (i : Int), false), (r, (i : Int), true)]) rfl rfl ?c0 (ievs_one _) ?c2 ?c3 ?c4 ?_)
      case c0 => exact ievs_new wr _ [(r, (i : Int), false), (r, (i : Int), true)] rfl
      case c2 => simp only [maxLen]; omega
      case c3 => omega
      case c4 => simp; omega
      intro A2 cap2 w7 hown hgr _
      have HN2 : Hid (EvAt w (.slice A2 (i * 2 + 2) cap2) (iwrites r (i + 1)) w7) := by
        have h := HE.out.next (m := [(r, (i : Int), false), (r, (i : Int), true)]) (Below.refl _ wr) (by rw [HLE.out]; exact hown) hgr
        rw [HLE.out] at h
        rw [iwrites_succ]
        exact h
      clear hown hgr
      go_wp2_with fail
      go_roundw
      case rel => exact ⟨i + 1, by go_num, by omega, HN2.out⟩
      case measure => simp [intOf]; omega
    · obtain rfl : i = n := by omega
      have HD : Hid (EvPost w (iwrites r i) (.returned u5) wr) := ev_done HE.out (Below.refl _ _)
      clear HE
      go_wp2_with fail
      go_ret
      exact HD.out
end Go.Proofs.Ytgppediikggogaa
