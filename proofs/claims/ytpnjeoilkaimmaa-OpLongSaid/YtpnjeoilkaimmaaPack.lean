/- Contracts of package pack: Word, Right, Text: what each returns; of what was in memory nothing turns. Conditions: the word is one of 64 bits. -/
import Derived.Test.YtpnjeoilkaimmaaSplit
import Derived.Lib.LazyBuf
import Derived.Laws.BytesArg
import Derived.Laws.NewBlocks
import Derived.Lib.Hide
namespace Go.Proofs.Ytpnjeoilkaimmaa
open Go.RowKit

theorem sizeByte : ∀ w, (Go.sizeOf 5).run Try.prog w = .ok 1 w := fun _ => by kernel_rfl

/-- Bytes laid over eight, from place o on. -/
def laid (g : Nat → Int) (o : Nat) : List UInt8 → Nat → Int
  | [] => g
  | b :: l => laid (fun j => if j = o then (b.toNat : Int) else g j) (o + 1) l
theorem laid_at : ∀ (l : List UInt8) (g : Nat → Int) (o j : Nat), laid g o l j = if o ≤ j ∧ j < o + l.length then ((l.getD (j - o) 0).toNat : Int) else g j
  | [], g, o, j => by rw [laid, if_neg (by simp)]
  | b :: l, g, o, j => by
    rw [laid, laid_at l]
    by_cases h1 : o + 1 ≤ j ∧ j < o + 1 + l.length
    · rw [if_pos h1, if_pos (by simp; omega), show j - o = (j - (o + 1)) + 1 by omega, List.getD_cons_succ]
    · rw [if_neg h1]
      by_cases h2 : j = o
      · subst h2; rw [if_pos rfl, if_pos (by simp), Nat.sub_self]; rfl
      · rw [if_neg h2, if_neg (by simp; omega)]
theorem lay_cells (w : World) (t : TypeId) : ∀ (l : List UInt8) (g : Nat → Int) (o : Nat), o + l.length ≤ 8 →
    (w.alloc (.cells (CB g) t)).setCells w.heap.size o (l.map fun x => Value.int .u8 (x.toNat : Int)) = w.alloc (.cells (CB (laid g o l)) t)
  | [], g, o, _ => rfl
  | b :: l, g, o, h => by
    simp only [List.length_cons] at h
    rw [List.map_cons, World.setCells, World.setCell_alloc_at _ _ _ _ _ rfl, CB_set g o (by omega)]
    exact lay_cells w t l _ (o + 1) (by omega)

theorem run_copy_text {P : Program} (w : World) (dT sT ty elem : TypeId) (hu : P.underlying dT = some (.slice elem)) (hz : ∀ w, (Go.sizeOf elem).run P w = .ok 1 w) (t : TypeId) (x : ByteArray) (hle : x.size ≤ 7) :
    (Builtin.copy_ #[dT, sT] ty #[.slice (some ⟨w.heap.size, 0, none⟩) 8 8, .string x]).run P (w.alloc (.cells #[.int .u8 0, .int .u8 0, .int .u8 0, .int .u8 0, .int .u8 0, .int .u8 0, .int .u8 0, .int .u8 0] t)) = .ok (goInt x.size) (w.alloc (.cells (CB (up (sb x))) t)) := by
  have hrun := run_copy_string (P := P) (w.alloc (.cells (CB fun _ => 0) t)) dT sT ty elem w.heap.size 0 8 8 x hu hz (by omega)
    (fun j hj => by rw [Nat.zero_add]; simp [go_sem, CB_at _ j (show j < 8 by omega)]) (fun j hj => by simp [go_sem])
  rw [lay_cells w t _ _ 0 (by rw [len_size]; omega)] at hrun
  have e : CB (laid (fun _ => 0) 0 x.data.toList) = CB (up (sb x)) := by
    refine CB_ext _ _ (fun k _ => ?_)
    rw [laid_at, len_size, Nat.zero_add, Nat.sub_zero]
    by_cases hk : k < x.size
    · rw [if_pos ⟨Nat.zero_le _, hk⟩]; rfl
    · rw [if_neg (by omega)]; unfold up; rw [sb_past x k (by omega)]; rfl
  rw [e] at hrun
  exact hrun

theorem ly_lt (s : ByteArray) (h : s.size ≤ 7) (k : Nat) : ly s k < 256 := by
  unfold ly; split
  · exact sb_lt s k
  · omega
theorem ly_set (s : ByteArray) : (CB (up (sb s))).setIfInBounds 7 (.int .u8 s.size) = CB (up (ly s)) := by
  rw [CB_set _ 7 (by decide)]
  refine CB_ext _ _ (fun k hk => ?_)
  by_cases h : k = 7
  · subst h; rfl
  · rw [if_neg h]; unfold up ly; rw [if_pos (by omega)]

theorem word_long (s : ByteArray) (w : World) (h : 7 < s.size) (hm : s.size ≤ 9223372036854775807) :
    Calls Try.prog 30 #[.string s] w fun e w' => e = .returned (.tuple #[.int .u64 0, .int .i64 4]) ∧ w = w' := by
  go_enter Try.func30, Try.ntmps30
  go_wp2
  go_ret2
  exact ⟨rfl, rfl⟩

def WordPost (w : World) (s : ByteArray) (e : Ending) (w' : World) : Prop := e = .returned (.tuple #[.int .u64 (wd s), .int .i64 0]) ∧ Below w.heap.size w w'

attribute [local go_sem] CB_at
set_option maxHeartbeats 1000000 in
theorem word_short (s : ByteArray) (w : World) (h : s.size ≤ 7) :
    Calls Try.prog 30 #[.string s] w (WordPost w s) := by
  have hcp := run_copy_text (P := Try.prog) w 38 9 3 5 Try.underlying38 sizeByte 61 s h
  have hst := ly_set s
  go_enter Try.func30, Try.ntmps30
  go_wp2_with fail
  refine (join_any (ly s) _ (ly_lt s h)).mono ?_
  rintro e w' ⟨rfl, rfl⟩
  rw [pv_ly]
  go_wp2
  go_ret2
  exact ⟨rfl, ((Below.refl _ _).alloc (Nat.le_refl _) _).alloc (by simp) _⟩

theorem cell8 (w : World) (f : Nat → Int) (t : TypeId) (k : Nat) (h : k < 8) : (w.alloc (.cells (CB f) t)).cell? ⟨w.heap.size, k, none⟩ = some (.int .u8 (f k)) := by
  simp [go_sem, CB_at f k h]
theorem split_below (n : Nat) (w : World) : Calls Try.prog 29 #[.int .u64 n] w fun e w' => e = .returned (.agg (CB (up (dg n)))) ∧ Below w.heap.size w w' :=
  (split_any n w).mono fun _ _ ⟨he, hw⟩ => ⟨he, hw ▸ ((Below.refl _ _).alloc (Nat.le_refl _) _).alloc (by simp) _⟩
theorem run_store8 {P : Program} (w : World) (t : TypeId) (f : Nat → Int) :
    (storeCells ⟨w.heap.size, 0, none⟩ (CB f).toList).run P (w.alloc (.cells #[.int .u8 0, .int .u8 0, .int .u8 0, .int .u8 0, .int .u8 0, .int .u8 0, .int .u8 0, .int .u8 0] t)) = .ok () (w.alloc (.cells (CB f) t)) := by
  have h := run_storeCells_cells (P := P) w.heap.size 0 (CB f).toList 0 (w.alloc (.cells (CB fun _ => 0) t))
    (fun j hj => by
      have hj8 : j < 8 := hj
      rw [Nat.zero_add]; simp [go_sem, CB_at _ j hj8]) (fun j hj => by simp [go_sem]) (fun v hv => by
      simp only [CB, List.mem_cons, List.not_mem_nil, or_false] at hv
      rcases hv with rfl | rfl | rfl | rfl | rfl | rfl | rfl | rfl <;> rfl)
  refine h.trans ?_
  show Result.ok () (World.setCells _ _ _ [.int .u8 (f 0), .int .u8 (f 1), .int .u8 (f 2), .int .u8 (f 3), .int .u8 (f 4), .int .u8 (f 5), .int .u8 (f 6), .int .u8 (f 7)]) = _
  simp only [World.setCells]
  iterate 8 rw [World.setCell_alloc_at _ _ _ _ _ rfl]
  simp only [Nat.zero_add, Nat.reduceAdd]
  rw [CB_over (fun _ => 0) f]

def RightPost (w : World) (n : Nat) (e : Ending) (w' : World) : Prop := e = .returned (.bool (rt n)) ∧ Below w.heap.size w w'
theorem RightPost.mk {w w2 : World} {n : Nat} {b : Bool} (hb : Below w.heap.size w w2) (h : rt n = b) : RightPost w n (.returned (.bool b)) (w2.alloc (.cells (CB (up (dg n))) 61)) := ⟨by rw [h], hb.alloc hb.size _⟩
attribute [local go_sem] CB_size
set_option maxHeartbeats 1000000 in
theorem right_many (n : Nat) (w : World) (hn : n < 18446744073709551616) (h : 7 < mn n) :
    Calls Try.prog 25 #[.int .u64 n] w (RightPost w n) := by
  have H7 : up (dg n) 7 = (mn n : Int) := by unfold up; rw [mn_dg n hn]
  have HR := Lib.hid (rt_many h)
  clear hn
  go_enter Try.func25, Try.ntmps25
  go_wp2_with fail
  refine (split_below n _).mono ?_
  rintro e w2 ⟨rfl, hb⟩
  have HB := Lib.hid hb
  clear hb
  have hst := run_store8 (P := Try.prog) w2 61 (up (dg n))
  go_wp2
  go_ret
  exact .mk HB.out HR.out

set_option maxHeartbeats 1000000 in
theorem right_few (n : Nat) (w : World) (hn : n < 18446744073709551616) (h : mn n ≤ 7) :
    Calls Try.prog 25 #[.int .u64 n] w (RightPost w n) := by
  have H7 : up (dg n) 7 = (mn n : Int) := by unfold up; rw [mn_dg n hn]
  clear hn
  have hd : decide (7 < (mn n : Int)) = false := by simp; omega
  have hi : (mn n : Int) ≤ 7 := by omega
  go_enter Try.func25, Try.ntmps25
  go_wp2_with fail
  refine (split_below n _).mono ?_
  rintro e w2 ⟨rfl, hb⟩
  have HB := Lib.hid hb
  clear hb
  have hst := run_store8 (P := Try.prog) w2 61 (up (dg n))
  go_wp2
  go_loop [15] (fun i => ∃ k : Nat, k ≤ 7 - mn n ∧ i = .int .i64 k ∧ ∀ j, mn n ≤ j → j < mn n + k → dg n j = 0) (fun i => 7 - mn n - (intOf i).toNat)
  case atStart => exact ⟨0, by omega, rfl, fun j h1 h2 => absurd h2 (by omega)⟩
  case round =>
    obtain ⟨k, hk, rfl, hz⟩ := hrel
    have HZ := Lib.hid hz
    clear hz
    by_cases hlt : k < 7 - mn n
    · have hc := cell8 w2 (up (dg n)) 61 (mn n + k) (by omega)
      by_cases hv : dg n (mn n + k) = 0
      · have hv1 : (up (dg n) (mn n + k) != 0) = false := by unfold up; rw [hv]; rfl
        have HV := Lib.hid hv
        clear hv
        go_wp2
        go_round
        case rel =>
          refine ⟨k + 1, by omega, by go_num, fun j h1 h2 => ?_⟩
          by_cases hj : j = mn n + k
          · rw [hj]; exact HV.out
          · exact HZ.out j h1 (by omega)
        case measure => simp [intOf]; omega
      · have hv1 : (up (dg n) (mn n + k) != 0) = true := by unfold up; simp; exact hv
        have HV := Lib.hid hv
        clear hv
        go_wp2
        go_ret
        exact .mk HB.out (rt_not (k := mn n + k) (by omega) (by omega) HV.out)
    · go_wp2
      go_ret
      exact .mk HB.out (rt_of h (fun j h1 h2 => HZ.out j h1 (by omega)))
theorem right_any (n : Nat) (w : World) (hn : n < 18446744073709551616) : Calls Try.prog 25 #[.int .u64 n] w (RightPost w n) := by
  by_cases h : mn n ≤ 7
  · exact right_few n w hn h
  · exact right_many n w hn (by omega)

theorem tx_nums (n : Nat) : strOfNums ((List.range (mn n)).map (up (dg n))) = tx n := by
  unfold strOfNums tx
  rw [List.map_map]
  rfl
theorem nums_at (n j : Nat) (hj : j < mn n) : ((List.range (mn n)).map (up (dg n))).getD j 0 = up (dg n) j := by
  simp [List.getD_eq_getElem?_getD, hj]
theorem run_text (n : Nat) (w : World) (hm : mn n ≤ 7) :
    (convert 38 9 (.slice (some ⟨w.heap.size, 0, none⟩) (mn n) 8)).run Try.prog (w.alloc (.cells (CB (up (dg n))) 61)) = .ok (.string (tx n)) (w.alloc (.cells (CB (up (dg n))) 61)) := by
  have := run_convert_bytes_arg (P := Try.prog) (w.alloc (.cells (CB (up (dg n))) 61)) 38 5 Try.underlying38 Try.underlying5 w.heap.size 0 (mn n) 8 ((List.range (mn n)).map (up (dg n))) (by simp)
    (fun i hi => by rw [nums_at n i hi, Nat.zero_add]; exact cell8 _ _ _ i (by omega)) 9 Try.underlying9
  rwa [tx_nums] at this

theorem text_not (n : Nat) (w : World) (hn : n < 18446744073709551616) (h : rt n = false) :
    Calls Try.prog 17 #[.int .u64 n] w fun e w' => e = .returned (.tuple #[.string ByteArray.empty, .int .i64 3]) ∧ Below w.heap.size w w' := by
  have HR := Lib.hid h
  have HN := Lib.hid hn
  clear h hn
  go_enter Try.func17, Try.ntmps17
  go_wp2_with fail
  refine (right_any n _ HN.out).mono ?_
  rintro e w2 ⟨rfl, hb⟩
  have HB := Lib.hid hb
  clear hb
  rw [HR.out]
  go_wp2
  go_ret2
  exact ⟨rfl, HB.out⟩

set_option maxHeartbeats 1000000 in
theorem text_yes (n : Nat) (w : World) (hn : n < 18446744073709551616) (h : rt n = true) :
    Calls Try.prog 17 #[.int .u64 n] w fun e w' => e = .returned (.tuple #[.string (tx n), .int .i64 0]) ∧ Below w.heap.size w w' := by
  have H7 : up (dg n) 7 = (mn n : Int) := by unfold up; rw [mn_dg n hn]
  have hm := rt_few h
  have hi : (mn n : Int) ≤ 8 := by omega
  have HR := Lib.hid h
  have HN := Lib.hid hn
  clear h hn
  go_enter Try.func17, Try.ntmps17
  go_wp2_with fail
  refine (right_any n _ HN.out).mono ?_
  rintro e w2 ⟨rfl, hb⟩
  have HB := Lib.hid hb
  clear hb
  rw [HR.out]
  go_wp2_with fail
  refine (split_below n _).mono ?_
  rintro e w3 ⟨rfl, hb⟩
  have HC := Lib.hid hb
  clear hb
  have hst := run_store8 (P := Try.prog) w3 61 (up (dg n))
  have htx := run_text n w3 hm
  go_wp2
  go_ret2
  exact ⟨rfl, (HB.out.trans (HC.out.mono HB.out.size)).alloc (Nat.le_trans HB.out.size HC.out.size) _⟩
end Go.Proofs.Ytpnjeoilkaimmaa
