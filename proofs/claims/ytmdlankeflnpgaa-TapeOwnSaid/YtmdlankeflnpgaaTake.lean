/- The contract of tape's Take: as many words as are asked for, as Next tells them one by one, in a new row; the tape has read as many more; nothing else turns. -/
import Derived.Test.YtmdlankeflnpgaaTape
namespace Go.Proofs.Ytmdlankeflnpgaa
open Go.RowKit Go.ChangeShapes Go.WideShapes Go.ChangeAt

/-- Behind Take: row r holds the m words that were told. -/
def TakePost (w : World) (p g n : Nat) (z : Nat → Int) (u m : Nat) (e : Ending) (w' : World) : Prop :=
  e = .returned (.slice (some ⟨w.heap.size, 0, none⟩) m m) ∧ Only (just p) w w' ∧ w'.heap.size = w.heap.size + 1 ∧ Tp w' p g n z (u + m) ∧ w'.rowIs w.heap.size 30 m (fun i => .int .u64 (told n z (u + i)))
/-- In the middle of Take: k words were told. -/
structure Took (w : World) (p g n : Nat) (z : Nat → Int) (u m k : Nat) (wr : World) : Prop where
  le : k ≤ m
  only : Only (just p) w wr
  size : wr.heap.size = w.heap.size + 1
  tp : Tp wr p g n z (u + k)
  row : wr.rowIs w.heap.size 30 m (fun i => if i < k then .int .u64 (told n z (u + i)) else .int .u64 0)
theorem Took.start {w : World} {p g n : Nat} {z : Nat → Int} {u m : Nat} (h : Tp w p g n z u) : Took w p g n z u m 0 (w.alloc (.cells (madeCells #[.int .u64 0] m) 30)) :=
  ⟨Nat.zero_le _, (Only.refl _ _).alloc _, by simp, ⟨h.box.alloc _, h.row.alloc _⟩, World.rowIs_made w (.int .u64 0) m 30⟩
theorem Took.next {w : World} {p g n : Nat} {z : Nat → Int} {u m k : Nat} {wr w1 : World} (h : Took w p g n z u m k wr) (hp : p < w.heap.size) (hg : g < w.heap.size) (hk : k < m)
    (ho : Only (just p) wr w1) (hs : w1.heap.size = wr.heap.size) (ht : Tp w1 p g n z (u + k + 1)) :
    Took w p g n z u m (k + 1) (w1.setCell ⟨w.heap.size, k, none⟩ (.int .u64 (told n z (u + k)))) := by
  have hr1 := ho.row h.row (just_ne (by omega))
  refine ⟨by omega, (h.only.trans ho).setCell (.inr (Nat.le_refl _)) _, by simpa [World.setCell] using hs.trans h.size, ⟨ht.box.far (by simp; omega) _, ht.row.setOther (by simp; omega) _⟩, (hr1.set k _).congr fun i hi => ?_⟩
  show (if i = k then _ else _) = _
  by_cases e : i = k
  · subst e; rw [if_pos rfl, if_pos (by omega)]
  · rw [if_neg e]
    by_cases l : i < k
    · rw [if_pos l, if_pos (by omega)]
    · rw [if_neg l, if_neg (by omega)]
theorem Took.done {w : World} {p g n : Nat} {z : Nat → Int} {u m : Nat} {wr : World} (h : Took w p g n z u m m wr) : TakePost w p g n z u m (.returned (.slice (some ⟨w.heap.size, 0, none⟩) m m)) wr :=
  ⟨rfl, h.only, h.size, h.tp, h.row.congr fun i hi => by rw [if_pos hi]⟩

set_option maxHeartbeats 1000000 in
theorem take_any (p g n : Nat) (z : Nat → Int) (u m : Nat) (w : World) (hm : m * 8 ≤ 140737488351232) (hu : u < 4611686018427387904) (h : Tp w p g n z u) :
    Calls Try.prog 11 #[.pointer (some ⟨p, 0, none⟩), .int .i64 m] w (TakePost w p g n z u m) := by
  have hmk := run_make_row' (P := Try.prog) 22 30 (.int .u64 0) 8 Try.underlying22 infoWord rfl .i64 .i64 m (by omega) (by omega)
  have HT := Lib.hid h
  have hp := h.box.lt
  have hg := h.row.lt
  clear h
  go_enter Try.func11, Try.ntmps11
  go_wp2
  go_loopw [11] (fun i wr => ∃ k : Nat, i = .int .i64 k ∧ Took w p g n z u m k wr) (fun i _ => m - (intOf i).toNat)
  case atStart => exact ⟨0, rfl, Took.start HT.out⟩
  case round =>
    obtain ⟨k, rfl, hT⟩ := hrel
    have hk := hT.le
    have HR := Lib.hid hT
    clear hT
    by_cases hlt : k < m
    · go_wp2_with fail
      refine (next_any p g n z (u + k) _ (by omega) HR.out.tp).mono ?_
      rintro e w1 ⟨rfl, ho, hs, ht⟩
      have R := Lib.hid (HR.out.next hp hg hlt ho hs ht)
      have hr1 := ho.row HR.out.row (just_ne (by omega))
      have ck : w1.cell? ⟨w.heap.size, k, none⟩ = some (.int .u64 0) := by rw [hr1.cell hlt, if_neg (by omega)]
      have fk : w1.frozen? ⟨w.heap.size, k, none⟩ = false := hr1.frozen k
      clear ho hs ht hr1
      go_wp2
      go_roundw
      case rel => exact ⟨k + 1, by go_num, R.out⟩
      case measure => simp [intOf]; omega
    · go_wp2
      go_ret
      obtain rfl : k = m := by omega
      exact HR.out.done

theorem take_none (p g n : Nat) (z : Nat → Int) (u : Nat) (m : Int) (w : World) (hm : m < 1) (hu : u < 4611686018427387904) (h : Tp w p g n z u) :
    Calls Try.prog 11 #[.pointer (some ⟨p, 0, none⟩), .int .i64 m] w (TakePost w p g n z u 0) := by
  by_cases h0 : m = 0
  · subst h0; exact take_any p g n z u 0 w (by omega) hu h
  have hlt : m < 0 := by omega
  clear hm h0
  have hmk : ∀ w : World, (Instr.makeSlice 22 (.int .i64 0) (.int .i64 0)).run Try.prog w = .ok (.slice (some ⟨w.heap.size, 0, none⟩) 0 0) (w.alloc (.cells (madeCells #[.int .u64 0] 0) 30)) :=
    run_make_row' (P := Try.prog) 22 30 (.int .u64 0) 8 Try.underlying22 infoWord rfl .i64 .i64 0 (by omega) (by omega)
  have HT := Lib.hid h
  clear h
  go_enter Try.func11, Try.ntmps11
  go_wp2
  refine wp_loop_rounds 1 ?_
  rw [rounds_succ]
  go_wp2
  go_ret
  exact (Took.start HT.out).done
end Go.Proofs.Ytmdlankeflnpgaa
