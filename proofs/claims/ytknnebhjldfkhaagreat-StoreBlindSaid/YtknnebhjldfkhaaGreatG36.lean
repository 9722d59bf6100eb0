import Derived.Test.YtknnebhjldfkhaaGreatProg
import Derived.Laws.CopyOwn
import Derived.Laws.AppendOwnNone
import Derived.OwnWalk
import Derived.Deep.QuietTactic
import Derived.BigQuiet
import Derived.Test.YtknnebhjldfkhaaGreatG2
namespace Go.Proofs.YtknnebhjldfkhaaGreat
set_option maxRecDepth 100000
open Go.RowKit Go.ChangeShapes Go.WideShapes Go.ChangeAt

theorem infoWord : (Tryz.prog.info? 43).map (fun i => (i.zero, i.size, i.bytes)) = some (some (.int .u64 0), 1, 8) := by kernel_rfl
theorem sizeWord : (Tryz.prog.info? 43).map (·.size) = some 1 := by kernel_rfl

def wordsOf (n : Nat) (z : Nat → Int) : List Value := (List.range n).map fun i => .int .u64 (z i)
theorem wordsOf_len (n : Nat) (z : Nat → Int) : (wordsOf n z).length = n := by simp [wordsOf]
theorem wordsOf_at (n : Nat) (z : Nat → Int) (j : Nat) (h : j < n) : (wordsOf n z)[j]? = some (.int .u64 (z j)) := by simp [wordsOf, h]
theorem wordsOf_one (n : Nat) (z : Nat → Int) : ∀ v ∈ wordsOf n z, v.oneCell' = true := by
 intro v hv
 simp only [wordsOf, List.mem_map] at hv
 obtain ⟨i, _, rfl⟩ := hv; rfl

end Go.Proofs.YtknnebhjldfkhaaGreat


namespace Go.Proofs.YtknnebhjldfkhaaGreat
set_option maxRecDepth 100000
open Go.RowKit Go.ChangeShapes Go.WideShapes Go.ChangeAt

structure Tp (w : World) (p g n : Nat) (z : Nat → Int) (u : Nat) : Prop where
 box : Box w p 192 #[.slice (some ⟨g, 0, none⟩) n n, .int .i64 u]
 row : w.rowIs g 43 n (fun i => .int .u64 (z i))
theorem Tp.ne {w : World} {p g n : Nat} {z : Nat → Int} {u : Nat} (h : Tp w p g n z u) : g ≠ p := fun e => (h.box.row_ne h.row (by decide)) e.symm
theorem Tp.only {S : Nat → Prop} {w w' : World} {p g n : Nat} {z : Nat → Int} {u : Nat} (h : Tp w p g n z u) (k : Only S w w') (hp : ¬ S p) (hg : ¬ S g) : Tp w' p g n z u := ⟨h.box.only k hp, k.row h.row hg⟩
def told (n : Nat) (z : Nat → Int) (u : Nat) : Int := if u < n then z u else 0

def TapeNew (w : World) (n : Nat) (z : Nat → Int) (e : Ending) (w' : World) : Prop :=
 ∃ p g, e = .returned (.pointer (some ⟨p, 0, none⟩)) ∧ w.heap.size ≤ p ∧ w.heap.size ≤ g ∧ Only nobody w w' ∧ Tp w' p g n z 0

set_option maxHeartbeats 1000000 in
theorem tape_new (a : Option Addr) (n cap : Nat) (z : Nat → Int) (w : World) (hn : n * 8 ≤ 140737488351232) (hz : Nums .u64 w w.heap.size a n z) :
  Calls Tryz.prog 63 #[.slice a n cap] w (TapeNew w n z) := by
 have HZ := Lib.hid hz
 clear hz
 have hmk := run_make_row' (P := Tryz.prog) 54 43 (.int .u64 0) 8 Tryz.underlying54 infoWord rfl .i64 .i64 n (by omega) (by omega)
 go_enter Tryz.func63, Tryz.ntmps63
 go_wp2_with (with_reducible refine wpList_copy_splice rfl (.tmp 7) (.tmp 8) 54 54 rfl 43 Tryz.underlying54 sizeWord (some ⟨w.heap.size, 0, none⟩) a n n n cap rfl rfl w.heap.size 0 (madeCells #[.int .u64 0] n).toList 43 ?c1 (wordsOf n z) ?c2 ?c3 ?c4 (wordsOf_one n z) w.heap.size w ?c5 (Nat.le_refl _) ?_)
 case c1 => rw [Array.toArray_toList]; exact Go.Deep.blk_alloc_new _ _
 case c2 => rw [wordsOf_len]; simp
 case c3 =>
  rw [wordsOf_len]
  intro h0
  obtain ⟨b, off, rfl, hb, hc⟩ := HZ.out h0
  refine ⟨_, rfl, fun j v hv => ?_⟩
  have hj : j < n := by have := (List.getElem?_eq_some_iff.1 hv).1; rwa [wordsOf_len] at this
  rw [wordsOf_at n z j hj] at hv
  rw [add_plain, World.cell?_alloc_past _ _ _ hb]
  exact (hc j hj).trans hv
 case c4 => rw [wordsOf_len, Array.length_toList, size_madeCells, Nat.zero_add]; exact Nat.le_refl _
 case c5 => exact (Below.refl _ _).alloc (Nat.le_refl _) _
 intro w1 hg1 hb1
 go_wp2
 refine bodyPost_ret (v := .pointer (some ⟨w1.heap.size, 0, none⟩)) (by simp [results, Tryz.results63, go_sem]) rfl ⟨w1.heap.size, w.heap.size, rfl, hb1.size, Nat.le_refl _, (Only.of_below hb1).alloc _, Box.new _ _ _, World.rowIs.alloc ⟨_, hg1.out, ?_, fun i hi => ?_⟩ _⟩
 ·rw [List.size_toArray, length_splice, Array.length_toList, size_madeCells]
  rw [wordsOf_len, Array.length_toList, size_madeCells, Nat.zero_add]; exact Nat.le_refl _
 ·rw [List.getElem?_toArray]
  have e : splice (madeCells #[.int .u64 0] n).toList 0 (wordsOf n z) = wordsOf n z := by
   simp [splice, wordsOf_len, size_madeCells]
  rw [e]; exact wordsOf_at n z i hi

def TapeNext (w : World) (p g n : Nat) (z : Nat → Int) (u : Nat) (e : Ending) (w' : World) : Prop :=
 e = .returned (.tuple #[.int .u64 (told n z u), .int .i64 u]) ∧ Only (just p) w w' ∧ w'.heap.size = w.heap.size ∧ Tp w' p g n z (u + 1)
theorem TapeNext.mk {w : World} {p g n : Nat} {z : Nat → Int} {u : Nat} (h : Tp w p g n z u) (x : Int) (hx : told n z u = x) :
  TapeNext w p g n z u (.returned (.tuple #[.int .u64 x, .int .i64 u])) (w.setCell ⟨p, 1, none⟩ (.int .i64 ((u : Int) + 1))) := by
 refine ⟨by rw [hx], (Only.refl _ _).setCell (.inl (just_self p)) _, by simp [World.setCell], ?_, h.row.setOther (a := ⟨p, 1, none⟩) h.ne _⟩
 have := h.box.put 1 (.int .i64 ((u : Int) + 1))
 simpa using this

set_option maxHeartbeats 1000000 in
theorem tape_next (p g n : Nat) (z : Nat → Int) (u : Nat) (w : World) (hu : u < 9223372036854775807) (h : Tp w p g n z u) :
  Calls Tryz.prog 172 #[.pointer (some ⟨p, 0, none⟩)] w (TapeNext w p g n z u) := by
 have HT := Lib.hid h
 have c0 : w.cell? ⟨p, 0, none⟩ = some (.slice (some ⟨g, 0, none⟩) n n) := h.box.cell 0
 have c1 : w.cell? ⟨p, 1, none⟩ = some (.int .i64 u) := h.box.cell 1
 have f1 : w.frozen? ⟨p, 1, none⟩ = false := h.box.frozen 1
 have hne : g ≠ p := h.ne
 by_cases hlt : u < n
 ·have cu : w.cell? ⟨g, u, none⟩ = some (.int .u64 (z u)) := h.row.cell hlt
  have HE : Hid (told n z u = z u) := if_pos hlt
  clear h
  go_enter Tryz.func172, Tryz.ntmps172
  go_wp2
  go_ret2
  exact TapeNext.mk HT.out _ HE.out
 ·have HE : Hid (told n z u = 0) := if_neg hlt
  clear h
  go_enter Tryz.func172, Tryz.ntmps172
  go_wp2
  go_ret2
  exact TapeNext.mk HT.out _ HE.out

theorem tape_used (p g n : Nat) (z : Nat → Int) (u : Nat) (w : World) (h : Tp w p g n z u) :
  Calls Tryz.prog 49 #[.pointer (some ⟨p, 0, none⟩)] w fun e w' => e = .returned (.int .i64 u) ∧ w = w' := by
 have c1 : w.cell? ⟨p, 1, none⟩ = some (.int .i64 u) := h.box.cell 1
 clear h
 go_enter Tryz.func49, Tryz.ntmps49
 go_wp2
 go_ret
 exact ⟨rfl, rfl⟩

end Go.Proofs.YtknnebhjldfkhaaGreat

