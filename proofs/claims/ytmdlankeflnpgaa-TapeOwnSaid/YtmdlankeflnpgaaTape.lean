/- Contracts of package tape: New, Next, Take, Used, Short: what each returns, and what it makes of the tape in memory; nothing else turns. Conditions: the tape's two blocks are as New made them; counts stay within an int; what is made fits. -/
import Derived.Test.YtmdlankeflnpgaaProg
import Derived.Test.YtmdlankeflnpgaaHeap
import Derived.Laws.CopyOwn
import Derived.Deep.QuietTactic
import Derived.BigQuiet
namespace Go.Proofs.Ytmdlankeflnpgaa
open Go.RowKit Go.ChangeShapes Go.WideShapes Go.ChangeAt

theorem infoWord : (Try.prog.info? 30).map (fun i => (i.zero, i.size, i.bytes)) = some (some (.int .u64 0), 1, 8) := by kernel_rfl
theorem sizeWord : (Try.prog.info? 30).map (·.size) = some 1 := by kernel_rfl

/-- A tape at block p: its words lie whole in block g, u of them were read. -/
structure Tp (w : World) (p g n : Nat) (z : Nat → Int) (u : Nat) : Prop where
  box : Box w p 39 #[.slice (some ⟨g, 0, none⟩) n n, .int .i64 u]
  row : w.rowIs g 30 n (fun i => .int .u64 (z i))
theorem Tp.ne {w : World} {p g n : Nat} {z : Nat → Int} {u : Nat} (h : Tp w p g n z u) : g ≠ p := fun e => (h.box.row_ne h.row (by decide)) e.symm
theorem Tp.only {S : Nat → Prop} {w w' : World} {p g n : Nat} {z : Nat → Int} {u : Nat} (h : Tp w p g n z u) (k : Only S w w') (hp : ¬ S p) (hg : ¬ S g) : Tp w' p g n z u := ⟨h.box.only k hp, k.row h.row hg⟩
theorem Tp.drewN {w : World} {p g n : Nat} {z : Nat → Int} {u : Nat} (h : Tp w p g n z u) (k : Nat) : Tp (w.drewN k) p g n z u := ⟨h.box, h.row⟩
/-- The word that is read at place u. -/
def told (n : Nat) (z : Nat → Int) (u : Nat) : Int := if u < n then z u else 0

def NewPost (w : World) (n : Nat) (z : Nat → Int) (e : Ending) (w' : World) : Prop :=
  ∃ p g, e = .returned (.pointer (some ⟨p, 0, none⟩)) ∧ w.heap.size ≤ p ∧ w.heap.size ≤ g ∧ Only nobody w w' ∧ Tp w' p g n z 0

def wordsOf (n : Nat) (z : Nat → Int) : List Value := (List.range n).map fun i => .int .u64 (z i)
theorem wordsOf_len (n : Nat) (z : Nat → Int) : (wordsOf n z).length = n := by simp [wordsOf]
theorem wordsOf_at (n : Nat) (z : Nat → Int) (j : Nat) (h : j < n) : (wordsOf n z)[j]? = some (.int .u64 (z j)) := by simp [wordsOf, h]
theorem wordsOf_one (n : Nat) (z : Nat → Int) : ∀ v ∈ wordsOf n z, v.oneCell' = true := by
  intro v hv
  simp only [wordsOf, List.mem_map] at hv
  obtain ⟨i, _, rfl⟩ := hv; rfl

theorem wordsOf_ext (n : Nat) (z y : Nat → Int) (h : ∀ i, i < n → z i = y i) : wordsOf n z = wordsOf n y := by
  unfold wordsOf
  exact List.map_congr_left fun i hi => by rw [h i (by simpa using hi)]
theorem wordsOf_add (n m : Nat) (z : Nat → Int) : wordsOf n z ++ wordsOf m (fun i => z (n + i)) = wordsOf (n + m) z := by
  unfold wordsOf
  rw [List.range_add, List.map_append, List.map_map]
  rfl
/-- A row of words that lies whole is the call's own. -/
theorem own_of_row {w : World} {r base n : Nat} {t : TypeId} {z : Nat → Int} (h : w.rowIs r t n (fun i => .int .u64 (z i))) (hb : base ≤ r) (hn : n ≤ maxLen) : w.ownsRow base t 1 (.slice (some ⟨r, 0, none⟩) n n) n (wordsOf n z) := by
  obtain ⟨c, hc, hs, hi⟩ := h
  refine ⟨by rw [wordsOf_len, Nat.mul_one], .inr ⟨r, n, c, rfl, hb, hc, Nat.le_refl _, hn, by rw [hs, Nat.mul_one], ?_⟩⟩
  apply List.ext_getElem?
  intro j
  by_cases hj : j < n
  · rw [wordsOf_at n z j hj, List.getElem?_take_of_lt (by omega), Array.getElem?_toList]; exact hi j hj
  · rw [List.getElem?_eq_none (by rw [List.length_take]; omega), List.getElem?_eq_none (by rw [wordsOf_len]; omega)]
/-- What an own row of words gives where it is no nil. -/
theorem own_at {w : World} {base n : Nat} {t : TypeId} {z : Nat → Int} {v : Value} (h : w.ownsRow base t 1 v n (wordsOf n z)) (hv : v ≠ .slice none 0 0) :
    ∃ g cap cur, v = .slice (some ⟨g, 0, none⟩) n cap ∧ base ≤ g ∧ n ≤ cap ∧ Box w g t cur ∧ ∀ i, i < n → cur[i]? = some (.int .u64 (z i)) := by
  rcases h.2 with ⟨h0, _⟩ | ⟨g, cap, cur, rfl, hb, hg, hl, _, hs, ht⟩
  · exact absurd h0 hv
  · refine ⟨g, cap, cur, rfl, hb, hl, hg, fun i hi => ?_⟩
    have := wordsOf_at n z i hi
    rw [← ht, List.getElem?_take_of_lt (by omega), Array.getElem?_toList] at this
    exact this

set_option maxHeartbeats 1000000 in
theorem new_any (a : Option Addr) (n cap : Nat) (z : Nat → Int) (w : World) (hn : n * 8 ≤ 140737488351232) (hz : Nums .u64 w w.heap.size a n z) :
    Calls Try.prog 8 #[.slice a n cap] w (NewPost w n z) := by
  have HZ := Lib.hid hz
  clear hz
  have hmk := run_make_row' (P := Try.prog) 22 30 (.int .u64 0) 8 Try.underlying22 infoWord rfl .i64 .i64 n (by omega) (by omega)
  go_enter Try.func8, Try.ntmps8
  go_wp2_with (with_reducible refine wpList_copy_splice rfl (.tmp 7) (.tmp 8) 22 22 rfl 30 Try.underlying22 sizeWord (some ⟨w.heap.size, 0, none⟩) a n n n cap rfl rfl w.heap.size 0 (madeCells #[.int .u64 0] n).toList 30 ?c1 (wordsOf n z) ?c2 ?c3 ?c4 (wordsOf_one n z) w.heap.size w ?c5 (Nat.le_refl _) ?_)
  case c1 => rw [Array.toArray_toList]; exact Go.Deep.blk_alloc_new _ _
  case c2 => rw [wordsOf_len]; simp
  case c3 =>
    rw [wordsOf_len]
    intro h0
    obtain ⟨b, off, rfl, hb, hc⟩ := HZ.out h0
    refine ⟨_, rfl, fun j v hv => ?_⟩
    have hj : j < n := by have := (List.getElem?_eq_some_iff.1 hv).1; rwa [wordsOf_len] at this
    rw [wordsOf_at n z j hj] at hv
    rw [add_plain, World.cell?_alloc_past _ _ _ hb]
    exact (hc j hj).trans hv
  case c4 => rw [wordsOf_len, Array.length_toList, size_madeCells, Nat.zero_add]; exact Nat.le_refl _
  case c5 => exact (Below.refl _ _).alloc (Nat.le_refl _) _
  intro w1 hg1 hb1
  go_wp2
  refine bodyPost_ret (v := .pointer (some ⟨w1.heap.size, 0, none⟩)) (by simp [results, Try.results8, go_sem]) rfl ⟨w1.heap.size, w.heap.size, rfl, hb1.size, Nat.le_refl _, (Only.of_below hb1).alloc _, Box.new _ _ _, World.rowIs.alloc ⟨_, hg1.out, ?_, fun i hi => ?_⟩ _⟩
  · rw [List.size_toArray, length_splice, Array.length_toList, size_madeCells]
    rw [wordsOf_len, Array.length_toList, size_madeCells, Nat.zero_add]; exact Nat.le_refl _
  · rw [List.getElem?_toArray]
    have e : splice (madeCells #[.int .u64 0] n).toList 0 (wordsOf n z) = wordsOf n z := by
      simp [splice, wordsOf_len, size_madeCells]
    rw [e]; exact wordsOf_at n z i hi

/-- Behind Next: one more was read; nothing else has turned. -/
def NextPost (w : World) (p g n : Nat) (z : Nat → Int) (u : Nat) (e : Ending) (w' : World) : Prop :=
  e = .returned (.tuple #[.int .u64 (told n z u), .int .i64 u]) ∧ Only (just p) w w' ∧ w'.heap.size = w.heap.size ∧ Tp w' p g n z (u + 1)
theorem NextPost.mk {w : World} {p g n : Nat} {z : Nat → Int} {u : Nat} (h : Tp w p g n z u) (x : Int) (hx : told n z u = x) :
    NextPost w p g n z u (.returned (.tuple #[.int .u64 x, .int .i64 u])) (w.setCell ⟨p, 1, none⟩ (.int .i64 ((u : Int) + 1))) := by
  refine ⟨by rw [hx], (Only.refl _ _).setCell (.inl (just_self p)) _, by simp [World.setCell], ?_, h.row.setOther (a := ⟨p, 1, none⟩) h.ne _⟩
  have := h.box.put 1 (.int .i64 ((u : Int) + 1))
  simpa using this

set_option maxHeartbeats 1000000 in
theorem next_any (p g n : Nat) (z : Nat → Int) (u : Nat) (w : World) (hu : u < 9223372036854775807) (h : Tp w p g n z u) :
    Calls Try.prog 9 #[.pointer (some ⟨p, 0, none⟩)] w (NextPost w p g n z u) := by
  have HT := Lib.hid h
  have c0 : w.cell? ⟨p, 0, none⟩ = some (.slice (some ⟨g, 0, none⟩) n n) := h.box.cell 0
  have c1 : w.cell? ⟨p, 1, none⟩ = some (.int .i64 u) := h.box.cell 1
  have f1 : w.frozen? ⟨p, 1, none⟩ = false := h.box.frozen 1
  have hne : g ≠ p := h.ne
  by_cases hlt : u < n
  · have cu : w.cell? ⟨g, u, none⟩ = some (.int .u64 (z u)) := h.row.cell hlt
    have HE : Hid (told n z u = z u) := if_pos hlt
    clear h
    go_enter Try.func9, Try.ntmps9
    go_wp2
    go_ret2
    exact NextPost.mk HT.out _ HE.out
  · have HE : Hid (told n z u = 0) := if_neg hlt
    clear h
    go_enter Try.func9, Try.ntmps9
    go_wp2
    go_ret2
    exact NextPost.mk HT.out _ HE.out

theorem used_any (p g n : Nat) (z : Nat → Int) (u : Nat) (w : World) (h : Tp w p g n z u) :
    Calls Try.prog 12 #[.pointer (some ⟨p, 0, none⟩)] w fun e w' => e = .returned (.int .i64 u) ∧ w = w' := by
  have c1 : w.cell? ⟨p, 1, none⟩ = some (.int .i64 u) := h.box.cell 1
  clear h
  go_enter Try.func12, Try.ntmps12
  go_wp2
  go_ret
  exact ⟨rfl, rfl⟩

theorem short_any (p g n : Nat) (z : Nat → Int) (u : Nat) (w : World) (h : Tp w p g n z u) :
    Calls Try.prog 13 #[.pointer (some ⟨p, 0, none⟩)] w fun e w' => e = .returned (.bool (decide (n < u))) ∧ ∃ k, w' = w.drewN k := by
  have c0 : w.cell? ⟨p, 0, none⟩ = some (.slice (some ⟨g, 0, none⟩) n n) := h.box.cell 0
  have c1 : w.cell? ⟨p, 1, none⟩ = some (.int .i64 u) := h.box.cell 1
  clear h
  go_enter Try.func13, Try.ntmps13
  go_wp2
  go_quiet (fail)
  go_wp2
  go_ret
  exact ⟨rfl, _, rfl⟩
end Go.Proofs.Ytmdlankeflnpgaa
