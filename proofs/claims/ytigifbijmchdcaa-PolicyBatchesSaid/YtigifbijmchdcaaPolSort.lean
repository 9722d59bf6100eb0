/- slices.SortStableFunc at items of policy: they stand in the order in which they go. -/
import Derived.Test.YtigifbijmchdcaaPolCmp
import Derived.Test.YtigifbijmchdcaaStabAll
namespace Go.Proofs.Ytigifbijmchdcaa
open Go.Shelf Go.RowKit Go.Lib Go.Sort

theorem ltPagst (x y : Pi) : ltOf pagst x y = decide (pkey x < pkey y ∨ (pkey x = pkey y ∧ x.1 < y.1)) := by
  unfold ltOf
  exact decide_eq_decide.2 (pagst_iff x y)
theorem swoPagst : SWO (ltOf pagst) where
  irrefl x := by rw [ltPagst]; simp
  trans x y z h1 h2 := by rw [ltPagst] at *; simp only [decide_eq_true_eq] at *; omega
  ntrans x y z h1 h2 := by rw [ltPagst] at *; simp only [decide_eq_false_iff_not] at *; omega
/-- Items as an array. -/
def pits (y : Nat → Pi) (n : Nat) : Array Pi := (lsP n y).toArray
theorem pits_size (y : Nat → Pi) (n : Nat) : (pits y n).size = n := by simp [pits, lsP]
theorem pits_at (y : Nat → Pi) (n i : Nat) (h : i < n) : (pits y n)[i]! = y i := by simp [pits, lsP, h]
theorem ranked_of {y : Nat → Pi} {n : Nat} {d : Array Pi} (hp : PermIn 0 n (pits y n) d) (hs : SortedIn (ltOf pagst) 0 n d) : d.size = n ∧ d.toList.map kc = ranked (lsP n y) := by
  obtain ⟨h1, _, h3⟩ := hp
  rw [pits_size] at h1
  have hd : (d.extract 0 n).toList = d.toList := by rw [← h1]; simp
  have hc : ((pits y n).extract 0 n).toList = lsP n y := by
    have this : (pits y n).extract 0 (pits y n).size = pits y n := by simp
    rw [pits_size] at this
    rw [this]; rfl
  rw [hd, hc] at h3
  refine ⟨h1, ranked_only (h3.map kc) ?_⟩
  rw [List.pairwise_iff_getElem]
  intro i j hi hj hij
  rw [List.length_map] at hi hj
  have hi' : i < d.size := by simpa using hi
  have hj' : j < d.size := by simpa using hj
  have hlt := hs i j (Nat.zero_le _) hij (by omega)
  rw [getElem!_pos d i hi', getElem!_pos d j hj', ltPagst, decide_eq_false_iff_not] at hlt
  rw [List.getElem_map, List.getElem_map, Array.getElem_toList, Array.getElem_toList, kle_iff]
  show pkey d[i] < pkey d[j] ∨ (pkey d[i] = pkey d[j] ∧ d[i].1 ≤ d[j].1)
  omega
theorem psortWorld_below {B : Nat} (enc : Pi → List Value) (k : Nat) (w : World) (blk off m : Nat) (d : Array Pi) (os : Array Obj) (hB : B ≤ blk) (hs : B ≤ w.heap.size) : Go.RowKit.Below B w (sortWorldK enc k w blk off m d os) := by
  refine ⟨rfl, rfl, rfl, ?_, fun j hj => ?_⟩
  · unfold sortWorldK; rw [Go.Sort.size_grow]; unfold putRowK; rw [size_putRow]; exact Nat.le_add_right _ _
  · unfold sortWorldK
    have h2 : (putRowK enc k (Go.Sort.ahead w m) blk off d).heap.size = w.heap.size := by unfold putRowK; rw [size_putRow]; rfl
    rw [Go.Sort.heap_grow_old _ _ (by rw [h2]; omega)]
    unfold putRowK putRow mapBlock
    have : blk ≠ j := by omega
    simp [Array.getElem?_modify, this, Go.Sort.ahead]
/-- The sort, at a row of items. -/
theorem sort_pits (y : Nat → Pi) (n blk cap : Nat) (w : World) (hn : n ≤ 1000) (hblk : blk < w.heap.size)
    (hc : ∀ j, j < n → (w.cell? ⟨blk, j * 3, none⟩ = some (.int .i64 (y j).1) ∧ w.cell? ⟨blk, j * 3 + 1, none⟩ = some (.int .u64 ((y j).2.1 : Int)) ∧ w.cell? ⟨blk, j * 3 + 2, none⟩ = some (.bool (y j).2.2)) ∧ ∀ i, w.frozen? ⟨blk, i, none⟩ = false) :
    Calls Try.prog 23 #[.slice (some ⟨blk, 0, none⟩) n cap, .func (.func 24) #[] #[]] w fun e w' =>
      e = .returned (.tuple #[]) ∧ ∃ d : Nat → Pi, (lsP n d).map kc = ranked (lsP n y) ∧ Go.RowKit.Below (min blk w.heap.size) w w' ∧ blk < w'.heap.size ∧ ∀ j, j < n → w'.cell? ⟨blk, j * 3, none⟩ = some (.int .i64 (d j).1) ∧ w'.cell? ⟨blk, j * 3 + 1, none⟩ = some (.int .u64 ((d j).2.1 : Int)) ∧ w'.cell? ⟨blk, j * 3 + 2, none⟩ = some (.bool (d j).2.2) := by
  have eg : ∀ args w, (callFunc 24 args).run Try.prog w = .ok (.enter 24 args) w := enters_of Try.func24 (by kernel_rfl) rfl
  have hH : HoldsK pc 3 w blk 0 (pits y n) := by
    intro t ht
    rw [size_flatK, pits_size] at ht
    have h3 : t / 3 < n := by omega
    rw [get_flatK pc 3 (pits y n) t (by rw [pits_size]; exact ht), pits_at y n _ h3]
    obtain ⟨⟨c0, c1, c2⟩, fz⟩ := hc _ h3
    refine ⟨?_, fz _⟩
    show w.cell? ⟨blk, 0 + t, none⟩ = some ((pc (y (t / 3)))[t % 3]!)
    rw [Nat.zero_add]
    have ht3 : (t % 3 = 0 ∧ t = t / 3 * 3) ∨ (t % 3 = 1 ∧ t = t / 3 * 3 + 1) ∨ (t % 3 = 2 ∧ t = t / 3 * 3 + 2) := by omega
    generalize t / 3 = q at *
    rcases ht3 with ⟨h, e⟩ | ⟨h, e⟩ | ⟨h, e⟩
    · rw [h, e, c0]; rfl
    · rw [h, e, c1]; rfl
    · rw [h, e, c2]; rfl
  have hcmp : CmpLays Try.prog 24 #[] pc 3 pagst blk 0 (pits y n).size w := fun m os dk _ x z => against_any x z _
  have hcon := stab_sort stab_laid 3 Try.isAgg29 Try.sizeOf29 pc pc_len pc_one pagst swoPagst 24 #[] blk 0 cap (pits y n) w eg hcmp hH hblk (by rw [pits_size]; omega)
  rw [pits_size] at hcon
  refine hcon.mono ?_
  rintro e w' ⟨rfl, d, m, os, hp, hs, rfl⟩
  obtain ⟨hdn, hr⟩ := ranked_of hp hs
  have hH2 : HoldsK pc 3 (sortWorldK pc 3 w blk 0 m d os) blk 0 d := holdsK_sortWorldK_c pc 3 w blk 0 (pits y n) d m os hH hblk (by rw [hdn, pits_size])
  refine ⟨rfl, fun j => d[j]!, ?_, psortWorld_below pc 3 w blk 0 m d os (by omega) (by omega), ?_, fun j hj => ?_⟩
  · rw [← hr]
    congr 1
    apply List.ext_getElem
    · simp [lsP, hdn]
    · intro i h1 h2
      have hi : i < d.size := by simpa using h2
      simp [lsP, hi]
  · have := size_sortWorldK_c pc 3 w blk 0 m d os; omega
  · have hjd : j < d.size := by omega
    have k0 := (hH2.cell (i := j) (c := 0) hjd (by decide)).1
    have k1 := (hH2.cell (i := j) (c := 1) hjd (by decide)).1
    have k2 := (hH2.cell (i := j) (c := 2) hjd (by decide)).1
    simp only [Nat.zero_add, Nat.add_zero] at k0 k1 k2
    exact ⟨k0, k1, k2⟩
end Go.Proofs.Ytigifbijmchdcaa
