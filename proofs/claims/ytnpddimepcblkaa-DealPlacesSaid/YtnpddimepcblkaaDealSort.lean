/- Cards in order: what slices.SortFunc makes of a row of cards. -/
import Derived.Test.YtnpddimepcblkaaDealLaid
import Derived.Test.YtnpddimepcblkaaDealCmp
import Derived.Test.YtnpddimepcblkaaDealLast
namespace Go.Proofs.Ytnpddimepcblkaa
open Go.Shelf Go.RowKit Go.Lib Go.Sort

theorem ltAgst (x y : Cd) : ltOf agst x y = decide (y.2.1 < x.2.1 ∨ (y.2.1 = x.2.1 ∧ (x.1 < y.1 ∨ (x.1 = y.1 ∧ x.2.2 < y.2.2)))) := by
  unfold ltOf
  exact decide_eq_decide.2 (agst_iff x y)
theorem swoAgst : SWO (ltOf agst) where
  irrefl x := by rw [ltAgst]; simp
  trans x y z h1 h2 := by rw [ltAgst] at *; simp only [decide_eq_true_eq] at *; omega
  ntrans x y z h1 h2 := by rw [ltAgst] at *; simp only [decide_eq_false_iff_not] at *; omega
/-- An item's card: empty ones are made alike. -/
def cdOf (f : Nat → It) (j : Nat) : Cd := if (f j).2 < 0 then (0, -1, (j : Int)) else ((f j).1, (f j).2, (j : Int))
theorem cdOf_at (f : Nat → It) (j : Nat) : (cdOf f j).2.2 = (j : Int) := by unfold cdOf; split <;> rfl
theorem agst_bef (f : Nat → It) (i j : Nat) : agst (cdOf f i) (cdOf f j) < 0 ↔ bef f i j := by
  rw [agst_iff]
  unfold cdOf bef dk0 dk1 dk2
  by_cases h1 : (f i).2 < 0 <;> by_cases h2 : (f j).2 < 0
  · rw [if_pos h1, if_pos h2, if_neg (Int.not_le.2 h1), if_neg (Int.not_le.2 h2), if_neg (Int.not_le.2 h1), if_neg (Int.not_le.2 h2), if_neg (Int.not_le.2 h1), if_neg (Int.not_le.2 h2)]
    show ((-1 : Int) < -1 ∨ ((-1 : Int) = -1 ∧ ((0 : Int) < 0 ∨ ((0 : Int) = 0 ∧ (i : Int) < (j : Int))))) ↔ _
    omega
  · rw [if_pos h1, if_neg h2, if_neg (Int.not_le.2 h1), if_pos (Int.not_lt.1 h2)]
    show ((f j).2 < -1 ∨ ((f j).2 = -1 ∧ ((0 : Int) < (f j).1 ∨ ((0 : Int) = (f j).1 ∧ (i : Int) < (j : Int))))) ↔ _
    omega
  · rw [if_neg h1, if_pos h2, if_pos (Int.not_lt.1 h1), if_neg (Int.not_le.2 h2)]
    show ((-1 : Int) < (f i).2 ∨ ((-1 : Int) = (f i).2 ∧ ((f i).1 < 0 ∨ ((f i).1 = 0 ∧ (i : Int) < (j : Int))))) ↔ _
    omega
  · rw [if_neg h1, if_neg h2, if_pos (Int.not_lt.1 h1), if_pos (Int.not_lt.1 h2), if_pos (Int.not_lt.1 h1), if_pos (Int.not_lt.1 h2), if_pos (Int.not_lt.1 h1), if_pos (Int.not_lt.1 h2)]
    show ((f j).2 < (f i).2 ∨ ((f j).2 = (f i).2 ∧ ((f i).1 < (f j).1 ∨ ((f i).1 = (f j).1 ∧ (i : Int) < (j : Int))))) ↔ _
    omega
def cards (f : Nat → It) (n : Nat) : Array Cd := ((List.range n).map (cdOf f)).toArray
theorem cards_size (f : Nat → It) (n : Nat) : (cards f n).size = n := by simp [cards]
theorem cards_at (f : Nat → It) (n i : Nat) (h : i < n) : (cards f n)[i]! = cdOf f i := by simp [cards, h]
/-- What is in order is the order. -/
theorem ord_of_cards {f : Nat → It} {n : Nat} {d : Array Cd} (hp : PermIn 0 n (cards f n) d) (hs : SortedIn (ltOf agst) 0 n d) : ∃ o, IsOrd f n o ∧ d.toList = o.map (cdOf f) := by
  obtain ⟨h1, _, h3⟩ := hp
  rw [cards_size] at h1
  have hd : (d.extract 0 n).toList = d.toList := by rw [← h1]; simp
  have hc : ((cards f n).extract 0 n).toList = (List.range n).map (cdOf f) := by simp [cards]; rw [List.take_of_length_le (by simp)]
  rw [hd, hc] at h3
  have hm : ∀ c ∈ d.toList, ∃ j, j < n ∧ c = cdOf f j := fun c hcm => by
    obtain ⟨j, hj, rfl⟩ := List.mem_map.1 (h3.mem_iff.1 hcm)
    exact ⟨j, List.mem_range.1 hj, rfl⟩
  have he : d.toList = (d.toList.map fun c => c.2.2.toNat).map (cdOf f) := by
    rw [List.map_map]
    conv => lhs; rw [← List.map_id d.toList]
    apply List.map_congr_left
    intro c hcm
    obtain ⟨j, _, rfl⟩ := hm c hcm
    simp [cdOf_at]
  have hperm : (d.toList.map fun c => c.2.2.toNat).Perm (List.range n) := by
    have := h3.map fun c => c.2.2.toNat
    rw [List.map_map] at this
    have e : (List.range n).map ((fun c : Cd => c.2.2.toNat) ∘ cdOf f) = List.range n := by
      conv => rhs; rw [← List.map_id (List.range n)]
      apply List.map_congr_left
      intro j _
      simp [cdOf_at]
    rw [e] at this
    exact this
  refine ⟨_, ⟨hperm, ?_⟩, he⟩
  have hnd : (d.toList.map fun c => c.2.2.toNat).Nodup := hperm.nodup_iff.2 List.nodup_range
  rw [List.pairwise_iff_getElem]
  intro i j hi hj hij
  have hi' : i < d.size := by simpa using hi
  have hj' : j < d.size := by simpa using hj
  have hlt := hs i j (Nat.zero_le _) hij (by omega)
  rw [getElem!_pos d i hi', getElem!_pos d j hj'] at hlt
  obtain ⟨a, ha, ea⟩ := hm d[i] (by simp)
  obtain ⟨b, hb, eb⟩ := hm d[j] (by simp)
  have e1 : (d.toList.map fun c => c.2.2.toNat)[i] = a := by simp [ea, cdOf_at]
  have e2 : (d.toList.map fun c => c.2.2.toNat)[j] = b := by simp [eb, cdOf_at]
  rw [e1, e2]
  rw [ea, eb] at hlt
  unfold ltOf at hlt
  rw [decide_eq_false_iff_not, agst_bef] at hlt
  have hne : a ≠ b := fun e => by
    have := (List.pairwise_iff_getElem.1 hnd) i j hi hj hij
    rw [e1, e2] at this
    exact this e
  exact (bef_not f (fun e => hne e.symm)).1 hlt
theorem sortWorld_below {B : Nat} (enc : Cd → List Value) (k : Nat) (w : World) (blk off m : Nat) (d : Array Cd) (os : Array Obj) (hB : B ≤ blk) (hs : B ≤ w.heap.size) : Go.RowKit.Below B w (sortWorldK enc k w blk off m d os) := by
  refine ⟨rfl, rfl, rfl, ?_, fun j hj => ?_⟩
  · unfold sortWorldK; rw [size_grow]; unfold putRowK; rw [size_putRow]; exact Nat.le_add_right _ _
  · unfold sortWorldK
    have h2 : (putRowK enc k (Go.Sort.ahead w m) blk off d).heap.size = w.heap.size := by unfold putRowK; rw [size_putRow]; rfl
    rw [heap_grow_old _ _ (by rw [h2]; omega)]
    unfold putRowK putRow mapBlock
    have : blk ≠ j := by omega
    simp [Array.getElem?_modify, this, Go.Sort.ahead]
/-- The sort, at a row of cards of the call's own. -/
theorem sort_cards (f : Nat → It) (n blk cap : Nat) (w : World) (hn : n ≤ 1000) (hblk : blk < w.heap.size)
    (hc : ∀ j, j < n → (w.cell? ⟨blk, j * 3, none⟩ = some (.int .u64 (cdOf f j).1) ∧ w.cell? ⟨blk, j * 3 + 1, none⟩ = some (.int .i64 (cdOf f j).2.1) ∧ w.cell? ⟨blk, j * 3 + 2, none⟩ = some (.int .i64 (cdOf f j).2.2)) ∧ ∀ i, w.frozen? ⟨blk, i, none⟩ = false) :
    Calls Try.prog 21 #[.slice (some ⟨blk, 0, none⟩) n cap, .func (.func 22) #[] #[]] w fun e w' =>
      e = .returned (.tuple #[]) ∧ ∃ o, IsOrd f n o ∧ Go.RowKit.Below (min blk w.heap.size) w w' ∧ blk < w'.heap.size ∧ ∀ j, (hj : j < o.length) → w'.cell? ⟨blk, j * 3, none⟩ = some (.int .u64 (cdOf f o[j]).1) ∧ w'.cell? ⟨blk, j * 3 + 1, none⟩ = some (.int .i64 (cdOf f o[j]).2.1) ∧ w'.cell? ⟨blk, j * 3 + 2, none⟩ = some (.int .i64 (cdOf f o[j]).2.2) := by
  have eg : ∀ args w, (callFunc 22 args).run Try.prog w = .ok (.enter 22 args) w := enters_of Try.func22 (by kernel_rfl) rfl
  have hH : HoldsK cdc 3 w blk 0 (cards f n) := by
    intro t ht
    rw [size_flatK, cards_size] at ht
    have h3 : t / 3 < n := by omega
    rw [get_flatK cdc 3 (cards f n) t (by rw [cards_size]; exact ht), cards_at f n _ h3]
    obtain ⟨⟨c0, c1, c2⟩, fz⟩ := hc _ h3
    refine ⟨?_, fz _⟩
    show w.cell? ⟨blk, 0 + t, none⟩ = some ((cdc (cdOf f (t / 3)))[t % 3]!)
    rw [Nat.zero_add]
    have ht3 : (t % 3 = 0 ∧ t = t / 3 * 3) ∨ (t % 3 = 1 ∧ t = t / 3 * 3 + 1) ∨ (t % 3 = 2 ∧ t = t / 3 * 3 + 2) := by omega
    generalize t / 3 = q at *
    rcases ht3 with ⟨h, e⟩ | ⟨h, e⟩ | ⟨h, e⟩
    · rw [h, e, c0]; rfl
    · rw [h, e, c1]; rfl
    · rw [h, e, c2]; rfl
  have hcmp : CmpLays Try.prog 22 #[] cdc 3 agst blk 0 (cards f n).size w := fun m os dk _ x y => against_any x y _
  have hcon := AnyQ.slices_SortFunc sort_laid 3 Try.isAgg55 Try.sizeOf55 cdc cdc_len cdc_one agst swoAgst 22 #[] blk 0 cap (cards f n) w eg hcmp hH hblk (by rw [cards_size]; omega)
  change Calls Try.prog 21 _ _ _ at hcon
  rw [cards_size] at hcon
  refine hcon.mono ?_
  rintro e w' ⟨rfl, d, m, os, hp, hs, rfl⟩
  obtain ⟨o, ho, hd⟩ := ord_of_cards hp hs
  have hdn : d.size = n := by have := hp.1; rwa [cards_size] at this
  have hH2 : HoldsK cdc 3 (sortWorldK cdc 3 w blk 0 m d os) blk 0 d := holdsK_sortWorldK_c cdc 3 w blk 0 (cards f n) d m os hH hblk (by rw [hdn, cards_size])
  refine ⟨rfl, o, ho, sortWorld_below cdc 3 w blk 0 m d os (by omega) (by omega), ?_, fun j hj => ?_⟩
  · have := size_sortWorldK_c cdc 3 w blk 0 m d os; omega
  · have hjd : j < d.size := by rw [hdn, ← ho.len]; exact hj
    have hdj : d[j]! = cdOf f o[j] := by
      rw [getElem!_pos d j hjd]
      have : d.toList[j]? = some (cdOf f o[j]) := by rw [hd]; simp [hj]
      rw [Array.getElem?_toList, Array.getElem?_eq_getElem hjd] at this
      injection this
    have k0 := (hH2.cell (i := j) (c := 0) hjd (by decide)).1
    have k1 := (hH2.cell (i := j) (c := 1) hjd (by decide)).1
    have k2 := (hH2.cell (i := j) (c := 2) hjd (by decide)).1
    rw [hdj] at k0 k1 k2
    simp only [Nat.zero_add, Nat.add_zero] at k0 k1 k2
    exact ⟨k0, k1, k2⟩
end Go.Proofs.Ytnpddimepcblkaa
