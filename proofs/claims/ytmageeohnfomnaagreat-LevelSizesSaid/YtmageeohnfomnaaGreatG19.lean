/- Texts of ours put together: DealSort, DealOrder. -/
import Derived.Below
import Derived.BigQuiet
import Derived.ChangeArms
import Derived.ChangeSlices
import Derived.Deep.Draws
import Derived.Deep.OwnRows
import Derived.Deep.QuietTactic
import Derived.Deep.Slices
import Derived.Laws.AppendOwn
import Derived.Lib.Hide
import Derived.OpenShut
import Derived.ProofKit
import Derived.RowKit3
import Derived.Shelf.SlSortCmp.WholeK
import Derived.SizedLaws
import Derived.Sort.Grow
import Derived.WalkKit
import Derived.WideShapes
import Derived.Test.YtmageeohnfomnaaGreatProg
import Derived.Deep.Cut
import Derived.Test.YtmageeohnfomnaaGreatG16
import Derived.Test.YtmageeohnfomnaaGreatG17
import Derived.Test.YtmageeohnfomnaaGreatG3
import Derived.Test.YtmageeohnfomnaaGreatG18
import Derived.Test.YtmageeohnfomnaaGreatG1
import Derived.Test.YtmageeohnfomnaaGreatG2
import Derived.Test.YtmageeohnfomnaaGreatG4
namespace Go.Proofs.YtmageeohnfomnaaGreat
set_option maxRecDepth 100000
open Go.Shelf Go.RowKit Go.Lib Go.Sort

theorem ltAgst (x y : Cd) : ltOf agst x y = decide (y.2.1 < x.2.1 ∨ (y.2.1 = x.2.1 ∧ (x.1 < y.1 ∨ (x.1 = y.1 ∧ x.2.2 < y.2.2)))) := by
  unfold ltOf
  exact decide_eq_decide.2 (agst_iff x y)
theorem swoAgst : SWO (ltOf agst) where
  irrefl x := by rw [ltAgst]; simp
  trans x y z h1 h2 := by rw [ltAgst] at *; simp only [decide_eq_true_eq] at *; omega
  ntrans x y z h1 h2 := by rw [ltAgst] at *; simp only [decide_eq_false_iff_not] at *; omega
def cdOf (f : Nat → It) (j : Nat) : Cd := if (f j).2 < 0 then (0, -1, (j : Int)) else ((f j).1, (f j).2, (j : Int))
theorem cdOf_at (f : Nat → It) (j : Nat) : (cdOf f j).2.2 = (j : Int) := by unfold cdOf; split <;> rfl
theorem agst_bef (f : Nat → It) (i j : Nat) : agst (cdOf f i) (cdOf f j) < 0 ↔ bef f i j := by
  rw [agst_iff]
  unfold cdOf bef dk0 dk1 dk2
  by_cases h1 : (f i).2 < 0 <;> by_cases h2 : (f j).2 < 0
  · rw [if_pos h1, if_pos h2, if_neg (Int.not_le.2 h1), if_neg (Int.not_le.2 h2), if_neg (Int.not_le.2 h1), if_neg (Int.not_le.2 h2), if_neg (Int.not_le.2 h1), if_neg (Int.not_le.2 h2)]
    show ((-1 : Int) < -1 ∨ ((-1 : Int) = -1 ∧ ((0 : Int) < 0 ∨ ((0 : Int) = 0 ∧ (i : Int) < (j : Int))))) ↔ _
    omega
  · rw [if_pos h1, if_neg h2, if_neg (Int.not_le.2 h1), if_pos (Int.not_lt.1 h2)]
    show ((f j).2 < -1 ∨ ((f j).2 = -1 ∧ ((0 : Int) < (f j).1 ∨ ((0 : Int) = (f j).1 ∧ (i : Int) < (j : Int))))) ↔ _
    omega
  · rw [if_neg h1, if_pos h2, if_pos (Int.not_lt.1 h1), if_neg (Int.not_le.2 h2)]
    show ((-1 : Int) < (f i).2 ∨ ((-1 : Int) = (f i).2 ∧ ((f i).1 < 0 ∨ ((f i).1 = 0 ∧ (i : Int) < (j : Int))))) ↔ _
    omega
  · rw [if_neg h1, if_neg h2, if_pos (Int.not_lt.1 h1), if_pos (Int.not_lt.1 h2), if_pos (Int.not_lt.1 h1), if_pos (Int.not_lt.1 h2), if_pos (Int.not_lt.1 h1), if_pos (Int.not_lt.1 h2)]
    show ((f j).2 < (f i).2 ∨ ((f j).2 = (f i).2 ∧ ((f i).1 < (f j).1 ∨ ((f i).1 = (f j).1 ∧ (i : Int) < (j : Int))))) ↔ _
    omega
def cards (f : Nat → It) (n : Nat) : Array Cd := ((List.range n).map (cdOf f)).toArray
theorem cards_size (f : Nat → It) (n : Nat) : (cards f n).size = n := by simp [cards]
theorem cards_at (f : Nat → It) (n i : Nat) (h : i < n) : (cards f n)[i]! = cdOf f i := by simp [cards, h]
theorem ord_of_cards {f : Nat → It} {n : Nat} {d : Array Cd} (hp : PermIn 0 n (cards f n) d) (hs : SortedIn (ltOf agst) 0 n d) : ∃ o, IsOrd f n o ∧ d.toList = o.map (cdOf f) := by
  obtain ⟨h1, _, h3⟩ := hp
  rw [cards_size] at h1
  have hd : (d.extract 0 n).toList = d.toList := by rw [← h1]; simp
  have hc : ((cards f n).extract 0 n).toList = (List.range n).map (cdOf f) := by simp [cards]; rw [List.take_of_length_le (by simp)]
  rw [hd, hc] at h3
  have hm : ∀ c ∈ d.toList, ∃ j, j < n ∧ c = cdOf f j := fun c hcm => by
    obtain ⟨j, hj, rfl⟩ := List.mem_map.1 (h3.mem_iff.1 hcm)
    exact ⟨j, List.mem_range.1 hj, rfl⟩
  have he : d.toList = (d.toList.map fun c => c.2.2.toNat).map (cdOf f) := by
    rw [List.map_map]
    conv => lhs; rw [← List.map_id d.toList]
    apply List.map_congr_left
    intro c hcm
    obtain ⟨j, _, rfl⟩ := hm c hcm
    simp [cdOf_at]
  have hperm : (d.toList.map fun c => c.2.2.toNat).Perm (List.range n) := by
    have := h3.map fun c => c.2.2.toNat
    rw [List.map_map] at this
    have e : (List.range n).map ((fun c : Cd => c.2.2.toNat) ∘ cdOf f) = List.range n := by
      conv => rhs; rw [← List.map_id (List.range n)]
      apply List.map_congr_left
      intro j _
      simp [cdOf_at]
    rw [e] at this
    exact this
  refine ⟨_, ⟨hperm, ?_⟩, he⟩
  have hnd : (d.toList.map fun c => c.2.2.toNat).Nodup := hperm.nodup_iff.2 List.nodup_range
  rw [List.pairwise_iff_getElem]
  intro i j hi hj hij
  have hi' : i < d.size := by simpa using hi
  have hj' : j < d.size := by simpa using hj
  have hlt := hs i j (Nat.zero_le _) hij (by omega)
  rw [getElem!_pos d i hi', getElem!_pos d j hj'] at hlt
  obtain ⟨a, ha, ea⟩ := hm d[i] (by simp)
  obtain ⟨b, hb, eb⟩ := hm d[j] (by simp)
  have e1 : (d.toList.map fun c => c.2.2.toNat)[i] = a := by simp [ea, cdOf_at]
  have e2 : (d.toList.map fun c => c.2.2.toNat)[j] = b := by simp [eb, cdOf_at]
  rw [e1, e2]
  rw [ea, eb] at hlt
  unfold ltOf at hlt
  rw [decide_eq_false_iff_not, agst_bef] at hlt
  have hne : a ≠ b := fun e => by
    have := (List.pairwise_iff_getElem.1 hnd) i j hi hj hij
    rw [e1, e2] at this
    exact this e
  exact (bef_not f (fun e => hne e.symm)).1 hlt
theorem sortWorld_below {B : Nat} (enc : Cd → List Value) (k : Nat) (w : World) (blk off m : Nat) (d : Array Cd) (os : Array Obj) (hB : B ≤ blk) (hs : B ≤ w.heap.size) : Go.RowKit.Below B w (sortWorldK enc k w blk off m d os) := by
  refine ⟨rfl, rfl, rfl, ?_, fun j hj => ?_⟩
  · unfold sortWorldK; rw [size_grow]; unfold putRowK; rw [size_putRow]; exact Nat.le_add_right _ _
  · unfold sortWorldK
    have h2 : (putRowK enc k (Go.Sort.ahead w m) blk off d).heap.size = w.heap.size := by unfold putRowK; rw [size_putRow]; rfl
    rw [heap_grow_old _ _ (by rw [h2]; omega)]
    unfold putRowK putRow mapBlock
    have : blk ≠ j := by omega
    simp [Array.getElem?_modify, this, Go.Sort.ahead]
theorem sort_cards (f : Nat → It) (n blk cap : Nat) (w : World) (hn : n ≤ 1000) (hblk : blk < w.heap.size)
    (hc : ∀ j, j < n → (w.cell? ⟨blk, j * 3, none⟩ = some (.int .u64 (cdOf f j).1) ∧ w.cell? ⟨blk, j * 3 + 1, none⟩ = some (.int .i64 (cdOf f j).2.1) ∧ w.cell? ⟨blk, j * 3 + 2, none⟩ = some (.int .i64 (cdOf f j).2.2)) ∧ ∀ i, w.frozen? ⟨blk, i, none⟩ = false) :
    Calls Tryz.prog 95 #[.slice (some ⟨blk, 0, none⟩) n cap, .func (.func 96) #[] #[]] w fun e w' =>
      e = .returned (.tuple #[]) ∧ ∃ o, IsOrd f n o ∧ Go.RowKit.Below (min blk w.heap.size) w w' ∧ blk < w'.heap.size ∧ ∀ j, (hj : j < o.length) → w'.cell? ⟨blk, j * 3, none⟩ = some (.int .u64 (cdOf f o[j]).1) ∧ w'.cell? ⟨blk, j * 3 + 1, none⟩ = some (.int .i64 (cdOf f o[j]).2.1) ∧ w'.cell? ⟨blk, j * 3 + 2, none⟩ = some (.int .i64 (cdOf f o[j]).2.2) := by
  have eg : ∀ args w, (callFunc 96 args).run Tryz.prog w = .ok (.enter 96 args) w := enters_of Tryz.func96 (by kernel_rfl) rfl
  have hH : HoldsK cdc 3 w blk 0 (cards f n) := by
    intro t ht
    rw [size_flatK, cards_size] at ht
    have h3 : t / 3 < n := by omega
    rw [get_flatK cdc 3 (cards f n) t (by rw [cards_size]; exact ht), cards_at f n _ h3]
    obtain ⟨⟨c0, c1, c2⟩, fz⟩ := hc _ h3
    refine ⟨?_, fz _⟩
    show w.cell? ⟨blk, 0 + t, none⟩ = some ((cdc (cdOf f (t / 3)))[t % 3]!)
    rw [Nat.zero_add]
    have ht3 : (t % 3 = 0 ∧ t = t / 3 * 3) ∨ (t % 3 = 1 ∧ t = t / 3 * 3 + 1) ∨ (t % 3 = 2 ∧ t = t / 3 * 3 + 2) := by omega
    generalize t / 3 = q at *
    rcases ht3 with ⟨h, e⟩ | ⟨h, e⟩ | ⟨h, e⟩
    · rw [h, e, c0]; rfl
    · rw [h, e, c1]; rfl
    · rw [h, e, c2]; rfl
  have hcmp : CmpLays Tryz.prog 96 #[] cdc 3 agst blk 0 (cards f n).size w := fun m os dk _ x y => against_any x y _
  have hcon := AnyQ.slices_SortFunc sort_laid 3 Tryz.isAgg151 Tryz.sizeOf151 cdc cdc_len cdc_one agst swoAgst 96 #[] blk 0 cap (cards f n) w eg hcmp hH hblk (by rw [cards_size]; omega)
  change Calls Tryz.prog 95 _ _ _ at hcon
  rw [cards_size] at hcon
  refine hcon.mono ?_
  rintro e w' ⟨rfl, d, m, os, hp, hs, rfl⟩
  obtain ⟨o, ho, hd⟩ := ord_of_cards hp hs
  have hdn : d.size = n := by have := hp.1; rwa [cards_size] at this
  have hH2 : HoldsK cdc 3 (sortWorldK cdc 3 w blk 0 m d os) blk 0 d := holdsK_sortWorldK_c cdc 3 w blk 0 (cards f n) d m os hH hblk (by rw [hdn, cards_size])
  refine ⟨rfl, o, ho, sortWorld_below cdc 3 w blk 0 m d os (by omega) (by omega), ?_, fun j hj => ?_⟩
  · have := size_sortWorldK_c cdc 3 w blk 0 m d os; omega
  · have hjd : j < d.size := by rw [hdn, ← ho.len]; exact hj
    have hdj : d[j]! = cdOf f o[j] := by
      rw [getElem!_pos d j hjd]
      have : d.toList[j]? = some (cdOf f o[j]) := by rw [hd]; simp [hj]
      rw [Array.getElem?_toList, Array.getElem?_eq_getElem hjd] at this
      injection this
    have k0 := (hH2.cell (i := j) (c := 0) hjd (by decide)).1
    have k1 := (hH2.cell (i := j) (c := 1) hjd (by decide)).1
    have k2 := (hH2.cell (i := j) (c := 2) hjd (by decide)).1
    rw [hdj] at k0 k1 k2
    simp only [Nat.zero_add, Nat.add_zero] at k0 k1 k2
    exact ⟨k0, k1, k2⟩
end Go.Proofs.YtmageeohnfomnaaGreat


namespace Go.Proofs.YtmageeohnfomnaaGreat
set_option maxRecDepth 100000
open Go.RowKit Go.ChangeShapes Go.WideShapes Go.ChangeAt

theorem infoCard : (Tryz.prog.info? 151).map (fun i => (i.zero, i.size, i.bytes)) = some (some (.agg #[.int .u64 0, .int .i64 0, .int .i64 0]), 3, 24) := by kernel_rfl
theorem infoItem : (Tryz.prog.info? 139).map (fun i => (i.zero, i.size, i.bytes)) = some (some (.agg #[.int .u64 0, .int .i64 0]), 2, 16) := by kernel_rfl
def zc (i : Nat) : Value := if i = 0 then .int .u64 0 else .int .i64 0
theorem make_cards (s : Nat) (hs : s ≤ 1000) (w : World) : (Instr.makeSlice 149 (.int .i64 (s : Int)) (.int .i64 (s : Int))).run Tryz.prog w = .ok (.slice (some ⟨w.heap.size, 0, none⟩) s s) (w.alloc (.cells (madeCells #[.int .u64 0, .int .i64 0, .int .i64 0] (s * 3)) 151)) := by
  obtain ⟨i, hi, hzz⟩ := Option.map_eq_some_iff.1 infoCard
  simp only [Prod.mk.injEq] at hzz
  obtain ⟨hz, h3, hb⟩ := hzz
  have := run_make (P := Tryz.prog) w 149 151 i _ Tryz.underlying149 hi hz .i64 .i64 s s (by omega) (Int.le_refl _) (by rw [hb]; omega) (by omega)
  rw [h3] at this
  simpa [Value.cells] using this
theorem made_cards (w : World) (s : Nat) : (w.alloc (.cells (madeCells #[.int .u64 0, .int .i64 0, .int .i64 0] (s * 3)) 151)).rowIs w.heap.size 151 (s * 3) (fun k => zc (k % 3)) := by
  refine ⟨_, Go.Deep.blk_alloc_new _ _, size_madeCells _ _, fun i hi => ?_⟩
  have h3 : i % 3 = 0 ∨ i % 3 = 1 ∨ i % 3 = 2 := by omega
  rcases h3 with h | h | h <;> simp [madeCells, hi, h, zc]
def crd (y : Nat → It) (i k : Nat) : Value := if k / 3 < i then (if k % 3 = 0 then .int .u64 (cdOf y (k / 3)).1 else if k % 3 = 1 then .int .i64 (cdOf y (k / 3)).2.1 else .int .i64 (cdOf y (k / 3)).2.2) else zc (k % 3)
theorem crd_set (y : Nat → It) (i k : Nat) : crd y (i + 1) k = if k = i * 3 + 2 then .int .i64 (cdOf y i).2.2 else if k = i * 3 + 1 then .int .i64 (cdOf y i).2.1 else if k = i * 3 then .int .u64 (cdOf y i).1 else crd y i k := by
  unfold crd
  by_cases h2 : k = i * 3 + 2
  · subst h2
    rw [if_pos rfl, if_pos (by omega), if_neg (by omega), if_neg (by omega), show (i * 3 + 2) / 3 = i by omega]
  rw [if_neg h2]
  by_cases h1 : k = i * 3 + 1
  · subst h1
    rw [if_pos rfl, if_pos (by omega), if_neg (by omega), if_pos (by omega), show (i * 3 + 1) / 3 = i by omega]
  rw [if_neg h1]
  by_cases h0 : k = i * 3
  · subst h0
    rw [if_pos rfl, if_pos (by omega), if_pos (by omega), show (i * 3) / 3 = i by omega]
  rw [if_neg h0]
  by_cases h : k / 3 < i
  · rw [if_pos h, if_pos (by omega)]
  · rw [if_neg h, if_neg (by omega)]
structure CrAt (w : World) (g n : Nat) (y : Nat → It) (i : Nat) (wr : World) : Prop where
  le : i ≤ n
  row : wr.rowIs g 151 (n * 3) (fun k => crd y i k)
  old : w.heap.size ≤ g
  below : Below w.heap.size w wr
theorem CrAt.grow {w wr wx : World} {g n i : Nat} {y : Nat → It} (h : CrAt w g n y i wr) (hb : Below wr.heap.size wr wx) : CrAt w g n y i wx :=
  ⟨h.le, h.row.of_block (hb.block g h.row.lt), h.old, h.below.trans (hb.mono h.below.size)⟩
theorem CrAt.next {w wr : World} {g n i : Nat} {y : Nat → It} (h : CrAt w g n y i wr) (hi : i < n) (x : Cd) (hx : x = cdOf y i) :
    CrAt w g n y (i + 1) (((wr.setCell ⟨g, i * 3, none⟩ (.int .u64 x.1)).setCell ⟨g, i * 3 + 1, none⟩ (.int .i64 x.2.1)).setCell ⟨g, i * 3 + 2, none⟩ (.int .i64 x.2.2)) := by
  subst hx
  refine ⟨hi, (((h.row.set _ _).set _ _).set _ _).congr fun k _ => (crd_set y i k).symm, h.old, ?_⟩
  exact ((h.below.setCell (p := ⟨g, _, none⟩) h.old _).setCell (p := ⟨g, _, none⟩) h.old _).setCell (p := ⟨g, _, none⟩) h.old _
structure OdAt (w : World) (gc g n : Nat) (y : Nat → It) (o : List Nat) (i : Nat) (wr : World) : Prop where
  le : i ≤ n
  row : wr.rowIs g 3 n (fun k => .int .i64 (if k < i then (o.getD k 0 : Nat) else 0))
  old : w.heap.size ≤ g
  ne : gc ≠ g
  lt : gc < wr.heap.size
  crd : ∀ j, (hj : j < o.length) → wr.cell? ⟨gc, j * 3, none⟩ = some (.int .u64 (cdOf y o[j]).1) ∧ wr.cell? ⟨gc, j * 3 + 1, none⟩ = some (.int .i64 (cdOf y o[j]).2.1) ∧ wr.cell? ⟨gc, j * 3 + 2, none⟩ = some (.int .i64 (cdOf y o[j]).2.2)
  below : Below w.heap.size w wr
theorem OdAt.next {w wr : World} {gc g n : Nat} {y : Nat → It} {o : List Nat} {i : Nat} (h : OdAt w gc g n y o i wr) (hi : i < n) (ho : i < o.length) (ob : Obj) : OdAt w gc g n y o (i + 1) ((wr.setCell ⟨g, i, none⟩ (.int .i64 (o[i] : Nat))).alloc ob) := by
  refine ⟨hi, ((h.row.set _ _).alloc ob).congr fun k _ => ?_, h.old, h.ne, ?_, fun j hj => ?_, ?_⟩
  · show (if k = i then _ else _) = _
    by_cases e : k = i
    · subst e; rw [if_pos rfl, if_pos (by omega)]; simp [ho]
    · rw [if_neg e]
      by_cases e2 : k < i
      · rw [if_pos e2, if_pos (by omega)]
      · rw [if_neg e2, if_neg (by omega)]
  · have := h.lt; simp [World.setCell]; omega
  · have hl : gc < (wr.setCell ⟨g, i, none⟩ (.int .i64 (o[i] : Nat))).heap.size := by have := h.lt; simpa [World.setCell] using this
    have hb : ((wr.setCell ⟨g, i, none⟩ (.int .i64 (o[i] : Nat))).alloc ob).heap[gc]? = wr.heap[gc]? := (Below.heap_alloc _ ob gc hl).trans (Below.heap_setCell _ _ _ gc h.ne)
    obtain ⟨c0, c1, c2⟩ := h.crd j hj
    exact ⟨(World.cell?_of_block (w := wr) hb).trans c0, (World.cell?_of_block (w := wr) hb).trans c1, (World.cell?_of_block (w := wr) hb).trans c2⟩
  · have hb := h.below.setCell (p := ⟨g, i, none⟩) h.old (.int .i64 (o[i] : Nat))
    exact hb.alloc hb.size ob
def OrPost (w : World) (n : Nat) (y : Nat → It) (e : Ending) (w' : World) : Prop :=
  ∃ (o : List Nat) (g : Nat), IsOrd y n o ∧ e = .returned (.slice (some ⟨g, 0, none⟩) n n) ∧ Ir w' w.heap.size g n (fun j => (o.getD j 0 : Nat)) ∧ Below w.heap.size w w'
set_option maxRecDepth 100000 in
set_option maxHeartbeats 2000000 in
theorem dorder_any (a : Option Addr) (n c : Nat) (y : Nat → It) (w : World) (hn : n ≤ 1000) (hI : Its w w.heap.size a n y) :
    Calls Tryz.prog 86 #[.slice a n c] w (OrPost w n y) := by
  have hmk := make_cards n hn
  have hmi := run_make_row' (P := Tryz.prog) 36 3 (.int .i64 0) 8 Tryz.underlying36 infoI64 rfl .i64 .i64 n (by omega) (by omega)
  have HC : Hid (CrAt w w.heap.size n y 0 (w.alloc (.cells (madeCells #[.int .u64 0, .int .i64 0, .int .i64 0] (n * 3)) 151))) :=
    ⟨by omega, (made_cards w n).congr fun k _ => by unfold crd; rw [if_neg (by omega)], Nat.le_refl _, (Below.refl _ w).alloc (Nat.le_refl _) _⟩
  have HI := Lib.hid hI
  clear hI
  go_enter Tryz.func86, Tryz.ntmps86
  go_wp2_with fail
  go_loopw [14] (fun v wr => ∃ i : Nat, v = .int .i64 i ∧ CrAt w w.heap.size n y i wr) (fun v _ => n - (intOf v).toNat)
  case atStart => exact ⟨0, rfl, HC.out⟩
  case round =>
    obtain ⟨i, rfl, hS⟩ := hrel
    clear HC
    have hle := hS.le
    have HS := Lib.hid hS
    by_cases hlt : i < n
    · obtain ⟨b, off, rfl, hb, c0, c1⟩ := (HI.out.below hS.below).at hlt
      clear hS
      obtain ⟨it, hit⟩ : ∃ it, wr.heap.size = it := ⟨_, rfl⟩
      have hx : cdOf y i = if (y i).2 < 0 then (0, -1, (i : Int)) else ((y i).1, (y i).2, (i : Int)) := rfl
      have hgit : ¬ w.heap.size = it := by have := HS.out.row.lt; omega
      generalize (y i).1 = yi at *
      generalize (y i).2 = yd at *
      have HIT := Lib.hid hit
      have HX := Lib.hid hx
      clear hx hit
      go_wp2_with fail
      rw [HIT.out]
      refine (deal_empty yi yd _).mono ?_
      rintro e w1 ⟨rfl, hb1⟩
      have hbx : Box w1 it 139 #[.int .u64 yi, .int .i64 yd] := by
        have := (Box.new wr 139 #[.int .u64 yi, .int .i64 yd]).of (hb1.block _ (by simp))
        rwa [HIT.out] at this
      have HS1 := Lib.hid ((HS.out.grow ((Below.refl _ wr).alloc (Nat.le_refl _) (.cells #[.int .u64 yi, .int .i64 yd] 139))).grow hb1)
      have hio : w.heap.size ≤ it := by have := HS.out.below.size; have := HIT.out; omega
      have HBx := Lib.hid hbx
      clear hb1 hbx HS c0 c1
      by_cases hyd : yd < 0
      · have hx := HX.out
        rw [if_pos hyd] at hx
        have k0 := HBx.out.cell 0
        have k1 := HBx.out.cell 1
        have g0 := HBx.out.frozen 0
        have g1 := HBx.out.frozen 1
        have HX2 := Lib.hid hx
        clear hx HX
        go_upto_region 7 with fail
        have HBx2 : Hid (Box ((w1.setCell ⟨it, 0, none⟩ (.int .u64 0)).setCell ⟨it, 1, none⟩ (.int .i64 (-1))) it 139 #[.int .u64 0, .int .i64 (-1)]) := (HBx.out.put 0 _).put 1 _
        have hrow : ((w1.setCell ⟨it, 0, none⟩ (.int .u64 0)).setCell ⟨it, 1, none⟩ (.int .i64 (-1))).rowIs w.heap.size 151 (n * 3) (fun k => crd y i k) := (HS1.out.row.setOther hgit _).setOther hgit _
        have HS2 : Hid (CrAt w w.heap.size n y i ((w1.setCell ⟨it, 0, none⟩ (.int .u64 0)).setCell ⟨it, 1, none⟩ (.int .i64 (-1)))) := ⟨HS1.out.le, hrow, HS1.out.old, (HS1.out.below.setCell (p := ⟨it, 0, none⟩) hio _).setCell (p := ⟨it, 1, none⟩) hio _⟩
        clear hrow HS1 HBx k0 k1 g0 g1
        generalize (w1.setCell ⟨it, 0, none⟩ (.int .u64 0)).setCell ⟨it, 1, none⟩ (.int .i64 (-1)) = w2 at *
        have k0 := HBx2.out.cell 0
        have k1 := HBx2.out.cell 1
        have q0 := HS2.out.row.cell (i := i * 3) (by omega)
        have q1 := HS2.out.row.cell (i := i * 3 + 1) (by omega)
        have q2 := HS2.out.row.cell (i := i * 3 + 2) (by omega)
        have z0 := HS2.out.row.frozen (i * 3)
        have z1 := HS2.out.row.frozen (i * 3 + 1)
        have z2 := HS2.out.row.frozen (i * 3 + 2)
        have HN := Lib.hid (HS2.out.next hlt _ HX2.out.symm)
        clear HX2 HS2 HBx2
        go_wp2_with fail
        go_roundw
        case rel => exact ⟨i + 1, by go_num, HN.out⟩
        case measure => simp [intOf]; omega
      · have hx := HX.out
        rw [if_neg hyd] at hx
        have HX2 := Lib.hid hx
        clear hx HX
        have HBx2 := HBx
        have HS2 := HS1
        clear HBx HS1
        have k0 := HBx2.out.cell 0
        have k1 := HBx2.out.cell 1
        have q0 := HS2.out.row.cell (i := i * 3) (by omega)
        have q1 := HS2.out.row.cell (i := i * 3 + 1) (by omega)
        have q2 := HS2.out.row.cell (i := i * 3 + 2) (by omega)
        have z0 := HS2.out.row.frozen (i * 3)
        have z1 := HS2.out.row.frozen (i * 3 + 1)
        have z2 := HS2.out.row.frozen (i * 3 + 2)
        have HN := Lib.hid (HS2.out.next hlt _ HX2.out.symm)
        clear HX2 HS2 HBx2
        go_wp2_with fail
        go_roundw
        case rel => exact ⟨i + 1, by go_num, HN.out⟩
        case measure => simp [intOf]; omega
    · obtain rfl : i = n := by omega
      clear hlt hle
      obtain ⟨w9, h9⟩ : ∃ x, x = wr := ⟨_, rfl⟩
      subst h9
      have hsz := hS.row.lt
      have hcards : ∀ j, j < i → (w9.cell? ⟨w.heap.size, j * 3, none⟩ = some (.int .u64 (cdOf y j).1) ∧ w9.cell? ⟨w.heap.size, j * 3 + 1, none⟩ = some (.int .i64 (cdOf y j).2.1) ∧ w9.cell? ⟨w.heap.size, j * 3 + 2, none⟩ = some (.int .i64 (cdOf y j).2.2)) ∧ ∀ i, w9.frozen? ⟨w.heap.size, i, none⟩ = false := fun j hj => by
        have q0 := hS.row.cell (i := j * 3) (by omega)
        have q1 := hS.row.cell (i := j * 3 + 1) (by omega)
        have q2 := hS.row.cell (i := j * 3 + 2) (by omega)
        unfold crd at q0 q1 q2
        rw [if_pos (by omega), if_pos (by omega), show j * 3 / 3 = j by omega] at q0
        rw [if_pos (by omega), if_neg (by omega), if_pos (by omega), show (j * 3 + 1) / 3 = j by omega] at q1
        rw [if_pos (by omega), if_neg (by omega), if_neg (by omega), show (j * 3 + 2) / 3 = j by omega] at q2
        exact ⟨⟨q0, q1, q2⟩, fun k => hS.row.frozen k⟩
      have HSo := Lib.hid (sort_cards y i w.heap.size i w9 hn hsz hcards)
      have HB := Lib.hid hS.below
      clear hS hcards
      go_wp2_with fail
      refine HSo.out.mono ?_
      rintro e w3 ⟨rfl, o, ho, hb3, hlt3, hc3⟩
      have hb3' : Below w.heap.size w9 w3 := hb3.mono (by have := hsz; omega)
      have HB3 := Lib.hid (HB.out.trans hb3')
      have HO := Lib.hid ho
      have holen := ho.len
      have HL := Lib.hid holen
      have HOd : Hid (OdAt w w.heap.size w3.heap.size i y o 0 (w3.alloc (.cells (madeCells #[.int .i64 0] i) 3))) := by
        refine ⟨by omega, (World.rowIs_made w3 (.int .i64 0) i 3).congr fun k _ => by simp, HB3.out.size, by omega, by simp; omega, fun j hj => ?_, HB3.out.alloc HB3.out.size _⟩
        obtain ⟨c0, c1, c2⟩ := hc3 j hj
        have hb := Below.heap_alloc w3 (.cells (madeCells #[.int .i64 0] i) 3) w.heap.size hlt3
        exact ⟨(World.cell?_of_block (w := w3) hb).trans c0, (World.cell?_of_block (w := w3) hb).trans c1, (World.cell?_of_block (w := w3) hb).trans c2⟩
      obtain ⟨g, hg⟩ : ∃ g, w3.heap.size = g := ⟨_, rfl⟩
      rw [hg] at HOd
      have HG := Lib.hid hg
      clear hb3 hb3' ho holen hc3 hlt3 HSo hsz HB hg
      go_wp2_with fail
      rw [HG.out]
      go_loopw [36] (fun v wr => ∃ k : Nat, v = .int .i64 k ∧ OdAt w w.heap.size g i y o k wr) (fun v _ => i - (intOf v).toNat)
      case atStart => exact ⟨0, rfl, HOd.out⟩
      case round =>
        obtain ⟨k, rfl, hS⟩ := hrel
        clear HOd
        have hle := hS.le
        by_cases hlt : k < i
        · have hko : k < o.length := by rw [HL.out]; exact hlt
          obtain ⟨c0, c1, c2⟩ := hS.crd k hko
          rw [cdOf_at] at c2
          generalize (cdOf y o[k]).1 = x1 at *
          generalize (cdOf y o[k]).2.1 = x2 at *
          have r0 := hS.row.cell hlt
          have z0 := hS.row.frozen k
          have hgl := hS.row.lt
          have HN := Lib.hid (fun ob => hS.next hlt hko ob)
          clear hS
          generalize o[k] = ok at *
          go_wp2_with fail
          go_roundw
          case rel => exact ⟨k + 1, by go_num, HN.out _⟩
          case measure => simp [intOf]; omega
        · obtain rfl : k = i := by omega
          have HS := Lib.hid hS
          clear hS hlt hle
          go_wp2_with fail
          go_ret
          refine ⟨o, g, HO.out, rfl, ⟨HS.out.old, HS.out.row.lt, fun j hj => ?_⟩, HS.out.below⟩
          have := HS.out.row.cell hj
          rwa [if_pos hj] at this
end Go.Proofs.YtmageeohnfomnaaGreat

