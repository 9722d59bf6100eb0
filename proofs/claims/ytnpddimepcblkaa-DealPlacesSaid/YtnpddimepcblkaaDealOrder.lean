/- Order: the items' order in a new slice; nothing that was in memory changes. Condition: no more than 1,000 items. -/
import Derived.Test.YtnpddimepcblkaaDealSort
import Derived.Test.YtnpddimepcblkaaDealItem
import Derived.Test.YtnpddimepcblkaaIntRow
import Derived.Deep.QuietTactic
import Derived.Deep.Cut
namespace Go.Proofs.Ytnpddimepcblkaa
open Go.RowKit Go.ChangeShapes Go.WideShapes Go.ChangeAt

theorem infoCard : (Try.prog.info? 55).map (fun i => (i.zero, i.size, i.bytes)) = some (some (.agg #[.int .u64 0, .int .i64 0, .int .i64 0]), 3, 24) := by kernel_rfl
theorem infoItem : (Try.prog.info? 44).map (fun i => (i.zero, i.size, i.bytes)) = some (some (.agg #[.int .u64 0, .int .i64 0]), 2, 16) := by kernel_rfl
def zc (i : Nat) : Value := if i = 0 then .int .u64 0 else .int .i64 0
theorem make_cards (s : Nat) (hs : s ≤ 1000) (w : World) : (Instr.makeSlice 53 (.int .i64 (s : Int)) (.int .i64 (s : Int))).run Try.prog w = .ok (.slice (some ⟨w.heap.size, 0, none⟩) s s) (w.alloc (.cells (madeCells #[.int .u64 0, .int .i64 0, .int .i64 0] (s * 3)) 55)) := by
  obtain ⟨i, hi, hzz⟩ := Option.map_eq_some_iff.1 infoCard
  simp only [Prod.mk.injEq] at hzz
  obtain ⟨hz, h3, hb⟩ := hzz
  have := run_make (P := Try.prog) w 53 55 i _ Try.underlying53 hi hz .i64 .i64 s s (by omega) (Int.le_refl _) (by rw [hb]; omega) (by omega)
  rw [h3] at this
  simpa [Value.cells] using this
theorem made_cards (w : World) (s : Nat) : (w.alloc (.cells (madeCells #[.int .u64 0, .int .i64 0, .int .i64 0] (s * 3)) 55)).rowIs w.heap.size 55 (s * 3) (fun k => zc (k % 3)) := by
  refine ⟨_, Go.Deep.blk_alloc_new _ _, size_madeCells _ _, fun i hi => ?_⟩
  have h3 : i % 3 = 0 ∨ i % 3 = 1 ∨ i % 3 = 2 := by omega
  rcases h3 with h | h | h <;> simp [madeCells, hi, h, zc]
/-- The cards' cells, when i of them are written. -/
def crd (y : Nat → It) (i k : Nat) : Value := if k / 3 < i then (if k % 3 = 0 then .int .u64 (cdOf y (k / 3)).1 else if k % 3 = 1 then .int .i64 (cdOf y (k / 3)).2.1 else .int .i64 (cdOf y (k / 3)).2.2) else zc (k % 3)
theorem crd_set (y : Nat → It) (i k : Nat) : crd y (i + 1) k = if k = i * 3 + 2 then .int .i64 (cdOf y i).2.2 else if k = i * 3 + 1 then .int .i64 (cdOf y i).2.1 else if k = i * 3 then .int .u64 (cdOf y i).1 else crd y i k := by
  unfold crd
  by_cases h2 : k = i * 3 + 2
  · subst h2
    rw [if_pos rfl, if_pos (by omega), if_neg (by omega), if_neg (by omega), show (i * 3 + 2) / 3 = i by omega]
  rw [if_neg h2]
  by_cases h1 : k = i * 3 + 1
  · subst h1
    rw [if_pos rfl, if_pos (by omega), if_neg (by omega), if_pos (by omega), show (i * 3 + 1) / 3 = i by omega]
  rw [if_neg h1]
  by_cases h0 : k = i * 3
  · subst h0
    rw [if_pos rfl, if_pos (by omega), if_pos (by omega), show (i * 3) / 3 = i by omega]
  rw [if_neg h0]
  by_cases h : k / 3 < i
  · rw [if_pos h, if_pos (by omega)]
  · rw [if_neg h, if_neg (by omega)]
/-- In the middle of writing cards. -/
structure CrAt (w : World) (g n : Nat) (y : Nat → It) (i : Nat) (wr : World) : Prop where
  le : i ≤ n
  row : wr.rowIs g 55 (n * 3) (fun k => crd y i k)
  old : w.heap.size ≤ g
  below : Below w.heap.size w wr
theorem CrAt.grow {w wr wx : World} {g n i : Nat} {y : Nat → It} (h : CrAt w g n y i wr) (hb : Below wr.heap.size wr wx) : CrAt w g n y i wx :=
  ⟨h.le, h.row.of_block (hb.block g h.row.lt), h.old, h.below.trans (hb.mono h.below.size)⟩
theorem CrAt.next {w wr : World} {g n i : Nat} {y : Nat → It} (h : CrAt w g n y i wr) (hi : i < n) (x : Cd) (hx : x = cdOf y i) :
    CrAt w g n y (i + 1) (((wr.setCell ⟨g, i * 3, none⟩ (.int .u64 x.1)).setCell ⟨g, i * 3 + 1, none⟩ (.int .i64 x.2.1)).setCell ⟨g, i * 3 + 2, none⟩ (.int .i64 x.2.2)) := by
  subst hx
  refine ⟨hi, (((h.row.set _ _).set _ _).set _ _).congr fun k _ => (crd_set y i k).symm, h.old, ?_⟩
  exact ((h.below.setCell (p := ⟨g, _, none⟩) h.old _).setCell (p := ⟨g, _, none⟩) h.old _).setCell (p := ⟨g, _, none⟩) h.old _
/-- In the middle of reading the cards. -/
structure OdAt (w : World) (gc g n : Nat) (y : Nat → It) (o : List Nat) (i : Nat) (wr : World) : Prop where
  le : i ≤ n
  row : wr.rowIs g 3 n (fun k => .int .i64 (if k < i then (o.getD k 0 : Nat) else 0))
  old : w.heap.size ≤ g
  ne : gc ≠ g
  lt : gc < wr.heap.size
  crd : ∀ j, (hj : j < o.length) → wr.cell? ⟨gc, j * 3, none⟩ = some (.int .u64 (cdOf y o[j]).1) ∧ wr.cell? ⟨gc, j * 3 + 1, none⟩ = some (.int .i64 (cdOf y o[j]).2.1) ∧ wr.cell? ⟨gc, j * 3 + 2, none⟩ = some (.int .i64 (cdOf y o[j]).2.2)
  below : Below w.heap.size w wr
theorem OdAt.next {w wr : World} {gc g n : Nat} {y : Nat → It} {o : List Nat} {i : Nat} (h : OdAt w gc g n y o i wr) (hi : i < n) (ho : i < o.length) (ob : Obj) : OdAt w gc g n y o (i + 1) ((wr.setCell ⟨g, i, none⟩ (.int .i64 (o[i] : Nat))).alloc ob) := by
  refine ⟨hi, ((h.row.set _ _).alloc ob).congr fun k _ => ?_, h.old, h.ne, ?_, fun j hj => ?_, ?_⟩
  · show (if k = i then _ else _) = _
    by_cases e : k = i
    · subst e; rw [if_pos rfl, if_pos (by omega)]; simp [ho]
    · rw [if_neg e]
      by_cases e2 : k < i
      · rw [if_pos e2, if_pos (by omega)]
      · rw [if_neg e2, if_neg (by omega)]
  · have := h.lt; simp [World.setCell]; omega
  · have hl : gc < (wr.setCell ⟨g, i, none⟩ (.int .i64 (o[i] : Nat))).heap.size := by have := h.lt; simpa [World.setCell] using this
    have hb : ((wr.setCell ⟨g, i, none⟩ (.int .i64 (o[i] : Nat))).alloc ob).heap[gc]? = wr.heap[gc]? := (Below.heap_alloc _ ob gc hl).trans (Below.heap_setCell _ _ _ gc h.ne)
    obtain ⟨c0, c1, c2⟩ := h.crd j hj
    exact ⟨(World.cell?_of_block (w := wr) hb).trans c0, (World.cell?_of_block (w := wr) hb).trans c1, (World.cell?_of_block (w := wr) hb).trans c2⟩
  · have hb := h.below.setCell (p := ⟨g, i, none⟩) h.old (.int .i64 (o[i] : Nat))
    exact hb.alloc hb.size ob
def OrPost (w : World) (n : Nat) (y : Nat → It) (e : Ending) (w' : World) : Prop :=
  ∃ (o : List Nat) (g : Nat), IsOrd y n o ∧ e = .returned (.slice (some ⟨g, 0, none⟩) n n) ∧ Ir w' w.heap.size g n (fun j => (o.getD j 0 : Nat)) ∧ Below w.heap.size w w'
set_option maxRecDepth 100000 in
set_option maxHeartbeats 2000000 in
theorem order_any (a : Option Addr) (n c : Nat) (y : Nat → It) (w : World) (hn : n ≤ 1000) (hI : Its w w.heap.size a n y) :
    Calls Try.prog 14 #[.slice a n c] w (OrPost w n y) := by
  have hmk := make_cards n hn
  have hmi := run_make_row' (P := Try.prog) 30 3 (.int .i64 0) 8 Try.underlying30 infoI64 rfl .i64 .i64 n (by omega) (by omega)
  have HC : Hid (CrAt w w.heap.size n y 0 (w.alloc (.cells (madeCells #[.int .u64 0, .int .i64 0, .int .i64 0] (n * 3)) 55))) :=
    ⟨by omega, (made_cards w n).congr fun k _ => by unfold crd; rw [if_neg (by omega)], Nat.le_refl _, (Below.refl _ w).alloc (Nat.le_refl _) _⟩
  have HI := Lib.hid hI
  clear hI
  go_enter Try.func14, Try.ntmps14
  go_wp2_with fail
  go_loopw [14] (fun v wr => ∃ i : Nat, v = .int .i64 i ∧ CrAt w w.heap.size n y i wr) (fun v _ => n - (intOf v).toNat)
  case atStart => exact ⟨0, rfl, HC.out⟩
  case round =>
    obtain ⟨i, rfl, hS⟩ := hrel
    clear HC
    have hle := hS.le
    have HS := Lib.hid hS
    by_cases hlt : i < n
    · obtain ⟨b, off, rfl, hb, c0, c1⟩ := (HI.out.below hS.below).at hlt
      clear hS
      obtain ⟨it, hit⟩ : ∃ it, wr.heap.size = it := ⟨_, rfl⟩
      have hx : cdOf y i = if (y i).2 < 0 then (0, -1, (i : Int)) else ((y i).1, (y i).2, (i : Int)) := rfl
      have hgit : ¬ w.heap.size = it := by have := HS.out.row.lt; omega
      generalize (y i).1 = yi at *
      generalize (y i).2 = yd at *
      have HIT := Lib.hid hit
      have HX := Lib.hid hx
      clear hx hit
      go_wp2_with fail
      rw [HIT.out]
      refine (deal_empty yi yd _).mono ?_
      rintro e w1 ⟨rfl, hb1⟩
      have hbx : Box w1 it 44 #[.int .u64 yi, .int .i64 yd] := by
        have := (Box.new wr 44 #[.int .u64 yi, .int .i64 yd]).of (hb1.block _ (by simp))
        rwa [HIT.out] at this
      have HS1 := Lib.hid ((HS.out.grow ((Below.refl _ wr).alloc (Nat.le_refl _) (.cells #[.int .u64 yi, .int .i64 yd] 44))).grow hb1)
      have hio : w.heap.size ≤ it := by have := HS.out.below.size; have := HIT.out; omega
      have HBx := Lib.hid hbx
      clear hb1 hbx HS c0 c1
      by_cases hyd : yd < 0
      · have hx := HX.out
        rw [if_pos hyd] at hx
        have k0 := HBx.out.cell 0
        have k1 := HBx.out.cell 1
        have g0 := HBx.out.frozen 0
        have g1 := HBx.out.frozen 1
        have HX2 := Lib.hid hx
        clear hx HX
        go_upto_region 7 with fail
        have HBx2 : Hid (Box ((w1.setCell ⟨it, 0, none⟩ (.int .u64 0)).setCell ⟨it, 1, none⟩ (.int .i64 (-1))) it 44 #[.int .u64 0, .int .i64 (-1)]) := (HBx.out.put 0 _).put 1 _
        have hrow : ((w1.setCell ⟨it, 0, none⟩ (.int .u64 0)).setCell ⟨it, 1, none⟩ (.int .i64 (-1))).rowIs w.heap.size 55 (n * 3) (fun k => crd y i k) := (HS1.out.row.setOther hgit _).setOther hgit _
        have HS2 : Hid (CrAt w w.heap.size n y i ((w1.setCell ⟨it, 0, none⟩ (.int .u64 0)).setCell ⟨it, 1, none⟩ (.int .i64 (-1)))) := ⟨HS1.out.le, hrow, HS1.out.old, (HS1.out.below.setCell (p := ⟨it, 0, none⟩) hio _).setCell (p := ⟨it, 1, none⟩) hio _⟩
        clear hrow HS1 HBx k0 k1 g0 g1
        generalize (w1.setCell ⟨it, 0, none⟩ (.int .u64 0)).setCell ⟨it, 1, none⟩ (.int .i64 (-1)) = w2 at *
        have k0 := HBx2.out.cell 0
        have k1 := HBx2.out.cell 1
        have q0 := HS2.out.row.cell (i := i * 3) (by omega)
        have q1 := HS2.out.row.cell (i := i * 3 + 1) (by omega)
        have q2 := HS2.out.row.cell (i := i * 3 + 2) (by omega)
        have z0 := HS2.out.row.frozen (i * 3)
        have z1 := HS2.out.row.frozen (i * 3 + 1)
        have z2 := HS2.out.row.frozen (i * 3 + 2)
        have HN := Lib.hid (HS2.out.next hlt _ HX2.out.symm)
        clear HX2 HS2 HBx2
        go_wp2_with fail
        go_roundw
        case rel => exact ⟨i + 1, by go_num, HN.out⟩
        case measure => simp [intOf]; omega
      · have hx := HX.out
        rw [if_neg hyd] at hx
        have HX2 := Lib.hid hx
        clear hx HX
        have HBx2 := HBx
        have HS2 := HS1
        clear HBx HS1
        have k0 := HBx2.out.cell 0
        have k1 := HBx2.out.cell 1
        have q0 := HS2.out.row.cell (i := i * 3) (by omega)
        have q1 := HS2.out.row.cell (i := i * 3 + 1) (by omega)
        have q2 := HS2.out.row.cell (i := i * 3 + 2) (by omega)
        have z0 := HS2.out.row.frozen (i * 3)
        have z1 := HS2.out.row.frozen (i * 3 + 1)
        have z2 := HS2.out.row.frozen (i * 3 + 2)
        have HN := Lib.hid (HS2.out.next hlt _ HX2.out.symm)
        clear HX2 HS2 HBx2
        go_wp2_with fail
        go_roundw
        case rel => exact ⟨i + 1, by go_num, HN.out⟩
        case measure => simp [intOf]; omega
    · obtain rfl : i = n := by omega
      clear hlt hle
      obtain ⟨w9, h9⟩ : ∃ x, x = wr := ⟨_, rfl⟩
      subst h9
      have hsz := hS.row.lt
      have hcards : ∀ j, j < i → (w9.cell? ⟨w.heap.size, j * 3, none⟩ = some (.int .u64 (cdOf y j).1) ∧ w9.cell? ⟨w.heap.size, j * 3 + 1, none⟩ = some (.int .i64 (cdOf y j).2.1) ∧ w9.cell? ⟨w.heap.size, j * 3 + 2, none⟩ = some (.int .i64 (cdOf y j).2.2)) ∧ ∀ i, w9.frozen? ⟨w.heap.size, i, none⟩ = false := fun j hj => by
        have q0 := hS.row.cell (i := j * 3) (by omega)
        have q1 := hS.row.cell (i := j * 3 + 1) (by omega)
        have q2 := hS.row.cell (i := j * 3 + 2) (by omega)
        unfold crd at q0 q1 q2
        rw [if_pos (by omega), if_pos (by omega), show j * 3 / 3 = j by omega] at q0
        rw [if_pos (by omega), if_neg (by omega), if_pos (by omega), show (j * 3 + 1) / 3 = j by omega] at q1
        rw [if_pos (by omega), if_neg (by omega), if_neg (by omega), show (j * 3 + 2) / 3 = j by omega] at q2
        exact ⟨⟨q0, q1, q2⟩, fun k => hS.row.frozen k⟩
      have HSo := Lib.hid (sort_cards y i w.heap.size i w9 hn hsz hcards)
      have HB := Lib.hid hS.below
      clear hS hcards
      go_wp2_with fail
      refine HSo.out.mono ?_
      rintro e w3 ⟨rfl, o, ho, hb3, hlt3, hc3⟩
      have hb3' : Below w.heap.size w9 w3 := hb3.mono (by have := hsz; omega)
      have HB3 := Lib.hid (HB.out.trans hb3')
      have HO := Lib.hid ho
      have holen := ho.len
      have HL := Lib.hid holen
      have HOd : Hid (OdAt w w.heap.size w3.heap.size i y o 0 (w3.alloc (.cells (madeCells #[.int .i64 0] i) 3))) := by
        refine ⟨by omega, (World.rowIs_made w3 (.int .i64 0) i 3).congr fun k _ => by simp, HB3.out.size, by omega, by simp; omega, fun j hj => ?_, HB3.out.alloc HB3.out.size _⟩
        obtain ⟨c0, c1, c2⟩ := hc3 j hj
        have hb := Below.heap_alloc w3 (.cells (madeCells #[.int .i64 0] i) 3) w.heap.size hlt3
        exact ⟨(World.cell?_of_block (w := w3) hb).trans c0, (World.cell?_of_block (w := w3) hb).trans c1, (World.cell?_of_block (w := w3) hb).trans c2⟩
      obtain ⟨g, hg⟩ : ∃ g, w3.heap.size = g := ⟨_, rfl⟩
      rw [hg] at HOd
      have HG := Lib.hid hg
      clear hb3 hb3' ho holen hc3 hlt3 HSo hsz HB hg
      go_wp2_with fail
      rw [HG.out]
      go_loopw [36] (fun v wr => ∃ k : Nat, v = .int .i64 k ∧ OdAt w w.heap.size g i y o k wr) (fun v _ => i - (intOf v).toNat)
      case atStart => exact ⟨0, rfl, HOd.out⟩
      case round =>
        obtain ⟨k, rfl, hS⟩ := hrel
        clear HOd
        have hle := hS.le
        by_cases hlt : k < i
        · have hko : k < o.length := by rw [HL.out]; exact hlt
          obtain ⟨c0, c1, c2⟩ := hS.crd k hko
          rw [cdOf_at] at c2
          generalize (cdOf y o[k]).1 = x1 at *
          generalize (cdOf y o[k]).2.1 = x2 at *
          have r0 := hS.row.cell hlt
          have z0 := hS.row.frozen k
          have hgl := hS.row.lt
          have HN := Lib.hid (fun ob => hS.next hlt hko ob)
          clear hS
          generalize o[k] = ok at *
          go_wp2_with fail
          go_roundw
          case rel => exact ⟨k + 1, by go_num, HN.out _⟩
          case measure => simp [intOf]; omega
        · obtain rfl : k = i := by omega
          have HS := Lib.hid hS
          clear hS hlt hle
          go_wp2_with fail
          go_ret
          refine ⟨o, g, HO.out, rfl, ⟨HS.out.old, HS.out.row.lt, fun j hj => ?_⟩, HS.out.below⟩
          have := HS.out.row.cell hj
          rwa [if_pos hj] at this
end Go.Proofs.Ytnpddimepcblkaa
