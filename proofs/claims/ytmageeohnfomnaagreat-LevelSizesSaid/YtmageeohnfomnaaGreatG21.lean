/- Texts of ours put together: MemSince, Events, MemNew, MemWrite, MemVals, RefAbs. -/
import Derived.Below
import Derived.BigQuiet
import Derived.BigRegion
import Derived.ChangeSlices
import Derived.Deep.Draws
import Derived.Deep.MidRow
import Derived.Deep.OwnRows
import Derived.Deep.QuietTactic
import Derived.Deep.RegionHeld
import Derived.Laws.AppendOwn
import Derived.Lib.Hide
import Derived.OpenShut
import Derived.OwnWalk
import Derived.ProofKit
import Derived.RegionTactic
import Derived.RowKit3
import Derived.SizedLaws
import Derived.StillTailTactics
import Derived.WalkKit
import Derived.Test.YtmageeohnfomnaaGreatProg
import Derived.ChangeKeysEq
import Derived.Laws.StructEq
import Derived.Test.YtmageeohnfomnaaGreatG0
import Derived.Test.YtmageeohnfomnaaGreatG2
import Derived.Test.YtmageeohnfomnaaGreatG10
import Derived.Test.YtmageeohnfomnaaGreatG6
import Derived.Test.YtmageeohnfomnaaGreatG11
import Derived.Test.YtmageeohnfomnaaGreatG22
namespace Go.Proofs.YtmageeohnfomnaaGreat
set_option maxRecDepth 100000
open Go.RowKit Go.ChangeShapes Go.WideShapes Go.ChangeAt

end Go.Proofs.YtmageeohnfomnaaGreat


namespace Go.Proofs.YtmageeohnfomnaaGreat
set_option maxRecDepth 100000
open Go.RowKit Go.ChangeShapes Go.WideShapes Go.ChangeAt

end Go.Proofs.YtmageeohnfomnaaGreat


namespace Go.Proofs.YtmageeohnfomnaaGreat
set_option maxRecDepth 100000
open Go.RowKit Go.ChangeShapes Go.WideShapes Go.ChangeAt

def Fits (n : Nat) (z : Nat → Int) : Prop := 1 ≤ n ∧ n ≤ 16 ∧ ∀ i, i < n → 1 ≤ z i ∧ z i ≤ 4096

set_option maxHeartbeats 1000000 in
theorem right_yes (a : Option Addr) (n cap B : Nat) (z : Nat → Int) (w : World) (hz : Nums .i64 w B a n z) (hf : Fits n z) :
    Calls Tryz.prog 34 #[.slice a n cap] w fun e w' => e = .returned (.bool true) ∧ w = w' := by
  obtain ⟨h1, h2, h3⟩ := hf
  have HZ := Lib.hid hz
  have H3 := Lib.hid h3
  clear hz h3
  go_enter Tryz.func34, Tryz.ntmps34
  go_wp2
  go_loopw [15] (fun i wr => ∃ k : Nat, i = .int .i64 k ∧ k ≤ n ∧ w = wr) (fun i _ => n - (intOf i).toNat)
  case atStart => exact ⟨0, rfl, Nat.zero_le _, rfl⟩
  case round =>
    obtain ⟨k, rfl, hk, rfl⟩ := hrel
    by_cases hlt : k < n
    · obtain ⟨b, off, rfl, hb, cz⟩ := HZ.out.at hlt
      obtain ⟨q1, q2⟩ := H3.out k hlt
      obtain ⟨v, hv⟩ : ∃ v, z k = v := ⟨_, rfl⟩
      rw [hv] at cz q1 q2
      clear hv
      go_wp2
      go_roundw
      case rel => exact ⟨k + 1, by go_num, by omega, trivial⟩
      case measure => simp [intOf]; omega
    · go_wp2
      go_ret
      exact ⟨rfl, rfl⟩

set_option maxHeartbeats 1000000 in
theorem right_no (a : Option Addr) (n cap B : Nat) (z : Nat → Int) (w : World) (hn : n ≤ 9223372036854775807) (hz : Nums .i64 w B a n z) (hf : ¬ Fits n z) :
    Calls Tryz.prog 34 #[.slice a n cap] w fun e w' => e = .returned (.bool false) ∧ w = w' := by
  by_cases h1 : n < 1
  · clear hf hz
    go_enter Tryz.func34, Tryz.ntmps34
    go_wp2
    go_ret
    exact ⟨rfl, rfl⟩
  by_cases h2 : 16 < n
  · clear hf hz
    go_enter Tryz.func34, Tryz.ntmps34
    go_wp2
    go_ret
    exact ⟨rfl, rfl⟩
  have HZ := Lib.hid hz
  have HF := Lib.hid hf
  clear hz hf hn
  go_enter Tryz.func34, Tryz.ntmps34
  go_wp2
  go_loopw [15] (fun i wr => ∃ k : Nat, i = .int .i64 k ∧ k ≤ n ∧ w = wr ∧ Hid (∀ j, j < k → 1 ≤ z j ∧ z j ≤ 4096)) (fun i _ => n - (intOf i).toNat)
  case atStart => exact ⟨0, rfl, Nat.zero_le _, rfl, fun j hj => absurd hj (by omega)⟩
  case round =>
    obtain ⟨k, rfl, hk, rfl, HJ⟩ := hrel
    by_cases hlt : k < n
    · obtain ⟨b, off, rfl, hb, cz⟩ := HZ.out.at hlt
      obtain ⟨v, hv⟩ : ∃ v, z k = v := ⟨_, rfl⟩
      have HV := Lib.hid hv
      rw [hv] at cz
      clear hv
      by_cases q1 : v < 1
      · go_wp2
        go_ret
        exact ⟨rfl, rfl⟩
      by_cases q2 : 4096 < v
      · go_wp2
        go_ret
        exact ⟨rfl, rfl⟩
      go_wp2
      go_roundw
      case rel =>
        refine ⟨k + 1, by go_num, by omega, trivial, fun j hj => ?_⟩
        by_cases e : j = k
        · subst e; rw [HV.out]; omega
        · exact HJ.out j (by omega)
      case measure => simp [intOf]; omega
    · exact absurd ⟨by omega, by omega, fun i hi => HJ.out i (by omega)⟩ HF.out

theorem infoCells : (Tryz.prog.info? 103).map (fun i => (i.zero, i.size, i.bytes)) = some (some (.agg (CA fun _ => 0)), 12, 96) := by kernel_rfl
theorem infoRow : (Tryz.prog.info? 75).map (fun i => (i.zero, i.size, i.bytes)) = some (some (.slice none 0 0), 1, 24) := by kernel_rfl
theorem make_cells (s : Nat) (hs : s ≤ 4096) (w : World) : (Instr.makeSlice 75 (.int .i64 (s : Int)) (.int .i64 (s : Int))).run Tryz.prog w = .ok (.slice (some ⟨w.heap.size, 0, none⟩) s s) (w.alloc (.cells (madeCells (CA fun _ => 0) (s * 12)) 103)) := by
  obtain ⟨i, hi, hzz⟩ := Option.map_eq_some_iff.1 infoCells
  simp only [Prod.mk.injEq] at hzz
  obtain ⟨hz, h12, hb⟩ := hzz
  have := run_make (P := Tryz.prog) w 75 103 i _ Tryz.underlying75 hi hz .i64 .i64 s s (by omega) (Int.le_refl _) (by rw [hb]; omega) (by omega)
  rw [h12] at this
  simpa [Value.cells] using this
theorem made_cells (w : World) (s : Nat) : (w.alloc (.cells (madeCells (CA fun _ => 0) (s * 12)) 103)).rowIs w.heap.size 103 (s * 12) (fun _ => .int .u64 0) := by
  refine ⟨_, Go.Deep.blk_alloc_new _ _, size_madeCells _ _, fun i hi => ?_⟩
  have h12 : i % 12 < 12 := Nat.mod_lt _ (by decide)
  have hq := CA_at (fun _ => 0) (i % 12) h12
  have : (CA fun _ => 0)[i % 12]! = .int .u64 0 := by
    rw [getElem!_def, hq]
  simp [madeCells, hi, CA_size, this]

structure Making (w : World) (n : Nat) (sz : Nat → Nat) (k : Nat) (wr : World) : Prop where
  le : k ≤ n
  box : Box wr (w.heap.size + 1) 74 #[.slice (some ⟨w.heap.size, 0, none⟩) n n, .slice none 0 0, .bool false]
  row : wr.rowIs w.heap.size 75 n (fun i => if i < k then .slice (some ⟨w.heap.size + 2 + i, 0, none⟩) (sz i) (sz i) else .slice none 0 0)
  reg : ∀ i, i < k → wr.rowIs (w.heap.size + 2 + i) 103 (sz i * 12) (fun _ => .int .u64 0)
  size : wr.heap.size = w.heap.size + 2 + k
  only : Only nobody w wr
theorem Making.start (w : World) (n : Nat) (sz : Nat → Nat) : Making w n sz 0 ((w.alloc (.cells (madeCells #[.slice none 0 0] n) 75)).alloc (.cells #[.slice (some ⟨w.heap.size, 0, none⟩) n n, .slice none 0 0, .bool false] 74)) := by
  refine ⟨Nat.zero_le _, ?_, ?_, fun i hi => absurd hi (by omega), by simp, ((Only.refl _ w).alloc _).alloc _⟩
  · have := Box.new (w.alloc (.cells (madeCells #[.slice none 0 0] n) 75)) 74 #[.slice (some ⟨w.heap.size, 0, none⟩) n n, .slice none 0 0, .bool false]
    simpa using this
  · exact ((World.rowIs_made w (.slice none 0 0) n 75).alloc _).congr (fun i _ => by rw [if_neg (by omega)])
theorem Making.drew {w wr : World} {n : Nat} {sz : Nat → Nat} {k : Nat} (h : Making w n sz k wr) : Making w n sz k wr.drew := ⟨h.le, h.box, h.row, h.reg, h.size, h.only.drew⟩
theorem Making.next {w wr : World} {n : Nat} {sz : Nat → Nat} {k s : Nat} (h : Making w n sz k wr) (hk : k < n) (e : sz k = s) :
    Making w n sz (k + 1) ((wr.alloc (.cells (madeCells (CA fun _ => 0) (s * 12)) 103)).setCell ⟨w.heap.size, k, none⟩ (.slice (some ⟨wr.heap.size, 0, none⟩) s s)) := by
  subst e
  have hs := h.size
  refine ⟨by omega, (h.box.alloc _).far (by simp) _, ?_, fun i hi => ?_, by simp [World.setCell, hs]; omega, (h.only.alloc _).setCell (.inr (Nat.le_refl _)) _⟩
  · refine ((h.row.alloc _).set k _).congr (fun i hi => ?_)
    show (if i = k then _ else _) = _
    by_cases e : i = k
    · subst e; rw [if_pos rfl, if_pos (by omega), hs]
    · rw [if_neg e]
      by_cases l : i < k
      · rw [if_pos l, if_pos (by omega)]
      · rw [if_neg l, if_neg (by omega)]
  · by_cases e : i = k
    · subst e
      have := made_cells wr (sz i)
      rw [hs] at this
      exact this.setOther (by simp; omega) _
    · exact ((h.reg i (by omega)).alloc _).setOther (by simp; omega) _

def MS.new (n : Nat) (sz : Nat → Nat) : MS := ⟨n, sz, fun _ _ _ => 0, [], false⟩
theorem Making.done {w wr : World} {n : Nat} {sz : Nat → Nat} (h : Making w n sz n wr) (hn : n ≤ 16) (hs : ∀ i, i < n → sz i ≤ 4096) : Mm wr (w.heap.size + 1) (fun i => w.heap.size ≤ i ∧ i < wr.heap.size) (MS.new n sz) := by
  have hz := h.size
  exact ⟨w.heap.size, fun i => w.heap.size + 2 + i, none, 0, h.box, h.row.congr (fun i hi => by rw [if_pos hi]; rfl), h.reg, fun i j _ _ e => by omega, World.ownsRow_nil _ _ _ _, by omega, by omega, fun i (hi : i < n) => by omega,
    fun b hb => by simp [Value.ownBlock] at hb, fun i hi => hi.2, hn, hs⟩
def NewPost (w : World) (n : Nat) (sz : Nat → Nat) (e : Ending) (w' : World) : Prop :=
  ∃ p F, e = .returned (.tuple #[.pointer (some ⟨p, 0, none⟩), .int .i64 0]) ∧ Mm w' p F (MS.new n sz) ∧ Only nobody w w' ∧ ∀ i, F i → w.heap.size ≤ i

set_option maxHeartbeats 1000000 in
theorem new_yes (a : Option Addr) (n cap B : Nat) (z : Nat → Int) (sz : Nat → Nat) (w : World) (hz : Nums .i64 w B a n z) (hB : B ≤ w.heap.size) (hf : Fits n z) (hsz : ∀ i, i < n → z i = sz i) :
    Calls Tryz.prog 10 #[.slice a n cap] w (NewPost w n sz) := by
  have hmk := run_make_row' (P := Tryz.prog) 72 75 (.slice none 0 0) 24 Tryz.underlying72 infoRow rfl .i64 .i64 n (by have := hf.2.1; omega) (by have := hf.2.1; omega)
  have HZ := Lib.hid hz
  have HF := Lib.hid hf
  have HS := Lib.hid hsz
  have hn := hf.2.1
  clear hz hf hsz
  go_enter Tryz.func10, Tryz.ntmps10
  go_wp2_with fail
  refine (right_yes a n cap B z _ HZ.out HF.out).mono ?_
  rintro e w' ⟨rfl, rfl⟩
  go_wp2
  go_loopw [17] (fun i wr => ∃ k : Nat, i = .int .i64 k ∧ Making w n sz k wr) (fun i _ => n - (intOf i).toNat)
  case atStart => exact ⟨0, rfl, Making.start w n sz⟩
  case round =>
    obtain ⟨k, rfl, hM⟩ := hrel
    have hk := hM.le
    have HM := Lib.hid hM
    clear hmk
    by_cases hlt : k < n
    · obtain ⟨b, off, rfl, hb, cz⟩ := HZ.out.at hlt
      have hne : b ≠ w.heap.size := by omega
      have cz' : wr.cell? ⟨b, off + k, none⟩ = some (.int .i64 (sz k : Nat)) := by
        rw [← HS.out k hlt]
        exact (hM.only.none.cell (p := ⟨b, off + k, none⟩) (by show b < _; omega)).trans cz
      have hs4 : sz k ≤ 4096 := by have := HF.out.2.2 k hlt; rw [HS.out k hlt] at this; omega
      have c0 : wr.cell? ⟨w.heap.size + 1, 0, none⟩ = some (.slice (some ⟨w.heap.size, 0, none⟩) n n) := hM.box.cell 0
      have ck : wr.cell? ⟨w.heap.size, k, none⟩ = some (.slice none 0 0) := by rw [hM.row.cell hlt, if_neg (by omega)]
      have ca : ∀ o, (wr.alloc o).cell? ⟨w.heap.size, k, none⟩ = some (.slice none 0 0) := fun o => by rw [(hM.row.alloc o).cell hlt, if_neg (by omega)]
      have fk : ∀ o, (wr.alloc o).frozen? ⟨w.heap.size, k, none⟩ = false := fun o => (hM.row.alloc o).frozen k
      have hsz : w.heap.size + 1 < wr.heap.size := by have := hM.size; omega
      have hmk := make_cells (sz k) hs4
      clear hM cz
      obtain ⟨s, hs⟩ : ∃ s, sz k = s := ⟨_, rfl⟩
      have HS2 := Lib.hid hs
      rw [hs] at hmk hs4 cz'
      clear hs
      go_wp2
      go_region
      all_goals
        go_wp2
        refine ⟨⟨k + 1, by go_num, ?_⟩, by simp [intOf]; omega⟩
        exact (HM.out.next hlt HS2.out).drew
    · obtain rfl : n = k := by omega
      clear hM
      go_wp2
      go_ret2
      exact ⟨_, _, rfl, HM.out.done hn (fun i hi => by have := HF.out.2.2 i hi; rw [HS.out i hi] at this; omega), HM.out.only, fun i hi => hi.1⟩

theorem new_no (a : Option Addr) (n cap B : Nat) (z : Nat → Int) (w : World) (hn : n ≤ 9223372036854775807) (hz : Nums .i64 w B a n z) (hf : ¬ Fits n z) :
    Calls Tryz.prog 10 #[.slice a n cap] w fun e w' => e = .returned (.tuple #[.pointer none, .int .i64 1]) ∧ w = w' := by
  have HZ := Lib.hid hz
  have HF := Lib.hid hf
  clear hz hf
  go_enter Tryz.func10, Tryz.ntmps10
  go_wp2_with fail
  refine (right_no a n cap B z _ hn HZ.out HF.out).mono ?_
  rintro e w' ⟨rfl, rfl⟩
  go_wp2
  go_ret2
  exact ⟨rfl, rfl⟩
end Go.Proofs.YtmageeohnfomnaaGreat


namespace Go.Proofs.YtmageeohnfomnaaGreat
set_option maxRecDepth 100000
open Go.RowKit Go.ChangeShapes Go.WideShapes Go.ChangeAt

theorem read_any (p : Nat) (F : Nat → Prop) (M : MS) (r a : Int) (w : World) (h : Mm w p F M) (hl : M.es.length < 1000000000) :
    Calls Tryz.prog 67 #[.pointer (some ⟨p, 0, none⟩), .int .i64 r, .int .i64 a] w (DonePost w p F (M.read r a) (.returned (.agg (CA (M.cell r a))))) := by
  cases hh : M.hit r a
  · have := read_miss p F M r a w h hh
    simpa [MS.read, MS.cell, hh] using this
  · obtain ⟨r', a', rfl, rfl, hr, ha⟩ := MS.hit_nat hh
    have := read_hit p F M r' a' w h hr ha hl
    simpa [MS.read, MS.cell, hh] using this

theorem box_arg {w w1 : World} {S : Nat → Prop} {f : Nat → Int} (h : Only S (w.alloc (.cells (CA f) 103)) w1) (hs : ¬ S w.heap.size) : Box w1 w.heap.size 103 (CA f) := (Box.new w _ _).only h hs
theorem write_done {w w1 : World} {p g cap : Nat} {F F' : Nat → Prop} {M : MS} {bl : Nat → Nat} {A : Option Addr} {f : Nat → Int} {r a : Nat} {e : Ending} {o : Obj} (n : Nat) (h : MmAt w1 p F' M g bl A cap) (hr : r < M.k) (ho : Only F (w.alloc o) w1) (hF : ∀ i, F' i → F i ∨ (w.alloc o).heap.size ≤ i) :
    DonePost w p F (M.put r a f) e e ((w1.drewN n).setCells (bl r) (a * 12) (CA f).toList) := by
  have h' := h.only ((Only.refl nobody w1).drewN n) (fun _ _ => not_nobody _)
  refine ⟨rfl, F', ⟨g, bl, A, cap, h'.put hr f⟩, ?_, fun i hi => (hF i hi).imp id (fun h => by simp at h; omega)⟩
  have o2 : Only F w w1 := ((Only.refl F w).alloc o).then ho (fun i hi => .inl hi)
  exact only_setCells _ _ _ (o2.drewN n) ((hF _ (h.fb r hr)).imp id (fun h => by simp at h; omega))

set_option maxRecDepth 100000 in
set_option maxHeartbeats 1000000 in
theorem write_hit (p : Nat) (F : Nat → Prop) (M : MS) (r a : Nat) (f : Nat → Int) (w : World) (h : Mm w p F M) (hr : r < M.k) (ha : a < M.sz r) (hl : M.es.length < 1000000000) :
    Calls Tryz.prog 69 #[.pointer (some ⟨p, 0, none⟩), .int .i64 r, .int .i64 a, .agg (CA f)] w (DonePost w p F ((M.see r a true).put r a f) (.returned (.tuple #[]))) := by
  have HM := Lib.hid h
  have hp := h.lt p h.fp
  clear h
  go_enter Tryz.func69, Tryz.ntmps69
  go_wp2_with fail
  refine (look_hit p F M r a true _ (HM.out.alloc _) hr ha hl).mono ?_
  rintro e w1 ⟨rfl, F', h1, ho, hF⟩
  obtain ⟨g, bl, A, cap, h1⟩ := h1
  have HA := Lib.hid h1
  have c0 : w1.cell? ⟨p, 0, none⟩ = some (.slice (some ⟨g, 0, none⟩) M.k M.k) := h1.box.cell 0
  have cr : w1.cell? ⟨g, r, none⟩ = some (.slice (some ⟨bl r, 0, none⟩) (M.sz r) (M.sz r)) := h1.row.cell hr
  have HO := Lib.hid ho
  have HF := Lib.hid hF
  clear h1 ho hF
  have hb := box_arg HO.out (fun h => by have := HM.out.lt _ h; omega)
  have b0 : w1.cell? ⟨w.heap.size, 0, none⟩ = some (.int .u64 (f 0)) := hb.cell 0
  have b1 : w1.cell? ⟨w.heap.size, 1, none⟩ = some (.int .u64 (f 1)) := hb.cell 1
  have b2 : w1.cell? ⟨w.heap.size, 2, none⟩ = some (.int .u64 (f 2)) := hb.cell 2
  have b3 : w1.cell? ⟨w.heap.size, 3, none⟩ = some (.int .u64 (f 3)) := hb.cell 3
  have b4 : w1.cell? ⟨w.heap.size, 4, none⟩ = some (.int .u64 (f 4)) := hb.cell 4
  have b5 : w1.cell? ⟨w.heap.size, 5, none⟩ = some (.int .u64 (f 5)) := hb.cell 5
  have b6 : w1.cell? ⟨w.heap.size, 6, none⟩ = some (.int .u64 (f 6)) := hb.cell 6
  have b7 : w1.cell? ⟨w.heap.size, 7, none⟩ = some (.int .u64 (f 7)) := hb.cell 7
  have b8 : w1.cell? ⟨w.heap.size, 8, none⟩ = some (.int .u64 (f 8)) := hb.cell 8
  have b9 : w1.cell? ⟨w.heap.size, 9, none⟩ = some (.int .u64 (f 9)) := hb.cell 9
  have b10 : w1.cell? ⟨w.heap.size, 10, none⟩ = some (.int .u64 (f 10)) := hb.cell 10
  have b11 : w1.cell? ⟨w.heap.size, 11, none⟩ = some (.int .u64 (f 11)) := hb.cell 11
  clear hb
  have HT : Hid (w1.drew.there (bl r) (a * 12) 12) := HA.out.there (M := M.see r a true) hr ha
  go_wp2_with fail
  go_still_tail 10, (by kernel_rfl)
  clear b0 b1 b2 b3 b4 b5 b6 b7 b8 b9 b10 b11
  change wpList _ _ _ _ _ w1.drew
  refine wpList_store_cell rfl (.tmp 21) (.tmp 20) rfl (bl r) (a * 12) rfl f rfl HT.out ?_
  go_wp2
  go_end0
  exact write_done (M := M.see r a true) 1 HA.out hr HO.out HF.out

set_option maxRecDepth 100000 in
set_option maxHeartbeats 1000000 in
theorem write_miss (p : Nat) (F : Nat → Prop) (M : MS) (r a : Int) (f : Nat → Int) (w : World) (h : Mm w p F M) (hh : M.hit r a = false) :
    Calls Tryz.prog 69 #[.pointer (some ⟨p, 0, none⟩), .int .i64 r, .int .i64 a, .agg (CA f)] w (DonePost w p F M.bad (.returned (.tuple #[]))) := by
  have HM := Lib.hid h
  have hp := h.lt p h.fp
  clear h
  go_enter Tryz.func69, Tryz.ntmps69
  go_wp2_with fail
  refine (look_miss p F M r a true _ (HM.out.alloc _) hh).mono ?_
  rintro e w1 ⟨rfl, F', h1, ho, hF⟩
  have HA := Lib.hid h1
  have HO := Lib.hid ho
  have HF := Lib.hid hF
  clear h1 ho hF
  go_wp2
  go_end0
  exact ⟨rfl, F', HA.out, ((Only.refl F w).alloc _).then HO.out (fun i hi => .inl hi), fun i hi => (HF.out i hi).imp id (fun h => by simp at h; omega)⟩

theorem write_any (p : Nat) (F : Nat → Prop) (M : MS) (r a : Int) (f : Nat → Int) (w : World) (h : Mm w p F M) (hl : M.es.length < 1000000000) :
    Calls Tryz.prog 69 #[.pointer (some ⟨p, 0, none⟩), .int .i64 r, .int .i64 a, .agg (CA f)] w (DonePost w p F (M.write r a f) (.returned (.tuple #[]))) := by
  cases hh : M.hit r a
  · have := write_miss p F M r a f w h hh
    simpa [MS.write, hh] using this
  · obtain ⟨r', a', rfl, rfl, hr, ha⟩ := MS.hit_nat hh
    have := write_hit p F M r' a' f w h hr ha hl
    simpa [MS.write, hh] using this
end Go.Proofs.YtmageeohnfomnaaGreat


namespace Go.Proofs.YtmageeohnfomnaaGreat
set_option maxRecDepth 100000

theorem len_read (M : MS) (r a : Int) : (M.read r a).es.length ≤ M.es.length + 1 := by
  unfold MS.read
  split <;> simp [MS.see, MS.bad]
theorem len_write (M : MS) (r a : Int) (f : Nat → Int) : (M.write r a f).es.length ≤ M.es.length + 1 := by
  unfold MS.write
  split <;> simp [MS.see, MS.put, MS.bad]

end Go.Proofs.YtmageeohnfomnaaGreat


namespace Go.Proofs.YtmageeohnfomnaaGreat
set_option maxRecDepth 100000
open Go.RowKit Go.ChangeShapes Go.WideShapes Go.ChangeAt

def RowTo (w : World) (g : Nat) (t : TypeId) (k : Nat) (f : Nat → Value) : Prop := ∃ cur : Array Value, Box w g t cur ∧ ∀ i, i < k → cur[i]? = some (f i)
theorem RowTo.cell {w : World} {g : Nat} {t : TypeId} {k : Nat} {f : Nat → Value} (h : RowTo w g t k f) {i : Nat} (hi : i < k) : w.cell? ⟨g, i, none⟩ = some (f i) := by
  obtain ⟨cur, hb, hc⟩ := h
  rw [hb.cell i]; exact hc i hi
theorem RowTo.only {w w' : World} {S : Nat → Prop} {g : Nat} {t : TypeId} {k : Nat} {f : Nat → Value} (h : RowTo w g t k f) (o : Only S w w') (hs : ¬ S g) : RowTo w' g t k f := by
  obtain ⟨cur, hb, hc⟩ := h
  exact ⟨cur, hb.only o hs, hc⟩
structure RmAt (w : World) (p : Nat) (F : Nat → Prop) (M : MS) (g gc : Nat) (bl : Nat → Nat) (A : Option Addr) (cap : Nat) : Prop where
  box : Box w p 82 #[.slice (some ⟨g, 0, none⟩) M.k gc, .slice A M.es.length cap, .bool M.ft]
  row : RowTo w g 75 M.k (fun i => .slice (some ⟨bl i, 0, none⟩) (M.sz i) (M.sz i))
  reg : ∀ i, i < M.k → w.rowIs (bl i) 103 (M.sz i * 12) (fun j => .int .u64 (M.c i (j / 12) (j % 12)))
  inj : ∀ i j, i < M.k → j < M.k → bl i = bl j → i = j
  ev : w.ownsRow 0 87 3 (.slice A M.es.length cap) M.es.length (evs M.es)
  fp : F p
  fg : F g
  fb : ∀ i, i < M.k → F (bl i)
  fv : ∀ b, (Value.slice A M.es.length cap).ownBlock = some b → F b
  lt : ∀ i, F i → i < w.heap.size
  few : M.k ≤ 16
  small : ∀ i, i < M.k → M.sz i ≤ 4096
def Rm (w : World) (p : Nat) (F : Nat → Prop) (M : MS) : Prop := ∃ g gc bl A cap, RmAt w p F M g gc bl A cap

section
variable {w w' : World} {p g gc cap : Nat} {F S : Nat → Prop} {M : MS} {bl : Nat → Nat} {A : Option Addr}
theorem RmAt.only (h : RmAt w p F M g gc bl A cap) (o : Only S w w') (hs : ∀ i, F i → ¬ S i) : RmAt w' p F M g gc bl A cap :=
  ⟨h.box.only o (hs _ h.fp), h.row.only o (hs _ h.fg), fun i hi => o.row (h.reg i hi) (hs _ (h.fb i hi)), h.inj, own_block h.ev (fun b hb => o.block b (h.lt b (h.fv b hb)) (hs _ (h.fv b hb))),
    h.fp, h.fg, h.fb, h.fv, fun i hi => Nat.lt_of_lt_of_le (h.lt i hi) o.size, h.few, h.small⟩
theorem Rm.only (h : Rm w p F M) (o : Only S w w') (hs : ∀ i, F i → ¬ S i) : Rm w' p F M := by
  obtain ⟨g, gc, bl, A, cap, h⟩ := h
  exact ⟨g, gc, bl, A, cap, h.only o hs⟩
end

end Go.Proofs.YtmageeohnfomnaaGreat

