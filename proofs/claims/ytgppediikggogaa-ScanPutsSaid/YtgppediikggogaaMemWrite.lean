/- Contract of package mem: Write, and Read, at whatever place. Conditions as before. -/
import Derived.Test.YtgppediikggogaaMemLook
import Derived.StillTailTactics
namespace Go.Proofs.Ytgppediikggogaa
open Go.RowKit Go.ChangeShapes Go.WideShapes Go.ChangeAt

/-- Read, whatever place is looked at. -/
theorem read_any (p : Nat) (F : Nat → Prop) (M : MS) (r a : Int) (w : World) (h : Mm w p F M) (hl : M.es.length < 1000000000) :
    Calls Try.prog 26 #[.pointer (some ⟨p, 0, none⟩), .int .i64 r, .int .i64 a] w (DonePost w p F (M.read r a) (.returned (.agg (CA (M.cell r a))))) := by
  cases hh : M.hit r a
  · have := read_miss p F M r a w h hh
    simpa [MS.read, MS.cell, hh] using this
  · obtain ⟨r', a', rfl, rfl, hr, ha⟩ := MS.hit_nat hh
    have := read_hit p F M r' a' w h hr ha hl
    simpa [MS.read, MS.cell, hh] using this

/-- The argument's own block, behind a look. -/
theorem box_arg {w w1 : World} {S : Nat → Prop} {f : Nat → Int} (h : Only S (w.alloc (.cells (CA f) 30)) w1) (hs : ¬ S w.heap.size) : Box w1 w.heap.size 30 (CA f) := (Box.new w _ _).only h hs
theorem write_done {w w1 : World} {p g cap : Nat} {F F' : Nat → Prop} {M : MS} {bl : Nat → Nat} {A : Option Addr} {f : Nat → Int} {r a : Nat} {e : Ending} {o : Obj} (n : Nat) (h : MmAt w1 p F' M g bl A cap) (hr : r < M.k) (ho : Only F (w.alloc o) w1) (hF : ∀ i, F' i → F i ∨ (w.alloc o).heap.size ≤ i) :
    DonePost w p F (M.put r a f) e e ((w1.drewN n).setCells (bl r) (a * 12) (CA f).toList) := by
  have h' := h.only ((Only.refl nobody w1).drewN n) (fun _ _ => not_nobody _)
  refine ⟨rfl, F', ⟨g, bl, A, cap, h'.put hr f⟩, ?_, fun i hi => (hF i hi).imp id (fun h => by simp at h; omega)⟩
  have o2 : Only F w w1 := ((Only.refl F w).alloc o).then ho (fun i hi => .inl hi)
  exact only_setCells _ _ _ (o2.drewN n) ((hF _ (h.fb r hr)).imp id (fun h => by simp at h; omega))

set_option maxHeartbeats 1000000 in
theorem write_hit (p : Nat) (F : Nat → Prop) (M : MS) (r a : Nat) (f : Nat → Int) (w : World) (h : Mm w p F M) (hr : r < M.k) (ha : a < M.sz r) (hl : M.es.length < 1000000000) :
    Calls Try.prog 33 #[.pointer (some ⟨p, 0, none⟩), .int .i64 r, .int .i64 a, .agg (CA f)] w (DonePost w p F ((M.see r a true).put r a f) (.returned (.tuple #[]))) := by
  have HM := Lib.hid h
  have hp := h.lt p h.fp
  clear h
  go_enter Try.func33, Try.ntmps33
  go_wp2_with fail
  refine (look_hit p F M r a true _ (HM.out.alloc _) hr ha hl).mono ?_
  rintro e w1 ⟨rfl, F', h1, ho, hF⟩
  obtain ⟨g, bl, A, cap, h1⟩ := h1
  have HA := Lib.hid h1
  have c0 : w1.cell? ⟨p, 0, none⟩ = some (.slice (some ⟨g, 0, none⟩) M.k M.k) := h1.box.cell 0
  have cr : w1.cell? ⟨g, r, none⟩ = some (.slice (some ⟨bl r, 0, none⟩) (M.sz r) (M.sz r)) := h1.row.cell hr
  have HO := Lib.hid ho
  have HF := Lib.hid hF
  clear h1 ho hF
  have hb := box_arg HO.out (fun h => by have := HM.out.lt _ h; omega)
  have b0 : w1.cell? ⟨w.heap.size, 0, none⟩ = some (.int .u64 (f 0)) := hb.cell 0
  have b1 : w1.cell? ⟨w.heap.size, 1, none⟩ = some (.int .u64 (f 1)) := hb.cell 1
  have b2 : w1.cell? ⟨w.heap.size, 2, none⟩ = some (.int .u64 (f 2)) := hb.cell 2
  have b3 : w1.cell? ⟨w.heap.size, 3, none⟩ = some (.int .u64 (f 3)) := hb.cell 3
  have b4 : w1.cell? ⟨w.heap.size, 4, none⟩ = some (.int .u64 (f 4)) := hb.cell 4
  have b5 : w1.cell? ⟨w.heap.size, 5, none⟩ = some (.int .u64 (f 5)) := hb.cell 5
  have b6 : w1.cell? ⟨w.heap.size, 6, none⟩ = some (.int .u64 (f 6)) := hb.cell 6
  have b7 : w1.cell? ⟨w.heap.size, 7, none⟩ = some (.int .u64 (f 7)) := hb.cell 7
  have b8 : w1.cell? ⟨w.heap.size, 8, none⟩ = some (.int .u64 (f 8)) := hb.cell 8
  have b9 : w1.cell? ⟨w.heap.size, 9, none⟩ = some (.int .u64 (f 9)) := hb.cell 9
  have b10 : w1.cell? ⟨w.heap.size, 10, none⟩ = some (.int .u64 (f 10)) := hb.cell 10
  have b11 : w1.cell? ⟨w.heap.size, 11, none⟩ = some (.int .u64 (f 11)) := hb.cell 11
  clear hb
  have HT : Hid (w1.drew.there (bl r) (a * 12) 12) := HA.out.there (M := M.see r a true) hr ha
  go_wp2_with fail
  go_still_tail 10, (by kernel_rfl)
  clear b0 b1 b2 b3 b4 b5 b6 b7 b8 b9 b10 b11
  change wpList _ _ _ _ _ w1.drew
  refine wpList_store_cell rfl (.tmp 21) (.tmp 20) rfl (bl r) (a * 12) rfl f rfl HT.out ?_
  go_wp2
  go_end0
  exact write_done (M := M.see r a true) 1 HA.out hr HO.out HF.out

set_option maxHeartbeats 1000000 in
theorem write_miss (p : Nat) (F : Nat → Prop) (M : MS) (r a : Int) (f : Nat → Int) (w : World) (h : Mm w p F M) (hh : M.hit r a = false) :
    Calls Try.prog 33 #[.pointer (some ⟨p, 0, none⟩), .int .i64 r, .int .i64 a, .agg (CA f)] w (DonePost w p F M.bad (.returned (.tuple #[]))) := by
  have HM := Lib.hid h
  have hp := h.lt p h.fp
  clear h
  go_enter Try.func33, Try.ntmps33
  go_wp2_with fail
  refine (look_miss p F M r a true _ (HM.out.alloc _) hh).mono ?_
  rintro e w1 ⟨rfl, F', h1, ho, hF⟩
  have HA := Lib.hid h1
  have HO := Lib.hid ho
  have HF := Lib.hid hF
  clear h1 ho hF
  go_wp2
  go_end0
  exact ⟨rfl, F', HA.out, ((Only.refl F w).alloc _).then HO.out (fun i hi => .inl hi), fun i hi => (HF.out i hi).imp id (fun h => by simp at h; omega)⟩

/-- Write, whatever place is meant. -/
theorem write_any (p : Nat) (F : Nat → Prop) (M : MS) (r a : Int) (f : Nat → Int) (w : World) (h : Mm w p F M) (hl : M.es.length < 1000000000) :
    Calls Try.prog 33 #[.pointer (some ⟨p, 0, none⟩), .int .i64 r, .int .i64 a, .agg (CA f)] w (DonePost w p F (M.write r a f) (.returned (.tuple #[]))) := by
  cases hh : M.hit r a
  · have := write_miss p F M r a f w h hh
    simpa [MS.write, hh] using this
  · obtain ⟨r', a', rfl, rfl, hr, ha⟩ := MS.hit_nat hh
    have := write_hit p F M r' a' f w h hr ha hl
    simpa [MS.write, hh] using this
end Go.Proofs.Ytgppediikggogaa
