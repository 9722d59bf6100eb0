/- Contracts of the document's own memory: Write, and both looks at whatever place. Conditions as before. -/
import Derived.Test.YtgppediikggogaaRefCalls
namespace Go.Proofs.Ytgppediikggogaa
open Go.RowKit Go.ChangeShapes Go.WideShapes Go.ChangeAt

theorem rread_any (p : Nat) (F : Nat → Prop) (M : MS) (r a : Int) (w : World) (h : Rm w p F M) (hl : M.es.length < 1000000000) :
    Calls Try.prog 37 #[.pointer (some ⟨p, 0, none⟩), .int .i64 r, .int .i64 a] w (RDonePost w p F (M.read r a) (.returned (.agg (CA (M.cell r a))))) := by
  cases hh : M.hit r a
  · have := rread_miss p F M r a w h hh
    simpa [MS.read, MS.cell, hh] using this
  · obtain ⟨r', a', rfl, rfl, hr, ha⟩ := MS.hit_nat hh
    have := rread_hit p F M r' a' w h hr ha hl
    simpa [MS.read, MS.cell, hh] using this

set_option maxHeartbeats 2000000 in
theorem rwrite_hit (p : Nat) (F : Nat → Prop) (M : MS) (r a : Nat) (f : Nat → Int) (w : World) (h : Rm w p F M) (hr : r < M.k) (ha : a < M.sz r) (hl : M.es.length < 1000000000) :
    Calls Try.prog 34 #[.pointer (some ⟨p, 0, none⟩), .int .i64 r, .int .i64 a, .agg (CA f)] w (RDonePost w p F ((M.see r a true).put r a f) (.returned (.tuple #[]))) := by
  have HLT := Lib.hid h.lt
  obtain ⟨V, hV⟩ : ∃ V, w.alloc (.cells (CA f) 30) = V := ⟨_, rfl⟩
  have HV := Lib.hid hV
  have h' := h.alloc (.cells (CA f) 30)
  rw [hV] at h'
  have hp := h'.lt p h'.fp
  have hrs : w.heap.size < V.heap.size := by rw [← hV]; simp
  have HM := Lib.hid h'
  obtain ⟨g, gc, bl, A, cap, h'⟩ := h'
  have HA := Lib.hid h'
  have c1 : V.cell? ⟨p, 1, none⟩ = some (.slice A M.es.length cap) := h'.box.cell 1
  have HH := Lib.hid (MS.hit_of hr ha)
  clear h h' hV
  go_enter Try.func34, Try.ntmps34
  go_wp2_with fail
  change Calls _ _ _ (w.alloc (.cells (CA f) 30)) _
  rw [HV.out]
  refine (rhas_any p F M r a _ HM.out).mono ?_
  rw [HH.out]
  rintro e w' ⟨rfl, rfl⟩
  go_wp2_with (with_reducible refine wpList_append_where _ rfl (.tmp 20) (.tmp 24) 43 rfl 0 54 (.agg #[.int .i64 0, .int .i64 0, .bool false]) 3 24 Try.underlying43 infoEvent rfl (by decide) (.slice A M.es.length cap) M.es.length (evs M.es) rfl (HA.out.ev.alloc _) ⟨V.heap.size, 0, none⟩ 1 1 (evs [(r, a, true)]) rfl rfl ?c1 (evs_one _) ?c2 ?c3 (Nat.zero_le _) ?_)
  case c1 =>
    intro j u hu
    have hj : j < 3 := (List.getElem?_eq_some_iff.1 hu).1
    rw [add_plain]
    match j, hj with
    | 0, _ => simpa [evs, evc, go_sem] using hu
    | 1, _ => simpa [evs, evc, go_sem] using hu
    | 2, _ => simpa [evs, evc, go_sem] using hu
  case c2 => unfold maxLen; omega
  case c3 => omega
  intro A' cap' w1 hown hg hwh
  have bp := rbox_kept HA.out hg
  have d1 : w1.cell? ⟨p, 1, none⟩ = some (.slice A M.es.length cap) := bp.cell 1
  have f1 : w1.frozen? ⟨p, 1, none⟩ = false := bp.frozen 1
  have R := Lib.hid (rlook_saw (v := .bool true) r a true HA.out hown hg hwh)
  clear hown hg hwh bp
  go_wp2_with fail
  obtain ⟨w2, hw2⟩ : ∃ w2, w1.setCell ⟨p, 1, none⟩ (.slice A' (M.es.length + 1) cap') = w2 := ⟨_, rfl⟩
  rw [hw2] at R ⊢
  clear hw2 d1 f1 c1
  obtain ⟨_, F', hm2, ho, hF⟩ := R.out
  obtain ⟨g2, gc2, bl2, A2, cap2, h2⟩ := hm2
  have H2 := Lib.hid h2
  have c0 : w2.cell? ⟨p, 0, none⟩ = some (.slice (some ⟨g2, 0, none⟩) M.k gc2) := h2.box.cell 0
  have cr : w2.cell? ⟨g2, r, none⟩ = some (.slice (some ⟨bl2 r, 0, none⟩) (M.sz r) (M.sz r)) := h2.row.cell hr
  rw [← HV.out] at ho hF
  have HO := Lib.hid ho
  have HF := Lib.hid hF
  have hb := box_arg ho (fun h => by have := HLT.out _ h; omega)
  have HT : Hid (w2.drew.there (bl2 r) (a * 12) 12) := h2.there (M := M.see r a true) hr ha
  clear h2 ho hF R
  have b0 : w2.cell? ⟨w.heap.size, 0, none⟩ = some (.int .u64 (f 0)) := hb.cell 0
  have b1 : w2.cell? ⟨w.heap.size, 1, none⟩ = some (.int .u64 (f 1)) := hb.cell 1
  have b2 : w2.cell? ⟨w.heap.size, 2, none⟩ = some (.int .u64 (f 2)) := hb.cell 2
  have b3 : w2.cell? ⟨w.heap.size, 3, none⟩ = some (.int .u64 (f 3)) := hb.cell 3
  have b4 : w2.cell? ⟨w.heap.size, 4, none⟩ = some (.int .u64 (f 4)) := hb.cell 4
  have b5 : w2.cell? ⟨w.heap.size, 5, none⟩ = some (.int .u64 (f 5)) := hb.cell 5
  have b6 : w2.cell? ⟨w.heap.size, 6, none⟩ = some (.int .u64 (f 6)) := hb.cell 6
  have b7 : w2.cell? ⟨w.heap.size, 7, none⟩ = some (.int .u64 (f 7)) := hb.cell 7
  have b8 : w2.cell? ⟨w.heap.size, 8, none⟩ = some (.int .u64 (f 8)) := hb.cell 8
  have b9 : w2.cell? ⟨w.heap.size, 9, none⟩ = some (.int .u64 (f 9)) := hb.cell 9
  have b10 : w2.cell? ⟨w.heap.size, 10, none⟩ = some (.int .u64 (f 10)) := hb.cell 10
  have b11 : w2.cell? ⟨w.heap.size, 11, none⟩ = some (.int .u64 (f 11)) := hb.cell 11
  clear hb
  go_still_tail 10, (by kernel_rfl)
  clear b0 b1 b2 b3 b4 b5 b6 b7 b8 b9 b10 b11
  change wpList _ _ _ _ _ w2.drew
  refine wpList_store_cell rfl (.tmp 37) (.tmp 36) rfl (bl2 r) (a * 12) rfl f rfl HT.out ?_
  go_wp2
  go_end0
  exact rwrite_done (M := M.see r a true) 1 H2.out hr HO.out HF.out

set_option maxHeartbeats 1000000 in
theorem rwrite_miss (p : Nat) (F : Nat → Prop) (M : MS) (r a : Int) (f : Nat → Int) (w : World) (h : Rm w p F M) (hh : M.hit r a = false) :
    Calls Try.prog 34 #[.pointer (some ⟨p, 0, none⟩), .int .i64 r, .int .i64 a, .agg (CA f)] w (RDonePost w p F M.bad (.returned (.tuple #[]))) := by
  obtain ⟨V, hV⟩ : ∃ V, w.alloc (.cells (CA f) 30) = V := ⟨_, rfl⟩
  have HV := Lib.hid hV
  have h' := h.alloc (.cells (CA f) 30)
  rw [hV] at h'
  have HM := Lib.hid h'
  obtain ⟨g, gc, bl, A, cap, h'⟩ := h'
  have c2 : V.cell? ⟨p, 2, none⟩ = some (.bool M.ft) := h'.box.cell 2
  have f2 : V.frozen? ⟨p, 2, none⟩ = false := h'.box.frozen 2
  have HH := Lib.hid hh
  clear h h' hV hh
  go_enter Try.func34, Try.ntmps34
  go_wp2_with fail
  change Calls _ _ _ (w.alloc (.cells (CA f) 30)) _
  rw [HV.out]
  refine (rhas_any p F M r a _ HM.out).mono ?_
  rw [HH.out]
  rintro e w' ⟨rfl, rfl⟩
  go_wp2
  go_end0
  obtain ⟨_, F', hm2, ho, hF⟩ := rlook_bad (v := .bool true) HM.out
  rw [← HV.out] at hF
  exact ⟨rfl, F', hm2, ((Only.refl F w).alloc _).then (by rw [HV.out]; exact ho) (fun i hi => .inl hi), fun i hi => (hF i hi).imp id (fun h => by simp at h; omega)⟩

theorem rwrite_any (p : Nat) (F : Nat → Prop) (M : MS) (r a : Int) (f : Nat → Int) (w : World) (h : Rm w p F M) (hl : M.es.length < 1000000000) :
    Calls Try.prog 34 #[.pointer (some ⟨p, 0, none⟩), .int .i64 r, .int .i64 a, .agg (CA f)] w (RDonePost w p F (M.write r a f) (.returned (.tuple #[]))) := by
  cases hh : M.hit r a
  · have := rwrite_miss p F M r a f w h hh
    simpa [MS.write, hh] using this
  · obtain ⟨r', a', rfl, rfl, hr, ha⟩ := MS.hit_nat hh
    have := rwrite_hit p F M r' a' f w h hr ha hl
    simpa [MS.write, hh] using this
end Go.Proofs.Ytgppediikggogaa
