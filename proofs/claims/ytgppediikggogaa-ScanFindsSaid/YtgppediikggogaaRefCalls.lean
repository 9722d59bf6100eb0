/- Contracts of the document's own memory: Size, has, Read, Write: what each returns, and what it makes of the memory; nothing else turns. Conditions: the memory lies as its New made it; there are fewer events than memory can hold. -/
import Derived.Test.YtgppediikggogaaRefAbs
import Derived.StillTailTactics
import Derived.Deep.Cut
namespace Go.Proofs.Ytgppediikggogaa
open Go.RowKit Go.ChangeShapes Go.WideShapes Go.ChangeAt

theorem rsize_any (p : Nat) (F : Nat → Prop) (M : MS) (r : Int) (w : World) (h : Rm w p F M) :
    Calls Try.prog 17 #[.pointer (some ⟨p, 0, none⟩), .int .i64 r] w fun e w' => e = .returned (.int .i64 (M.size r : Nat)) ∧ w = w' := by
  obtain ⟨g, gc, bl, A, cap, h⟩ := h
  have c0 : w.cell? ⟨p, 0, none⟩ = some (.slice (some ⟨g, 0, none⟩) M.k gc) := h.box.cell 0
  by_cases h0 : r < 0
  · have HE : Hid (M.size r = 0) := if_neg (by omega)
    clear h
    go_enter Try.func17, Try.ntmps17
    go_wp2
    go_ret
    exact ⟨by rw [HE.out]; rfl, rfl⟩
  · obtain ⟨r, rfl⟩ := Int.eq_ofNat_of_zero_le (show 0 ≤ r by omega)
    by_cases h1 : r < M.k
    · have HE := Lib.hid (M.size_nat h1)
      have cr := h.row.cell h1
      clear h
      go_enter Try.func17, Try.ntmps17
      go_wp2
      go_ret
      exact ⟨by rw [HE.out]; rfl, rfl⟩
    · have HE : Hid (M.size r = 0) := if_neg (by omega)
      clear h
      go_enter Try.func17, Try.ntmps17
      go_wp2
      go_ret
      exact ⟨by rw [HE.out]; rfl, rfl⟩

theorem rhas_any (p : Nat) (F : Nat → Prop) (M : MS) (r a : Int) (w : World) (h : Rm w p F M) :
    Calls Try.prog 43 #[.pointer (some ⟨p, 0, none⟩), .int .i64 r, .int .i64 a] w fun e w' => e = .returned (.bool (M.hit r a)) ∧ w = w' := by
  have HM := Lib.hid h
  clear h
  by_cases h0 : 0 ≤ a
  · have HE : Hid (M.hit r a = decide (a < (M.size r : Int))) := by
      show M.hit r a = decide (a < (M.size r : Int))
      unfold MS.hit; exact decide_eq_decide.2 (by omega)
    go_enter Try.func43, Try.ntmps43
    go_wp2_with fail
    refine (rsize_any p F M r _ HM.out).mono ?_
    rintro e w' ⟨rfl, rfl⟩
    go_wp2
    go_ret
    exact ⟨by rw [HE.out]; rfl, rfl⟩
  · have HE : Hid (M.hit r a = false) := decide_eq_false (by omega)
    go_enter Try.func43, Try.ntmps43
    go_wp2
    go_ret
    exact ⟨by rw [HE.out]; rfl, rfl⟩

/-- Behind Read and Write. -/
def RDonePost (w : World) (p : Nat) (F : Nat → Prop) (M : MS) (e' : Ending) (e : Ending) (w' : World) : Prop :=
  e = e' ∧ ∃ F', Rm w' p F' M ∧ Only F w w' ∧ ∀ i, F' i → F i ∨ w.heap.size ≤ i
theorem rread_done {w w1 : World} {p : Nat} {F F' : Nat → Prop} {M : MS} {f : Nat → Int} {e : Ending} {o : Obj} (hlt : ∀ i, F i → i < w.heap.size) (h : Rm w1 p F' M) (ho : Only F (w.alloc o) w1) (hF : ∀ i, F' i → F i ∨ (w.alloc o).heap.size ≤ i) :
    RDonePost w p F M e e (w1.setCells w.heap.size 0 (CA f).toList) := by
  have nF : ¬ F' w.heap.size := fun h => by
    rcases hF _ h with h | h
    · have := hlt _ h; omega
    · simp at h; omega
  have o1 : Only (just w.heap.size) w1 (w1.setCells w.heap.size 0 (CA f).toList) := only_setCells _ _ _ (Only.refl _ _) (.inl (just_self _))
  refine ⟨rfl, F', h.only o1 (fun i hi e => nF (by rw [← e]; exact hi)), ?_, fun i hi => (hF i hi).imp id (fun h => by simp at h; omega)⟩
  have o2 : Only F w w1 := ((Only.refl F w).alloc o).then ho (fun i hi => .inl hi)
  exact o2.then o1 (fun i hi => .inr (by rw [hi]; exact Nat.le_refl _))
theorem rwrite_done {w w1 : World} {p g gc cap : Nat} {F F' : Nat → Prop} {M : MS} {bl : Nat → Nat} {A : Option Addr} {f : Nat → Int} {r a : Nat} {e : Ending} {o : Obj} (n : Nat) (h : RmAt w1 p F' M g gc bl A cap) (hr : r < M.k) (ho : Only F (w.alloc o) w1) (hF : ∀ i, F' i → F i ∨ (w.alloc o).heap.size ≤ i) :
    RDonePost w p F (M.put r a f) e e ((w1.drewN n).setCells (bl r) (a * 12) (CA f).toList) := by
  have h' := h.only ((Only.refl nobody w1).drewN n) (fun _ _ => not_nobody _)
  refine ⟨rfl, F', ⟨g, gc, bl, A, cap, h'.put hr f⟩, ?_, fun i hi => (hF i hi).imp id (fun h => by simp at h; omega)⟩
  have o2 : Only F w w1 := ((Only.refl F w).alloc o).then ho (fun i hi => .inl hi)
  exact only_setCells _ _ _ (o2.drewN n) ((hF _ (h.fb r hr)).imp id (fun h => by simp at h; omega))
/-- Where the events lie, behind an append to them. -/
theorem rbox_kept {w w1 : World} {p g gc cap : Nat} {F : Nat → Prop} {M : MS} {bl : Nat → Nat} {A : Option Addr} {o : Obj} (h : RmAt w p F M g gc bl A cap) (hg : (w.alloc o).grownBy w1 (Value.slice A M.es.length cap).ownBlock) :
    Box w1 p 70 #[.slice (some ⟨g, 0, none⟩) M.k gc, .slice A M.es.length cap, .bool M.ft] := by
  have o0 : Only (fun b => (Value.slice A M.es.length cap).ownBlock = some b) w w1 := ((Only.refl _ w).alloc _).grown hg (fun k hk => .inl hk)
  refine h.box.only o0 (fun e => ?_)
  rcases h.ev.2 with ⟨h0, _⟩ | ⟨g', cap', cur, h0, _, hg', _⟩
  · rw [h0] at e; simp [Value.ownBlock] at e
  · rw [h0] at e
    simp only [Value.ownBlock, Option.some.injEq] at e
    subst e
    exact (Box.ne h.box (show Box w g' _ cur from hg') (by decide)) rfl

set_option maxHeartbeats 2000000 in
theorem rread_hit (p : Nat) (F : Nat → Prop) (M : MS) (r a : Nat) (w : World) (h : Rm w p F M) (hr : r < M.k) (ha : a < M.sz r) (hl : M.es.length < 1000000000) :
    Calls Try.prog 37 #[.pointer (some ⟨p, 0, none⟩), .int .i64 r, .int .i64 a] w (RDonePost w p F (M.see r a false) (.returned (.agg (CA (M.c r a))))) := by
  have HLT := Lib.hid h.lt
  obtain ⟨V, hV⟩ : ∃ V, w.alloc (.cells (CA fun _ => 0) 30) = V := ⟨_, rfl⟩
  have HV := Lib.hid hV
  have h' := h.alloc (.cells (CA fun _ => 0) 30)
  rw [hV] at h'
  have hp := h'.lt p h'.fp
  have hrs : w.heap.size < V.heap.size := by rw [← hV]; simp
  have HM := Lib.hid h'
  obtain ⟨g, gc, bl, A, cap, h'⟩ := h'
  have HA := Lib.hid h'
  have c1 : V.cell? ⟨p, 1, none⟩ = some (.slice A M.es.length cap) := h'.box.cell 1
  have HH := Lib.hid (MS.hit_of hr ha)
  clear h h' hV
  go_enter Try.func37, Try.ntmps37
  go_wp2_with fail
  change Calls _ _ _ (w.alloc (.cells (CA fun _ => 0) 30)) _
  rw [HV.out]
  refine (rhas_any p F M r a _ HM.out).mono ?_
  rw [HH.out]
  rintro e w' ⟨rfl, rfl⟩
  go_wp2_with (with_reducible refine wpList_append_where _ rfl (.tmp 20) (.tmp 24) 43 rfl 0 54 (.agg #[.int .i64 0, .int .i64 0, .bool false]) 3 24 Try.underlying43 infoEvent rfl (by decide) (.slice A M.es.length cap) M.es.length (evs M.es) rfl (HA.out.ev.alloc _) ⟨V.heap.size, 0, none⟩ 1 1 (evs [(r, a, false)]) rfl rfl ?c1 (evs_one _) ?c2 ?c3 (Nat.zero_le _) ?_)
  case c1 =>
    intro j u hu
    have hj : j < 3 := (List.getElem?_eq_some_iff.1 hu).1
    rw [add_plain]
    match j, hj with
    | 0, _ => simpa [evs, evc, go_sem] using hu
    | 1, _ => simpa [evs, evc, go_sem] using hu
    | 2, _ => simpa [evs, evc, go_sem] using hu
  case c2 => unfold maxLen; omega
  case c3 => omega
  intro A' cap' w1 hown hg hwh
  have bp := rbox_kept HA.out hg
  have d1 : w1.cell? ⟨p, 1, none⟩ = some (.slice A M.es.length cap) := bp.cell 1
  have f1 : w1.frozen? ⟨p, 1, none⟩ = false := bp.frozen 1
  have R := Lib.hid (rlook_saw (v := .bool true) r a false HA.out hown hg hwh)
  clear hown hg hwh bp
  go_upto_region 5 with fail
  obtain ⟨w2, hw2⟩ : ∃ w2, w1.setCell ⟨p, 1, none⟩ (.slice A' (M.es.length + 1) cap') = w2 := ⟨_, rfl⟩
  rw [hw2] at R ⊢
  clear hw2 d1 f1 c1
  obtain ⟨_, F', hm2, ho, hF⟩ := R.out
  obtain ⟨g2, gc2, bl2, A2, cap2, h2⟩ := hm2
  have H2 := Lib.hid h2
  have c0 : w2.cell? ⟨p, 0, none⟩ = some (.slice (some ⟨g2, 0, none⟩) M.k gc2) := h2.box.cell 0
  have cr : w2.cell? ⟨g2, r, none⟩ = some (.slice (some ⟨bl2 r, 0, none⟩) (M.sz r) (M.sz r)) := h2.row.cell hr
  rw [← HV.out] at ho hF
  have HO := Lib.hid ho
  have HF := Lib.hid hF
  have HR : Hid (w2.rangeAt (bl2 r) (a * 12) (CA (M.c r a)).toList) := h2.range hr ha
  have HT : Hid (w2.there w.heap.size 0 12) := there_result ho (fun h => by have := HLT.out _ h; omega)
  clear h2 ho hF R
  go_wp2_with (first | with_reducible refine wpList_load_cell rfl (.tmp 36) rfl (bl2 r) (a * 12) rfl (M.c r a) HR.out ?_ | with_reducible refine wpList_store_cell rfl (.tmp 6) (.tmp 37) rfl w.heap.size 0 rfl (M.c r a) rfl HT.out ?_)
  have hld := load_result (f := M.c r a) HT.out
  refine bodyPost_ret (v := .agg (CA (M.c r a))) (results_one Try.results37 rfl hld) rfl ?_
  exact rread_done HLT.out ⟨g2, gc2, bl2, A2, cap2, H2.out⟩ HO.out HF.out

set_option maxHeartbeats 1000000 in
theorem rread_miss (p : Nat) (F : Nat → Prop) (M : MS) (r a : Int) (w : World) (h : Rm w p F M) (hh : M.hit r a = false) :
    Calls Try.prog 37 #[.pointer (some ⟨p, 0, none⟩), .int .i64 r, .int .i64 a] w (RDonePost w p F M.bad (.returned (.agg (CA fun _ => 0)))) := by
  have HLT := Lib.hid h.lt
  obtain ⟨V, hV⟩ : ∃ V, w.alloc (.cells (CA fun _ => 0) 30) = V := ⟨_, rfl⟩
  have HV := Lib.hid hV
  have h' := h.alloc (.cells (CA fun _ => 0) 30)
  rw [hV] at h'
  have HM := Lib.hid h'
  obtain ⟨g, gc, bl, A, cap, h'⟩ := h'
  have c2 : V.cell? ⟨p, 2, none⟩ = some (.bool M.ft) := h'.box.cell 2
  have f2 : V.frozen? ⟨p, 2, none⟩ = false := h'.box.frozen 2
  have HH := Lib.hid hh
  clear h h' hV hh
  go_enter Try.func37, Try.ntmps37
  go_wp2_with fail
  change Calls _ _ _ (w.alloc (.cells (CA fun _ => 0) 30)) _
  rw [HV.out]
  refine (rhas_any p F M r a _ HM.out).mono ?_
  rw [HH.out]
  rintro e w' ⟨rfl, rfl⟩
  go_upto_region 3 with fail
  obtain ⟨_, F', hm2, ho, hF⟩ := rlook_bad (v := .bool true) HM.out
  rw [← HV.out] at ho hF
  have HT : Hid ((V.setCell ⟨p, 2, none⟩ (.bool true)).there w.heap.size 0 12) := there_result (by rw [← HV.out]; exact ho) (fun h => by have := HLT.out _ h; omega)
  have HM2 := Lib.hid hm2
  have HO := Lib.hid ho
  have HF := Lib.hid hF
  clear hm2 ho hF
  go_wp2_with (with_reducible refine wpList_store_cell rfl (.tmp 6) (.tmp 15) rfl w.heap.size 0 rfl (fun _ => 0) rfl HT.out ?_)
  have hld := load_result (f := fun _ => 0) HT.out
  refine bodyPost_ret (v := .agg (CA fun _ => 0)) (results_one Try.results37 rfl hld) rfl ?_
  exact rread_done HLT.out HM2.out (by rw [← HV.out]; exact HO.out) HF.out
end Go.Proofs.Ytgppediikggogaa
