/- The document's Get and Put: as the program's. Conditions: fewer than a thousand million events. -/
import Derived.Test.YtgppediikggogaaMixMore
import Derived.Test.YtgppediikggogaaGet
import Derived.Test.YtgppediikggogaaPut
namespace Go.Proofs.Ytgppediikggogaa
open Go.RowKit Go.ChangeShapes Go.WideShapes Go.ChangeAt

theorem looked_size (M : MS) (r i : Nat) (x : Int) : (M.looked r i).size x = M.size x := rfl
theorem anew_size (M : MS) (r b : Nat) (f : Nat → Int) (on : Bool) (i : Nat) (x : Int) : (M.anew r b f on i).size x = M.size x := rfl
section
variable {w : World} {X : Nat → Prop} {p q : Nat} {M N : MS}
theorem Mix.one (h : Mix w X p M q N) (o : Obj) : Mix (w.alloc o) (plus1 X w.heap.size) p M q N := h.alloc o
theorem Mix.two (h : Mix w X p M q N) (o o' : Obj) : Mix ((w.alloc o).alloc o') (plus2 X w.heap.size) p M q N :=
  ((h.alloc o).alloc o').weak (by
    rintro i (k | k | k)
    · exact .inl (.inl k)
    · exact .inl (.inr k)
    · exact .inr (by rw [k]; simp))
end
/-- Between two looks of the document's Get. -/
structure RGetAt (w : World) (X : Nat → Prop) (p : Nat) (M : MS) (d : Nat) (N : MS) (r : Nat) (a : Int) (i : Nat) (wr : World) : Prop where
  mix : Mix wr (plus2 X w.heap.size) p M d (N.looked r i)
  kept : Kept X w wr
  res : Var wr w.heap.size (fun _ => 0)
  got : Var wr (w.heap.size + 1) (gt a (N.c r) i)
set_option linter.unusedSimpArgs false in
set_option maxRecDepth 100000 in
set_option maxHeartbeats 1000000 in
theorem rget_any (X : Nat → Prop) (p : Nat) (M : MS) (d : Nat) (N : MS) (r a : Int) (w : World) (h : Mix w X p M d N) (a0 : 0 ≤ a) (hl : N.es.length + N.size r < 1000000000) :
    Calls Try.prog 11 #[.pointer (some ⟨d, 0, none⟩), .int .i64 r, .int .u64 a] w (MixPost w X p M d (N.looked r.toNat (N.size r)) (.agg (CA (gt a (N.c r.toNat) (N.size r))))) := by
  obtain ⟨s, hs⟩ : ∃ s, N.size r = s := ⟨_, rfl⟩
  rw [hs] at hl ⊢
  have HS := Lib.hid hs
  have hsl : s < 1000000000 := by omega
  have HL := Lib.hid hl
  have R0 : Hid (RGetAt w X p M d N r.toNat a 0 ((w.alloc (.cells (CA fun _ => 0) 30)).alloc (.cells (CA fun _ => 0) 30))) := by
    refine RGetAt.mk ?_ ?_ ?_ ?_
    · rw [looked_zero]; exact h.two _ _
    · exact ((Kept.refl X w).alloc _).alloc _
    · exact (Var.new w _ _).alloc _
    · rw [gt_zero a _ a0]
      have := Var.new (w.alloc (.cells (CA fun _ => 0) 30)) (fun _ => 0) 30
      simpa using this
  clear h hs hl
  go_enter Try.func11, Try.ntmps11
  go_wp2_with fail
  go_loopw [8] (fun v wr => ∃ i : Nat, v = .int .i64 i ∧ i ≤ s ∧ RGetAt w X p M d N r.toNat a i wr) (fun v _ => s - (intOf v).toNat)
  case atStart => exact ⟨0, rfl, Nat.zero_le _, R0.out⟩
  case round =>
    obtain ⟨i, rfl, hi, hG⟩ := hrel
    have HG := Lib.hid hG
    clear hG R0
    go_wp2_with fail
    refine (mix_rsize _ p d M _ _ r HG.out.mix).mono ?_
    rintro e w' ⟨rfl, rfl⟩
    rw [looked_size, HS.out]
    by_cases hlt : i < s
    · obtain ⟨q, rfl, hq, hsz⟩ := MS.size_pos (M := N) (r := r) (by rw [HS.out]; omega)
      rw [HS.out] at hsz
      simp only [Int.toNat_natCast] at HG
      have HST := Lib.hid (looked_step N q i hq (by omega))
      have HCL := Lib.hid (looked_cell N q i hq (by omega))
      have hel : (N.looked q i).es.length < 1000000000 := by have := HL.out; rw [looked_len]; omega
      have HEL := Lib.hid hel
      have hu : IntKind.u64.wrap (i : Int) = (i : Int) := by rw [IntKind.wrap_u64]; omega
      clear hel hq hsz
      go_wp2_with fail
      refine (mix_rread _ p d M _ _ (q : Int) (i : Int) HG.out.mix HEL.out).mono ?_
      rw [HST.out, HCL.out]
      rintro e w3 ⟨rfl, ho, hk⟩
      obtain ⟨f, hf⟩ : ∃ f, N.c q i = f := ⟨_, rfl⟩
      obtain ⟨g, hg⟩ : ∃ g, gt a (N.c q) i = g := ⟨_, rfl⟩
      obtain ⟨g', hg'⟩ : ∃ g, gt a (N.c q) (i + 1) = g := ⟨_, rfl⟩
      have HGS : Hid ((if decide ((i : Int) = a) = true then f else g) = g') := by
        show _ = _
        rw [← hf, ← hg, ← hg']; exact gt_step a (N.c q) i
      have V7 := HG.out.got
      rw [hg] at V7
      have HV7 := Lib.hid ((V7.kept hk (.inr (.inr rfl))).alloc (.cells (CA f) 30))
      have HV6 := Lib.hid ((HG.out.res.kept hk (.inr (.inl rfl))).alloc (.cells (CA f) 30))
      have HK4 := Lib.hid ((HG.out.kept.trans (hk.mono (fun i hi => .inl hi))).alloc (.cells (CA f) 30))
      have HO4 := Lib.hid ((ho.alloc (.cells (CA f) 30)).weak (Y := plus2 X w.heap.size) (fun i hi => .inl hi))
      have HV9 := Lib.hid (Var.new w3 f 30)
      have HGG := Lib.hid hg'
      rw [hf]
      clear V7 ho hk HG hg' hf hg
      by_cases ha : (i : Int) = a
      · have hb1 : ((i : Int) == a) = true := by simp [ha]
        have hb2 : decide ((i : Int) = a) = true := decide_eq_true ha
        have HFG : Hid (f = g') := by have := HGS.out; rw [if_pos hb2] at this; exact this
        have HE : Hid (RGetAt w X p M d N q a (i + 1) ((w3.alloc (.cells (CA f) 30)).setCells (w.heap.size + 1) 0 (CA f).toList)) := by
          refine RGetAt.mk ?_ ?_ ?_ ?_
          · exact HO4.out.setCells _ _ (.inr (.inr rfl))
          · exact HK4.out.setCells _ _ (by omega)
          · exact HV6.out.far (by omega) _
          · rw [HGG.out, ← HFG.out]; exact HV7.out.set f
        clear HV6 HK4 HO4 ha
        go_wp2_with (first | with_reducible refine wpList_store_new rfl (.tmp 9) (.tmp 20) rfl rfl f rfl rfl ?_ | with_reducible refine wpList_load_cell rfl (.tmp 9) rfl w3.heap.size 0 rfl f HV9.out.rng ?_ | with_reducible refine wpList_store_cell rfl (.tmp 7) (.tmp 25) rfl (w.heap.size + 1) 0 rfl f rfl HV7.out.there ?_)
        generalize (w3.alloc (.cells (CA f) 30)).setCells (w.heap.size + 1) 0 (CA f).toList = w6 at *
        go_roundw
        case rel => exact ⟨i + 1, by go_num, by omega, by simpa using HE.out⟩
        case measure => simp [intOf]; omega
      · have hb1 : ((i : Int) == a) = false := by simp [ha]
        have hb2 : decide ((i : Int) = a) = false := decide_eq_false ha
        have HFG : Hid (g = g') := by have := HGS.out; rw [if_neg (by simp [ha])] at this; exact this
        have HE : Hid (RGetAt w X p M d N q a (i + 1) (w3.alloc (.cells (CA f) 30))) := by
          refine RGetAt.mk HO4.out HK4.out HV6.out ?_
          rw [HGG.out, ← HFG.out]; exact HV7.out
        clear HV6 HK4 HO4 ha
        go_wp2_with (first | with_reducible refine wpList_store_new rfl (.tmp 9) (.tmp 20) rfl rfl f rfl rfl ?_)
        generalize w3.alloc (.cells (CA f) 30) = w6 at *
        go_roundw
        case rel => exact ⟨i + 1, by go_num, by omega, by simpa using HE.out⟩
        case measure => simp [intOf]; omega
    · obtain rfl : i = s := by omega
      have HE : Hid (MixPost w X p M d (N.looked r.toNat i) (.agg (CA (gt a (N.c r.toNat) i))) (.returned (.agg (CA (gt a (N.c r.toNat) i)))) (wr.setCells w.heap.size 0 (CA (gt a (N.c r.toNat) i)).toList)) :=
        ⟨rfl, (HG.out.mix.setCells w.heap.size _ (.inr (.inl rfl))).weak (fun i hi => .inl hi), HG.out.kept.setCells _ _ (Nat.le_refl _)⟩
      have HV := Lib.hid (HG.out.res.set (gt a (N.c r.toNat) i))
      have HV6 := Lib.hid HG.out.res
      have HV7 := Lib.hid HG.out.got
      clear HG
      generalize gt a (N.c r.toNat) i = g at *
      go_wp2_with (first | with_reducible refine wpList_load_cell rfl (.tmp 7) rfl (w.heap.size + 1) 0 rfl g HV7.out.rng ?_ | with_reducible refine wpList_store_cell rfl (.tmp 6) (.tmp 26) rfl w.heap.size 0 rfl g rfl HV6.out.there ?_)
      exact bodyPost_ret (v := .agg (CA g)) (results_one Try.results11 rfl HV.out.load) rfl HE.out
/-- Between two looks of the document's Put. -/
structure RPutAt (w : World) (X : Nat → Prop) (p : Nat) (M : MS) (d : Nat) (N : MS) (r b : Nat) (f : Nat → Int) (on : Bool) (i : Nat) (wr : World) : Prop where
  mix : Mix wr (plus1 X w.heap.size) p M d (N.anew r b f on i)
  kept : Kept X w wr
  arg : Var wr w.heap.size f
theorem msk_pos (on : Bool) : decide (0 < msk on) = on := by cases on <;> decide
set_option linter.unusedSimpArgs false in
set_option maxRecDepth 100000 in
set_option maxHeartbeats 1000000 in
theorem rput_any (X : Nat → Prop) (p : Nat) (M : MS) (d : Nat) (N : MS) (r a : Int) (f : Nat → Int) (on : Bool) (w : World) (h : Mix w X p M d N) (a0 : 0 ≤ a) (hl : N.es.length + N.size r * 2 < 1000000000) :
    Calls Try.prog 14 #[.pointer (some ⟨d, 0, none⟩), .int .i64 r, .int .u64 a, .agg (CA f), .int .u64 (msk on)] w (MixPost w X p M d (N.anew r.toNat a.toNat f on (N.size r)) (.tuple #[])) := by
  obtain ⟨s, hs⟩ : ∃ s, N.size r = s := ⟨_, rfl⟩
  rw [hs] at hl ⊢
  have HS := Lib.hid hs
  have hsl : s < 1000000000 := by omega
  have HL := Lib.hid hl
  have R0 : Hid (RPutAt w X p M d N r.toNat a.toNat f on 0 (w.alloc (.cells (CA f) 30))) := by
    refine RPutAt.mk ?_ ?_ ?_
    · rw [anew_zero]; exact h.one _
    · exact (Kept.refl X w).alloc _
    · exact Var.new w _ _
  have hmp := msk_pos on
  obtain ⟨m, hm⟩ : ∃ m, msk on = m := ⟨_, rfl⟩
  rw [hm] at hmp ⊢
  clear h hs hl hm
  go_enter Try.func14, Try.ntmps14
  go_wp2_with fail
  go_loopw [10] (fun v wr => ∃ i : Nat, v = .int .i64 i ∧ i ≤ s ∧ RPutAt w X p M d N r.toNat a.toNat f on i wr) (fun v _ => s - (intOf v).toNat)
  case atStart => exact ⟨0, rfl, Nat.zero_le _, R0.out⟩
  case round =>
    obtain ⟨i, rfl, hi, hG⟩ := hrel
    have HG := Lib.hid hG
    clear hG R0
    go_wp2_with fail
    refine (mix_rsize _ p d M _ _ r HG.out.mix).mono ?_
    rintro e w' ⟨rfl, rfl⟩
    rw [anew_size, HS.out]
    by_cases hlt : i < s
    · obtain ⟨q, rfl, hq, hsz⟩ := MS.size_pos (M := N) (r := r) (by rw [HS.out]; omega)
      rw [HS.out] at hsz
      simp only [Int.toNat_natCast] at HG
      have HST := Lib.hid (anew_step N q a.toNat f on i hq (by omega))
      rw [anew_pick a a0] at HST
      have HCL := Lib.hid (anew_cell N q a.toNat f on i hq (by omega))
      have hel : (N.anew q a.toNat f on i).es.length + 1 < 1000000000 := by have := HL.out; rw [anew_len]; omega
      have HEL := Lib.hid hel
      have hu : IntKind.u64.wrap (i : Int) = (i : Int) := by rw [IntKind.wrap_u64]; omega
      clear hel hq hsz
      obtain ⟨N0, hN0⟩ : ∃ K, N.anew q a.toNat f on i = K := ⟨_, rfl⟩
      have HO0 := Lib.hid HG.out.mix
      rw [hN0] at HST HCL HEL HO0
      go_wp2_with fail
      refine (mix_rread _ p d M N0 _ (q : Int) (i : Int) HO0.out (by have := HEL.out; omega)).mono ?_
      rw [HCL.out]
      obtain ⟨N1, hN1⟩ : ∃ K, N0.read (q : Int) (i : Int) = K := ⟨_, rfl⟩
      have hl1 : N1.es.length < 1000000000 := by rw [← hN1]; have h1 := len_read N0 (q : Int) (i : Int); have h2 := HEL.out; omega
      have HL1 := Lib.hid hl1
      rw [hN1] at HST ⊢
      rintro e w3 ⟨rfl, ho, hk⟩
      obtain ⟨g, hg⟩ : ∃ g, N.c q i = g := ⟨_, rfl⟩
      rw [hg] at HST
      have HX4 : Hid (PutS w.heap.size w3.heap.size f g (w3.alloc (.cells (CA g) 30))) := ⟨(HG.out.arg.kept hk (.inr rfl)).alloc _, Var.new w3 g _⟩
      have HK4 := Lib.hid ((HG.out.kept.trans (hk.mono (fun i hi => .inl hi))).alloc (.cells (CA g) 30))
      have HO4 := Lib.hid (ho.alloc (.cells (CA g) 30))
      have hsb : w.heap.size < w3.heap.size := (HG.out.arg.kept hk (.inr rfl)).lt
      have hsw := HG.out.kept.size
      rw [hg]
      clear ho hk HG HO0 hl1 hN1
      by_cases hc : (decide ((i : Int) = a) && on) = true
      · rw [if_pos hc] at HST
        obtain ⟨hb2, hon⟩ := Bool.and_eq_true_iff.1 hc
        rw [hon] at hmp
        have hb1 : ((i : Int) == a) = true := by simpa using hb2
        have HX5 : Hid (PutS w.heap.size w3.heap.size f f ((w3.alloc (.cells (CA g) 30)).setCells w3.heap.size 0 (CA f).toList)) := ⟨HX4.out.arg.far (by omega) _, HX4.out.was.set f⟩
        have HK5 := Lib.hid (HK4.out.setCells w3.heap.size (CA f).toList (by omega))
        have HO5 := Lib.hid (HO4.out.setCells w3.heap.size (CA f).toList (.inr rfl))
        clear HK4 HO4 hc
        go_wp2_with (first | with_reducible refine wpList_store_new rfl (.tmp 11) (.tmp 22) rfl rfl g rfl rfl ?_ | with_reducible refine wpList_load_cell rfl (.tmp 8) rfl w.heap.size 0 rfl f HX4.out.arg.rng ?_ | with_reducible refine wpList_store_cell rfl (.tmp 11) (.tmp 31) rfl w3.heap.size 0 rfl f rfl HX4.out.was.there ?_ | with_reducible refine wpList_load_cell rfl (.tmp 11) rfl w3.heap.size 0 rfl f HX5.out.was.rng ?_)
        clear HX4
        generalize (w3.alloc (.cells (CA g) 30)).setCells w3.heap.size 0 (CA f).toList = w5 at *
        refine (mix_rwrite _ p d M N1 _ (q : Int) (i : Int) f HO5.out HL1.out).mono ?_
        rw [HST.out]
        rintro e w6 ⟨rfl, ho, hk⟩
        have HE : Hid (RPutAt w X p M d N q a.toNat f on (i + 1) w6) := by
          refine RPutAt.mk ?_ ?_ ?_
          · exact ho.weak (fun i hi => .inl hi)
          · exact HK5.out.trans (hk.mono (fun i hi => .inl (.inl hi)))
          · exact HX5.out.arg.kept hk (.inl (.inr rfl))
        clear HK5 HO5 HX5 ho hk
        go_wp2_with fail
        go_roundw
        case rel => exact ⟨i + 1, by go_num, by omega, by simpa using HE.out⟩
        case measure => simp [intOf]; omega
      · rw [if_neg hc] at HST
        have HX5 := HX4
        clear HX4
        by_cases ha : (i : Int) = a
        · have hb1 : ((i : Int) == a) = true := by simp [ha]
          have hb2 : decide ((i : Int) = a) = true := decide_eq_true ha
          have hon : on = false := by rw [hb2] at hc; simpa using hc
          rw [hon] at hmp
          clear hc ha
          go_wp2_with (first | with_reducible refine wpList_store_new rfl (.tmp 11) (.tmp 22) rfl rfl g rfl rfl ?_ | with_reducible refine wpList_load_cell rfl (.tmp 11) rfl w3.heap.size 0 rfl g HX5.out.was.rng ?_)
          generalize w3.alloc (.cells (CA g) 30) = w5 at *
          refine (mix_rwrite _ p d M N1 _ (q : Int) (i : Int) g HO4.out HL1.out).mono ?_
          rw [HST.out]
          rintro e w6 ⟨rfl, ho, hk⟩
          have HE : Hid (RPutAt w X p M d N q a.toNat f on (i + 1) w6) := by
            refine RPutAt.mk ?_ ?_ ?_
            · exact ho.weak (fun i hi => .inl hi)
            · exact HK4.out.trans (hk.mono (fun i hi => .inl (.inl hi)))
            · exact HX5.out.arg.kept hk (.inl (.inr rfl))
          clear HK4 HO4 HX5 ho hk
          go_wp2_with fail
          go_roundw
          case rel => exact ⟨i + 1, by go_num, by omega, by simpa using HE.out⟩
          case measure => simp [intOf]; omega
        · have hb1 : ((i : Int) == a) = false := by simp [ha]
          have hb2 : decide ((i : Int) = a) = false := decide_eq_false ha
          clear hc ha
          go_wp2_with (first | with_reducible refine wpList_store_new rfl (.tmp 11) (.tmp 22) rfl rfl g rfl rfl ?_ | with_reducible refine wpList_load_cell rfl (.tmp 11) rfl w3.heap.size 0 rfl g HX5.out.was.rng ?_)
          generalize w3.alloc (.cells (CA g) 30) = w5 at *
          refine (mix_rwrite _ p d M N1 _ (q : Int) (i : Int) g HO4.out HL1.out).mono ?_
          rw [HST.out]
          rintro e w6 ⟨rfl, ho, hk⟩
          have HE : Hid (RPutAt w X p M d N q a.toNat f on (i + 1) w6) := by
            refine RPutAt.mk ?_ ?_ ?_
            · exact ho.weak (fun i hi => .inl hi)
            · exact HK4.out.trans (hk.mono (fun i hi => .inl (.inl hi)))
            · exact HX5.out.arg.kept hk (.inl (.inr rfl))
          clear HK4 HO4 HX5 ho hk
          go_wp2_with fail
          go_roundw
          case rel => exact ⟨i + 1, by go_num, by omega, by simpa using HE.out⟩
          case measure => simp [intOf]; omega
    · obtain rfl : i = s := by omega
      have HE : Hid (MixPost w X p M d (N.anew r.toNat a.toNat f on i) (.tuple #[]) (.returned (.tuple #[])) wr) := ⟨rfl, HG.out.mix.weak (fun i hi => .inl hi), HG.out.kept⟩
      clear HG
      go_wp2_with fail
      go_end0
      exact HE.out
end Go.Proofs.Ytgppediikggogaa
