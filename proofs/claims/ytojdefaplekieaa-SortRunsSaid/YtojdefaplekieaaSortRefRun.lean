/- The document's Run: a region sent through the network's pairs, or what is wrong. Conditions: all words are words of 64 bits, fewer than a thousand million events. -/
import Derived.Test.YtojdefaplekieaaSortWrong
import Derived.Test.YtojdefaplekieaaMix
import Derived.Test.YtojdefaplekieaaNetRef
import Derived.Test.YtojdefaplekieaaGrow
namespace Go.Proofs.Ytojdefaplekieaa
open Go.RowKit Go.ChangeShapes Go.WideShapes Go.ChangeAt

section
variable {w w' : World} {X : Nat → Prop} {p q : Nat} {M N : MS}
theorem Mix.lt (h : Mix w X p M q N) : ∀ i, X i → i < w.heap.size := by
  obtain ⟨G, ⟨F, _, _, hX⟩, _⟩ := h
  exact fun i hi => hX i (.inl hi)
/-- A store to a block of X. -/
theorem Mix.only {S : Nat → Prop} (h : Mix w X p M q N) (ho : Only S w w') (hs : ∀ i, S i → X i) : Mix w' X p M q N := by
  obtain ⟨G, hO, hn, hG⟩ := h
  exact ⟨G, hO.only ho (fun i hi => .inl (hs i hi)), hn.only ho (fun i hi k => hG i hi (hs i k)), hG⟩
theorem Mix.setCells (h : Mix w X p M q N) (b : Nat) (vs : List Value) (hb : X b) : Mix (w.setCells b 0 vs) X p M q N :=
  h.only (only_setCells (S := just b) vs 0 w (Only.refl _ _) (.inl (just_self b))) (fun i hi => by rw [hi]; exact hb)
end
/-- Between two pairs. -/
def RrunAt (w w1 : World) (X : Nat → Prop) (p : Nat) (M : MS) (d : Nat) (N : MS) (r κ : Nat) (ps : List Pr) (i : Nat) (wr : World) : Prop := Mix wr (more X w w1) p M d (N.sorted r κ (ps.take i)) ∧ Kept (more X w w1) w1 wr
theorem cell_of_range {w : World} {b κ : Nat} {f : Nat → Int} (h : w.rangeAt b 0 (CA f).toList) (hκ : κ < 12) : w.cell? ⟨b, κ, none⟩ = some (.int .u64 (f κ)) := by
  have := h κ (.int .u64 (f κ)) (by rw [Array.getElem?_toList, CA_at f κ hκ]); rwa [Nat.zero_add] at this
/-- What stands while the two cells are written. -/
structure TwoAt (g i b1 b2 : Nat) (q : Pr) (F1 F2 : Nat → Int) (w' : World) : Prop where
  c0 : w'.cell? ⟨g, i * 3, none⟩ = some (.int .i64 (q.1 : Nat))
  c1 : w'.cell? ⟨g, i * 3 + 1, none⟩ = some (.int .i64 (q.2.1 : Nat))
  r1 : w'.rangeAt b1 0 (CA F1).toList
  r2 : w'.rangeAt b2 0 (CA F2).toList
theorem only_cell {S : Nat → Prop} {w w' : World} {b o : Nat} {v : Value} (h : Only S w w') (hn : ¬ S b) (hv : w.cell? ⟨b, o, none⟩ = some v) : w'.cell? ⟨b, o, none⟩ = some v :=
  (World.cell?_of_block (w := w) (h.block b (World.block_lt_of_cell? w ⟨b, o, none⟩ hv) hn)).trans hv
theorem TwoAt.kept {g i b1 b2 : Nat} {q : Pr} {F1 F2 : Nat → Int} {w w' : World} {X : Nat → Prop} (h : TwoAt g i b1 b2 q F1 F2 w) (hk : Kept X w w') (hg : X g) (h1 : X b1) (h2 : X b2) : TwoAt g i b1 b2 q F1 F2 w' :=
  ⟨hk.cell h.c0 hg, hk.cell h.c1 hg, hk.range h.r1 h1, hk.range h.r2 h2⟩
theorem TwoAt.drewN {g i b1 b2 : Nat} {q : Pr} {F1 F2 : Nat → Int} {w : World} (h : TwoAt g i b1 b2 q F1 F2 w) (n : Nat) : TwoAt g i b1 b2 q F1 F2 (w.drewN n) := ⟨h.c0, h.c1, rg_drewN' h.r1, rg_drewN' h.r2⟩
theorem TwoAt.turn {g i b1 b2 : Nat} {q : Pr} {f1 f2 F1 F2 : Nat → Int} {w : World} (h : TwoAt g i b1 b2 q f1 f2 w) (t1 : w.there b1 0 12) (t2 : w.there b2 0 12) (n1 : g ≠ b1) (n2 : g ≠ b2) (n3 : b1 ≠ b2) :
    TwoAt g i b1 b2 q F1 F2 ((w.setCells b1 0 (CA F1).toList).setCells b2 0 (CA F2).toList) := by
  have o : Only (fun i => i = b1 ∨ i = b2) w ((w.setCells b1 0 (CA F1).toList).setCells b2 0 (CA F2).toList) := only_setCells _ _ _ (only_setCells _ _ _ (Only.refl _ _) (.inl (.inl rfl))) (.inl (.inr rfl))
  have k1 := only_cell o (fun h => h.elim n1 n2) h.c0
  have k2 := only_cell o (fun h => h.elim n1 n2) h.c1
  exact ⟨k1, k2, World.rangeAt_setCells_apart (World.rangeAt_setCells_same w b1 0 (CA F1).toList t1) _ _ _ (.inl n3), World.rangeAt_setCells_same _ b2 0 (CA F2).toList (World.there_setCells t2 _ _ _)⟩
set_option linter.unusedSimpArgs false in
set_option maxRecDepth 100000 in
set_option maxHeartbeats 2000000 in
theorem rrun_right (X : Nat → Prop) (p : Nat) (M : MS) (d : Nat) (N : MS) (r κ n k : Nat) (ps : List Pr) (w : World) (h : Mix w X p M d N) (hN : Net (n : Int) k ps) (hR : isNet (n : Int) = true) (hW : Within n ps) (hr : r < N.k) (hs : n ≤ N.sz r) (hκ : κ < 12) (hl : N.es.length + ps.length * 4 < 1000000000) :
    Calls Try.prog 12 #[.pointer (some ⟨d, 0, none⟩), .int .i64 (r : Int), .int .i64 (n : Int), .int .i64 (κ : Int)] w (MixPost w X p M d (N.sorted r κ ps) (.int .i64 0)) := by
  have HO := Lib.hid h
  have hsz : N.size (r : Int) = N.sz r := MS.size_nat hr
  have hps := hN.len
  have hpl : decide ((N.sz r : Int) < (n : Int)) = false := decide_eq_false (by omega)
  have hk1 : decide ((κ : Int) < 0) = false := decide_eq_false (by omega)
  have hk2 : decide (11 < (κ : Int)) = false := decide_eq_false (by omega)
  have HW := Lib.hid hW
  have HL := Lib.hid hl
  clear h hW hl
  go_enter Try.func12, Try.ntmps12
  go_wp2_with (first
    | (go_at_call 30; refine (refRight_any (n : Int) _).mono ?_; rintro e w1 ⟨rfl, hw⟩; obtain rfl := hw.symm; rw [hR])
    | (go_at_call 31; refine (mix_rsize _ p d M N _ (r : Int) HO.out).mono ?_; rintro e w1 ⟨rfl, rfl⟩; rw [hsz])
    | (go_at_call 32; refine (refPairs_any (n : Int) k ps hN _).mono ?_; rintro e w1 ⟨v, rfl, hown, hb⟩; obtain ⟨A, cap, g, rfl, hP⟩ := Prs.of hown; clear hown))
  have hn1 : Only nobody w w1 := Only.of_below hb
  have R0 : Hid (RrunAt w w1 X p M d N r κ ps 0 w1) := by
    show RrunAt w w1 X p M d N r κ ps 0 w1
    refine ⟨?_, Kept.refl _ _⟩
    rw [List.take_zero, sorted_nil]
    exact HO.out.grow hn1
  have HB := Lib.hid hn1
  have HP := Lib.hid hP
  clear hb hn1 hP
  go_loopw [10] (fun v wr => ∃ i : Nat, v = .int .i64 i ∧ i ≤ ps.length ∧ RrunAt w w1 X p M d N r κ ps i wr) (fun v _ => ps.length - (intOf v).toNat)
  case atStart => exact ⟨0, rfl, Nat.zero_le _, R0.out⟩
  case round =>
    obtain ⟨i, rfl, hi, hD, hK⟩ := hrel
    have HD := Lib.hid hD
    have HK := Lib.hid hK
    clear hD hK R0
    by_cases hlt : i < ps.length
    · obtain rfl : A = some ⟨g, 0, none⟩ := HP.out.adr (by omega)
      have hgX : more X w w1 g := .inr (HP.out.base (by omega))
      obtain ⟨x0, x1, x2⟩ := HP.out.kept HK.out (fun _ => hgX) hlt
      have hgl : g < wr.heap.size := World.block_lt_of_cell? wr ⟨g, i * 3, none⟩ x0
      have hi63 : i < 28160 := by omega
      have hq := HW.out _ (List.getElem_mem hlt)
      have hts := take_snoc ps i hlt
      obtain ⟨q, hqe⟩ : ∃ q, ps[i] = q := ⟨_, rfl⟩
      rw [hqe] at x0 x1 x2 hq hts
      have HST := Lib.hid (sorted_step N r κ (ps.take i) q hr hq.1 (by omega))
      rw [← hts] at HST
      have hel : (N.sorted r κ (ps.take i)).es.length + 4 < 1000000000 := by
        have h1 := HL.out
        rw [sorted_len, List.length_take]; omega
      have HEL := Lib.hid hel
      clear hqe hts hel
      generalize N.sorted r κ (ps.take i) = M0 at *
      go_wp2_with fail
      refine (mix_rread _ p d M M0 _ (r : Int) (q.1 : Nat) HD.out (by have := HEL.out; omega)).mono ?_
      rintro e w3 ⟨rfl, ho, hk⟩
      obtain ⟨f1, hf1⟩ : ∃ f, M0.cell (r : Int) (q.1 : Nat) = f := ⟨_, rfl⟩
      obtain ⟨M1, hM1⟩ : ∃ N, M0.read (r : Int) (q.1 : Nat) = N := ⟨_, rfl⟩
      have hl1 : M1.es.length ≤ M0.es.length + 1 := by rw [← hM1]; exact len_read M0 _ _
      rw [hM1] at ho
      rw [hf1, hM1] at HST
      rw [hf1]
      have HK3 := Lib.hid (HK.out.trans hk)
      have hs1 : w1.heap.size ≤ w3.heap.size := HK3.out.size
      have HD4 := Lib.hid (ho.alloc (.cells (CA f1) 40))
      have hs3 : g < w3.heap.size := Nat.lt_of_lt_of_le hgl hk.size
      have y1 : (w3.alloc (.cells (CA f1) 40)).cell? ⟨g, i * 3 + 1, none⟩ = some (.int .i64 (q.2.1 : Nat)) := (World.cell?_alloc_past _ _ _ hs3).trans (hk.cell x1 hgX)
      have y0 : (w3.alloc (.cells (CA f1) 40)).cell? ⟨g, i * 3, none⟩ = some (.int .i64 (q.1 : Nat)) := (World.cell?_alloc_past _ _ _ hs3).trans (hk.cell x0 hgX)
      have y2 : (w3.alloc (.cells (CA f1) 40)).cell? ⟨g, i * 3 + 2, none⟩ = some (.bool q.2.2) := (World.cell?_alloc_past _ _ _ hs3).trans (hk.cell x2 hgX)
      clear ho hk hf1 hM1 HD x0 x1 x2
      go_wp2_with (with_reducible refine wpList_store_new rfl (.tmp 11) (.tmp 46) rfl rfl f1 rfl rfl ?_)
      refine (mix_rread _ p d M M1 _ (r : Int) (q.2.1 : Nat) HD4.out (by have := HEL.out; omega)).mono ?_
      rintro e w5 ⟨rfl, ho, hk⟩
      obtain ⟨f2, hf2⟩ : ∃ f, M1.cell (r : Int) (q.2.1 : Nat) = f := ⟨_, rfl⟩
      obtain ⟨M2, hM2⟩ : ∃ N, M1.read (r : Int) (q.2.1 : Nat) = N := ⟨_, rfl⟩
      have hl2 : M2.es.length ≤ M0.es.length + 2 := by rw [← hM2]; have := len_read M1 (r : Int) (q.2.1 : Nat); omega
      rw [hM2] at ho
      rw [hf2, hM2] at HST
      rw [hf2]
      have hs5 : w3.heap.size < w5.heap.size := by have := hk.size; simp at this; omega
      have HT1 := Lib.hid (World.there_alloc (hk.there (there_new w3 f1 40 _ rfl) (.inr rfl) (by simp)) (.cells (CA f2) 40))
      have HT2 := Lib.hid (there_new w5 f2 40 _ rfl)
      have HK6 := Lib.hid (((HK3.out.alloc (.cells (CA f1) 40)).trans (Kept.mono hk (fun i (hi : more X w w1 i) => .inl hi))).alloc (.cells (CA f2) 40))
      have HD6 := Lib.hid (ho.alloc (.cells (CA f2) 40))
      have HX6 : Hid (TwoAt g i w3.heap.size w5.heap.size q f1 f2 (w5.alloc (.cells (CA f2) 40))) :=
        ⟨(World.cell?_alloc_past _ _ _ (by omega)).trans (hk.cell y0 (.inl hgX)), (World.cell?_alloc_past _ _ _ (by omega)).trans (hk.cell y1 (.inl hgX)), World.rangeAt_alloc (hk.range (range_alloc_new w3 f1 40) (.inr rfl)) _, range_alloc_new w5 f2 40⟩
      have z2 : (w5.alloc (.cells (CA f2) 40)).cell? ⟨g, i * 3 + 2, none⟩ = some (.bool q.2.2) := (World.cell?_alloc_past _ _ _ (by omega)).trans (hk.cell y2 (.inl hgX))
      have e1 : (w5.alloc (.cells (CA f2) 40)).cell? ⟨w3.heap.size, κ, none⟩ = some (.int .u64 (f1 κ)) := cell_of_range HX6.out.r1 hκ
      have e2 : (w5.alloc (.cells (CA f2) 40)).cell? ⟨w5.heap.size, κ, none⟩ = some (.int .u64 (f2 κ)) := cell_of_range HX6.out.r2 hκ
      have hgX1 : more X w w1 w3.heap.size → False := fun h => by have := HK3.out.size; rcases h with h | h; exact absurd (HO.out.lt _ h) (by have := HB.out.size; omega); omega
      clear ho hk hf2 hM2 HD4 HK3 y0 y1 y2 hgX1
      go_wp2_with (with_reducible refine wpList_store_new rfl (.tmp 12) (.tmp 54) rfl rfl f2 rfl rfl ?_)
      have ek1 : ∀ v, (w5.alloc (.cells (CA f2) 40)) = v → v.cell? ⟨g, i * 3 + 2, none⟩ = some (.bool q.2.2) ∧ v.cell? ⟨w3.heap.size, κ, none⟩ = some (.int .u64 (f1 κ)) ∧ v.cell? ⟨w5.heap.size, κ, none⟩ = some (.int .u64 (f2 κ)) := fun v hv => by subst hv; exact ⟨z2, e1, e2⟩
      clear z2 e1 e2
      have hs6 : w5.heap.size < (w5.alloc (.cells (CA f2) 40)).heap.size := by simp
      generalize (w5.alloc (.cells (CA f2) 40)) = w6 at *
      obtain ⟨z2, e1, e2⟩ := ek1 _ rfl
      clear ek1
      obtain ⟨F1, hF1⟩ : ∃ F, (if turned κ q.2.2 f1 f2 then f2 else f1) = F := ⟨_, rfl⟩
      obtain ⟨F2, hF2⟩ : ∃ F, (if turned κ q.2.2 f1 f2 then f1 else f2) = F := ⟨_, rfl⟩
      rw [hF1, hF2] at HST
      obtain ⟨u, hu⟩ : ∃ u, q.2.2 = u := ⟨_, rfl⟩
      rw [hu] at z2 hF1 hF2
      have HF1 := Lib.hid hF1
      have HF2 := Lib.hid hF2
      clear hF1 hF2 hu
      have k12 : ¬ (12 : Int) ≤ (κ : Int) := by omega
      cases u
      · by_cases hd : f1 κ < f2 κ
        · have hT : turned κ false f1 f2 = true := by unfold turned; simp [hd]
          rw [hT, if_pos rfl] at HF1 HF2
          obtain rfl : f2 = F1 := HF1.out
          obtain rfl : f1 = F2 := HF2.out
          have hdd : decide (f1 κ < f2 κ) = true := decide_eq_true hd
          go_wp2_with fail
          go_quiet (fail)
          have HR1 := Lib.hid (rg_drewN' (n := nq) HX6.out.r1)
          have HR2 := Lib.hid (rg_drewN' (n := nq) HX6.out.r2)
          have T1 : Hid ((w6.drewN nq).there w3.heap.size 0 12) := HT1.out
          have T2 := Lib.hid (World.there_setCells (show (w6.drewN nq).there w5.heap.size 0 12 from HT2.out) w3.heap.size 0 (CA f2).toList)
          go_wp2_with (first | with_reducible refine wpList_load_cell rfl (.tmp 12) rfl w5.heap.size 0 rfl f2 HR2.out ?_ | with_reducible refine wpList_load_cell rfl (.tmp 11) rfl w3.heap.size 0 rfl f1 HR1.out ?_ | with_reducible refine wpList_store_cell rfl (.tmp 11) (.tmp 86) rfl w3.heap.size 0 rfl f2 rfl T1.out ?_ | with_reducible refine wpList_store_cell rfl (.tmp 12) (.tmp 87) rfl w5.heap.size 0 rfl f1 rfl T2.out ?_)
          have TX := Lib.hid ((HX6.out.drewN nq).turn (F1 := f2) (F2 := f1) T1.out (show (w6.drewN nq).there w5.heap.size 0 12 from HT2.out) (by omega) (by omega) (by omega))
          have HD8 := Lib.hid (((HD6.out.drewN nq).setCells w3.heap.size (CA f2).toList (.inl (.inr rfl))).setCells w5.heap.size (CA f1).toList (.inr rfl))
          have HK8 := Lib.hid ((((HK6.out.drewN nq).setCells w3.heap.size (CA f2).toList (by have := HK.out.size; omega))).setCells w5.heap.size (CA f1).toList (by have := HK.out.size; omega))
          clear HR1 HR2 T1 T2 HX6 HD6 HK6 HT1 HT2 z2 e1 e2
          generalize ((w6.drewN nq).setCells w3.heap.size 0 (CA f2).toList).setCells w5.heap.size 0 (CA f1).toList = w8 at *
          refine held_S (S := TwoAt g i w3.heap.size w5.heap.size q f2 f1) 9 rfl (by kernel_rfl) (TX.out.drewN 1) (fun hHeld => ?_)
          simp only [Array.replicate_succ, Array.replicate_zero, List.push_toArray, List.nil_append, List.cons_append]
          refine wpAnyH_take (i := 0) (oi := ⟨some 88, _, _, _, _, _⟩) (v := .pointer (some ⟨d, 0, none⟩)) rfl (by kernel_rfl) (by kernel_rfl) (by kernel_rfl) (fun _ _ _ h => h) (Or.inl ⟨by rfl, fun w' hw => by have h0 := hw.c0; have h1 := hw.c1; go_simp⟩) hHeld ?_
          try simp only [Act.put, List.setIfInBounds_toArray, List.set_cons_zero, List.set_cons_succ]
          refine wpAnyH_take (i := 1) (oi := ⟨some 89, _, _, _, _, _⟩) (v := .int .i64 (r : Int)) rfl (by kernel_rfl) (by kernel_rfl) (by kernel_rfl) (fun _ _ _ h => h) (Or.inl ⟨by rfl, fun w' hw => by have h0 := hw.c0; have h1 := hw.c1; go_simp⟩) hHeld ?_
          try simp only [Act.put, List.setIfInBounds_toArray, List.set_cons_zero, List.set_cons_succ]
          refine wpAnyH_take (i := 2) (oi := ⟨some 90, _, _, _, _, _⟩) (v := .slice (some ⟨g, 0, none⟩) ps.length cap) rfl (by kernel_rfl) (by kernel_rfl) (by kernel_rfl) (fun _ _ _ h => h) (Or.inl ⟨by rfl, fun w' hw => by have h0 := hw.c0; have h1 := hw.c1; go_simp⟩) hHeld ?_
          try simp only [Act.put, List.setIfInBounds_toArray, List.set_cons_zero, List.set_cons_succ]
          refine wpAnyH_take (i := 3) (oi := ⟨some 91, _, _, _, _, _⟩) (v := .int .i64 (i : Int)) rfl (by kernel_rfl) (by kernel_rfl) (by kernel_rfl) (fun _ _ _ h => h) (Or.inl ⟨by rfl, fun w' hw => by have h0 := hw.c0; have h1 := hw.c1; go_simp⟩) hHeld ?_
          try simp only [Act.put, List.setIfInBounds_toArray, List.set_cons_zero, List.set_cons_succ]
          refine wpAnyH_take (i := 4) (oi := ⟨some 92, _, _, _, _, _⟩) (v := .pointer (some ⟨g, i * 3, none⟩)) rfl (by kernel_rfl) (by kernel_rfl) (by kernel_rfl) (fun _ _ _ h => h) (Or.inl ⟨by rfl, fun w' hw => by have h0 := hw.c0; have h1 := hw.c1; go_simp⟩) hHeld ?_
          try simp only [Act.put, List.setIfInBounds_toArray, List.set_cons_zero, List.set_cons_succ]
          refine wpAnyH_take (i := 5) (oi := ⟨some 93, _, _, _, _, _⟩) (v := .pointer (some ⟨g, i * 3, none⟩)) rfl (by kernel_rfl) (by kernel_rfl) (by kernel_rfl) (fun _ _ _ h => h) (Or.inl ⟨by rfl, fun w' hw => by have h0 := hw.c0; have h1 := hw.c1; go_simp⟩) hHeld ?_
          try simp only [Act.put, List.setIfInBounds_toArray, List.set_cons_zero, List.set_cons_succ]
          refine wpAnyH_take (i := 6) (oi := ⟨some 94, _, _, _, _, _⟩) (v := .int .i64 (q.1 : Nat)) rfl (by kernel_rfl) (by kernel_rfl) (by kernel_rfl) (fun _ _ _ h => h) (Or.inl ⟨by rfl, fun w' hw => by have h0 := hw.c0; have h1 := hw.c1; go_simp⟩) hHeld ?_
          try simp only [Act.put, List.setIfInBounds_toArray, List.set_cons_zero, List.set_cons_succ]
          refine take_row 7 (CA f2).toList rfl (by kernel_rfl) (by kernel_rfl) (by kernel_rfl) (fun _ _ _ h => h) (by rfl) _ _ rfl _ _ rfl _ (fun _ h => h.r1) Try.underlying40 rfl (infoCellL f2) hHeld ?_
          try simp only [Act.put, List.setIfInBounds_toArray, List.set_cons_zero, List.set_cons_succ]
          refine one_ready 8 rfl (by kernel_rfl) (fun K hK => ?_)
          go_simp
          refine (mix_rwrite _ p d M M2 _ (r : Int) (q.1 : Nat) f2 (HD8.out.drewN 1) (by have := HEL.out; omega)).mono ?_
          rintro e w9 ⟨rfl, ho, hk⟩
          obtain ⟨M3, hM3⟩ : ∃ N, M2.write (r : Int) (q.1 : Nat) f2 = N := ⟨_, rfl⟩
          have hl3 : M3.es.length ≤ M0.es.length + 3 := by rw [← hM3]; have := len_write M2 (r : Int) (q.1 : Nat) f2; omega
          rw [hM3] at ho HST
          have hT9 := hHeld.kept hk (.inl (.inl hgX)) (.inl (.inr rfl)) (.inr rfl)
          have HK9 := Lib.hid ((HK8.out.drewN 1).trans (Kept.mono hk (fun i (hi : more X w w1 i) => .inl (.inl hi))))
          have HD9 := Lib.hid ho
          clear ho hk hM3 HD8 HK8 TX
          refine hK.out _ _ hT9 (fun hHeld => ?_)
          clear hK K hT9
          refine wpAnyH_done (by kernel_rfl) ?_ _
          have TX := Lib.hid hHeld
          clear hHeld
          go_wp2_with fail
          refine held_S (S := TwoAt g i w3.heap.size w5.heap.size q f2 f1) 9 rfl (by kernel_rfl) (TX.out.drewN 1) (fun hHeld => ?_)
          simp only [Array.replicate_succ, Array.replicate_zero, List.push_toArray, List.nil_append, List.cons_append]
          refine wpAnyH_take (i := 0) (oi := ⟨some 97, _, _, _, _, _⟩) (v := .pointer (some ⟨d, 0, none⟩)) rfl (by kernel_rfl) (by kernel_rfl) (by kernel_rfl) (fun _ _ _ h => h) (Or.inl ⟨by rfl, fun w' hw => by have h0 := hw.c0; have h1 := hw.c1; go_simp⟩) hHeld ?_
          try simp only [Act.put, List.setIfInBounds_toArray, List.set_cons_zero, List.set_cons_succ]
          refine wpAnyH_take (i := 1) (oi := ⟨some 98, _, _, _, _, _⟩) (v := .int .i64 (r : Int)) rfl (by kernel_rfl) (by kernel_rfl) (by kernel_rfl) (fun _ _ _ h => h) (Or.inl ⟨by rfl, fun w' hw => by have h0 := hw.c0; have h1 := hw.c1; go_simp⟩) hHeld ?_
          try simp only [Act.put, List.setIfInBounds_toArray, List.set_cons_zero, List.set_cons_succ]
          refine wpAnyH_take (i := 2) (oi := ⟨some 99, _, _, _, _, _⟩) (v := .slice (some ⟨g, 0, none⟩) ps.length cap) rfl (by kernel_rfl) (by kernel_rfl) (by kernel_rfl) (fun _ _ _ h => h) (Or.inl ⟨by rfl, fun w' hw => by have h0 := hw.c0; have h1 := hw.c1; go_simp⟩) hHeld ?_
          try simp only [Act.put, List.setIfInBounds_toArray, List.set_cons_zero, List.set_cons_succ]
          refine wpAnyH_take (i := 3) (oi := ⟨some 100, _, _, _, _, _⟩) (v := .int .i64 (i : Int)) rfl (by kernel_rfl) (by kernel_rfl) (by kernel_rfl) (fun _ _ _ h => h) (Or.inl ⟨by rfl, fun w' hw => by have h0 := hw.c0; have h1 := hw.c1; go_simp⟩) hHeld ?_
          try simp only [Act.put, List.setIfInBounds_toArray, List.set_cons_zero, List.set_cons_succ]
          refine wpAnyH_take (i := 4) (oi := ⟨some 101, _, _, _, _, _⟩) (v := .pointer (some ⟨g, i * 3, none⟩)) rfl (by kernel_rfl) (by kernel_rfl) (by kernel_rfl) (fun _ _ _ h => h) (Or.inl ⟨by rfl, fun w' hw => by have h0 := hw.c0; have h1 := hw.c1; go_simp⟩) hHeld ?_
          try simp only [Act.put, List.setIfInBounds_toArray, List.set_cons_zero, List.set_cons_succ]
          refine wpAnyH_take (i := 5) (oi := ⟨some 102, _, _, _, _, _⟩) (v := .pointer (some ⟨g, i * 3 + 1, none⟩)) rfl (by kernel_rfl) (by kernel_rfl) (by kernel_rfl) (fun _ _ _ h => h) (Or.inl ⟨by rfl, fun w' hw => by have h0 := hw.c0; have h1 := hw.c1; go_simp⟩) hHeld ?_
          try simp only [Act.put, List.setIfInBounds_toArray, List.set_cons_zero, List.set_cons_succ]
          refine wpAnyH_take (i := 6) (oi := ⟨some 103, _, _, _, _, _⟩) (v := .int .i64 (q.2.1 : Nat)) rfl (by kernel_rfl) (by kernel_rfl) (by kernel_rfl) (fun _ _ _ h => h) (Or.inl ⟨by rfl, fun w' hw => by have h0 := hw.c0; have h1 := hw.c1; go_simp⟩) hHeld ?_
          try simp only [Act.put, List.setIfInBounds_toArray, List.set_cons_zero, List.set_cons_succ]
          refine take_row 7 (CA f1).toList rfl (by kernel_rfl) (by kernel_rfl) (by kernel_rfl) (fun _ _ _ h => h) (by rfl) _ _ rfl _ _ rfl _ (fun _ h => h.r2) Try.underlying40 rfl (infoCellL f1) hHeld ?_
          try simp only [Act.put, List.setIfInBounds_toArray, List.set_cons_zero, List.set_cons_succ]
          refine one_ready 8 rfl (by kernel_rfl) (fun K hK => ?_)
          go_simp
          refine (mix_rwrite _ p d M M3 _ (r : Int) (q.2.1 : Nat) f1 (HD9.out.drewN 1) (by have := HEL.out; omega)).mono ?_
          rintro e w10 ⟨rfl, ho, hk⟩
          rw [HST.out] at ho
          have hT9 := hHeld.kept hk (.inl (.inl hgX)) (.inl (.inr rfl)) (.inr rfl)
          have HE := Lib.hid (show RrunAt w w1 X p M d N r κ ps (i + 1) w10 from ⟨ho.weak (fun i hi => .inl (.inl hi)), (HK9.out.drewN 1).trans (Kept.mono hk (fun i (hi : more X w w1 i) => .inl (.inl hi)))⟩)
          clear ho hk HK9 HD9
          refine hK.out _ _ hT9 (fun hHeld => ?_)
          clear hK K hT9
          refine wpAnyH_done (by kernel_rfl) ?_ _
          go_wp2_with fail
          go_roundw
          case rel => exact ⟨i + 1, by go_num, by omega, HE.out⟩
          case measure => simp [intOf]; omega
        · have hT : turned κ false f1 f2 = false := by unfold turned; simp; omega
          rw [hT, if_neg (by decide)] at HF1 HF2
          obtain rfl : f1 = F1 := HF1.out
          obtain rfl : f2 = F2 := HF2.out
          have hdd : decide (f1 κ < f2 κ) = false := decide_eq_false hd
          go_wp2_with fail
          go_quiet (fail)
          have TX := Lib.hid (HX6.out.drewN nq)
          have HD8 := Lib.hid (HD6.out.drewN nq)
          have HK8 := Lib.hid (HK6.out.drewN nq)
          clear HX6 HD6 HK6 HT1 HT2 z2 e1 e2
          generalize w6.drewN nq = w8 at *
          go_wp2_with fail
          refine held_S (S := TwoAt g i w3.heap.size w5.heap.size q f1 f2) 9 rfl (by kernel_rfl) (TX.out.drewN 1) (fun hHeld => ?_)
          simp only [Array.replicate_succ, Array.replicate_zero, List.push_toArray, List.nil_append, List.cons_append]
          refine wpAnyH_take (i := 0) (oi := ⟨some 88, _, _, _, _, _⟩) (v := .pointer (some ⟨d, 0, none⟩)) rfl (by kernel_rfl) (by kernel_rfl) (by kernel_rfl) (fun _ _ _ h => h) (Or.inl ⟨by rfl, fun w' hw => by have h0 := hw.c0; have h1 := hw.c1; go_simp⟩) hHeld ?_
          try simp only [Act.put, List.setIfInBounds_toArray, List.set_cons_zero, List.set_cons_succ]
          refine wpAnyH_take (i := 1) (oi := ⟨some 89, _, _, _, _, _⟩) (v := .int .i64 (r : Int)) rfl (by kernel_rfl) (by kernel_rfl) (by kernel_rfl) (fun _ _ _ h => h) (Or.inl ⟨by rfl, fun w' hw => by have h0 := hw.c0; have h1 := hw.c1; go_simp⟩) hHeld ?_
          try simp only [Act.put, List.setIfInBounds_toArray, List.set_cons_zero, List.set_cons_succ]
          refine wpAnyH_take (i := 2) (oi := ⟨some 90, _, _, _, _, _⟩) (v := .slice (some ⟨g, 0, none⟩) ps.length cap) rfl (by kernel_rfl) (by kernel_rfl) (by kernel_rfl) (fun _ _ _ h => h) (Or.inl ⟨by rfl, fun w' hw => by have h0 := hw.c0; have h1 := hw.c1; go_simp⟩) hHeld ?_
          try simp only [Act.put, List.setIfInBounds_toArray, List.set_cons_zero, List.set_cons_succ]
          refine wpAnyH_take (i := 3) (oi := ⟨some 91, _, _, _, _, _⟩) (v := .int .i64 (i : Int)) rfl (by kernel_rfl) (by kernel_rfl) (by kernel_rfl) (fun _ _ _ h => h) (Or.inl ⟨by rfl, fun w' hw => by have h0 := hw.c0; have h1 := hw.c1; go_simp⟩) hHeld ?_
          try simp only [Act.put, List.setIfInBounds_toArray, List.set_cons_zero, List.set_cons_succ]
          refine wpAnyH_take (i := 4) (oi := ⟨some 92, _, _, _, _, _⟩) (v := .pointer (some ⟨g, i * 3, none⟩)) rfl (by kernel_rfl) (by kernel_rfl) (by kernel_rfl) (fun _ _ _ h => h) (Or.inl ⟨by rfl, fun w' hw => by have h0 := hw.c0; have h1 := hw.c1; go_simp⟩) hHeld ?_
          try simp only [Act.put, List.setIfInBounds_toArray, List.set_cons_zero, List.set_cons_succ]
          refine wpAnyH_take (i := 5) (oi := ⟨some 93, _, _, _, _, _⟩) (v := .pointer (some ⟨g, i * 3, none⟩)) rfl (by kernel_rfl) (by kernel_rfl) (by kernel_rfl) (fun _ _ _ h => h) (Or.inl ⟨by rfl, fun w' hw => by have h0 := hw.c0; have h1 := hw.c1; go_simp⟩) hHeld ?_
          try simp only [Act.put, List.setIfInBounds_toArray, List.set_cons_zero, List.set_cons_succ]
          refine wpAnyH_take (i := 6) (oi := ⟨some 94, _, _, _, _, _⟩) (v := .int .i64 (q.1 : Nat)) rfl (by kernel_rfl) (by kernel_rfl) (by kernel_rfl) (fun _ _ _ h => h) (Or.inl ⟨by rfl, fun w' hw => by have h0 := hw.c0; have h1 := hw.c1; go_simp⟩) hHeld ?_
          try simp only [Act.put, List.setIfInBounds_toArray, List.set_cons_zero, List.set_cons_succ]
          refine take_row 7 (CA f1).toList rfl (by kernel_rfl) (by kernel_rfl) (by kernel_rfl) (fun _ _ _ h => h) (by rfl) _ _ rfl _ _ rfl _ (fun _ h => h.r1) Try.underlying40 rfl (infoCellL f1) hHeld ?_
          try simp only [Act.put, List.setIfInBounds_toArray, List.set_cons_zero, List.set_cons_succ]
          refine one_ready 8 rfl (by kernel_rfl) (fun K hK => ?_)
          go_simp
          refine (mix_rwrite _ p d M M2 _ (r : Int) (q.1 : Nat) f1 (HD8.out.drewN 1) (by have := HEL.out; omega)).mono ?_
          rintro e w9 ⟨rfl, ho, hk⟩
          obtain ⟨M3, hM3⟩ : ∃ N, M2.write (r : Int) (q.1 : Nat) f1 = N := ⟨_, rfl⟩
          have hl3 : M3.es.length ≤ M0.es.length + 3 := by rw [← hM3]; have := len_write M2 (r : Int) (q.1 : Nat) f1; omega
          rw [hM3] at ho HST
          have hT9 := hHeld.kept hk (.inl (.inl hgX)) (.inl (.inr rfl)) (.inr rfl)
          have HK9 := Lib.hid ((HK8.out.drewN 1).trans (Kept.mono hk (fun i (hi : more X w w1 i) => .inl (.inl hi))))
          have HD9 := Lib.hid ho
          clear ho hk hM3 HD8 HK8 TX
          refine hK.out _ _ hT9 (fun hHeld => ?_)
          clear hK K hT9
          refine wpAnyH_done (by kernel_rfl) ?_ _
          have TX := Lib.hid hHeld
          clear hHeld
          go_wp2_with fail
          refine held_S (S := TwoAt g i w3.heap.size w5.heap.size q f1 f2) 9 rfl (by kernel_rfl) (TX.out.drewN 1) (fun hHeld => ?_)
          simp only [Array.replicate_succ, Array.replicate_zero, List.push_toArray, List.nil_append, List.cons_append]
          refine wpAnyH_take (i := 0) (oi := ⟨some 97, _, _, _, _, _⟩) (v := .pointer (some ⟨d, 0, none⟩)) rfl (by kernel_rfl) (by kernel_rfl) (by kernel_rfl) (fun _ _ _ h => h) (Or.inl ⟨by rfl, fun w' hw => by have h0 := hw.c0; have h1 := hw.c1; go_simp⟩) hHeld ?_
          try simp only [Act.put, List.setIfInBounds_toArray, List.set_cons_zero, List.set_cons_succ]
          refine wpAnyH_take (i := 1) (oi := ⟨some 98, _, _, _, _, _⟩) (v := .int .i64 (r : Int)) rfl (by kernel_rfl) (by kernel_rfl) (by kernel_rfl) (fun _ _ _ h => h) (Or.inl ⟨by rfl, fun w' hw => by have h0 := hw.c0; have h1 := hw.c1; go_simp⟩) hHeld ?_
          try simp only [Act.put, List.setIfInBounds_toArray, List.set_cons_zero, List.set_cons_succ]
          refine wpAnyH_take (i := 2) (oi := ⟨some 99, _, _, _, _, _⟩) (v := .slice (some ⟨g, 0, none⟩) ps.length cap) rfl (by kernel_rfl) (by kernel_rfl) (by kernel_rfl) (fun _ _ _ h => h) (Or.inl ⟨by rfl, fun w' hw => by have h0 := hw.c0; have h1 := hw.c1; go_simp⟩) hHeld ?_
          try simp only [Act.put, List.setIfInBounds_toArray, List.set_cons_zero, List.set_cons_succ]
          refine wpAnyH_take (i := 3) (oi := ⟨some 100, _, _, _, _, _⟩) (v := .int .i64 (i : Int)) rfl (by kernel_rfl) (by kernel_rfl) (by kernel_rfl) (fun _ _ _ h => h) (Or.inl ⟨by rfl, fun w' hw => by have h0 := hw.c0; have h1 := hw.c1; go_simp⟩) hHeld ?_
          try simp only [Act.put, List.setIfInBounds_toArray, List.set_cons_zero, List.set_cons_succ]
          refine wpAnyH_take (i := 4) (oi := ⟨some 101, _, _, _, _, _⟩) (v := .pointer (some ⟨g, i * 3, none⟩)) rfl (by kernel_rfl) (by kernel_rfl) (by kernel_rfl) (fun _ _ _ h => h) (Or.inl ⟨by rfl, fun w' hw => by have h0 := hw.c0; have h1 := hw.c1; go_simp⟩) hHeld ?_
          try simp only [Act.put, List.setIfInBounds_toArray, List.set_cons_zero, List.set_cons_succ]
          refine wpAnyH_take (i := 5) (oi := ⟨some 102, _, _, _, _, _⟩) (v := .pointer (some ⟨g, i * 3 + 1, none⟩)) rfl (by kernel_rfl) (by kernel_rfl) (by kernel_rfl) (fun _ _ _ h => h) (Or.inl ⟨by rfl, fun w' hw => by have h0 := hw.c0; have h1 := hw.c1; go_simp⟩) hHeld ?_
          try simp only [Act.put, List.setIfInBounds_toArray, List.set_cons_zero, List.set_cons_succ]
          refine wpAnyH_take (i := 6) (oi := ⟨some 103, _, _, _, _, _⟩) (v := .int .i64 (q.2.1 : Nat)) rfl (by kernel_rfl) (by kernel_rfl) (by kernel_rfl) (fun _ _ _ h => h) (Or.inl ⟨by rfl, fun w' hw => by have h0 := hw.c0; have h1 := hw.c1; go_simp⟩) hHeld ?_
          try simp only [Act.put, List.setIfInBounds_toArray, List.set_cons_zero, List.set_cons_succ]
          refine take_row 7 (CA f2).toList rfl (by kernel_rfl) (by kernel_rfl) (by kernel_rfl) (fun _ _ _ h => h) (by rfl) _ _ rfl _ _ rfl _ (fun _ h => h.r2) Try.underlying40 rfl (infoCellL f2) hHeld ?_
          try simp only [Act.put, List.setIfInBounds_toArray, List.set_cons_zero, List.set_cons_succ]
          refine one_ready 8 rfl (by kernel_rfl) (fun K hK => ?_)
          go_simp
          refine (mix_rwrite _ p d M M3 _ (r : Int) (q.2.1 : Nat) f2 (HD9.out.drewN 1) (by have := HEL.out; omega)).mono ?_
          rintro e w10 ⟨rfl, ho, hk⟩
          rw [HST.out] at ho
          have hT9 := hHeld.kept hk (.inl (.inl hgX)) (.inl (.inr rfl)) (.inr rfl)
          have HE := Lib.hid (show RrunAt w w1 X p M d N r κ ps (i + 1) w10 from ⟨ho.weak (fun i hi => .inl (.inl hi)), (HK9.out.drewN 1).trans (Kept.mono hk (fun i (hi : more X w w1 i) => .inl (.inl hi)))⟩)
          clear ho hk HK9 HD9
          refine hK.out _ _ hT9 (fun hHeld => ?_)
          clear hK K hT9
          refine wpAnyH_done (by kernel_rfl) ?_ _
          go_wp2_with fail
          go_roundw
          case rel => exact ⟨i + 1, by go_num, by omega, HE.out⟩
          case measure => simp [intOf]; omega
      · by_cases hd : f2 κ < f1 κ
        · have hT : turned κ true f1 f2 = true := by unfold turned; simp [hd]
          rw [hT, if_pos rfl] at HF1 HF2
          obtain rfl : f2 = F1 := HF1.out
          obtain rfl : f1 = F2 := HF2.out
          have hdd : decide (f2 κ < f1 κ) = true := decide_eq_true hd
          go_wp2_with fail
          go_quiet (fail)
          have HR1 := Lib.hid (rg_drewN' (n := nq) HX6.out.r1)
          have HR2 := Lib.hid (rg_drewN' (n := nq) HX6.out.r2)
          have T1 : Hid ((w6.drewN nq).there w3.heap.size 0 12) := HT1.out
          have T2 := Lib.hid (World.there_setCells (show (w6.drewN nq).there w5.heap.size 0 12 from HT2.out) w3.heap.size 0 (CA f2).toList)
          go_wp2_with (first | with_reducible refine wpList_load_cell rfl (.tmp 12) rfl w5.heap.size 0 rfl f2 HR2.out ?_ | with_reducible refine wpList_load_cell rfl (.tmp 11) rfl w3.heap.size 0 rfl f1 HR1.out ?_ | with_reducible refine wpList_store_cell rfl (.tmp 11) (.tmp 86) rfl w3.heap.size 0 rfl f2 rfl T1.out ?_ | with_reducible refine wpList_store_cell rfl (.tmp 12) (.tmp 87) rfl w5.heap.size 0 rfl f1 rfl T2.out ?_)
          have TX := Lib.hid ((HX6.out.drewN nq).turn (F1 := f2) (F2 := f1) T1.out (show (w6.drewN nq).there w5.heap.size 0 12 from HT2.out) (by omega) (by omega) (by omega))
          have HD8 := Lib.hid (((HD6.out.drewN nq).setCells w3.heap.size (CA f2).toList (.inl (.inr rfl))).setCells w5.heap.size (CA f1).toList (.inr rfl))
          have HK8 := Lib.hid ((((HK6.out.drewN nq).setCells w3.heap.size (CA f2).toList (by have := HK.out.size; omega))).setCells w5.heap.size (CA f1).toList (by have := HK.out.size; omega))
          clear HR1 HR2 T1 T2 HX6 HD6 HK6 HT1 HT2 z2 e1 e2
          generalize ((w6.drewN nq).setCells w3.heap.size 0 (CA f2).toList).setCells w5.heap.size 0 (CA f1).toList = w8 at *
          refine held_S (S := TwoAt g i w3.heap.size w5.heap.size q f2 f1) 9 rfl (by kernel_rfl) (TX.out.drewN 1) (fun hHeld => ?_)
          simp only [Array.replicate_succ, Array.replicate_zero, List.push_toArray, List.nil_append, List.cons_append]
          refine wpAnyH_take (i := 0) (oi := ⟨some 88, _, _, _, _, _⟩) (v := .pointer (some ⟨d, 0, none⟩)) rfl (by kernel_rfl) (by kernel_rfl) (by kernel_rfl) (fun _ _ _ h => h) (Or.inl ⟨by rfl, fun w' hw => by have h0 := hw.c0; have h1 := hw.c1; go_simp⟩) hHeld ?_
          try simp only [Act.put, List.setIfInBounds_toArray, List.set_cons_zero, List.set_cons_succ]
          refine wpAnyH_take (i := 1) (oi := ⟨some 89, _, _, _, _, _⟩) (v := .int .i64 (r : Int)) rfl (by kernel_rfl) (by kernel_rfl) (by kernel_rfl) (fun _ _ _ h => h) (Or.inl ⟨by rfl, fun w' hw => by have h0 := hw.c0; have h1 := hw.c1; go_simp⟩) hHeld ?_
          try simp only [Act.put, List.setIfInBounds_toArray, List.set_cons_zero, List.set_cons_succ]
          refine wpAnyH_take (i := 2) (oi := ⟨some 90, _, _, _, _, _⟩) (v := .slice (some ⟨g, 0, none⟩) ps.length cap) rfl (by kernel_rfl) (by kernel_rfl) (by kernel_rfl) (fun _ _ _ h => h) (Or.inl ⟨by rfl, fun w' hw => by have h0 := hw.c0; have h1 := hw.c1; go_simp⟩) hHeld ?_
          try simp only [Act.put, List.setIfInBounds_toArray, List.set_cons_zero, List.set_cons_succ]
          refine wpAnyH_take (i := 3) (oi := ⟨some 91, _, _, _, _, _⟩) (v := .int .i64 (i : Int)) rfl (by kernel_rfl) (by kernel_rfl) (by kernel_rfl) (fun _ _ _ h => h) (Or.inl ⟨by rfl, fun w' hw => by have h0 := hw.c0; have h1 := hw.c1; go_simp⟩) hHeld ?_
          try simp only [Act.put, List.setIfInBounds_toArray, List.set_cons_zero, List.set_cons_succ]
          refine wpAnyH_take (i := 4) (oi := ⟨some 92, _, _, _, _, _⟩) (v := .pointer (some ⟨g, i * 3, none⟩)) rfl (by kernel_rfl) (by kernel_rfl) (by kernel_rfl) (fun _ _ _ h => h) (Or.inl ⟨by rfl, fun w' hw => by have h0 := hw.c0; have h1 := hw.c1; go_simp⟩) hHeld ?_
          try simp only [Act.put, List.setIfInBounds_toArray, List.set_cons_zero, List.set_cons_succ]
          refine wpAnyH_take (i := 5) (oi := ⟨some 93, _, _, _, _, _⟩) (v := .pointer (some ⟨g, i * 3, none⟩)) rfl (by kernel_rfl) (by kernel_rfl) (by kernel_rfl) (fun _ _ _ h => h) (Or.inl ⟨by rfl, fun w' hw => by have h0 := hw.c0; have h1 := hw.c1; go_simp⟩) hHeld ?_
          try simp only [Act.put, List.setIfInBounds_toArray, List.set_cons_zero, List.set_cons_succ]
          refine wpAnyH_take (i := 6) (oi := ⟨some 94, _, _, _, _, _⟩) (v := .int .i64 (q.1 : Nat)) rfl (by kernel_rfl) (by kernel_rfl) (by kernel_rfl) (fun _ _ _ h => h) (Or.inl ⟨by rfl, fun w' hw => by have h0 := hw.c0; have h1 := hw.c1; go_simp⟩) hHeld ?_
          try simp only [Act.put, List.setIfInBounds_toArray, List.set_cons_zero, List.set_cons_succ]
          refine take_row 7 (CA f2).toList rfl (by kernel_rfl) (by kernel_rfl) (by kernel_rfl) (fun _ _ _ h => h) (by rfl) _ _ rfl _ _ rfl _ (fun _ h => h.r1) Try.underlying40 rfl (infoCellL f2) hHeld ?_
          try simp only [Act.put, List.setIfInBounds_toArray, List.set_cons_zero, List.set_cons_succ]
          refine one_ready 8 rfl (by kernel_rfl) (fun K hK => ?_)
          go_simp
          refine (mix_rwrite _ p d M M2 _ (r : Int) (q.1 : Nat) f2 (HD8.out.drewN 1) (by have := HEL.out; omega)).mono ?_
          rintro e w9 ⟨rfl, ho, hk⟩
          obtain ⟨M3, hM3⟩ : ∃ N, M2.write (r : Int) (q.1 : Nat) f2 = N := ⟨_, rfl⟩
          have hl3 : M3.es.length ≤ M0.es.length + 3 := by rw [← hM3]; have := len_write M2 (r : Int) (q.1 : Nat) f2; omega
          rw [hM3] at ho HST
          have hT9 := hHeld.kept hk (.inl (.inl hgX)) (.inl (.inr rfl)) (.inr rfl)
          have HK9 := Lib.hid ((HK8.out.drewN 1).trans (Kept.mono hk (fun i (hi : more X w w1 i) => .inl (.inl hi))))
          have HD9 := Lib.hid ho
          clear ho hk hM3 HD8 HK8 TX
          refine hK.out _ _ hT9 (fun hHeld => ?_)
          clear hK K hT9
          refine wpAnyH_done (by kernel_rfl) ?_ _
          have TX := Lib.hid hHeld
          clear hHeld
          go_wp2_with fail
          refine held_S (S := TwoAt g i w3.heap.size w5.heap.size q f2 f1) 9 rfl (by kernel_rfl) (TX.out.drewN 1) (fun hHeld => ?_)
          simp only [Array.replicate_succ, Array.replicate_zero, List.push_toArray, List.nil_append, List.cons_append]
          refine wpAnyH_take (i := 0) (oi := ⟨some 97, _, _, _, _, _⟩) (v := .pointer (some ⟨d, 0, none⟩)) rfl (by kernel_rfl) (by kernel_rfl) (by kernel_rfl) (fun _ _ _ h => h) (Or.inl ⟨by rfl, fun w' hw => by have h0 := hw.c0; have h1 := hw.c1; go_simp⟩) hHeld ?_
          try simp only [Act.put, List.setIfInBounds_toArray, List.set_cons_zero, List.set_cons_succ]
          refine wpAnyH_take (i := 1) (oi := ⟨some 98, _, _, _, _, _⟩) (v := .int .i64 (r : Int)) rfl (by kernel_rfl) (by kernel_rfl) (by kernel_rfl) (fun _ _ _ h => h) (Or.inl ⟨by rfl, fun w' hw => by have h0 := hw.c0; have h1 := hw.c1; go_simp⟩) hHeld ?_
          try simp only [Act.put, List.setIfInBounds_toArray, List.set_cons_zero, List.set_cons_succ]
          refine wpAnyH_take (i := 2) (oi := ⟨some 99, _, _, _, _, _⟩) (v := .slice (some ⟨g, 0, none⟩) ps.length cap) rfl (by kernel_rfl) (by kernel_rfl) (by kernel_rfl) (fun _ _ _ h => h) (Or.inl ⟨by rfl, fun w' hw => by have h0 := hw.c0; have h1 := hw.c1; go_simp⟩) hHeld ?_
          try simp only [Act.put, List.setIfInBounds_toArray, List.set_cons_zero, List.set_cons_succ]
          refine wpAnyH_take (i := 3) (oi := ⟨some 100, _, _, _, _, _⟩) (v := .int .i64 (i : Int)) rfl (by kernel_rfl) (by kernel_rfl) (by kernel_rfl) (fun _ _ _ h => h) (Or.inl ⟨by rfl, fun w' hw => by have h0 := hw.c0; have h1 := hw.c1; go_simp⟩) hHeld ?_
          try simp only [Act.put, List.setIfInBounds_toArray, List.set_cons_zero, List.set_cons_succ]
          refine wpAnyH_take (i := 4) (oi := ⟨some 101, _, _, _, _, _⟩) (v := .pointer (some ⟨g, i * 3, none⟩)) rfl (by kernel_rfl) (by kernel_rfl) (by kernel_rfl) (fun _ _ _ h => h) (Or.inl ⟨by rfl, fun w' hw => by have h0 := hw.c0; have h1 := hw.c1; go_simp⟩) hHeld ?_
          try simp only [Act.put, List.setIfInBounds_toArray, List.set_cons_zero, List.set_cons_succ]
          refine wpAnyH_take (i := 5) (oi := ⟨some 102, _, _, _, _, _⟩) (v := .pointer (some ⟨g, i * 3 + 1, none⟩)) rfl (by kernel_rfl) (by kernel_rfl) (by kernel_rfl) (fun _ _ _ h => h) (Or.inl ⟨by rfl, fun w' hw => by have h0 := hw.c0; have h1 := hw.c1; go_simp⟩) hHeld ?_
          try simp only [Act.put, List.setIfInBounds_toArray, List.set_cons_zero, List.set_cons_succ]
          refine wpAnyH_take (i := 6) (oi := ⟨some 103, _, _, _, _, _⟩) (v := .int .i64 (q.2.1 : Nat)) rfl (by kernel_rfl) (by kernel_rfl) (by kernel_rfl) (fun _ _ _ h => h) (Or.inl ⟨by rfl, fun w' hw => by have h0 := hw.c0; have h1 := hw.c1; go_simp⟩) hHeld ?_
          try simp only [Act.put, List.setIfInBounds_toArray, List.set_cons_zero, List.set_cons_succ]
          refine take_row 7 (CA f1).toList rfl (by kernel_rfl) (by kernel_rfl) (by kernel_rfl) (fun _ _ _ h => h) (by rfl) _ _ rfl _ _ rfl _ (fun _ h => h.r2) Try.underlying40 rfl (infoCellL f1) hHeld ?_
          try simp only [Act.put, List.setIfInBounds_toArray, List.set_cons_zero, List.set_cons_succ]
          refine one_ready 8 rfl (by kernel_rfl) (fun K hK => ?_)
          go_simp
          refine (mix_rwrite _ p d M M3 _ (r : Int) (q.2.1 : Nat) f1 (HD9.out.drewN 1) (by have := HEL.out; omega)).mono ?_
          rintro e w10 ⟨rfl, ho, hk⟩
          rw [HST.out] at ho
          have hT9 := hHeld.kept hk (.inl (.inl hgX)) (.inl (.inr rfl)) (.inr rfl)
          have HE := Lib.hid (show RrunAt w w1 X p M d N r κ ps (i + 1) w10 from ⟨ho.weak (fun i hi => .inl (.inl hi)), (HK9.out.drewN 1).trans (Kept.mono hk (fun i (hi : more X w w1 i) => .inl (.inl hi)))⟩)
          clear ho hk HK9 HD9
          refine hK.out _ _ hT9 (fun hHeld => ?_)
          clear hK K hT9
          refine wpAnyH_done (by kernel_rfl) ?_ _
          go_wp2_with fail
          go_roundw
          case rel => exact ⟨i + 1, by go_num, by omega, HE.out⟩
          case measure => simp [intOf]; omega
        · have hT : turned κ true f1 f2 = false := by unfold turned; simp; omega
          rw [hT, if_neg (by decide)] at HF1 HF2
          obtain rfl : f1 = F1 := HF1.out
          obtain rfl : f2 = F2 := HF2.out
          have hdd : decide (f2 κ < f1 κ) = false := decide_eq_false hd
          go_wp2_with fail
          go_quiet (fail)
          have TX := Lib.hid (HX6.out.drewN nq)
          have HD8 := Lib.hid (HD6.out.drewN nq)
          have HK8 := Lib.hid (HK6.out.drewN nq)
          clear HX6 HD6 HK6 HT1 HT2 z2 e1 e2
          generalize w6.drewN nq = w8 at *
          go_wp2_with fail
          refine held_S (S := TwoAt g i w3.heap.size w5.heap.size q f1 f2) 9 rfl (by kernel_rfl) (TX.out.drewN 1) (fun hHeld => ?_)
          simp only [Array.replicate_succ, Array.replicate_zero, List.push_toArray, List.nil_append, List.cons_append]
          refine wpAnyH_take (i := 0) (oi := ⟨some 88, _, _, _, _, _⟩) (v := .pointer (some ⟨d, 0, none⟩)) rfl (by kernel_rfl) (by kernel_rfl) (by kernel_rfl) (fun _ _ _ h => h) (Or.inl ⟨by rfl, fun w' hw => by have h0 := hw.c0; have h1 := hw.c1; go_simp⟩) hHeld ?_
          try simp only [Act.put, List.setIfInBounds_toArray, List.set_cons_zero, List.set_cons_succ]
          refine wpAnyH_take (i := 1) (oi := ⟨some 89, _, _, _, _, _⟩) (v := .int .i64 (r : Int)) rfl (by kernel_rfl) (by kernel_rfl) (by kernel_rfl) (fun _ _ _ h => h) (Or.inl ⟨by rfl, fun w' hw => by have h0 := hw.c0; have h1 := hw.c1; go_simp⟩) hHeld ?_
          try simp only [Act.put, List.setIfInBounds_toArray, List.set_cons_zero, List.set_cons_succ]
          refine wpAnyH_take (i := 2) (oi := ⟨some 90, _, _, _, _, _⟩) (v := .slice (some ⟨g, 0, none⟩) ps.length cap) rfl (by kernel_rfl) (by kernel_rfl) (by kernel_rfl) (fun _ _ _ h => h) (Or.inl ⟨by rfl, fun w' hw => by have h0 := hw.c0; have h1 := hw.c1; go_simp⟩) hHeld ?_
          try simp only [Act.put, List.setIfInBounds_toArray, List.set_cons_zero, List.set_cons_succ]
          refine wpAnyH_take (i := 3) (oi := ⟨some 91, _, _, _, _, _⟩) (v := .int .i64 (i : Int)) rfl (by kernel_rfl) (by kernel_rfl) (by kernel_rfl) (fun _ _ _ h => h) (Or.inl ⟨by rfl, fun w' hw => by have h0 := hw.c0; have h1 := hw.c1; go_simp⟩) hHeld ?_
          try simp only [Act.put, List.setIfInBounds_toArray, List.set_cons_zero, List.set_cons_succ]
          refine wpAnyH_take (i := 4) (oi := ⟨some 92, _, _, _, _, _⟩) (v := .pointer (some ⟨g, i * 3, none⟩)) rfl (by kernel_rfl) (by kernel_rfl) (by kernel_rfl) (fun _ _ _ h => h) (Or.inl ⟨by rfl, fun w' hw => by have h0 := hw.c0; have h1 := hw.c1; go_simp⟩) hHeld ?_
          try simp only [Act.put, List.setIfInBounds_toArray, List.set_cons_zero, List.set_cons_succ]
          refine wpAnyH_take (i := 5) (oi := ⟨some 93, _, _, _, _, _⟩) (v := .pointer (some ⟨g, i * 3, none⟩)) rfl (by kernel_rfl) (by kernel_rfl) (by kernel_rfl) (fun _ _ _ h => h) (Or.inl ⟨by rfl, fun w' hw => by have h0 := hw.c0; have h1 := hw.c1; go_simp⟩) hHeld ?_
          try simp only [Act.put, List.setIfInBounds_toArray, List.set_cons_zero, List.set_cons_succ]
          refine wpAnyH_take (i := 6) (oi := ⟨some 94, _, _, _, _, _⟩) (v := .int .i64 (q.1 : Nat)) rfl (by kernel_rfl) (by kernel_rfl) (by kernel_rfl) (fun _ _ _ h => h) (Or.inl ⟨by rfl, fun w' hw => by have h0 := hw.c0; have h1 := hw.c1; go_simp⟩) hHeld ?_
          try simp only [Act.put, List.setIfInBounds_toArray, List.set_cons_zero, List.set_cons_succ]
          refine take_row 7 (CA f1).toList rfl (by kernel_rfl) (by kernel_rfl) (by kernel_rfl) (fun _ _ _ h => h) (by rfl) _ _ rfl _ _ rfl _ (fun _ h => h.r1) Try.underlying40 rfl (infoCellL f1) hHeld ?_
          try simp only [Act.put, List.setIfInBounds_toArray, List.set_cons_zero, List.set_cons_succ]
          refine one_ready 8 rfl (by kernel_rfl) (fun K hK => ?_)
          go_simp
          refine (mix_rwrite _ p d M M2 _ (r : Int) (q.1 : Nat) f1 (HD8.out.drewN 1) (by have := HEL.out; omega)).mono ?_
          rintro e w9 ⟨rfl, ho, hk⟩
          obtain ⟨M3, hM3⟩ : ∃ N, M2.write (r : Int) (q.1 : Nat) f1 = N := ⟨_, rfl⟩
          have hl3 : M3.es.length ≤ M0.es.length + 3 := by rw [← hM3]; have := len_write M2 (r : Int) (q.1 : Nat) f1; omega
          rw [hM3] at ho HST
          have hT9 := hHeld.kept hk (.inl (.inl hgX)) (.inl (.inr rfl)) (.inr rfl)
          have HK9 := Lib.hid ((HK8.out.drewN 1).trans (Kept.mono hk (fun i (hi : more X w w1 i) => .inl (.inl hi))))
          have HD9 := Lib.hid ho
          clear ho hk hM3 HD8 HK8 TX
          refine hK.out _ _ hT9 (fun hHeld => ?_)
          clear hK K hT9
          refine wpAnyH_done (by kernel_rfl) ?_ _
          have TX := Lib.hid hHeld
          clear hHeld
          go_wp2_with fail
          refine held_S (S := TwoAt g i w3.heap.size w5.heap.size q f1 f2) 9 rfl (by kernel_rfl) (TX.out.drewN 1) (fun hHeld => ?_)
          simp only [Array.replicate_succ, Array.replicate_zero, List.push_toArray, List.nil_append, List.cons_append]
          refine wpAnyH_take (i := 0) (oi := ⟨some 97, _, _, _, _, _⟩) (v := .pointer (some ⟨d, 0, none⟩)) rfl (by kernel_rfl) (by kernel_rfl) (by kernel_rfl) (fun _ _ _ h => h) (Or.inl ⟨by rfl, fun w' hw => by have h0 := hw.c0; have h1 := hw.c1; go_simp⟩) hHeld ?_
          try simp only [Act.put, List.setIfInBounds_toArray, List.set_cons_zero, List.set_cons_succ]
          refine wpAnyH_take (i := 1) (oi := ⟨some 98, _, _, _, _, _⟩) (v := .int .i64 (r : Int)) rfl (by kernel_rfl) (by kernel_rfl) (by kernel_rfl) (fun _ _ _ h => h) (Or.inl ⟨by rfl, fun w' hw => by have h0 := hw.c0; have h1 := hw.c1; go_simp⟩) hHeld ?_
          try simp only [Act.put, List.setIfInBounds_toArray, List.set_cons_zero, List.set_cons_succ]
          refine wpAnyH_take (i := 2) (oi := ⟨some 99, _, _, _, _, _⟩) (v := .slice (some ⟨g, 0, none⟩) ps.length cap) rfl (by kernel_rfl) (by kernel_rfl) (by kernel_rfl) (fun _ _ _ h => h) (Or.inl ⟨by rfl, fun w' hw => by have h0 := hw.c0; have h1 := hw.c1; go_simp⟩) hHeld ?_
          try simp only [Act.put, List.setIfInBounds_toArray, List.set_cons_zero, List.set_cons_succ]
          refine wpAnyH_take (i := 3) (oi := ⟨some 100, _, _, _, _, _⟩) (v := .int .i64 (i : Int)) rfl (by kernel_rfl) (by kernel_rfl) (by kernel_rfl) (fun _ _ _ h => h) (Or.inl ⟨by rfl, fun w' hw => by have h0 := hw.c0; have h1 := hw.c1; go_simp⟩) hHeld ?_
          try simp only [Act.put, List.setIfInBounds_toArray, List.set_cons_zero, List.set_cons_succ]
          refine wpAnyH_take (i := 4) (oi := ⟨some 101, _, _, _, _, _⟩) (v := .pointer (some ⟨g, i * 3, none⟩)) rfl (by kernel_rfl) (by kernel_rfl) (by kernel_rfl) (fun _ _ _ h => h) (Or.inl ⟨by rfl, fun w' hw => by have h0 := hw.c0; have h1 := hw.c1; go_simp⟩) hHeld ?_
          try simp only [Act.put, List.setIfInBounds_toArray, List.set_cons_zero, List.set_cons_succ]
          refine wpAnyH_take (i := 5) (oi := ⟨some 102, _, _, _, _, _⟩) (v := .pointer (some ⟨g, i * 3 + 1, none⟩)) rfl (by kernel_rfl) (by kernel_rfl) (by kernel_rfl) (fun _ _ _ h => h) (Or.inl ⟨by rfl, fun w' hw => by have h0 := hw.c0; have h1 := hw.c1; go_simp⟩) hHeld ?_
          try simp only [Act.put, List.setIfInBounds_toArray, List.set_cons_zero, List.set_cons_succ]
          refine wpAnyH_take (i := 6) (oi := ⟨some 103, _, _, _, _, _⟩) (v := .int .i64 (q.2.1 : Nat)) rfl (by kernel_rfl) (by kernel_rfl) (by kernel_rfl) (fun _ _ _ h => h) (Or.inl ⟨by rfl, fun w' hw => by have h0 := hw.c0; have h1 := hw.c1; go_simp⟩) hHeld ?_
          try simp only [Act.put, List.setIfInBounds_toArray, List.set_cons_zero, List.set_cons_succ]
          refine take_row 7 (CA f2).toList rfl (by kernel_rfl) (by kernel_rfl) (by kernel_rfl) (fun _ _ _ h => h) (by rfl) _ _ rfl _ _ rfl _ (fun _ h => h.r2) Try.underlying40 rfl (infoCellL f2) hHeld ?_
          try simp only [Act.put, List.setIfInBounds_toArray, List.set_cons_zero, List.set_cons_succ]
          refine one_ready 8 rfl (by kernel_rfl) (fun K hK => ?_)
          go_simp
          refine (mix_rwrite _ p d M M3 _ (r : Int) (q.2.1 : Nat) f2 (HD9.out.drewN 1) (by have := HEL.out; omega)).mono ?_
          rintro e w10 ⟨rfl, ho, hk⟩
          rw [HST.out] at ho
          have hT9 := hHeld.kept hk (.inl (.inl hgX)) (.inl (.inr rfl)) (.inr rfl)
          have HE := Lib.hid (show RrunAt w w1 X p M d N r κ ps (i + 1) w10 from ⟨ho.weak (fun i hi => .inl (.inl hi)), (HK9.out.drewN 1).trans (Kept.mono hk (fun i (hi : more X w w1 i) => .inl (.inl hi)))⟩)
          clear ho hk HK9 HD9
          refine hK.out _ _ hT9 (fun hHeld => ?_)
          clear hK K hT9
          refine wpAnyH_done (by kernel_rfl) ?_ _
          go_wp2_with fail
          go_roundw
          case rel => exact ⟨i + 1, by go_num, by omega, HE.out⟩
          case measure => simp [intOf]; omega
    · obtain rfl : i = ps.length := by omega
      have HE : Hid (Mix wr X p M d (N.sorted r κ ps) ∧ Kept X w wr) := by
        refine ⟨?_, (Kept.of_none HB.out).trans (HK.out.mono (fun i hi => .inl hi))⟩
        have := HD.out
        rw [List.take_length] at this
        exact this.weak (fun i hi => .inl hi)
      clear HD HK
      go_wp2_with fail
      go_ret
      exact ⟨rfl, HE.out.1, HE.out.2⟩
end Go.Proofs.Ytojdefaplekieaa
