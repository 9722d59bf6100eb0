/- sort.Run: a region sent through the network's pairs, or what is wrong; of the caller's own blocks nothing turns. Conditions: all words are words of 64 bits, fewer than a thousand million events. -/
import Derived.Test.YtojdefaplekieaaSortMem
namespace Go.Proofs.Ytojdefaplekieaa
open Go.RowKit Go.ChangeShapes Go.WideShapes Go.ChangeAt

/-- The blocks of the caller, and what came since. -/
def more (X : Nat → Prop) (w w1 : World) : Nat → Prop := fun i => X i ∨ (w.heap.size ≤ i ∧ i < w1.heap.size)
/-- Between two pairs. -/
def RunAt (w w1 : World) (X : Nat → Prop) (p : Nat) (M : MS) (r κ : Nat) (ps : List Pr) (i : Nat) (wr : World) : Prop := Own wr (more X w w1) p (M.sorted r κ (ps.take i)) ∧ Kept (more X w w1) w1 wr
/-- Pairs that lie in blocks that are kept. -/
theorem Prs.kept {w w' : World} {base : Nat} {A : Option Addr} {ps : List Pr} {g : Nat} {X : Nat → Prop} (h : Prs w base A ps g) (hk : Kept X w w') (hx : 0 < ps.length → X g) {i : Nat} (hi : i < ps.length) :
    w'.cell? ⟨g, i * 3, none⟩ = some (.int .i64 (ps[i].1 : Nat)) ∧ w'.cell? ⟨g, i * 3 + 1, none⟩ = some (.int .i64 (ps[i].2.1 : Nat)) ∧ w'.cell? ⟨g, i * 3 + 2, none⟩ = some (.bool ps[i].2.2) :=
  ⟨hk.cell (h.fst i hi) (hx (by omega)), hk.cell (h.snd i hi) (hx (by omega)), hk.cell (h.up i hi) (hx (by omega))⟩
theorem range_alloc_new (w : World) (f : Nat → Int) (t : TypeId) : (w.alloc (.cells (CA f) t)).rangeAt w.heap.size 0 (CA f).toList := rg_new w f t _ rfl
theorem none_of_ext {w w' : World} (h : Ext w w') : Only nobody w w' := Only.of_below h.below
/-- A store to a block of X. -/
theorem Kept.setCells {X : Nat → Prop} {w w' : World} (h : Kept X w w') (b : Nat) (vs : List Value) (hb : w.heap.size ≤ b) : Kept X w (w'.setCells b 0 vs) := only_setCells vs 0 w' h (.inr hb)
theorem Own.setCells {X : Nat → Prop} {w : World} {p : Nat} {M : MS} (h : Own w X p M) (b : Nat) (vs : List Value) (hb : X b) : Own (w.setCells b 0 vs) X p M :=
  h.only (only_setCells (S := just b) vs 0 w (Only.refl _ _) (.inl (just_self b))) (fun i hi => by rw [hi]; exact hb)
theorem Kept.there {X : Nat → Prop} {w w' : World} (h : Kept X w w') {b : Nat} {n : Nat} (ht : w.there b 0 n) (hb : X b) (hlt : b < w.heap.size) : w'.there b 0 n := fun j hj => by
  have e := h.block b hlt (fun k => k hb)
  obtain ⟨h1, h2⟩ := ht j hj
  exact ⟨by rw [World.cell?_of_block (w := w) e]; exact h1, by rw [World.frozen?_of_block e]; exact h2⟩
/-- What stands while one pair is looked at. -/
structure PairAt (b0 b1 b2 : Nat) (q : Pr) (F1 F2 : Nat → Int) (w' : World) : Prop where
  c0 : w'.cell? ⟨b0, 0, none⟩ = some (.int .i64 (q.1 : Nat))
  c1 : w'.cell? ⟨b0, 1, none⟩ = some (.int .i64 (q.2.1 : Nat))
  r1 : w'.rangeAt b1 0 (CA F1).toList
  r2 : w'.rangeAt b2 0 (CA F2).toList
theorem pair_at {b0 b1 b2 : Nat} {q : Pr} {F1 F2 : Nat → Int} {w : World} {t : TypeId} (hb : Box w b0 t #[.int .i64 (q.1 : Nat), .int .i64 (q.2.1 : Nat), .bool q.2.2]) (h1 : w.there b1 0 12) (h2 : w.there b2 0 12) (n1 : b0 ≠ b1) (n2 : b0 ≠ b2) (n3 : b1 ≠ b2) :
    PairAt b0 b1 b2 q F1 F2 ((w.setCells b1 0 (CA F1).toList).setCells b2 0 (CA F2).toList) := by
  have o : Only (fun i => i = b1 ∨ i = b2) w ((w.setCells b1 0 (CA F1).toList).setCells b2 0 (CA F2).toList) := only_setCells _ _ _ (only_setCells _ _ _ (Only.refl _ _) (.inl (.inl rfl))) (.inl (.inr rfl))
  have hb' := hb.only o (fun h => h.elim n1 n2)
  exact ⟨hb'.cell 0, hb'.cell 1, World.rangeAt_setCells_apart (World.rangeAt_setCells_same w b1 0 (CA F1).toList h1) _ _ _ (.inl n3), World.rangeAt_setCells_same _ b2 0 (CA F2).toList (World.there_setCells h2 _ _ _)⟩
theorem Box.alloc_lt {w : World} {p : Nat} {t : TypeId} {cs cs' : Array Value} {t' : TypeId} (h : Box (w.alloc (.cells cs' t')) p t cs) (hne : t ≠ t' := by decide) : p < w.heap.size := by
  have h1 := h.lt
  have h2 : p ≠ w.heap.size := Box.ne h (Box.new w t' cs') hne
  simp at h1
  omega
set_option maxRecDepth 100000 in
set_option maxHeartbeats 1000000 in
theorem run_right (X : Nat → Prop) (p : Nat) (M : MS) (r κ n k : Nat) (ps : List Pr) (w : World) (h : Own w X p M) (hN : Net (n : Int) k ps) (hR : isNet (n : Int) = true) (hW : Within n ps) (hr : r < M.k) (hs : n ≤ M.sz r) (hκ : κ < 12) (hwd : M.wd) (hl : M.es.length + ps.length * 4 < 1000000000) :
    Calls Try.prog 11 #[.pointer (some ⟨p, 0, none⟩), .int .i64 (r : Int), .int .i64 (n : Int), .int .i64 (κ : Int)] w (OwnPost w X p (M.sorted r κ ps) (.int .i64 0)) := by
  have HO := Lib.hid h
  have hsz : M.size (r : Int) = M.sz r := MS.size_nat hr
  have hps := hN.len
  have hpl : decide ((M.sz r : Int) < (n : Int)) = false := by simp; omega
  have hk1 : decide ((κ : Int) < 0) = false := decide_eq_false (by omega)
  have hk2 : decide (12 ≤ (κ : Int)) = false := decide_eq_false (by omega)
  have HW := Lib.hid hW
  have HWD := Lib.hid hwd
  have HL := Lib.hid hl
  clear h hW hwd hl
  go_enter Try.func11, Try.ntmps11
  go_wp2_with (first
    | (go_at_call 26; refine (right_any (n : Int) _).mono ?_; rintro e w1 ⟨rfl, hw⟩; obtain rfl := hw.symm; rw [hR])
    | (go_at_call 27; refine (own_size _ p M _ (r : Int) HO.out).mono ?_; rintro e w1 ⟨rfl, rfl⟩; rw [hsz])
    | (go_at_call 28; refine (pairs_any (n : Int) k ps hN _).mono ?_; rintro e w1 ⟨v, rfl, hown, hb⟩; obtain ⟨A, cap, g, rfl, hP⟩ := Prs.of hown; clear hown))
  have hn1 : Only nobody w w1 := Only.of_below hb
  have R0 : Hid (RunAt w w1 X p M r κ ps 0 w1) := by
    show RunAt w w1 X p M r κ ps 0 w1
    refine ⟨?_, Kept.refl _ _⟩
    rw [List.take_zero, sorted_nil]
    exact HO.out.grow hn1
  have HB := Lib.hid hn1
  have HP := Lib.hid hP
  clear hb hn1 hP
  go_loopw [34] (fun v wr => ∃ i : Nat, v = .int .i64 i ∧ i ≤ ps.length ∧ RunAt w w1 X p M r κ ps i wr) (fun v _ => ps.length - (intOf v).toNat)
  case atStart => exact ⟨0, rfl, Nat.zero_le _, R0.out⟩
  case round =>
    obtain ⟨i, rfl, hi, hD, hK⟩ := hrel
    have HD := Lib.hid hD
    have HK := Lib.hid hK
    clear hD hK R0
    by_cases hlt : i < ps.length
    · obtain rfl : A = some ⟨g, 0, none⟩ := HP.out.adr (by omega)
      have hgX : more X w w1 g := .inr (HP.out.base (by omega))
      obtain ⟨x0, x1, x2⟩ := HP.out.kept HK.out (fun _ => hgX) hlt
      have hq := HW.out _ (List.getElem_mem hlt)
      have hts := take_snoc ps i hlt
      obtain ⟨q, hqe⟩ : ∃ q, ps[i] = q := ⟨_, rfl⟩
      rw [hqe] at x0 x1 x2 hq hts
      have HST := Lib.hid (sorted_step M r κ (ps.take i) q hr hq.1 (by omega))
      rw [← hts] at HST
      have hel : (M.sorted r κ (ps.take i)).es.length + 4 < 1000000000 := by
        have h1 := HL.out
        rw [sorted_len, List.length_take]; omega
      have HEL := Lib.hid hel
      have HWS : Hid ((M.sorted r κ (ps.take i)).wd) := wd_sorted HWD.out r κ _ ⟨n, fun x hx => HW.out x (List.mem_of_mem_take hx)⟩
      clear hqe hts hel
      generalize M.sorted r κ (ps.take i) = M0 at *
      have HD2 := Lib.hid (HD.out.alloc (.cells #[.int .i64 (q.1 : Nat), .int .i64 (q.2.1 : Nat), .bool q.2.2] 64))
      have HBX := Lib.hid (Box.new wr 64 #[.int .i64 (q.1 : Nat), .int .i64 (q.2.1 : Nat), .bool q.2.2])
      go_wp2_with fail
      refine (own_read _ p M0 _ (r : Int) (q.1 : Nat) HD2.out (by have := HEL.out; omega)).mono ?_
      rintro e w3 ⟨rfl, ho, hk⟩
      obtain ⟨f1, hf1⟩ : ∃ f, M0.cell (r : Int) (q.1 : Nat) = f := ⟨_, rfl⟩
      obtain ⟨M1, hM1⟩ : ∃ N, M0.read (r : Int) (q.1 : Nat) = N := ⟨_, rfl⟩
      have hl1 : M1.es.length ≤ M0.es.length + 1 := by rw [← hM1]; exact len_read M0 _ _
      have HW1 : Hid (Wd f1) := by show Wd f1; rw [← hf1]; exact wd_cell HWS.out _ _
      have HV1 : Hid M1.wd := by show M1.wd; rw [← hM1]; exact wd_read HWS.out _ _
      rw [hM1] at ho
      rw [hf1, hM1] at HST
      rw [hf1]
      have hb3 := hk.box HBX.out (.inr rfl)
      have HK3 := Lib.hid ((Kept.mono (hk) (fun i (hi : more X w w1 i) => .inl hi)))
      have HK3 := Lib.hid ((HK.out.alloc (.cells #[.int .i64 (q.1 : Nat), .int .i64 (q.2.1 : Nat), .bool q.2.2] 64)).trans HK3.out)
      have HD4 := Lib.hid (ho.alloc (.cells (CA f1) 40))
      have hb4 := hb3.alloc (.cells (CA f1) 40)
      have HBX4 := Lib.hid hb4
      have y1 : (w3.alloc (.cells (CA f1) 40)).cell? ⟨wr.heap.size, 1, none⟩ = some (.int .i64 (q.2.1 : Nat)) := hb4.cell 1
      clear ho hk hf1 hM1 hb3 hb4 HBX HD2 HD
      go_wp2_with (with_reducible refine wpList_store_new rfl (.tmp 11) (.tmp 42) rfl rfl f1 rfl rfl ?_)
      refine (own_read _ p M1 _ (r : Int) (q.2.1 : Nat) HD4.out (by have := HEL.out; omega)).mono ?_
      rintro e w5 ⟨rfl, ho, hk⟩
      obtain ⟨f2, hf2⟩ : ∃ f, M1.cell (r : Int) (q.2.1 : Nat) = f := ⟨_, rfl⟩
      obtain ⟨M2, hM2⟩ : ∃ N, M1.read (r : Int) (q.2.1 : Nat) = N := ⟨_, rfl⟩
      have hl2 : M2.es.length ≤ M0.es.length + 2 := by rw [← hM2]; have := len_read M1 (r : Int) (q.2.1 : Nat); omega
      have HW2 : Hid (Wd f2) := by show Wd f2; rw [← hf2]; exact wd_cell HV1.out _ _
      rw [hM2] at ho
      rw [hf2, hM2] at HST
      rw [hf2]
      have hs3 : wr.heap.size < w3.heap.size := HBX4.out.alloc_lt
      have hs5 : w3.heap.size < w5.heap.size := by have := hk.size; simp at this; omega
      have hb6 := (hk.box HBX4.out (.inl (.inr rfl))).alloc (.cells (CA f2) 40)
      have HR1 := Lib.hid (World.rangeAt_alloc (hk.range (range_alloc_new w3 f1 40) (.inr rfl)) (.cells (CA f2) 40))
      have HT1 := Lib.hid (World.there_alloc (hk.there (there_new w3 f1 40 _ rfl) (.inr rfl) (by simp)) (.cells (CA f2) 40))
      have HR2 := Lib.hid (range_alloc_new w5 f2 40)
      have HT2 := Lib.hid (there_new w5 f2 40 _ rfl)
      have HK5 := Lib.hid (((HK3.out.alloc (.cells (CA f1) 40)).trans (Kept.mono hk (fun i (hi : more X w w1 i) => .inl (.inl hi)))).alloc (.cells (CA f2) 40))
      have HD6 := Lib.hid (ho.alloc (.cells (CA f2) 40))
      have HBX6 := Lib.hid hb6
      have y2 : (w5.alloc (.cells (CA f2) 40)).cell? ⟨wr.heap.size, 2, none⟩ = some (.bool q.2.2) := hb6.cell 2
      clear ho hk hf2 hM2 hb6 HBX4 HD4 HK3 y1
      go_wp2_with (first | with_reducible refine wpList_store_new rfl (.tmp 12) (.tmp 47) rfl rfl f2 rfl rfl ?_ | with_reducible refine wpList_load_cell rfl (.tmp 11) rfl w3.heap.size 0 rfl f1 HR1.out ?_ | with_reducible refine wpList_load_cell rfl (.tmp 12) rfl w5.heap.size 0 rfl f2 HR2.out ?_)
      refine (order_any q.2.2 κ f1 f2 _ hκ HW1.out HW2.out).mono ?_
      obtain ⟨F1, hF1⟩ : ∃ F, (if turned κ q.2.2 f1 f2 then f2 else f1) = F := ⟨_, rfl⟩
      obtain ⟨F2, hF2⟩ : ∃ F, (if turned κ q.2.2 f1 f2 then f1 else f2) = F := ⟨_, rfl⟩
      rw [hF1, hF2] at HST
      rw [hF1, hF2]
      clear hF1 hF2 HW1 HW2 HR1 HR2
      rintro e w7 ⟨rfl, hx⟩
      have ho7 := none_of_ext hx
      have HX8 : Hid (PairAt wr.heap.size w3.heap.size w5.heap.size q F1 F2 ((w7.setCells w3.heap.size 0 (CA F1).toList).setCells w5.heap.size 0 (CA F2).toList)) := pair_at (HBX6.out.only ho7 (not_nobody _)) (hx.there (by simp; omega) HT1.out) (hx.there (by simp) HT2.out) (by omega) (by omega) (by omega)
      have HD8 := Lib.hid (((HD6.out.none ho7).setCells w3.heap.size (CA F1).toList (.inl (.inr rfl))).setCells w5.heap.size (CA F2).toList (.inr rfl))
      have HK8 := Lib.hid (((HK5.out.trans (Kept.of_none ho7)).setCells w3.heap.size (CA F1).toList (by have := HK.out.size; omega)).setCells w5.heap.size (CA F2).toList (by have := HK.out.size; omega))
      have t1 := hx.there (by simp; omega) HT1.out
      have t2 := hx.there (by simp) HT2.out
      have T1 := Lib.hid t1
      have T2 := Lib.hid (World.there_setCells t2 w3.heap.size 0 (CA F1).toList)
      have hs7 : w5.heap.size < w7.heap.size := by have := hx.size; simp at this; omega
      clear ho7 hx HBX6 HT1 HT2 HD6 HK5 y2 t1 t2
      have z0 := HX8.out.c0
      go_wp2_with (first | with_reducible refine wpList_store_cell rfl (.tmp 11) (.tmp 55) rfl w3.heap.size 0 rfl F1 rfl T1.out ?_ | with_reducible refine wpList_store_cell rfl (.tmp 12) (.tmp 56) rfl w5.heap.size 0 rfl F2 rfl T2.out ?_ | with_reducible refine wpList_load_cell rfl (.tmp 11) rfl w3.heap.size 0 rfl F1 HX8.out.r1 ?_)
      clear z0
      refine (own_write _ p M2 _ (r : Int) (q.1 : Nat) F1 HD8.out (by have := HEL.out; omega)).mono ?_
      rintro e w9 ⟨rfl, ho, hk⟩
      obtain ⟨M3, hM3⟩ : ∃ N, M2.write (r : Int) (q.1 : Nat) F1 = N := ⟨_, rfl⟩
      have hl3 : M3.es.length ≤ M0.es.length + 3 := by rw [← hM3]; have := len_write M2 (r : Int) (q.1 : Nat) F1; omega
      rw [hM3] at ho HST
      have z1 := hk.cell HX8.out.c1 (.inl (.inl (.inr rfl)))
      have HR2 := Lib.hid (hk.range HX8.out.r2 (.inr rfl))
      have HK9 := Lib.hid (HK8.out.trans (Kept.mono hk (fun i (hi : more X w w1 i) => .inl (.inl (.inl hi)))))
      have HD9 := Lib.hid ho
      clear ho hk hM3 HX8 HD8 HK8 T1 T2
      go_wp2_with (first | with_reducible refine wpList_load_cell rfl (.tmp 12) rfl w5.heap.size 0 rfl F2 HR2.out ?_)
      clear z1
      refine (own_write _ p M3 _ (r : Int) (q.2.1 : Nat) F2 HD9.out (by have := HEL.out; omega)).mono ?_
      rintro e w10 ⟨rfl, ho, hk⟩
      rw [HST.out] at ho
      have HE := Lib.hid (show RunAt w w1 X p M r κ ps (i + 1) w10 from ⟨ho.weak (fun i hi => .inl (.inl (.inl hi))), HK9.out.trans (Kept.mono hk (fun i (hi : more X w w1 i) => .inl (.inl (.inl hi))))⟩)
      clear ho hk HK9 HD9 HR2
      go_wp2_with fail
      go_roundw
      case rel => exact ⟨i + 1, by go_num, by omega, HE.out⟩
      case measure => simp [intOf]; omega
    · obtain rfl : i = ps.length := by omega
      have HE : Hid (Own wr X p (M.sorted r κ ps) ∧ Kept X w wr) := by
        refine ⟨?_, (Kept.of_none HB.out).trans (HK.out.mono (fun i hi => .inl hi))⟩
        have := HD.out
        rw [List.take_length] at this
        exact this.weak (fun i hi => .inl hi)
      clear HD HK
      go_wp2_with fail
      go_ret
      exact ⟨rfl, HE.out.1, HE.out.2⟩
end Go.Proofs.Ytojdefaplekieaa
