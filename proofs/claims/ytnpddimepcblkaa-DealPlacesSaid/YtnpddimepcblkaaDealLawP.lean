/- DealPlaces: for every input the law returns true, and of what was in memory nothing changes. -/
import Derived.Test.YtnpddimepcblkaaDealShown
import Derived.Test.YtnpddimepcblkaaRefDeal
import Derived.Test.YtnpddimepcblkaaHeld
namespace Go.Proofs.Ytnpddimepcblkaa
open Go.RowKit Go.ChangeShapes Go.WideShapes Go.ChangeAt

/-- What Deal tells: of a right shape and as many items as places, who goes where, and who is lost; else nothing. -/
def DSpec (D S T : Int) (n : Nat) (y : Nat → It) (k : Nat) (z : Nat → Int) (j : Nat) (u : Nat → Int) : Prop :=
  (∃ d s t : Nat, D = d ∧ S = s ∧ T = t ∧ d ≤ 10 ∧ 1 ≤ s ∧ s ≤ 8 ∧ 1 ≤ t ∧ t ≤ 64 ∧ n = (d + 1) * s + t + 1 ∧ ∃ o, IsOrd y n o ∧ k = n ∧ (∀ i, z i = (outP (goes y s d t o) n i : Nat)) ∧ j = (lostO y s d t o).length ∧ ∀ i, u i = ((lostO y s d t o).getD i 0 : Nat)) ∨
  ((∀ d s t : Nat, D = d → S = s → T = t → d ≤ 10 → 1 ≤ s → s ≤ 8 → 1 ≤ t → t ≤ 64 → n ≠ (d + 1) * s + t + 1) ∧ k = 0 ∧ j = 0)
theorem DSpec.same {D S T : Int} {n k k' j j' : Nat} {y : Nat → It} {z z' u u' : Nat → Int} (h : DSpec D S T n y k z j u) (h' : DSpec D S T n y k' z' j' u') : k' = k ∧ (∀ i, i < k → z' i = z i) ∧ j' = j ∧ ∀ i, i < j → u' i = u i := by
  rcases h with ⟨d, s, t, rfl, rfl, rfl, h1, h2, h3, h4, h5, hn, o, ho, rfl, hz, rfl, hu⟩ | ⟨hno, rfl, rfl⟩
  · rcases h' with ⟨d', s', t', e1, e2, e3, _, _, _, _, _, hn', o', ho', rfl, hz', rfl, hu'⟩ | ⟨hno', rfl, rfl⟩
    · obtain rfl : d' = d := by omega
      obtain rfl : s' = s := by omega
      obtain rfl : t' = t := by omega
      obtain rfl := ho.only ho'
      exact ⟨rfl, fun i _ => by rw [hz, hz'], rfl, fun i _ => by rw [hu, hu']⟩
    · exact absurd hn (hno' d s t rfl rfl rfl h1 h2 h3 h4 h5)
  · rcases h' with ⟨d', s', t', e1, e2, e3, a1, a2, a3, a4, a5, hn', o', ho', rfl, hz', rfl, hu'⟩ | ⟨hno', rfl, rfl⟩
    · exact absurd hn' (hno d' s' t' e1 e2 e3 a1 a2 a3 a4 a5)
    · exact ⟨rfl, fun i hi => by omega, rfl, fun i hi => by omega⟩
def DGot (w : World) (D S T : Int) (n : Nat) (y : Nat → It) (e : Ending) (w' : World) : Prop :=
  ∃ (k : Nat) (z : Nat → Int) (j : Nat) (u : Nat → Int) (A : Option Addr) (ca : Nat) (B : Option Addr) (cb : Nat), (DSpec D S T n y k z j u ∧ k ≤ 1000 ∧ j ≤ 1000) ∧ e = .returned (.tuple #[.slice A k ca, .slice B j cb]) ∧ Nums .i64 w' w'.heap.size A k z ∧ Nums .i64 w' w'.heap.size B j u ∧ Below w.heap.size w w'
theorem lost_le {y : Nat → It} {n S D T : Nat} {o : List Nat} (ho : IsOrd y n o) : (lostO y S D T o).length ≤ n := by
  have h1 := (lostL_sub (reals y o) (plc y S D T o)).length_le
  have h2 := reals_len ho
  unfold lostO
  omega
theorem DGot.of_post {w w' : World} {n D S T : Nat} {y : Nat → It} {e : Ending} (h1 : D ≤ 10) (h2 : 1 ≤ S) (h3 : S ≤ 8) (h4 : 1 ≤ T) (h5 : T ≤ 64) (hn : n = (D + 1) * S + T + 1) (h : DlPost w n D S T y e w') : DGot w (D : Int) (S : Int) (T : Int) n y e w' := by
  obtain ⟨o, g, A, cap, ho, rfl, hir, hnu, hb⟩ := h
  have := (mul_places h1 h3 rfl).2
  have h6 := lost_le (S := S) (D := D) (T := T) ho
  exact ⟨n, _, _, _, some ⟨g, 0, none⟩, n, A, cap, ⟨.inl ⟨D, S, T, rfl, rfl, rfl, h1, h2, h3, h4, h5, hn, o, ho, rfl, fun _ => rfl, rfl, fun _ => rfl⟩, by omega, by omega⟩, rfl, hir.nums (Nat.le_refl _), hnu, hb⟩
theorem DGot.of_no {w w' : World} {n : Nat} {D S T : Int} {y : Nat → It} {e : Ending} (hno : ∀ d s t : Nat, D = d → S = s → T = t → d ≤ 10 → 1 ≤ s → s ≤ 8 → 1 ≤ t → t ≤ 64 → n ≠ (d + 1) * s + t + 1)
    (h : e = .returned (.tuple #[.slice none 0 0, .slice none 0 0]) ∧ Below w.heap.size w w') : DGot w D S T n y e w' :=
  ⟨0, fun _ => 0, 0, fun _ => 0, none, 0, none, 0, ⟨.inr ⟨hno, rfl, rfl⟩, by omega, by omega⟩, h.1, fun h => by omega, fun h => by omega, h.2⟩
theorem deal_got (D S T : Int) (n c : Nat) (a : Option Addr) (y : Nat → It) (w : World) (hI : Its w w.heap.size a n y) (hy : ∀ j, j < n → (y j).2 ≤ 9223372036854775807) :
    Calls Try.prog 8 #[.agg #[.int .i64 D, .int .i64 S, .int .i64 T], .slice a n c] w (DGot w D S T n y) := by
  cases hsh : isSh D S T
  · refine (deal_no D S T n c a w hsh).mono fun e w' h => DGot.of_no (fun d s t e1 e2 e3 h1 h2 h3 h4 h5 => ?_) h
    rw [e1, e2, e3, isSh_yes h1 h2 h3 h4 h5] at hsh
    cases hsh
  · obtain ⟨d, s, t, rfl, rfl, rfl, h1, h2, h3, h4, h5⟩ := (isSh_iff D S T).1 hsh
    by_cases hn : n = (d + 1) * s + t + 1
    · exact (deal_in d s t _ n c a y w h1 h2 h3 h4 h5 rfl hn.symm hI hy).mono fun e w' h => DGot.of_post h1 h2 h3 h4 h5 hn h
    · refine (deal_many d s t _ _ n c a w h1 h2 h3 h4 h5 rfl rfl hn).mono fun e w' h => DGot.of_no (fun d' s' t' e1 e2 e3 _ _ _ _ _ e => hn ?_) h
      obtain rfl : d = d' := by omega
      obtain rfl : s = s' := by omega
      obtain rfl : t = t' := by omega
      exact e
set_option maxHeartbeats 1000000 in
theorem rdeal_no (D S T : Int) (n c : Nat) (a : Option Addr) (w : World) (h : isSh D S T = false) :
    Calls Try.prog 9 #[.agg #[.int .i64 D, .int .i64 S, .int .i64 T], .slice a n c] w fun e w' => e = .returned (.tuple #[.slice none 0 0, .slice none 0 0]) ∧ Below w.heap.size w w' := by
  go_enter Try.func9, Try.ntmps9
  go_wp2_with fail
  refine (ref_right D S T _).mono ?_
  rintro e w1 ⟨rfl, hb1⟩
  rw [h]
  have HB := Lib.hid (((Below.refl _ w).alloc (Nat.le_refl _) (.cells #[.int .i64 D, .int .i64 S, .int .i64 T] 26)).trans (hb1.mono (by simp)))
  clear hb1
  go_wp2_with fail
  go_ret2
  exact ⟨rfl, HB.out⟩
set_option maxHeartbeats 1000000 in
theorem rdeal_many (D S T L m n c : Nat) (a : Option Addr) (w : World) (h1 : D ≤ 10) (h2 : 1 ≤ S) (h3 : S ≤ 8) (h4 : 1 ≤ T) (h5 : T ≤ 64) (hL : (D + 1) * S = L) (hm : L + T + 1 = m) (hn : n ≠ m) :
    Calls Try.prog 9 #[.agg #[.int .i64 (D : Int), .int .i64 (S : Int), .int .i64 (T : Int)], .slice a n c] w fun e w' => e = .returned (.tuple #[.slice none 0 0, .slice none 0 0]) ∧ Below w.heap.size w w' := by
  have hsh := isSh_yes h1 h2 h3 h4 h5
  have HP := Lib.hid (fun W => ref_places D S T L m h1 h2 h3 h4 h5 hL hm W)
  have hne : ((n : Int) != (m : Int)) = true := by rw [bne_iff_ne]; omega
  clear hL hm
  go_enter Try.func9, Try.ntmps9
  go_wp2_with fail
  refine (ref_right (D : Int) (S : Int) (T : Int) _).mono ?_
  rintro e w1 ⟨rfl, hb1⟩
  rw [hsh]
  have hbx := (Box.new w 26 #[.int .i64 (D : Int), .int .i64 (S : Int), .int .i64 (T : Int)]).of (hb1.block _ (by simp))
  have HB := Lib.hid (((Below.refl _ w).alloc (Nat.le_refl _) (.cells #[.int .i64 (D : Int), .int .i64 (S : Int), .int .i64 (T : Int)] 26)).trans (hb1.mono (by simp)))
  have c0 := hbx.cell 0
  have c1 := hbx.cell 1
  have c2 := hbx.cell 2
  clear hb1 hbx
  go_wp2_with fail
  refine (HP.out _).mono ?_
  rintro e w2 ⟨rfl, hb2⟩
  have HB2 := Lib.hid (HB.out.trans (hb2.mono HB.out.size))
  clear hb2 HB c0 c1 c2
  go_wp2_with fail
  go_ret2
  exact ⟨rfl, HB2.out⟩
theorem ref_got (D S T : Int) (n c : Nat) (a : Option Addr) (y : Nat → It) (w : World) (hI : Its w w.heap.size a n y) :
    Calls Try.prog 9 #[.agg #[.int .i64 D, .int .i64 S, .int .i64 T], .slice a n c] w (DGot w D S T n y) := by
  cases hsh : isSh D S T
  · refine (rdeal_no D S T n c a w hsh).mono fun e w' h => DGot.of_no (fun d s t e1 e2 e3 h1 h2 h3 h4 h5 => ?_) h
    rw [e1, e2, e3, isSh_yes h1 h2 h3 h4 h5] at hsh
    cases hsh
  · obtain ⟨d, s, t, rfl, rfl, rfl, h1, h2, h3, h4, h5⟩ := (isSh_iff D S T).1 hsh
    by_cases hn : n = (d + 1) * s + t + 1
    · exact (ref_deal d s t _ n c a y w h1 h2 h3 h4 h5 rfl hn.symm hI).mono fun e w' h => DGot.of_post h1 h2 h3 h4 h5 hn h
    · refine (rdeal_many d s t _ _ n c a w h1 h2 h3 h4 h5 rfl rfl hn).mono fun e w' h => DGot.of_no (fun d' s' t' e1 e2 e3 _ _ _ _ _ e => hn ?_) h
      obtain rfl : d = d' := by omega
      obtain rfl : s = s' := by omega
      obtain rfl : t = t' := by omega
      exact e
/-- How many places a shape has. -/
def plI (D S T : Int) : Int := if isSh D S T then S * (D + 1) + T + 1 else 0
theorem plI_in {D S T L n : Nat} (h1 : D ≤ 10) (h2 : 1 ≤ S) (h3 : S ≤ 8) (h4 : 1 ≤ T) (h5 : T ≤ 64) (hL : (D + 1) * S = L) (hn : L + T + 1 = n) : plI (D : Int) (S : Int) (T : Int) = (n : Int) := by
  unfold plI
  rw [isSh_yes h1 h2 h3 h4 h5, if_pos rfl, (mul_places h1 h3 hL).1]
  omega
theorem places_I (D S T : Int) (w : World) : Calls Try.prog 12 #[.agg #[.int .i64 D, .int .i64 S, .int .i64 T]] w fun e w' => e = .returned (.int .i64 (plI D S T)) ∧ Below w.heap.size w w' := by
  cases hsh : isSh D S T
  · rw [show plI D S T = 0 by unfold plI; rw [hsh]; rfl]
    exact places_no D S T hsh w
  · obtain ⟨d, s, t, rfl, rfl, rfl, h1, h2, h3, h4, h5⟩ := (isSh_iff D S T).1 hsh
    rw [plI_in h1 h2 h3 h4 h5 rfl rfl]
    exact places_in d s t _ _ h1 h2 h3 h4 h5 rfl rfl w
theorem ref_places_I (D S T : Int) (w : World) : Calls Try.prog 7 #[.agg #[.int .i64 D, .int .i64 S, .int .i64 T]] w fun e w' => e = .returned (.int .i64 (plI D S T)) ∧ Below w.heap.size w w' := by
  cases hsh : isSh D S T
  · rw [show plI D S T = 0 by unfold plI; rw [hsh]; rfl]
    exact ref_places_no D S T hsh w
  · obtain ⟨d, s, t, rfl, rfl, rfl, h1, h2, h3, h4, h5⟩ := (isSh_iff D S T).1 hsh
    rw [plI_in h1 h2 h3 h4 h5 rfl rfl]
    exact ref_places d s t _ _ h1 h2 h3 h4 h5 rfl rfl w
theorem kept_cell {w w' : World} {b o : Nat} {v : Value} (h : Only nobody w w') (hc : w.cell? ⟨b, o, none⟩ = some v) : w'.cell? ⟨b, o, none⟩ = some v :=
  (World.cell?_of_block (w := w) (h.block b (World.block_lt_of_cell? w ⟨b, o, none⟩ hc) (not_nobody _))).trans hc
theorem below_none {B : Nat} {w w' : World} (h : Only nobody w w') (hB : B ≤ w.heap.size) : Below B w w' := Only.below h hB (fun i _ k => not_nobody i k)
/-- Ways that meet again. -/
theorem join_ways {S G : World → Prop} {p : Prop} (h1 : (∀ w, S w → G w) → p) (h2 : ∀ w, S w → G w) : p := h1 h2
theorem join_three {S : World → Prop} {G : World → Value → Value → Value → Prop} {p : Prop} (h1 : (∀ w u v x, S w → G w u v x) → p) (h2 : ∀ w u v x, S w → G w u v x) : p := h1 h2
theorem fl_ok2 {m n : Nat} {y : Nat → It} (h : ∀ j, j < m → ItOk (y j)) : ∀ j, j < n → (fl m y j).2 ≤ 9223372036854775807 := fun j _ => by
  unfold fl
  split
  · rename_i hj; have := i64_rng (h j hj).2; omega
  · show (-1 : Int) ≤ _; omega
set_option maxRecDepth 100000 in
set_option maxHeartbeats 8000000 in
theorem places_law (D S T : Int) (n c : Nat) (a : Option Addr) (y : Nat → It) (fit : Bool) (w : World) (hI : Its w w.heap.size a n y) (hy : ∀ j, j < n → ItOk (y j)) :
    Calls Try.prog 3 #[.agg #[.int .i64 D, .int .i64 S, .int .i64 T], .slice a n c, .bool fit] w fun e w' => e = .returned (.bool true) ∧ Below w.heap.size w w' := by
  have HI := Lib.hid hI
  have HY := Lib.hid hy
  clear hI hy
  by_cases hn : 160 < n
  · go_enter Try.func3, Try.ntmps3
    go_wp2_with fail
    refine (shown_any _).mono ?_
    rintro e w1 ⟨rfl, hb1⟩
    have HB := Lib.hid (((Below.refl _ w).alloc (Nat.le_refl _) (.cells #[.int .i64 D, .int .i64 S, .int .i64 T] 23)).trans (hb1.mono (by simp)))
    have hn2 : (160 : Int) < (n : Int) := by omega
    clear hb1
    go_wp2_with fail
    go_ret
    exact ⟨rfl, HB.out⟩
  have HR := Lib.hid (fun W => deal_right D S T W)
  have HRr := Lib.hid (fun W => ref_right D S T W)
  have HP := Lib.hid (fun W => places_I D S T W)
  have HPr := Lib.hid (fun W => ref_places_I D S T W)
  cases fit
  · go_enter Try.func3, Try.ntmps3
    go_wp2_with fail
    refine (shown_any _).mono ?_
    rintro e w1 ⟨rfl, hb1⟩
    have hbx := (Box.new w 23 #[.int .i64 D, .int .i64 S, .int .i64 T]).of (hb1.block _ (by simp))
    have hwl : w.heap.size < w1.heap.size := hbx.lt
    have HB := Lib.hid (((Below.refl _ w).alloc (Nat.le_refl _) (.cells #[.int .i64 D, .int .i64 S, .int .i64 T] 23)).trans (hb1.mono (by simp)))
    have hn2 : ¬ (160 : Int) < (n : Int) := by omega
    have c0 := hbx.cell 0
    have c1 := hbx.cell 1
    have c2 := hbx.cell 2
    have HBx := Lib.hid (hbx.alloc (.cells #[.int .i64 D, .int .i64 S, .int .i64 T] 26))
    have HBy := Lib.hid (Box.new w1 26 #[.int .i64 D, .int .i64 S, .int .i64 T])
    have HB2 := Lib.hid (HB.out.alloc HB.out.size (.cells #[.int .i64 D, .int .i64 S, .int .i64 T] 26))
    clear hb1 hbx HB
    go_wp2_with fail
    have HB3 := HB2
    have HBx3 := HBx
    have HBy3 := HBy
    have HIn := Lib.hid ((HI.out.below HB3.out).more HB3.out.size)
    have HYn : Hid (∀ j, j < n → (y j).2 ≤ 9223372036854775807) := Lib.hid (fun j hj => (i64_rng (HY.out j hj).2).2)
    have hnn : n ≤ 160 := by omega
    refine (deal_got D S T n c a y _ HIn.out HYn.out).mono ?_
    rintro e w5 ⟨k, z, j, u, A1, ca, B1, cb, ⟨hsp, hk, hj⟩, rfl, hnz, hnu, hb5⟩
    have HB5 := Lib.hid (HB3.out.trans (hb5.mono HB3.out.size))
    have HBx5 := Lib.hid (HBx3.out.of (hb5.block _ HBx3.out.lt))
    have HBy5 := Lib.hid (HBy3.out.of (hb5.block _ HBy3.out.lt))
    have HI5 := Lib.hid ((HIn.out.below hb5).more hb5.size)
    have HSp := Lib.hid hsp
    have HNz := Lib.hid hnz
    have HNu := Lib.hid hnu
    clear hb5 hsp hnz hnu HB3 HBx3 HBy3 HIn c0 c1 c2
    have e0 := HBy5.out.cell 0
    have e1 := HBy5.out.cell 1
    have e2 := HBy5.out.cell 2
    go_wp2_with fail
    refine held_s (S := fun w' => Only nobody w5 w') 9 rfl (by kernel_rfl) ((Only.refl _ _).drew) (fun hHeld => ?_)
    simp only [Array.replicate_succ, Array.replicate_zero, List.push_toArray, List.nil_append, List.cons_append]
    generalize w5.drew = w6 at *
    refine wpAnyH_take (i := 0) (oi := ⟨some 45, _, _, _, _, _⟩) (v := (.agg #[.int .i64 D, .int .i64 S, .int .i64 T])) rfl (by kernel_rfl) (by kernel_rfl) (by kernel_rfl) (fun _ _ _ h => h) (Or.inl ⟨by rfl, fun w' hw => by (have k0 := kept_cell hw e0; have k1 := kept_cell hw e1; have k2 := kept_cell hw e2; go_simp)⟩) hHeld ?_
    try simp only [Act.put, List.setIfInBounds_toArray, List.set_cons_zero, List.set_cons_succ]
    refine wpAnyH_take (i := 1) (oi := ⟨some 46, _, _, _, _, _⟩) (v := (.slice a n c)) rfl (by kernel_rfl) (by kernel_rfl) (by kernel_rfl) (fun _ _ _ h => h) (Or.inl ⟨by rfl, fun w' hw => by go_simp⟩) hHeld ?_
    try simp only [Act.put, List.setIfInBounds_toArray, List.set_cons_zero, List.set_cons_succ]
    refine one_ready 2 rfl (by kernel_rfl) (fun K hK => ?_)
    go_simp
    refine (as_any a n c y w6 (by omega) ((HI5.out.below (below_none hHeld (Nat.le_refl _))).more hHeld.size)).mono ?_
    rintro e w7 ⟨Aa, capa, rfl, howna, hb7⟩
    refine hK.out _ _ (hHeld.trans (Only.of_below hb7)) (fun hHeld7 => ?_)
    clear hK K
    try simp only [List.setIfInBounds_toArray, List.set_cons_zero, List.set_cons_succ]
    refine one_ready 3 rfl (by kernel_rfl) (fun K hK => ?_)
    go_simp
    refine (ref_got D S T n capa Aa y w7 (own_items howna)).mono ?_
    rintro e w8 ⟨k', z', j', u', A2, ca2, B2, cb2, ⟨hsp, hk', hj'⟩, rfl, hnz, hnu, hb8⟩
    obtain ⟨rfl, hz, rfl, hu⟩ := HSp.out.same hsp
    refine hK.out _ _ (hHeld7.trans (Only.of_below hb8)) (fun hHeld8 => ?_)
    clear hK K
    try simp only [List.setIfInBounds_toArray, List.set_cons_zero, List.set_cons_succ]
    have hHeld := hHeld8
    refine wpAnyH_take (i := 4) (oi := ⟨some 44, _, _, _, _, _⟩) (v := (.tuple #[.slice A2 k' ca2, .slice B2 j' cb2])) rfl (by kernel_rfl) (by kernel_rfl) (by kernel_rfl) (fun _ _ _ h => h) (Or.inl ⟨by rfl, fun w' hw => by go_simp⟩) hHeld ?_
    try simp only [Act.put, List.setIfInBounds_toArray, List.set_cons_zero, List.set_cons_succ]
    refine wpAnyH_take (i := 5) (oi := ⟨some 49, _, _, _, _, _⟩) (v := (.slice A2 k' ca2)) rfl (by kernel_rfl) (by kernel_rfl) (by kernel_rfl) (fun _ _ _ h => h) (Or.inl ⟨by rfl, fun w' hw => by go_simp⟩) hHeld ?_
    try simp only [Act.put, List.setIfInBounds_toArray, List.set_cons_zero, List.set_cons_succ]
    refine wpAnyH_take (i := 6) (oi := ⟨some 50, _, _, _, _, _⟩) (v := (.slice B2 j' cb2)) rfl (by kernel_rfl) (by kernel_rfl) (by kernel_rfl) (fun _ _ _ h => h) (Or.inl ⟨by rfl, fun w' hw => by go_simp⟩) hHeld ?_
    try simp only [Act.put, List.setIfInBounds_toArray, List.set_cons_zero, List.set_cons_succ]
    refine wpAnyH_take (i := 7) (oi := ⟨some 11, _, _, _, _, _⟩) (v := (.slice A2 k' ca2)) rfl (by kernel_rfl) (by kernel_rfl) (by kernel_rfl) (fun _ _ _ h => h) (Or.inl ⟨by rfl, fun w' hw => by go_simp⟩) hHeld ?_
    try simp only [Act.put, List.setIfInBounds_toArray, List.set_cons_zero, List.set_cons_succ]
    refine wpAnyH_take (i := 8) (oi := ⟨some 12, _, _, _, _, _⟩) (v := (.slice B2 j' cb2)) rfl (by kernel_rfl) (by kernel_rfl) (by kernel_rfl) (fun _ _ _ h => h) (Or.inl ⟨by rfl, fun w' hw => by go_simp⟩) hHeld ?_
    try simp only [Act.put, List.setIfInBounds_toArray, List.set_cons_zero, List.set_cons_succ]
    refine wpAnyH_done (by kernel_rfl) ?_ _
    have HO8 := Lib.hid hHeld8
    have h58 := below_none (B := w5.heap.size) hHeld8 (Nat.le_refl _)
    have HB8 := Lib.hid (HB5.out.trans (h58.mono HB5.out.size))
    have hbx8 := HBx5.out.of (h58.block _ HBx5.out.lt)
    have hby8 := HBy5.out.of (h58.block _ HBy5.out.lt)
    have c0 := hbx8.cell 0
    have c1 := hbx8.cell 1
    have c2 := hbx8.cell 2
    have e0 := hby8.cell 0
    have e1 := hby8.cell 1
    have e2 := hby8.cell 2
    have h58s : w5.heap.size ≤ w8.heap.size := hHeld8.size
    have HI8 := Lib.hid ((HI5.out.below h58).more h58.size)
    have HNz8 := Lib.hid (HNz.out.below h58)
    have HNu8 := Lib.hid (HNu.out.below h58)
    have HNy8 := Lib.hid (hnz.congr9 (z' := z) hz)
    have HNv8 := Lib.hid (hnu.congr9 (z' := u) hu)
    clear hsp hnz hnu hz hu hb8 hb7 howna HSp HNz HNu HI5 HB5 HBx5 HBy5 h58 hbx8 hby8 hHeld hHeld7 hHeld8 HO8
    go_wp2_with fail
    have HR2 : Hid (∀ W, _) := HR
    have HRr2 : Hid (∀ W, _) := HRr
    generalize isSh D S T = bs at HR2 HRr2
    have hHeld : Only nobody w8 w8.drew := (Only.refl _ _).drew
    refine held_s (S := fun w' => Only nobody w8 w') 31 rfl (by kernel_rfl) hHeld (fun _ => ?_)
    simp only [Array.replicate_succ, Array.replicate_zero, List.push_toArray, List.nil_append, List.cons_append]
    generalize w8.drew = w9 at *
    refine wpAnyH_take (i := 0) (oi := ⟨some 51, _, _, _, _, _⟩) (v := (.agg #[.int .i64 D, .int .i64 S, .int .i64 T])) rfl (by kernel_rfl) (by kernel_rfl) (by kernel_rfl) (fun _ _ _ h => h) (Or.inl ⟨by rfl, fun w' hw => by (have k0 := kept_cell hw c0; have k1 := kept_cell hw c1; have k2 := kept_cell hw c2; go_simp)⟩) hHeld ?_
    try simp only [Act.put, List.setIfInBounds_toArray, List.set_cons_zero, List.set_cons_succ]
    refine wpAnyH_take (i := 2) (oi := ⟨some 53, _, _, _, _, _⟩) (v := (.agg #[.int .i64 D, .int .i64 S, .int .i64 T])) rfl (by kernel_rfl) (by kernel_rfl) (by kernel_rfl) (fun _ _ _ h => h) (Or.inl ⟨by rfl, fun w' hw => by (have k0 := kept_cell hw e0; have k1 := kept_cell hw e1; have k2 := kept_cell hw e2; go_simp)⟩) hHeld ?_
    try simp only [Act.put, List.setIfInBounds_toArray, List.set_cons_zero, List.set_cons_succ]
    refine one_ready 1 rfl (by kernel_rfl) (fun K hK => ?_)
    go_simp
    refine (HR2.out _).mono ?_
    rintro e wa ⟨rfl, hba⟩
    refine hK.out _ _ (hHeld.trans (Only.of_below hba)) (fun hSa => ?_)
    clear hK K
    try simp only [List.setIfInBounds_toArray, List.set_cons_zero, List.set_cons_succ]
    refine one_ready 3 rfl (by kernel_rfl) (fun K hK => ?_)
    go_simp
    refine (HRr2.out _).mono ?_
    rintro e w10 ⟨rfl, hbb⟩
    refine hK.out _ _ (hSa.trans (Only.of_below hbb)) (fun hHeld => ?_)
    clear hK K hSa hba hbb
    try simp only [List.setIfInBounds_toArray, List.set_cons_zero, List.set_cons_succ]
    refine wpAnyH_take (i := 4) (oi := ⟨some 55, _, _, _, _, _⟩) (v := (.bool true)) rfl (by kernel_rfl) (by kernel_rfl) (by kernel_rfl) (fun _ _ _ h => h) (Or.inl ⟨by rfl, fun w' hw => by (cases bs <;> go_simp)⟩) hHeld ?_
    try simp only [Act.put, List.setIfInBounds_toArray, List.set_cons_zero, List.set_cons_succ]
    refine wpAnyH_take (i := 5) (oi := ⟨some 56, _, _, _, _, _⟩) (v := (.bool true)) rfl (by kernel_rfl) (by kernel_rfl) (by kernel_rfl) (fun _ _ _ h => h) (Or.inl ⟨by rfl, fun w' hw => by go_simp⟩) hHeld ?_
    try simp only [Act.put, List.setIfInBounds_toArray, List.set_cons_zero, List.set_cons_succ]
    refine wpAnyH_take (i := 6) (oi := ⟨some 57, _, _, _, _, _⟩) (v := (.agg #[.int .i64 D, .int .i64 S, .int .i64 T])) rfl (by kernel_rfl) (by kernel_rfl) (by kernel_rfl) (fun _ _ _ h => h) (Or.inl ⟨by rfl, fun w' hw => by (have k0 := kept_cell hw c0; have k1 := kept_cell hw c1; have k2 := kept_cell hw c2; go_simp)⟩) hHeld ?_
    try simp only [Act.put, List.setIfInBounds_toArray, List.set_cons_zero, List.set_cons_succ]
    refine wpAnyH_take (i := 8) (oi := ⟨some 59, _, _, _, _, _⟩) (v := (.agg #[.int .i64 D, .int .i64 S, .int .i64 T])) rfl (by kernel_rfl) (by kernel_rfl) (by kernel_rfl) (fun _ _ _ h => h) (Or.inl ⟨by rfl, fun w' hw => by (have k0 := kept_cell hw e0; have k1 := kept_cell hw e1; have k2 := kept_cell hw e2; go_simp)⟩) hHeld ?_
    try simp only [Act.put, List.setIfInBounds_toArray, List.set_cons_zero, List.set_cons_succ]
    refine one_ready 7 rfl (by kernel_rfl) (fun K hK => ?_)
    go_simp
    refine (HP.out _).mono ?_
    rintro e wa ⟨rfl, hba⟩
    refine hK.out _ _ (hHeld.trans (Only.of_below hba)) (fun hSa => ?_)
    clear hK K
    try simp only [List.setIfInBounds_toArray, List.set_cons_zero, List.set_cons_succ]
    refine one_ready 9 rfl (by kernel_rfl) (fun K hK => ?_)
    go_simp
    refine (HPr.out _).mono ?_
    rintro e w10 ⟨rfl, hbb⟩
    refine hK.out _ _ (hSa.trans (Only.of_below hbb)) (fun hHeld => ?_)
    clear hK K hSa hba hbb
    try simp only [List.setIfInBounds_toArray, List.set_cons_zero, List.set_cons_succ]
    refine wpAnyH_take (i := 10) (oi := ⟨some 61, _, _, _, _, _⟩) (v := (.bool true)) rfl (by kernel_rfl) (by kernel_rfl) (by kernel_rfl) (fun _ _ _ h => h) (Or.inl ⟨by rfl, fun w' hw => by go_simp⟩) hHeld ?_
    try simp only [Act.put, List.setIfInBounds_toArray, List.set_cons_zero, List.set_cons_succ]
    refine wpAnyH_take (i := 11) (oi := ⟨some 62, _, _, _, _, _⟩) (v := (.bool true)) rfl (by kernel_rfl) (by kernel_rfl) (by kernel_rfl) (fun _ _ _ h => h) (Or.inl ⟨by rfl, fun w' hw => by go_simp⟩) hHeld ?_
    try simp only [Act.put, List.setIfInBounds_toArray, List.set_cons_zero, List.set_cons_succ]
    refine wpAnyH_take (i := 12) (oi := ⟨some 63, _, _, _, _, _⟩) (v := (.bool true)) rfl (by kernel_rfl) (by kernel_rfl) (by kernel_rfl) (fun _ _ _ h => h) (Or.inl ⟨by rfl, fun w' hw => by go_simp⟩) hHeld ?_
    try simp only [Act.put, List.setIfInBounds_toArray, List.set_cons_zero, List.set_cons_succ]
    refine wpAnyH_take (i := 13) (oi := ⟨some 64, _, _, _, _, _⟩) (v := (.slice a n c)) rfl (by kernel_rfl) (by kernel_rfl) (by kernel_rfl) (fun _ _ _ h => h) (Or.inl ⟨by rfl, fun w' hw => by go_simp⟩) hHeld ?_
    try simp only [Act.put, List.setIfInBounds_toArray, List.set_cons_zero, List.set_cons_succ]
    refine wpAnyH_take (i := 15) (oi := ⟨some 66, _, _, _, _, _⟩) (v := (.slice a n c)) rfl (by kernel_rfl) (by kernel_rfl) (by kernel_rfl) (fun _ _ _ h => h) (Or.inl ⟨by rfl, fun w' hw => by go_simp⟩) hHeld ?_
    try simp only [Act.put, List.setIfInBounds_toArray, List.set_cons_zero, List.set_cons_succ]
    refine one_ready 14 rfl (by kernel_rfl) (fun K hK => ?_)
    go_simp
    refine (order_any a n c y w10 (by omega) ((HI8.out.below (below_none hHeld (Nat.le_refl _))).more hHeld.size)).mono ?_
    rintro e wa ⟨oa, ga, hoa, rfl, hira, hbwa⟩
    refine hK.out _ _ (hHeld.trans (Only.of_below hbwa)) (fun hwa => ?_)
    clear hK K
    try simp only [List.setIfInBounds_toArray, List.set_cons_zero, List.set_cons_succ]
    refine one_ready 16 rfl (by kernel_rfl) (fun K hK => ?_)
    go_simp
    refine (as_any a n c y wa (by omega) ((HI8.out.below (below_none hwa (Nat.le_refl _))).more hwa.size)).mono ?_
    rintro e wb ⟨Ab, capb, rfl, hownb, hbwb⟩
    refine hK.out _ _ (hwa.trans (Only.of_below hbwb)) (fun hwb => ?_)
    clear hK K
    try simp only [List.setIfInBounds_toArray, List.set_cons_zero, List.set_cons_succ]
    refine one_ready 17 rfl (by kernel_rfl) (fun K hK => ?_)
    go_simp
    refine (ref_order Ab n capb y wb (by omega) (own_items hownb)).mono ?_
    rintro e wc ⟨oc, Ac, capc, hoc, rfl, hnc, hbwc, _⟩
    refine hK.out _ _ (hwb.trans (Only.of_below hbwc)) (fun hwc => ?_)
    clear hK K
    try simp only [List.setIfInBounds_toArray, List.set_cons_zero, List.set_cons_succ]
    obtain rfl := hoa.only hoc
    refine one_ready 18 rfl (by kernel_rfl) (fun K hK => ?_)
    go_simp
    refine (same_nums _ _ n _ _ _ _ _ wc (by omega) (((hira.nums (Nat.le_refl _)).below hbwb).below (hbwc.mono hbwb.size)) (hnc)).mono ?_
    rintro e wz ⟨rfl, qz, hqz⟩
    have hSy : Only nobody w8 wz := by rw [hqz]; exact hwc.drewN qz
    clear hqz
    refine hK.out _ _ hSy (fun hSz => ?_)
    clear hK K
    try simp only [List.setIfInBounds_toArray, List.set_cons_zero, List.set_cons_succ]
    have hHeld := hSz
    refine wpAnyH_take (i := 19) (oi := ⟨some 70, _, _, _, _, _⟩) (v := (.bool true)) rfl (by kernel_rfl) (by kernel_rfl) (by kernel_rfl) (fun _ _ _ h => h) (Or.inl ⟨by rfl, fun w' hw => by go_simp⟩) hHeld ?_
    try simp only [Act.put, List.setIfInBounds_toArray, List.set_cons_zero, List.set_cons_succ]
    refine wpAnyH_take (i := 20) (oi := ⟨some 71, _, _, _, _, _⟩) (v := (.bool true)) rfl (by kernel_rfl) (by kernel_rfl) (by kernel_rfl) (fun _ _ _ h => h) (Or.inl ⟨by rfl, fun w' hw => by go_simp⟩) hHeld ?_
    try simp only [Act.put, List.setIfInBounds_toArray, List.set_cons_zero, List.set_cons_succ]
    refine wpAnyH_take (i := 21) (oi := ⟨some 72, _, _, _, _, _⟩) (v := (.slice A1 k' ca)) rfl (by kernel_rfl) (by kernel_rfl) (by kernel_rfl) (fun _ _ _ h => h) (Or.inl ⟨by rfl, fun w' hw => by go_simp⟩) hHeld ?_
    try simp only [Act.put, List.setIfInBounds_toArray, List.set_cons_zero, List.set_cons_succ]
    refine wpAnyH_take (i := 22) (oi := ⟨some 73, _, _, _, _, _⟩) (v := (.slice A2 k' ca2)) rfl (by kernel_rfl) (by kernel_rfl) (by kernel_rfl) (fun _ _ _ h => h) (Or.inl ⟨by rfl, fun w' hw => by go_simp⟩) hHeld ?_
    try simp only [Act.put, List.setIfInBounds_toArray, List.set_cons_zero, List.set_cons_succ]
    refine one_ready 23 rfl (by kernel_rfl) (fun K hK => ?_)
    go_simp
    refine (same_nums _ _ k' _ _ _ _ z _ (by omega) (HNz8.out.below (below_none hHeld h58s)) (HNy8.out.below (below_none hHeld (Nat.le_refl _)))).mono ?_
    rintro e w11 ⟨rfl, q11, hq11⟩
    have hS11 : Only nobody w8 w11 := by rw [hq11]; exact hHeld.drewN q11
    clear hq11
    refine hK.out _ _ hS11 (fun hHeld => ?_)
    clear hK K
    try simp only [List.setIfInBounds_toArray, List.set_cons_zero, List.set_cons_succ]
    refine wpAnyH_take (i := 24) (oi := ⟨some 75, _, _, _, _, _⟩) (v := (.bool true)) rfl (by kernel_rfl) (by kernel_rfl) (by kernel_rfl) (fun _ _ _ h => h) (Or.inl ⟨by rfl, fun w' hw => by go_simp⟩) hHeld ?_
    try simp only [Act.put, List.setIfInBounds_toArray, List.set_cons_zero, List.set_cons_succ]
    refine wpAnyH_take (i := 25) (oi := ⟨some 76, _, _, _, _, _⟩) (v := (.bool true)) rfl (by kernel_rfl) (by kernel_rfl) (by kernel_rfl) (fun _ _ _ h => h) (Or.inl ⟨by rfl, fun w' hw => by go_simp⟩) hHeld ?_
    try simp only [Act.put, List.setIfInBounds_toArray, List.set_cons_zero, List.set_cons_succ]
    refine wpAnyH_take (i := 26) (oi := ⟨some 77, _, _, _, _, _⟩) (v := (.slice B1 j' cb)) rfl (by kernel_rfl) (by kernel_rfl) (by kernel_rfl) (fun _ _ _ h => h) (Or.inl ⟨by rfl, fun w' hw => by go_simp⟩) hHeld ?_
    try simp only [Act.put, List.setIfInBounds_toArray, List.set_cons_zero, List.set_cons_succ]
    refine wpAnyH_take (i := 27) (oi := ⟨some 78, _, _, _, _, _⟩) (v := (.slice B2 j' cb2)) rfl (by kernel_rfl) (by kernel_rfl) (by kernel_rfl) (fun _ _ _ h => h) (Or.inl ⟨by rfl, fun w' hw => by go_simp⟩) hHeld ?_
    try simp only [Act.put, List.setIfInBounds_toArray, List.set_cons_zero, List.set_cons_succ]
    refine one_ready 28 rfl (by kernel_rfl) (fun K hK => ?_)
    go_simp
    refine (same_nums _ _ j' _ _ _ _ u _ (by omega) (HNu8.out.below (below_none hHeld h58s)) (HNv8.out.below (below_none hHeld (Nat.le_refl _)))).mono ?_
    rintro e w12 ⟨rfl, q12, rfl⟩
    refine hK.out _ _ (hHeld.drewN q12) (fun hHeld => ?_)
    clear hK K
    try simp only [List.setIfInBounds_toArray, List.set_cons_zero, List.set_cons_succ]
    refine wpAnyH_take (i := 29) (oi := ⟨some 80, _, _, _, _, _⟩) (v := (.bool true)) rfl (by kernel_rfl) (by kernel_rfl) (by kernel_rfl) (fun _ _ _ h => h) (Or.inl ⟨by rfl, fun w' hw => by go_simp⟩) hHeld ?_
    try simp only [Act.put, List.setIfInBounds_toArray, List.set_cons_zero, List.set_cons_succ]
    refine wpAnyH_take (i := 30) (oi := ⟨some 6, _, _, _, _, _⟩) (v := (.bool true)) rfl (by kernel_rfl) (by kernel_rfl) (by kernel_rfl) (fun _ _ _ h => h) (Or.inl ⟨by rfl, fun w' hw => by go_simp⟩) hHeld ?_
    try simp only [Act.put, List.setIfInBounds_toArray, List.set_cons_zero, List.set_cons_succ]
    refine wpAnyH_done (by kernel_rfl) ?_ _
    go_wp2_with fail
    go_ret
    exact ⟨rfl, HB8.out.trans ((below_none hHeld (Nat.le_refl _)).mono HB8.out.size)⟩
  · cases hsh : isSh D S T
    · go_enter Try.func3, Try.ntmps3
      go_wp2_with fail
      refine (shown_any _).mono ?_
      rintro e w1 ⟨rfl, hb1⟩
      have hbx := (Box.new w 23 #[.int .i64 D, .int .i64 S, .int .i64 T]).of (hb1.block _ (by simp))
      have hwl : w.heap.size < w1.heap.size := hbx.lt
      have HB := Lib.hid (((Below.refl _ w).alloc (Nat.le_refl _) (.cells #[.int .i64 D, .int .i64 S, .int .i64 T] 23)).trans (hb1.mono (by simp)))
      have hn2 : ¬ (160 : Int) < (n : Int) := by omega
      have c0 := hbx.cell 0
      have c1 := hbx.cell 1
      have c2 := hbx.cell 2
      have HBx := Lib.hid (hbx.alloc (.cells #[.int .i64 D, .int .i64 S, .int .i64 T] 26))
      have HBy := Lib.hid (Box.new w1 26 #[.int .i64 D, .int .i64 S, .int .i64 T])
      have HB2 := Lib.hid (HB.out.alloc HB.out.size (.cells #[.int .i64 D, .int .i64 S, .int .i64 T] 26))
      clear hb1 hbx HB
      go_wp2_with fail
      refine (HRr.out _).mono ?_
      rintro e w2 ⟨rfl, hb2⟩
      rw [hsh]
      have HB3 := Lib.hid (HB2.out.trans (hb2.mono HB2.out.size))
      have HBx3 := Lib.hid (HBx.out.of (hb2.block _ HBx.out.lt))
      have HBy3 := Lib.hid (HBy.out.of (hb2.block _ HBy.out.lt))
      clear hb2 HB2 HBx HBy c0 c1 c2
      have c0 := HBx3.out.cell 0
      have c1 := HBx3.out.cell 1
      have c2 := HBx3.out.cell 2
      have e0 := HBy3.out.cell 0
      have e1 := HBy3.out.cell 1
      have e2 := HBy3.out.cell 2
      go_wp2_with fail
      have HIn := Lib.hid ((HI.out.below HB3.out).more HB3.out.size)
      have HYn : Hid (∀ j, j < n → (y j).2 ≤ 9223372036854775807) := Lib.hid (fun j hj => (i64_rng (HY.out j hj).2).2)
      have hnn : n ≤ 160 := by omega
      refine (deal_got D S T n c a y _ HIn.out HYn.out).mono ?_
      rintro e w5 ⟨k, z, j, u, A1, ca, B1, cb, ⟨hsp, hk, hj⟩, rfl, hnz, hnu, hb5⟩
      have HB5 := Lib.hid (HB3.out.trans (hb5.mono HB3.out.size))
      have HBx5 := Lib.hid (HBx3.out.of (hb5.block _ HBx3.out.lt))
      have HBy5 := Lib.hid (HBy3.out.of (hb5.block _ HBy3.out.lt))
      have HI5 := Lib.hid ((HIn.out.below hb5).more hb5.size)
      have HSp := Lib.hid hsp
      have HNz := Lib.hid hnz
      have HNu := Lib.hid hnu
      clear hb5 hsp hnz hnu HB3 HBx3 HBy3 HIn c0 c1 c2
      have e0 := HBy5.out.cell 0
      have e1 := HBy5.out.cell 1
      have e2 := HBy5.out.cell 2
      go_wp2_with fail
      refine held_s (S := fun w' => Only nobody w5 w') 9 rfl (by kernel_rfl) ((Only.refl _ _).drew) (fun hHeld => ?_)
      simp only [Array.replicate_succ, Array.replicate_zero, List.push_toArray, List.nil_append, List.cons_append]
      generalize w5.drew = w6 at *
      refine wpAnyH_take (i := 0) (oi := ⟨some 45, _, _, _, _, _⟩) (v := (.agg #[.int .i64 D, .int .i64 S, .int .i64 T])) rfl (by kernel_rfl) (by kernel_rfl) (by kernel_rfl) (fun _ _ _ h => h) (Or.inl ⟨by rfl, fun w' hw => by (have k0 := kept_cell hw e0; have k1 := kept_cell hw e1; have k2 := kept_cell hw e2; go_simp)⟩) hHeld ?_
      try simp only [Act.put, List.setIfInBounds_toArray, List.set_cons_zero, List.set_cons_succ]
      refine wpAnyH_take (i := 1) (oi := ⟨some 46, _, _, _, _, _⟩) (v := (.slice a n c)) rfl (by kernel_rfl) (by kernel_rfl) (by kernel_rfl) (fun _ _ _ h => h) (Or.inl ⟨by rfl, fun w' hw => by go_simp⟩) hHeld ?_
      try simp only [Act.put, List.setIfInBounds_toArray, List.set_cons_zero, List.set_cons_succ]
      refine one_ready 2 rfl (by kernel_rfl) (fun K hK => ?_)
      go_simp
      refine (as_any a n c y w6 (by omega) ((HI5.out.below (below_none hHeld (Nat.le_refl _))).more hHeld.size)).mono ?_
      rintro e w7 ⟨Aa, capa, rfl, howna, hb7⟩
      refine hK.out _ _ (hHeld.trans (Only.of_below hb7)) (fun hHeld7 => ?_)
      clear hK K
      try simp only [List.setIfInBounds_toArray, List.set_cons_zero, List.set_cons_succ]
      refine one_ready 3 rfl (by kernel_rfl) (fun K hK => ?_)
      go_simp
      refine (ref_got D S T n capa Aa y w7 (own_items howna)).mono ?_
      rintro e w8 ⟨k', z', j', u', A2, ca2, B2, cb2, ⟨hsp, hk', hj'⟩, rfl, hnz, hnu, hb8⟩
      obtain ⟨rfl, hz, rfl, hu⟩ := HSp.out.same hsp
      refine hK.out _ _ (hHeld7.trans (Only.of_below hb8)) (fun hHeld8 => ?_)
      clear hK K
      try simp only [List.setIfInBounds_toArray, List.set_cons_zero, List.set_cons_succ]
      have hHeld := hHeld8
      refine wpAnyH_take (i := 4) (oi := ⟨some 44, _, _, _, _, _⟩) (v := (.tuple #[.slice A2 k' ca2, .slice B2 j' cb2])) rfl (by kernel_rfl) (by kernel_rfl) (by kernel_rfl) (fun _ _ _ h => h) (Or.inl ⟨by rfl, fun w' hw => by go_simp⟩) hHeld ?_
      try simp only [Act.put, List.setIfInBounds_toArray, List.set_cons_zero, List.set_cons_succ]
      refine wpAnyH_take (i := 5) (oi := ⟨some 49, _, _, _, _, _⟩) (v := (.slice A2 k' ca2)) rfl (by kernel_rfl) (by kernel_rfl) (by kernel_rfl) (fun _ _ _ h => h) (Or.inl ⟨by rfl, fun w' hw => by go_simp⟩) hHeld ?_
      try simp only [Act.put, List.setIfInBounds_toArray, List.set_cons_zero, List.set_cons_succ]
      refine wpAnyH_take (i := 6) (oi := ⟨some 50, _, _, _, _, _⟩) (v := (.slice B2 j' cb2)) rfl (by kernel_rfl) (by kernel_rfl) (by kernel_rfl) (fun _ _ _ h => h) (Or.inl ⟨by rfl, fun w' hw => by go_simp⟩) hHeld ?_
      try simp only [Act.put, List.setIfInBounds_toArray, List.set_cons_zero, List.set_cons_succ]
      refine wpAnyH_take (i := 7) (oi := ⟨some 11, _, _, _, _, _⟩) (v := (.slice A2 k' ca2)) rfl (by kernel_rfl) (by kernel_rfl) (by kernel_rfl) (fun _ _ _ h => h) (Or.inl ⟨by rfl, fun w' hw => by go_simp⟩) hHeld ?_
      try simp only [Act.put, List.setIfInBounds_toArray, List.set_cons_zero, List.set_cons_succ]
      refine wpAnyH_take (i := 8) (oi := ⟨some 12, _, _, _, _, _⟩) (v := (.slice B2 j' cb2)) rfl (by kernel_rfl) (by kernel_rfl) (by kernel_rfl) (fun _ _ _ h => h) (Or.inl ⟨by rfl, fun w' hw => by go_simp⟩) hHeld ?_
      try simp only [Act.put, List.setIfInBounds_toArray, List.set_cons_zero, List.set_cons_succ]
      refine wpAnyH_done (by kernel_rfl) ?_ _
      have HO8 := Lib.hid hHeld8
      have h58 := below_none (B := w5.heap.size) hHeld8 (Nat.le_refl _)
      have HB8 := Lib.hid (HB5.out.trans (h58.mono HB5.out.size))
      have hbx8 := HBx5.out.of (h58.block _ HBx5.out.lt)
      have hby8 := HBy5.out.of (h58.block _ HBy5.out.lt)
      have c0 := hbx8.cell 0
      have c1 := hbx8.cell 1
      have c2 := hbx8.cell 2
      have e0 := hby8.cell 0
      have e1 := hby8.cell 1
      have e2 := hby8.cell 2
      have h58s : w5.heap.size ≤ w8.heap.size := hHeld8.size
      have HI8 := Lib.hid ((HI5.out.below h58).more h58.size)
      have HNz8 := Lib.hid (HNz.out.below h58)
      have HNu8 := Lib.hid (HNu.out.below h58)
      have HNy8 := Lib.hid (hnz.congr9 (z' := z) hz)
      have HNv8 := Lib.hid (hnu.congr9 (z' := u) hu)
      clear hsp hnz hnu hz hu hb8 hb7 howna HSp HNz HNu HI5 HB5 HBx5 HBy5 h58 hbx8 hby8 hHeld hHeld7 hHeld8 HO8
      go_wp2_with fail
      have HR2 : Hid (∀ W, _) := HR
      have HRr2 : Hid (∀ W, _) := HRr
      generalize isSh D S T = bs at HR2 HRr2
      have hHeld : Only nobody w8 w8.drew := (Only.refl _ _).drew
      refine held_s (S := fun w' => Only nobody w8 w') 31 rfl (by kernel_rfl) hHeld (fun _ => ?_)
      simp only [Array.replicate_succ, Array.replicate_zero, List.push_toArray, List.nil_append, List.cons_append]
      generalize w8.drew = w9 at *
      refine wpAnyH_take (i := 0) (oi := ⟨some 51, _, _, _, _, _⟩) (v := (.agg #[.int .i64 D, .int .i64 S, .int .i64 T])) rfl (by kernel_rfl) (by kernel_rfl) (by kernel_rfl) (fun _ _ _ h => h) (Or.inl ⟨by rfl, fun w' hw => by (have k0 := kept_cell hw c0; have k1 := kept_cell hw c1; have k2 := kept_cell hw c2; go_simp)⟩) hHeld ?_
      try simp only [Act.put, List.setIfInBounds_toArray, List.set_cons_zero, List.set_cons_succ]
      refine wpAnyH_take (i := 2) (oi := ⟨some 53, _, _, _, _, _⟩) (v := (.agg #[.int .i64 D, .int .i64 S, .int .i64 T])) rfl (by kernel_rfl) (by kernel_rfl) (by kernel_rfl) (fun _ _ _ h => h) (Or.inl ⟨by rfl, fun w' hw => by (have k0 := kept_cell hw e0; have k1 := kept_cell hw e1; have k2 := kept_cell hw e2; go_simp)⟩) hHeld ?_
      try simp only [Act.put, List.setIfInBounds_toArray, List.set_cons_zero, List.set_cons_succ]
      refine one_ready 1 rfl (by kernel_rfl) (fun K hK => ?_)
      go_simp
      refine (HR2.out _).mono ?_
      rintro e wa ⟨rfl, hba⟩
      refine hK.out _ _ (hHeld.trans (Only.of_below hba)) (fun hSa => ?_)
      clear hK K
      try simp only [List.setIfInBounds_toArray, List.set_cons_zero, List.set_cons_succ]
      refine one_ready 3 rfl (by kernel_rfl) (fun K hK => ?_)
      go_simp
      refine (HRr2.out _).mono ?_
      rintro e w10 ⟨rfl, hbb⟩
      refine hK.out _ _ (hSa.trans (Only.of_below hbb)) (fun hHeld => ?_)
      clear hK K hSa hba hbb
      try simp only [List.setIfInBounds_toArray, List.set_cons_zero, List.set_cons_succ]
      refine wpAnyH_take (i := 4) (oi := ⟨some 55, _, _, _, _, _⟩) (v := (.bool true)) rfl (by kernel_rfl) (by kernel_rfl) (by kernel_rfl) (fun _ _ _ h => h) (Or.inl ⟨by rfl, fun w' hw => by (cases bs <;> go_simp)⟩) hHeld ?_
      try simp only [Act.put, List.setIfInBounds_toArray, List.set_cons_zero, List.set_cons_succ]
      refine wpAnyH_take (i := 5) (oi := ⟨some 56, _, _, _, _, _⟩) (v := (.bool true)) rfl (by kernel_rfl) (by kernel_rfl) (by kernel_rfl) (fun _ _ _ h => h) (Or.inl ⟨by rfl, fun w' hw => by go_simp⟩) hHeld ?_
      try simp only [Act.put, List.setIfInBounds_toArray, List.set_cons_zero, List.set_cons_succ]
      refine wpAnyH_take (i := 6) (oi := ⟨some 57, _, _, _, _, _⟩) (v := (.agg #[.int .i64 D, .int .i64 S, .int .i64 T])) rfl (by kernel_rfl) (by kernel_rfl) (by kernel_rfl) (fun _ _ _ h => h) (Or.inl ⟨by rfl, fun w' hw => by (have k0 := kept_cell hw c0; have k1 := kept_cell hw c1; have k2 := kept_cell hw c2; go_simp)⟩) hHeld ?_
      try simp only [Act.put, List.setIfInBounds_toArray, List.set_cons_zero, List.set_cons_succ]
      refine wpAnyH_take (i := 8) (oi := ⟨some 59, _, _, _, _, _⟩) (v := (.agg #[.int .i64 D, .int .i64 S, .int .i64 T])) rfl (by kernel_rfl) (by kernel_rfl) (by kernel_rfl) (fun _ _ _ h => h) (Or.inl ⟨by rfl, fun w' hw => by (have k0 := kept_cell hw e0; have k1 := kept_cell hw e1; have k2 := kept_cell hw e2; go_simp)⟩) hHeld ?_
      try simp only [Act.put, List.setIfInBounds_toArray, List.set_cons_zero, List.set_cons_succ]
      refine one_ready 7 rfl (by kernel_rfl) (fun K hK => ?_)
      go_simp
      refine (HP.out _).mono ?_
      rintro e wa ⟨rfl, hba⟩
      refine hK.out _ _ (hHeld.trans (Only.of_below hba)) (fun hSa => ?_)
      clear hK K
      try simp only [List.setIfInBounds_toArray, List.set_cons_zero, List.set_cons_succ]
      refine one_ready 9 rfl (by kernel_rfl) (fun K hK => ?_)
      go_simp
      refine (HPr.out _).mono ?_
      rintro e w10 ⟨rfl, hbb⟩
      refine hK.out _ _ (hSa.trans (Only.of_below hbb)) (fun hHeld => ?_)
      clear hK K hSa hba hbb
      try simp only [List.setIfInBounds_toArray, List.set_cons_zero, List.set_cons_succ]
      refine wpAnyH_take (i := 10) (oi := ⟨some 61, _, _, _, _, _⟩) (v := (.bool true)) rfl (by kernel_rfl) (by kernel_rfl) (by kernel_rfl) (fun _ _ _ h => h) (Or.inl ⟨by rfl, fun w' hw => by go_simp⟩) hHeld ?_
      try simp only [Act.put, List.setIfInBounds_toArray, List.set_cons_zero, List.set_cons_succ]
      refine wpAnyH_take (i := 11) (oi := ⟨some 62, _, _, _, _, _⟩) (v := (.bool true)) rfl (by kernel_rfl) (by kernel_rfl) (by kernel_rfl) (fun _ _ _ h => h) (Or.inl ⟨by rfl, fun w' hw => by go_simp⟩) hHeld ?_
      try simp only [Act.put, List.setIfInBounds_toArray, List.set_cons_zero, List.set_cons_succ]
      refine wpAnyH_take (i := 12) (oi := ⟨some 63, _, _, _, _, _⟩) (v := (.bool true)) rfl (by kernel_rfl) (by kernel_rfl) (by kernel_rfl) (fun _ _ _ h => h) (Or.inl ⟨by rfl, fun w' hw => by go_simp⟩) hHeld ?_
      try simp only [Act.put, List.setIfInBounds_toArray, List.set_cons_zero, List.set_cons_succ]
      refine wpAnyH_take (i := 13) (oi := ⟨some 64, _, _, _, _, _⟩) (v := (.slice a n c)) rfl (by kernel_rfl) (by kernel_rfl) (by kernel_rfl) (fun _ _ _ h => h) (Or.inl ⟨by rfl, fun w' hw => by go_simp⟩) hHeld ?_
      try simp only [Act.put, List.setIfInBounds_toArray, List.set_cons_zero, List.set_cons_succ]
      refine wpAnyH_take (i := 15) (oi := ⟨some 66, _, _, _, _, _⟩) (v := (.slice a n c)) rfl (by kernel_rfl) (by kernel_rfl) (by kernel_rfl) (fun _ _ _ h => h) (Or.inl ⟨by rfl, fun w' hw => by go_simp⟩) hHeld ?_
      try simp only [Act.put, List.setIfInBounds_toArray, List.set_cons_zero, List.set_cons_succ]
      refine one_ready 14 rfl (by kernel_rfl) (fun K hK => ?_)
      go_simp
      refine (order_any a n c y w10 (by omega) ((HI8.out.below (below_none hHeld (Nat.le_refl _))).more hHeld.size)).mono ?_
      rintro e wa ⟨oa, ga, hoa, rfl, hira, hbwa⟩
      refine hK.out _ _ (hHeld.trans (Only.of_below hbwa)) (fun hwa => ?_)
      clear hK K
      try simp only [List.setIfInBounds_toArray, List.set_cons_zero, List.set_cons_succ]
      refine one_ready 16 rfl (by kernel_rfl) (fun K hK => ?_)
      go_simp
      refine (as_any a n c y wa (by omega) ((HI8.out.below (below_none hwa (Nat.le_refl _))).more hwa.size)).mono ?_
      rintro e wb ⟨Ab, capb, rfl, hownb, hbwb⟩
      refine hK.out _ _ (hwa.trans (Only.of_below hbwb)) (fun hwb => ?_)
      clear hK K
      try simp only [List.setIfInBounds_toArray, List.set_cons_zero, List.set_cons_succ]
      refine one_ready 17 rfl (by kernel_rfl) (fun K hK => ?_)
      go_simp
      refine (ref_order Ab n capb y wb (by omega) (own_items hownb)).mono ?_
      rintro e wc ⟨oc, Ac, capc, hoc, rfl, hnc, hbwc, _⟩
      refine hK.out _ _ (hwb.trans (Only.of_below hbwc)) (fun hwc => ?_)
      clear hK K
      try simp only [List.setIfInBounds_toArray, List.set_cons_zero, List.set_cons_succ]
      obtain rfl := hoa.only hoc
      refine one_ready 18 rfl (by kernel_rfl) (fun K hK => ?_)
      go_simp
      refine (same_nums _ _ n _ _ _ _ _ wc (by omega) (((hira.nums (Nat.le_refl _)).below hbwb).below (hbwc.mono hbwb.size)) (hnc)).mono ?_
      rintro e wz ⟨rfl, qz, hqz⟩
      have hSy : Only nobody w8 wz := by rw [hqz]; exact hwc.drewN qz
      clear hqz
      refine hK.out _ _ hSy (fun hSz => ?_)
      clear hK K
      try simp only [List.setIfInBounds_toArray, List.set_cons_zero, List.set_cons_succ]
      have hHeld := hSz
      refine wpAnyH_take (i := 19) (oi := ⟨some 70, _, _, _, _, _⟩) (v := (.bool true)) rfl (by kernel_rfl) (by kernel_rfl) (by kernel_rfl) (fun _ _ _ h => h) (Or.inl ⟨by rfl, fun w' hw => by go_simp⟩) hHeld ?_
      try simp only [Act.put, List.setIfInBounds_toArray, List.set_cons_zero, List.set_cons_succ]
      refine wpAnyH_take (i := 20) (oi := ⟨some 71, _, _, _, _, _⟩) (v := (.bool true)) rfl (by kernel_rfl) (by kernel_rfl) (by kernel_rfl) (fun _ _ _ h => h) (Or.inl ⟨by rfl, fun w' hw => by go_simp⟩) hHeld ?_
      try simp only [Act.put, List.setIfInBounds_toArray, List.set_cons_zero, List.set_cons_succ]
      refine wpAnyH_take (i := 21) (oi := ⟨some 72, _, _, _, _, _⟩) (v := (.slice A1 k' ca)) rfl (by kernel_rfl) (by kernel_rfl) (by kernel_rfl) (fun _ _ _ h => h) (Or.inl ⟨by rfl, fun w' hw => by go_simp⟩) hHeld ?_
      try simp only [Act.put, List.setIfInBounds_toArray, List.set_cons_zero, List.set_cons_succ]
      refine wpAnyH_take (i := 22) (oi := ⟨some 73, _, _, _, _, _⟩) (v := (.slice A2 k' ca2)) rfl (by kernel_rfl) (by kernel_rfl) (by kernel_rfl) (fun _ _ _ h => h) (Or.inl ⟨by rfl, fun w' hw => by go_simp⟩) hHeld ?_
      try simp only [Act.put, List.setIfInBounds_toArray, List.set_cons_zero, List.set_cons_succ]
      refine one_ready 23 rfl (by kernel_rfl) (fun K hK => ?_)
      go_simp
      refine (same_nums _ _ k' _ _ _ _ z _ (by omega) (HNz8.out.below (below_none hHeld h58s)) (HNy8.out.below (below_none hHeld (Nat.le_refl _)))).mono ?_
      rintro e w11 ⟨rfl, q11, hq11⟩
      have hS11 : Only nobody w8 w11 := by rw [hq11]; exact hHeld.drewN q11
      clear hq11
      refine hK.out _ _ hS11 (fun hHeld => ?_)
      clear hK K
      try simp only [List.setIfInBounds_toArray, List.set_cons_zero, List.set_cons_succ]
      refine wpAnyH_take (i := 24) (oi := ⟨some 75, _, _, _, _, _⟩) (v := (.bool true)) rfl (by kernel_rfl) (by kernel_rfl) (by kernel_rfl) (fun _ _ _ h => h) (Or.inl ⟨by rfl, fun w' hw => by go_simp⟩) hHeld ?_
      try simp only [Act.put, List.setIfInBounds_toArray, List.set_cons_zero, List.set_cons_succ]
      refine wpAnyH_take (i := 25) (oi := ⟨some 76, _, _, _, _, _⟩) (v := (.bool true)) rfl (by kernel_rfl) (by kernel_rfl) (by kernel_rfl) (fun _ _ _ h => h) (Or.inl ⟨by rfl, fun w' hw => by go_simp⟩) hHeld ?_
      try simp only [Act.put, List.setIfInBounds_toArray, List.set_cons_zero, List.set_cons_succ]
      refine wpAnyH_take (i := 26) (oi := ⟨some 77, _, _, _, _, _⟩) (v := (.slice B1 j' cb)) rfl (by kernel_rfl) (by kernel_rfl) (by kernel_rfl) (fun _ _ _ h => h) (Or.inl ⟨by rfl, fun w' hw => by go_simp⟩) hHeld ?_
      try simp only [Act.put, List.setIfInBounds_toArray, List.set_cons_zero, List.set_cons_succ]
      refine wpAnyH_take (i := 27) (oi := ⟨some 78, _, _, _, _, _⟩) (v := (.slice B2 j' cb2)) rfl (by kernel_rfl) (by kernel_rfl) (by kernel_rfl) (fun _ _ _ h => h) (Or.inl ⟨by rfl, fun w' hw => by go_simp⟩) hHeld ?_
      try simp only [Act.put, List.setIfInBounds_toArray, List.set_cons_zero, List.set_cons_succ]
      refine one_ready 28 rfl (by kernel_rfl) (fun K hK => ?_)
      go_simp
      refine (same_nums _ _ j' _ _ _ _ u _ (by omega) (HNu8.out.below (below_none hHeld h58s)) (HNv8.out.below (below_none hHeld (Nat.le_refl _)))).mono ?_
      rintro e w12 ⟨rfl, q12, rfl⟩
      refine hK.out _ _ (hHeld.drewN q12) (fun hHeld => ?_)
      clear hK K
      try simp only [List.setIfInBounds_toArray, List.set_cons_zero, List.set_cons_succ]
      refine wpAnyH_take (i := 29) (oi := ⟨some 80, _, _, _, _, _⟩) (v := (.bool true)) rfl (by kernel_rfl) (by kernel_rfl) (by kernel_rfl) (fun _ _ _ h => h) (Or.inl ⟨by rfl, fun w' hw => by go_simp⟩) hHeld ?_
      try simp only [Act.put, List.setIfInBounds_toArray, List.set_cons_zero, List.set_cons_succ]
      refine wpAnyH_take (i := 30) (oi := ⟨some 6, _, _, _, _, _⟩) (v := (.bool true)) rfl (by kernel_rfl) (by kernel_rfl) (by kernel_rfl) (fun _ _ _ h => h) (Or.inl ⟨by rfl, fun w' hw => by go_simp⟩) hHeld ?_
      try simp only [Act.put, List.setIfInBounds_toArray, List.set_cons_zero, List.set_cons_succ]
      refine wpAnyH_done (by kernel_rfl) ?_ _
      go_wp2_with fail
      go_ret
      exact ⟨rfl, HB8.out.trans ((below_none hHeld (Nat.le_refl _)).mono HB8.out.size)⟩
    · obtain ⟨d, s, t, rfl, rfl, rfl, h1, h2, h3, h4, h5⟩ := (isSh_iff D S T).1 hsh
      go_enter Try.func3, Try.ntmps3
      go_wp2_with fail
      refine (shown_any _).mono ?_
      rintro e w1 ⟨rfl, hb1⟩
      have hbx := (Box.new w 23 #[.int .i64 (d : Int), .int .i64 (s : Int), .int .i64 (t : Int)]).of (hb1.block _ (by simp))
      have hwl : w.heap.size < w1.heap.size := hbx.lt
      have HB := Lib.hid (((Below.refl _ w).alloc (Nat.le_refl _) (.cells #[.int .i64 (d : Int), .int .i64 (s : Int), .int .i64 (t : Int)] 23)).trans (hb1.mono (by simp)))
      have hn2 : ¬ (160 : Int) < (n : Int) := by omega
      have c0 := hbx.cell 0
      have c1 := hbx.cell 1
      have c2 := hbx.cell 2
      have HBx := Lib.hid (hbx.alloc (.cells #[.int .i64 (d : Int), .int .i64 (s : Int), .int .i64 (t : Int)] 26))
      have HBy := Lib.hid (Box.new w1 26 #[.int .i64 (d : Int), .int .i64 (s : Int), .int .i64 (t : Int)])
      have HB2 := Lib.hid (HB.out.alloc HB.out.size (.cells #[.int .i64 (d : Int), .int .i64 (s : Int), .int .i64 (t : Int)] 26))
      clear hb1 hbx HB
      go_wp2_with fail
      refine (HRr.out _).mono ?_
      rintro e w2 ⟨rfl, hb2⟩
      rw [hsh]
      have HB3 := Lib.hid (HB2.out.trans (hb2.mono HB2.out.size))
      have HBx3 := Lib.hid (HBx.out.of (hb2.block _ HBx.out.lt))
      have HBy3 := Lib.hid (HBy.out.of (hb2.block _ HBy.out.lt))
      clear hb2 HB2 HBx HBy c0 c1 c2
      have c0 := HBx3.out.cell 0
      have c1 := HBx3.out.cell 1
      have c2 := HBx3.out.cell 2
      have e0 := HBy3.out.cell 0
      have e1 := HBy3.out.cell 1
      have e2 := HBy3.out.cell 2
      go_wp2_with fail
      refine (HPr.out _).mono ?_
      rintro e w3 ⟨rfl, hb3⟩
      rw [plI_in h1 h2 h3 h4 h5 rfl rfl]
      have HB4 := Lib.hid (HB3.out.trans (hb3.mono HB3.out.size))
      have HBx4 := Lib.hid (HBx3.out.of (hb3.block _ HBx3.out.lt))
      have HBy4 := Lib.hid (HBy3.out.of (hb3.block _ HBy3.out.lt))
      clear hb3 HB3 HBx3 HBy3 c0 c1 c2 e0 e1 e2
      have hnn : (d + 1) * s + t + 1 ≤ 160 := by have := (mul_places h1 h3 rfl).2; omega
      generalize (d + 1) * s + t + 1 = m at *
      go_wp2_with fail
      refine (filled_any a n c m y w3 (by omega) ((HI.out.below HB4.out).more HB4.out.size)).mono ?_
      rintro e w4 ⟨A, cap, rfl, hown, hb4⟩
      have HB3 := Lib.hid (HB4.out.trans (hb4.mono HB4.out.size))
      have HBx3 := Lib.hid (HBx4.out.of (hb4.block _ HBx4.out.lt))
      have HBy3 := Lib.hid (HBy4.out.of (hb4.block _ HBy4.out.lt))
      have HIn := Lib.hid (own_items hown)
      have HYn := Lib.hid (fl_ok2 (n := m) HY.out)
      clear hb4 hown HB4 HBx4 HBy4
      have c0 := HBx3.out.cell 0
      have c1 := HBx3.out.cell 1
      have c2 := HBx3.out.cell 2
      generalize fl n y = yy at *
      go_wp2_with fail
      refine (deal_got d s t m cap A yy _ HIn.out HYn.out).mono ?_
      rintro e w5 ⟨k, z, j, u, A1, ca, B1, cb, ⟨hsp, hk, hj⟩, rfl, hnz, hnu, hb5⟩
      have HB5 := Lib.hid (HB3.out.trans (hb5.mono HB3.out.size))
      have HBx5 := Lib.hid (HBx3.out.of (hb5.block _ HBx3.out.lt))
      have HBy5 := Lib.hid (HBy3.out.of (hb5.block _ HBy3.out.lt))
      have HI5 := Lib.hid ((HIn.out.below hb5).more hb5.size)
      have HSp := Lib.hid hsp
      have HNz := Lib.hid hnz
      have HNu := Lib.hid hnu
      clear hb5 hsp hnz hnu HB3 HBx3 HBy3 HIn c0 c1 c2
      have e0 := HBy5.out.cell 0
      have e1 := HBy5.out.cell 1
      have e2 := HBy5.out.cell 2
      go_wp2_with fail
      refine held_s (S := fun w' => Only nobody w5 w') 9 rfl (by kernel_rfl) ((Only.refl _ _).drew) (fun hHeld => ?_)
      simp only [Array.replicate_succ, Array.replicate_zero, List.push_toArray, List.nil_append, List.cons_append]
      generalize w5.drew = w6 at *
      refine wpAnyH_take (i := 0) (oi := ⟨some 45, _, _, _, _, _⟩) (v := (.agg #[.int .i64 (d : Int), .int .i64 (s : Int), .int .i64 (t : Int)])) rfl (by kernel_rfl) (by kernel_rfl) (by kernel_rfl) (fun _ _ _ h => h) (Or.inl ⟨by rfl, fun w' hw => by (have k0 := kept_cell hw e0; have k1 := kept_cell hw e1; have k2 := kept_cell hw e2; go_simp)⟩) hHeld ?_
      try simp only [Act.put, List.setIfInBounds_toArray, List.set_cons_zero, List.set_cons_succ]
      refine wpAnyH_take (i := 1) (oi := ⟨some 46, _, _, _, _, _⟩) (v := (.slice A m cap)) rfl (by kernel_rfl) (by kernel_rfl) (by kernel_rfl) (fun _ _ _ h => h) (Or.inl ⟨by rfl, fun w' hw => by go_simp⟩) hHeld ?_
      try simp only [Act.put, List.setIfInBounds_toArray, List.set_cons_zero, List.set_cons_succ]
      refine one_ready 2 rfl (by kernel_rfl) (fun K hK => ?_)
      go_simp
      refine (as_any A m cap yy w6 (by omega) ((HI5.out.below (below_none hHeld (Nat.le_refl _))).more hHeld.size)).mono ?_
      rintro e w7 ⟨Aa, capa, rfl, howna, hb7⟩
      refine hK.out _ _ (hHeld.trans (Only.of_below hb7)) (fun hHeld7 => ?_)
      clear hK K
      try simp only [List.setIfInBounds_toArray, List.set_cons_zero, List.set_cons_succ]
      refine one_ready 3 rfl (by kernel_rfl) (fun K hK => ?_)
      go_simp
      refine (ref_got d s t m capa Aa yy w7 (own_items howna)).mono ?_
      rintro e w8 ⟨k', z', j', u', A2, ca2, B2, cb2, ⟨hsp, hk', hj'⟩, rfl, hnz, hnu, hb8⟩
      obtain ⟨rfl, hz, rfl, hu⟩ := HSp.out.same hsp
      refine hK.out _ _ (hHeld7.trans (Only.of_below hb8)) (fun hHeld8 => ?_)
      clear hK K
      try simp only [List.setIfInBounds_toArray, List.set_cons_zero, List.set_cons_succ]
      have hHeld := hHeld8
      refine wpAnyH_take (i := 4) (oi := ⟨some 44, _, _, _, _, _⟩) (v := (.tuple #[.slice A2 k' ca2, .slice B2 j' cb2])) rfl (by kernel_rfl) (by kernel_rfl) (by kernel_rfl) (fun _ _ _ h => h) (Or.inl ⟨by rfl, fun w' hw => by go_simp⟩) hHeld ?_
      try simp only [Act.put, List.setIfInBounds_toArray, List.set_cons_zero, List.set_cons_succ]
      refine wpAnyH_take (i := 5) (oi := ⟨some 49, _, _, _, _, _⟩) (v := (.slice A2 k' ca2)) rfl (by kernel_rfl) (by kernel_rfl) (by kernel_rfl) (fun _ _ _ h => h) (Or.inl ⟨by rfl, fun w' hw => by go_simp⟩) hHeld ?_
      try simp only [Act.put, List.setIfInBounds_toArray, List.set_cons_zero, List.set_cons_succ]
      refine wpAnyH_take (i := 6) (oi := ⟨some 50, _, _, _, _, _⟩) (v := (.slice B2 j' cb2)) rfl (by kernel_rfl) (by kernel_rfl) (by kernel_rfl) (fun _ _ _ h => h) (Or.inl ⟨by rfl, fun w' hw => by go_simp⟩) hHeld ?_
      try simp only [Act.put, List.setIfInBounds_toArray, List.set_cons_zero, List.set_cons_succ]
      refine wpAnyH_take (i := 7) (oi := ⟨some 11, _, _, _, _, _⟩) (v := (.slice A2 k' ca2)) rfl (by kernel_rfl) (by kernel_rfl) (by kernel_rfl) (fun _ _ _ h => h) (Or.inl ⟨by rfl, fun w' hw => by go_simp⟩) hHeld ?_
      try simp only [Act.put, List.setIfInBounds_toArray, List.set_cons_zero, List.set_cons_succ]
      refine wpAnyH_take (i := 8) (oi := ⟨some 12, _, _, _, _, _⟩) (v := (.slice B2 j' cb2)) rfl (by kernel_rfl) (by kernel_rfl) (by kernel_rfl) (fun _ _ _ h => h) (Or.inl ⟨by rfl, fun w' hw => by go_simp⟩) hHeld ?_
      try simp only [Act.put, List.setIfInBounds_toArray, List.set_cons_zero, List.set_cons_succ]
      refine wpAnyH_done (by kernel_rfl) ?_ _
      have HO8 := Lib.hid hHeld8
      have h58 := below_none (B := w5.heap.size) hHeld8 (Nat.le_refl _)
      have HB8 := Lib.hid (HB5.out.trans (h58.mono HB5.out.size))
      have hbx8 := HBx5.out.of (h58.block _ HBx5.out.lt)
      have hby8 := HBy5.out.of (h58.block _ HBy5.out.lt)
      have c0 := hbx8.cell 0
      have c1 := hbx8.cell 1
      have c2 := hbx8.cell 2
      have e0 := hby8.cell 0
      have e1 := hby8.cell 1
      have e2 := hby8.cell 2
      have h58s : w5.heap.size ≤ w8.heap.size := hHeld8.size
      have HI8 := Lib.hid ((HI5.out.below h58).more h58.size)
      have HNz8 := Lib.hid (HNz.out.below h58)
      have HNu8 := Lib.hid (HNu.out.below h58)
      have HNy8 := Lib.hid (hnz.congr9 (z' := z) hz)
      have HNv8 := Lib.hid (hnu.congr9 (z' := u) hu)
      clear hsp hnz hnu hz hu hb8 hb7 howna HSp HNz HNu HI5 HB5 HBx5 HBy5 h58 hbx8 hby8 hHeld hHeld7 hHeld8 HO8
      go_wp2_with fail
      have HR2 : Hid (∀ W, _) := HR
      have HRr2 : Hid (∀ W, _) := HRr
      generalize isSh (d : Int) (s : Int) (t : Int) = bs at HR2 HRr2
      have hHeld : Only nobody w8 w8.drew := (Only.refl _ _).drew
      refine held_s (S := fun w' => Only nobody w8 w') 31 rfl (by kernel_rfl) hHeld (fun _ => ?_)
      simp only [Array.replicate_succ, Array.replicate_zero, List.push_toArray, List.nil_append, List.cons_append]
      generalize w8.drew = w9 at *
      refine wpAnyH_take (i := 0) (oi := ⟨some 51, _, _, _, _, _⟩) (v := (.agg #[.int .i64 (d : Int), .int .i64 (s : Int), .int .i64 (t : Int)])) rfl (by kernel_rfl) (by kernel_rfl) (by kernel_rfl) (fun _ _ _ h => h) (Or.inl ⟨by rfl, fun w' hw => by (have k0 := kept_cell hw c0; have k1 := kept_cell hw c1; have k2 := kept_cell hw c2; go_simp)⟩) hHeld ?_
      try simp only [Act.put, List.setIfInBounds_toArray, List.set_cons_zero, List.set_cons_succ]
      refine wpAnyH_take (i := 2) (oi := ⟨some 53, _, _, _, _, _⟩) (v := (.agg #[.int .i64 (d : Int), .int .i64 (s : Int), .int .i64 (t : Int)])) rfl (by kernel_rfl) (by kernel_rfl) (by kernel_rfl) (fun _ _ _ h => h) (Or.inl ⟨by rfl, fun w' hw => by (have k0 := kept_cell hw e0; have k1 := kept_cell hw e1; have k2 := kept_cell hw e2; go_simp)⟩) hHeld ?_
      try simp only [Act.put, List.setIfInBounds_toArray, List.set_cons_zero, List.set_cons_succ]
      refine one_ready 1 rfl (by kernel_rfl) (fun K hK => ?_)
      go_simp
      refine (HR2.out _).mono ?_
      rintro e wa ⟨rfl, hba⟩
      refine hK.out _ _ (hHeld.trans (Only.of_below hba)) (fun hSa => ?_)
      clear hK K
      try simp only [List.setIfInBounds_toArray, List.set_cons_zero, List.set_cons_succ]
      refine one_ready 3 rfl (by kernel_rfl) (fun K hK => ?_)
      go_simp
      refine (HRr2.out _).mono ?_
      rintro e w10 ⟨rfl, hbb⟩
      refine hK.out _ _ (hSa.trans (Only.of_below hbb)) (fun hHeld => ?_)
      clear hK K hSa hba hbb
      try simp only [List.setIfInBounds_toArray, List.set_cons_zero, List.set_cons_succ]
      refine wpAnyH_take (i := 4) (oi := ⟨some 55, _, _, _, _, _⟩) (v := (.bool true)) rfl (by kernel_rfl) (by kernel_rfl) (by kernel_rfl) (fun _ _ _ h => h) (Or.inl ⟨by rfl, fun w' hw => by (cases bs <;> go_simp)⟩) hHeld ?_
      try simp only [Act.put, List.setIfInBounds_toArray, List.set_cons_zero, List.set_cons_succ]
      refine wpAnyH_take (i := 5) (oi := ⟨some 56, _, _, _, _, _⟩) (v := (.bool true)) rfl (by kernel_rfl) (by kernel_rfl) (by kernel_rfl) (fun _ _ _ h => h) (Or.inl ⟨by rfl, fun w' hw => by go_simp⟩) hHeld ?_
      try simp only [Act.put, List.setIfInBounds_toArray, List.set_cons_zero, List.set_cons_succ]
      refine wpAnyH_take (i := 6) (oi := ⟨some 57, _, _, _, _, _⟩) (v := (.agg #[.int .i64 (d : Int), .int .i64 (s : Int), .int .i64 (t : Int)])) rfl (by kernel_rfl) (by kernel_rfl) (by kernel_rfl) (fun _ _ _ h => h) (Or.inl ⟨by rfl, fun w' hw => by (have k0 := kept_cell hw c0; have k1 := kept_cell hw c1; have k2 := kept_cell hw c2; go_simp)⟩) hHeld ?_
      try simp only [Act.put, List.setIfInBounds_toArray, List.set_cons_zero, List.set_cons_succ]
      refine wpAnyH_take (i := 8) (oi := ⟨some 59, _, _, _, _, _⟩) (v := (.agg #[.int .i64 (d : Int), .int .i64 (s : Int), .int .i64 (t : Int)])) rfl (by kernel_rfl) (by kernel_rfl) (by kernel_rfl) (fun _ _ _ h => h) (Or.inl ⟨by rfl, fun w' hw => by (have k0 := kept_cell hw e0; have k1 := kept_cell hw e1; have k2 := kept_cell hw e2; go_simp)⟩) hHeld ?_
      try simp only [Act.put, List.setIfInBounds_toArray, List.set_cons_zero, List.set_cons_succ]
      refine one_ready 7 rfl (by kernel_rfl) (fun K hK => ?_)
      go_simp
      refine (HP.out _).mono ?_
      rintro e wa ⟨rfl, hba⟩
      refine hK.out _ _ (hHeld.trans (Only.of_below hba)) (fun hSa => ?_)
      clear hK K
      try simp only [List.setIfInBounds_toArray, List.set_cons_zero, List.set_cons_succ]
      refine one_ready 9 rfl (by kernel_rfl) (fun K hK => ?_)
      go_simp
      refine (HPr.out _).mono ?_
      rintro e w10 ⟨rfl, hbb⟩
      refine hK.out _ _ (hSa.trans (Only.of_below hbb)) (fun hHeld => ?_)
      clear hK K hSa hba hbb
      try simp only [List.setIfInBounds_toArray, List.set_cons_zero, List.set_cons_succ]
      refine wpAnyH_take (i := 10) (oi := ⟨some 61, _, _, _, _, _⟩) (v := (.bool true)) rfl (by kernel_rfl) (by kernel_rfl) (by kernel_rfl) (fun _ _ _ h => h) (Or.inl ⟨by rfl, fun w' hw => by go_simp⟩) hHeld ?_
      try simp only [Act.put, List.setIfInBounds_toArray, List.set_cons_zero, List.set_cons_succ]
      refine wpAnyH_take (i := 11) (oi := ⟨some 62, _, _, _, _, _⟩) (v := (.bool true)) rfl (by kernel_rfl) (by kernel_rfl) (by kernel_rfl) (fun _ _ _ h => h) (Or.inl ⟨by rfl, fun w' hw => by go_simp⟩) hHeld ?_
      try simp only [Act.put, List.setIfInBounds_toArray, List.set_cons_zero, List.set_cons_succ]
      refine wpAnyH_take (i := 12) (oi := ⟨some 63, _, _, _, _, _⟩) (v := (.bool true)) rfl (by kernel_rfl) (by kernel_rfl) (by kernel_rfl) (fun _ _ _ h => h) (Or.inl ⟨by rfl, fun w' hw => by go_simp⟩) hHeld ?_
      try simp only [Act.put, List.setIfInBounds_toArray, List.set_cons_zero, List.set_cons_succ]
      refine wpAnyH_take (i := 13) (oi := ⟨some 64, _, _, _, _, _⟩) (v := (.slice A m cap)) rfl (by kernel_rfl) (by kernel_rfl) (by kernel_rfl) (fun _ _ _ h => h) (Or.inl ⟨by rfl, fun w' hw => by go_simp⟩) hHeld ?_
      try simp only [Act.put, List.setIfInBounds_toArray, List.set_cons_zero, List.set_cons_succ]
      refine wpAnyH_take (i := 15) (oi := ⟨some 66, _, _, _, _, _⟩) (v := (.slice A m cap)) rfl (by kernel_rfl) (by kernel_rfl) (by kernel_rfl) (fun _ _ _ h => h) (Or.inl ⟨by rfl, fun w' hw => by go_simp⟩) hHeld ?_
      try simp only [Act.put, List.setIfInBounds_toArray, List.set_cons_zero, List.set_cons_succ]
      refine one_ready 14 rfl (by kernel_rfl) (fun K hK => ?_)
      go_simp
      refine (order_any A m cap yy w10 (by omega) ((HI8.out.below (below_none hHeld (Nat.le_refl _))).more hHeld.size)).mono ?_
      rintro e wa ⟨oa, ga, hoa, rfl, hira, hbwa⟩
      refine hK.out _ _ (hHeld.trans (Only.of_below hbwa)) (fun hwa => ?_)
      clear hK K
      try simp only [List.setIfInBounds_toArray, List.set_cons_zero, List.set_cons_succ]
      refine one_ready 16 rfl (by kernel_rfl) (fun K hK => ?_)
      go_simp
      refine (as_any A m cap yy wa (by omega) ((HI8.out.below (below_none hwa (Nat.le_refl _))).more hwa.size)).mono ?_
      rintro e wb ⟨Ab, capb, rfl, hownb, hbwb⟩
      refine hK.out _ _ (hwa.trans (Only.of_below hbwb)) (fun hwb => ?_)
      clear hK K
      try simp only [List.setIfInBounds_toArray, List.set_cons_zero, List.set_cons_succ]
      refine one_ready 17 rfl (by kernel_rfl) (fun K hK => ?_)
      go_simp
      refine (ref_order Ab m capb yy wb (by omega) (own_items hownb)).mono ?_
      rintro e wc ⟨oc, Ac, capc, hoc, rfl, hnc, hbwc, _⟩
      refine hK.out _ _ (hwb.trans (Only.of_below hbwc)) (fun hwc => ?_)
      clear hK K
      try simp only [List.setIfInBounds_toArray, List.set_cons_zero, List.set_cons_succ]
      obtain rfl := hoa.only hoc
      refine one_ready 18 rfl (by kernel_rfl) (fun K hK => ?_)
      go_simp
      refine (same_nums _ _ m _ _ _ _ _ wc (by omega) (((hira.nums (Nat.le_refl _)).below hbwb).below (hbwc.mono hbwb.size)) (hnc)).mono ?_
      rintro e wz ⟨rfl, qz, hqz⟩
      have hSy : Only nobody w8 wz := by rw [hqz]; exact hwc.drewN qz
      clear hqz
      refine hK.out _ _ hSy (fun hSz => ?_)
      clear hK K
      try simp only [List.setIfInBounds_toArray, List.set_cons_zero, List.set_cons_succ]
      have hHeld := hSz
      refine wpAnyH_take (i := 19) (oi := ⟨some 70, _, _, _, _, _⟩) (v := (.bool true)) rfl (by kernel_rfl) (by kernel_rfl) (by kernel_rfl) (fun _ _ _ h => h) (Or.inl ⟨by rfl, fun w' hw => by go_simp⟩) hHeld ?_
      try simp only [Act.put, List.setIfInBounds_toArray, List.set_cons_zero, List.set_cons_succ]
      refine wpAnyH_take (i := 20) (oi := ⟨some 71, _, _, _, _, _⟩) (v := (.bool true)) rfl (by kernel_rfl) (by kernel_rfl) (by kernel_rfl) (fun _ _ _ h => h) (Or.inl ⟨by rfl, fun w' hw => by go_simp⟩) hHeld ?_
      try simp only [Act.put, List.setIfInBounds_toArray, List.set_cons_zero, List.set_cons_succ]
      refine wpAnyH_take (i := 21) (oi := ⟨some 72, _, _, _, _, _⟩) (v := (.slice A1 k' ca)) rfl (by kernel_rfl) (by kernel_rfl) (by kernel_rfl) (fun _ _ _ h => h) (Or.inl ⟨by rfl, fun w' hw => by go_simp⟩) hHeld ?_
      try simp only [Act.put, List.setIfInBounds_toArray, List.set_cons_zero, List.set_cons_succ]
      refine wpAnyH_take (i := 22) (oi := ⟨some 73, _, _, _, _, _⟩) (v := (.slice A2 k' ca2)) rfl (by kernel_rfl) (by kernel_rfl) (by kernel_rfl) (fun _ _ _ h => h) (Or.inl ⟨by rfl, fun w' hw => by go_simp⟩) hHeld ?_
      try simp only [Act.put, List.setIfInBounds_toArray, List.set_cons_zero, List.set_cons_succ]
      refine one_ready 23 rfl (by kernel_rfl) (fun K hK => ?_)
      go_simp
      refine (same_nums _ _ k' _ _ _ _ z _ (by omega) (HNz8.out.below (below_none hHeld h58s)) (HNy8.out.below (below_none hHeld (Nat.le_refl _)))).mono ?_
      rintro e w11 ⟨rfl, q11, hq11⟩
      have hS11 : Only nobody w8 w11 := by rw [hq11]; exact hHeld.drewN q11
      clear hq11
      refine hK.out _ _ hS11 (fun hHeld => ?_)
      clear hK K
      try simp only [List.setIfInBounds_toArray, List.set_cons_zero, List.set_cons_succ]
      refine wpAnyH_take (i := 24) (oi := ⟨some 75, _, _, _, _, _⟩) (v := (.bool true)) rfl (by kernel_rfl) (by kernel_rfl) (by kernel_rfl) (fun _ _ _ h => h) (Or.inl ⟨by rfl, fun w' hw => by go_simp⟩) hHeld ?_
      try simp only [Act.put, List.setIfInBounds_toArray, List.set_cons_zero, List.set_cons_succ]
      refine wpAnyH_take (i := 25) (oi := ⟨some 76, _, _, _, _, _⟩) (v := (.bool true)) rfl (by kernel_rfl) (by kernel_rfl) (by kernel_rfl) (fun _ _ _ h => h) (Or.inl ⟨by rfl, fun w' hw => by go_simp⟩) hHeld ?_
      try simp only [Act.put, List.setIfInBounds_toArray, List.set_cons_zero, List.set_cons_succ]
      refine wpAnyH_take (i := 26) (oi := ⟨some 77, _, _, _, _, _⟩) (v := (.slice B1 j' cb)) rfl (by kernel_rfl) (by kernel_rfl) (by kernel_rfl) (fun _ _ _ h => h) (Or.inl ⟨by rfl, fun w' hw => by go_simp⟩) hHeld ?_
      try simp only [Act.put, List.setIfInBounds_toArray, List.set_cons_zero, List.set_cons_succ]
      refine wpAnyH_take (i := 27) (oi := ⟨some 78, _, _, _, _, _⟩) (v := (.slice B2 j' cb2)) rfl (by kernel_rfl) (by kernel_rfl) (by kernel_rfl) (fun _ _ _ h => h) (Or.inl ⟨by rfl, fun w' hw => by go_simp⟩) hHeld ?_
      try simp only [Act.put, List.setIfInBounds_toArray, List.set_cons_zero, List.set_cons_succ]
      refine one_ready 28 rfl (by kernel_rfl) (fun K hK => ?_)
      go_simp
      refine (same_nums _ _ j' _ _ _ _ u _ (by omega) (HNu8.out.below (below_none hHeld h58s)) (HNv8.out.below (below_none hHeld (Nat.le_refl _)))).mono ?_
      rintro e w12 ⟨rfl, q12, rfl⟩
      refine hK.out _ _ (hHeld.drewN q12) (fun hHeld => ?_)
      clear hK K
      try simp only [List.setIfInBounds_toArray, List.set_cons_zero, List.set_cons_succ]
      refine wpAnyH_take (i := 29) (oi := ⟨some 80, _, _, _, _, _⟩) (v := (.bool true)) rfl (by kernel_rfl) (by kernel_rfl) (by kernel_rfl) (fun _ _ _ h => h) (Or.inl ⟨by rfl, fun w' hw => by go_simp⟩) hHeld ?_
      try simp only [Act.put, List.setIfInBounds_toArray, List.set_cons_zero, List.set_cons_succ]
      refine wpAnyH_take (i := 30) (oi := ⟨some 6, _, _, _, _, _⟩) (v := (.bool true)) rfl (by kernel_rfl) (by kernel_rfl) (by kernel_rfl) (fun _ _ _ h => h) (Or.inl ⟨by rfl, fun w' hw => by go_simp⟩) hHeld ?_
      try simp only [Act.put, List.setIfInBounds_toArray, List.set_cons_zero, List.set_cons_succ]
      refine wpAnyH_done (by kernel_rfl) ?_ _
      go_wp2_with fail
      go_ret
      exact ⟨rfl, HB8.out.trans ((below_none hHeld (Nat.le_refl _)).mono HB8.out.size)⟩
end Go.Proofs.Ytnpddimepcblkaa
