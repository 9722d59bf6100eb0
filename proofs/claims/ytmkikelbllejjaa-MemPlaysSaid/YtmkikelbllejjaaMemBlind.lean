/- The walk of the law on blindness: what is told of looks does not hang on what is written. Conditions: the slices' cells hold numbers and looks; they are no longer than memory can hold. -/
import Derived.Test.YtmkikelbllejjaaMemDuo
namespace Go.Proofs.Ytmkikelbllejjaa
open Go.RowKit Go.ChangeShapes Go.WideShapes Go.ChangeAt

/-- Two memories that were looked at alike. -/
def Alike (M N : MS) : Prop := M.es = N.es ∧ M.ft = N.ft ∧ M.k = N.k ∧ M.sz = N.sz
theorem Alike.hit {M N : MS} (h : Alike M N) (r a : Int) : M.hit r a = N.hit r a := by
  obtain ⟨_, _, h3, h4⟩ := h
  unfold MS.hit
  have e : M.size r = N.size r := by simp only [MS.size, h3, h4]
  rw [e]
theorem Alike.read {M N : MS} (h : Alike M N) (r a : Int) : Alike (M.read r a) (N.read r a) := by
  have hh := h.hit r a
  obtain ⟨h1, h2, h3, h4⟩ := h
  unfold MS.read
  rw [hh]
  split
  · exact ⟨by simp [MS.see, h1], h2, h3, h4⟩
  · exact ⟨h1, rfl, h3, h4⟩
theorem Alike.write {M N : MS} (h : Alike M N) (r a : Int) (f g : Nat → Int) : Alike (M.write r a f) (N.write r a g) := by
  have hh := h.hit r a
  obtain ⟨h1, h2, h3, h4⟩ := h
  unfold MS.write
  rw [hh]
  split
  · exact ⟨by simp [MS.see, MS.put, h1], h2, h3, h4⟩
  · exact ⟨h1, rfl, h3, h4⟩
theorem len_read (M : MS) (r a : Int) : (M.read r a).es.length ≤ M.es.length + 1 := by
  unfold MS.read
  split <;> simp [MS.see, MS.bad]
theorem len_write (M : MS) (r a : Int) (f : Nat → Int) : (M.write r a f).es.length ≤ M.es.length + 1 := by
  unfold MS.write
  split <;> simp [MS.see, MS.put, MS.bad]

/-- What stands while a round is walked: what came in, and the look's own cells. -/
def Rd (W : World) (xb : Nat) (x : Lk) (w' : World) : Prop := Kept (old W) W w' ∧ w'.cell? ⟨xb, 0, none⟩ = some (.int .i64 x.1) ∧ w'.cell? ⟨xb, 1, none⟩ = some (.int .i64 x.2.1) ∧ w'.cell? ⟨xb, 2, none⟩ = some (.int .u64 x.2.2.1)
section
variable {W w1 w2 : World} {X : Nat → Prop} {xb : Nat} {x : Lk}
theorem Rd.kept (h : Rd W xb x w1) (hk : Kept X w1 w2) (hx : X xb) (hX : ∀ i, old W i → X i) : Rd W xb x w2 :=
  ⟨h.1.trans (hk.mono hX), hk.cell h.2.1 hx, hk.cell h.2.2.1 hx, hk.cell h.2.2.2 hx⟩
theorem Rd.none (h : Rd W xb x w1) (ho : Only nobody w1 w2) : Rd W xb x w2 :=
  have hk : Kept (fun i => i = xb) w1 w2 := Kept.of_none ho
  ⟨h.1.trans (Kept.of_none ho), hk.cell h.2.1 rfl, hk.cell h.2.2.1 rfl, hk.cell h.2.2.2 rfl⟩
theorem Rd.new (h : Kept (old W) W w1) (x : Lk) (t : TypeId) : Rd W w1.heap.size x (w1.alloc (.cells #[.int .i64 x.1, .int .i64 x.2.1, .int .u64 x.2.2.1, .bool x.2.2.2] t)) :=
  have hb := Box.new w1 t #[.int .i64 x.1, .int .i64 x.2.1, .int .u64 x.2.2.1, .bool x.2.2.2]
  ⟨h.alloc _, hb.cell 0, hb.cell 1, hb.cell 2⟩
end
/-- In the loop: k looks are done. -/
def BlindAt (W : World) (p q : Nat) (k : Nat) (wr : World) : Prop := ∃ M N, Duo wr (old W) p M q N ∧ Kept (old W) W wr ∧ Alike M N ∧ M.es.length ≤ k

set_option maxRecDepth 100000 in
set_option maxHeartbeats 4000000 in
theorem blind_loop (a : Option Addr) (n cap : Nat) (z : Nat → Int) (a2 : Option Addr) (T cap2 : Nat) (x : Nat → Lk) (a3 : Option Addr) (O cap3 : Nat) (y : Nat → Int) (W : World)
    (hz : Nums .i64 W W.heap.size a n z) (hx : Looks W W.heap.size a2 T x) (hy : Nums .u64 W W.heap.size a3 O y) (hO : O ≤ 9223372036854775807) (hT : T ≤ 80) (hf : Fits n z) :
    Calls Try.prog 4 #[.slice a n cap, .slice a2 T cap2, .slice a3 O cap3] W (Yes W) := by
  have HZ := Lib.hid hz
  have HX := Lib.hid hx
  have HY := Lib.hid hy
  have HF := Lib.hid hf
  have hsz : ∀ i, i < n → z i = ((z i).toNat : Nat) := fun i hi => by have := (hf.2.2 i hi).1; omega
  have HSZ := Lib.hid hsz
  clear hz hx hy hf hsz
  go_enter Try.func4, Try.ntmps4
  go_wp2_with fail
  refine (shown_any W).mono ?_
  rintro e w0 ⟨rfl, hb0⟩
  have K0 : Hid (Kept (old W) W w0) := Only.of_below hb0
  have B0 := Lib.hid hb0
  clear hb0
  go_wp2_with fail
  refine (new_yes a n cap W.heap.size z (fun i => (z i).toNat) _ (HZ.out.below B0.out) B0.out.size HF.out HSZ.out).mono ?_
  rintro e w1 ⟨p, F, rfl, hm, ho, hF⟩
  have O1 := Lib.hid (own_new (X := old W) (fun i (hi : i < W.heap.size) => Nat.lt_of_lt_of_le hi B0.out.size) hm ho hF)
  have K1 := Lib.hid (K0.out.trans (Kept.of_none ho))
  have B1 := Lib.hid (K1.out.below (Nat.le_refl _) (fun i hi => hi))
  clear hm ho hF F K0 B0
  go_wp2_with fail
  refine (new_yes a n cap W.heap.size z (fun i => (z i).toNat) _ (HZ.out.below B1.out) B1.out.size HF.out HSZ.out).mono ?_
  rintro e w2 ⟨q, F, rfl, hm, ho, hF⟩
  have R2 := Lib.hid (show BlindAt W p q 0 w2 from ⟨_, _, duo_new O1.out ho (own_new (X := old w1) (fun i hi => hi) hm ho hF), K1.out.trans (Kept.of_none ho), ⟨rfl, rfl, rfl, rfl⟩, Nat.le_refl _⟩)
  clear hm ho hF F K1 B1 O1
  go_wp2
  go_loopw [12] (fun i wr => ∃ k : Nat, i = .int .i64 k ∧ k ≤ T ∧ BlindAt W p q k wr) (fun i _ => T - (intOf i).toNat)
  case atStart => exact ⟨0, rfl, Nat.zero_le _, R2.out⟩
  case round =>
    obtain ⟨k, rfl, hk, M, N, hD, hK, hA, hl⟩ := hrel
    have HD := Lib.hid hD
    have HK := Lib.hid hK
    have HA := Lib.hid hA
    clear hD hK hA
    by_cases hlt : k < T
    · obtain ⟨b, off, rfl, hr⟩ := HX.out.at (HK.out.below (Nat.le_refl _) (fun i hi => hi)) hlt
      obtain ⟨⟨r, at', nn, v⟩, hxk⟩ : ∃ y, x k = y := ⟨_, rfl⟩
      rw [hxk] at hr
      obtain ⟨x0, x1, x2, x3⟩ := lk_cells hr
      clear hr hxk
      dsimp only at x0 x1 x2 x3
      have HD3 := Lib.hid (HD.out.alloc (.cells #[.int .i64 r, .int .i64 at', .int .u64 nn, .bool v] 34))
      have HR3 := Lib.hid (Rd.new HK.out (r, at', nn, v) 34)
      by_cases hko : k < O
      · obtain ⟨b3, off3, rfl, hb3, cy⟩ := HY.out.at hko
        have cy' : wr.cell? ⟨b3, off3 + k, none⟩ = some (.int .u64 (y k)) := HK.out.cell cy hb3
        have hlt3 : b3 < wr.heap.size := Nat.lt_of_lt_of_le hb3 HK.out.size
        clear cy
        cases v
        · go_wp2_with fail
          refine (duo_read _ p q M N _ r at' HD3.out (by omega)).mono ?_
          rintro e w4 ⟨rfl, hD, hk4⟩
          have HD4 := Lib.hid hD.swap
          have HR4 := Lib.hid (HR3.out.kept hk4 (.inr rfl) (fun i h => .inl h))
          have y0 := HR4.out.2.1
          have y1 := HR4.out.2.2.1
          dsimp only at y0 y1
          clear hD hk4
          go_wp2_with fail
          refine (duo_read _ q p N (M.read r at') _ r at' HD4.out (by rw [← HA.out.1]; omega)).mono ?_
          rintro e w5 ⟨rfl, hD, hk5⟩
          have HB5 := Lib.hid (show BlindAt W p q (k + 1) w5 from ⟨_, _, hD.swap.weak (fun i h => .inl h), (HR4.out.kept hk5 (.inr rfl) (fun i h => .inl h)).1, HA.out.read r at', Nat.le_trans (len_read M r at') (by omega)⟩)
          clear hD hk5
          go_wp2
          go_roundw
          case rel => exact ⟨k + 1, by go_num, by omega, HB5.out⟩
          case measure => simp [intOf]; omega
        · go_wp2_with fail
          have hR3 := HR3.out
          go_region_held3 (fun w' => Kept (old W) W w' ∧ w'.cell? ⟨wr.heap.size, 0, none⟩ = some (.int .i64 r) ∧ w'.cell? ⟨wr.heap.size, 1, none⟩ = some (.int .i64 at') ∧ w'.cell? ⟨wr.heap.size, 2, none⟩ = some (.int .u64 nn)) (first | assumption | (exact Rd.none (x := (r, at', nn, true)) (by assumption) (Only.refl _ _).drew) | (exact Rd.none (x := (r, at', nn, true)) (by assumption) (((Only.refl _ _).alloc _).alloc _))) (first | (go_at_call 12; refine (cell_any _ _).mono ?_; rintro e w' ⟨rfl, rfl⟩) | (go_at_call 11; refine (duo_write _ p q M N _ r at' _ (HD3.out.none (by first | exact (((Only.refl _ _).alloc _).alloc _).drew | exact ((Only.refl _ _).drew.alloc _).alloc _)) (by omega)).mono ?_; rintro e w4 ⟨rfl, hD, hk4⟩; have HD4 := Lib.hid hD.swap; have hR4 : Rd W wr.heap.size (r, at', nn, true) w4 := Rd.kept (by assumption) hk4 (.inr rfl) (fun i h => .inl h); clear hD hk4))
          have HR4 := Lib.hid hR4
          clear hR4 hR3
          go_wp2_with fail
          have hR4 := HR4.out
          go_region_held3 (fun w' => Kept (old W) W w' ∧ w'.cell? ⟨wr.heap.size, 0, none⟩ = some (.int .i64 r) ∧ w'.cell? ⟨wr.heap.size, 1, none⟩ = some (.int .i64 at') ∧ w'.cell? ⟨wr.heap.size, 2, none⟩ = some (.int .u64 nn)) (first | assumption | (exact Rd.none (x := (r, at', nn, true)) (by assumption) (Only.refl _ _).drew) | (exact Rd.none (x := (r, at', nn, true)) (by assumption) (((Only.refl _ _).alloc _).alloc _))) (first | (go_at_call 12; refine (cell_any _ _).mono ?_; rintro e w' ⟨rfl, rfl⟩) | (go_at_call 11; refine (duo_write _ q p N (M.write r at' (cw nn)) _ r at' _ (HD4.out.none (by first | exact (((Only.refl _ _).alloc _).alloc _).drew | exact ((Only.refl _ _).drew.alloc _).alloc _)) (by rw [← HA.out.1]; omega)).mono ?_; rintro e w5 ⟨rfl, hD, hk5⟩; have hR5 : Rd W wr.heap.size (r, at', nn, true) w5 := Rd.kept (by assumption) hk5 (.inr rfl) (fun i h => .inl h); have HB5 := Lib.hid (show BlindAt W p q (k + 1) w5 from ⟨_, _, hD.swap.weak (fun i h => .inl h), hR5.1, HA.out.write r at' _ _, Nat.le_trans (len_write M r at' _) (by omega)⟩); clear hD hk5))
          go_wp2
          go_roundw
          case rel => exact ⟨k + 1, by go_num, by omega, HB5.out⟩
          case measure => simp [intOf]; omega
      · cases v
        · go_wp2_with fail
          refine (duo_read _ p q M N _ r at' HD3.out (by omega)).mono ?_
          rintro e w4 ⟨rfl, hD, hk4⟩
          have HD4 := Lib.hid hD.swap
          have HR4 := Lib.hid (HR3.out.kept hk4 (.inr rfl) (fun i h => .inl h))
          have y0 := HR4.out.2.1
          have y1 := HR4.out.2.2.1
          dsimp only at y0 y1
          clear hD hk4
          go_wp2_with fail
          refine (duo_read _ q p N (M.read r at') _ r at' HD4.out (by rw [← HA.out.1]; omega)).mono ?_
          rintro e w5 ⟨rfl, hD, hk5⟩
          have HB5 := Lib.hid (show BlindAt W p q (k + 1) w5 from ⟨_, _, hD.swap.weak (fun i h => .inl h), (HR4.out.kept hk5 (.inr rfl) (fun i h => .inl h)).1, HA.out.read r at', Nat.le_trans (len_read M r at') (by omega)⟩)
          clear hD hk5
          go_wp2
          go_roundw
          case rel => exact ⟨k + 1, by go_num, by omega, HB5.out⟩
          case measure => simp [intOf]; omega
        · go_wp2_with fail
          have hR3 := HR3.out
          go_region_held3 (fun w' => Kept (old W) W w' ∧ w'.cell? ⟨wr.heap.size, 0, none⟩ = some (.int .i64 r) ∧ w'.cell? ⟨wr.heap.size, 1, none⟩ = some (.int .i64 at') ∧ w'.cell? ⟨wr.heap.size, 2, none⟩ = some (.int .u64 nn)) (first | assumption | (exact Rd.none (x := (r, at', nn, true)) (by assumption) (Only.refl _ _).drew) | (exact Rd.none (x := (r, at', nn, true)) (by assumption) (((Only.refl _ _).alloc _).alloc _))) (first | (go_at_call 12; refine (cell_any _ _).mono ?_; rintro e w' ⟨rfl, rfl⟩) | (go_at_call 11; refine (duo_write _ p q M N _ r at' _ (HD3.out.none (by first | exact (((Only.refl _ _).alloc _).alloc _).drew | exact ((Only.refl _ _).drew.alloc _).alloc _)) (by omega)).mono ?_; rintro e w4 ⟨rfl, hD, hk4⟩; have HD4 := Lib.hid hD.swap; have hR4 : Rd W wr.heap.size (r, at', nn, true) w4 := Rd.kept (by assumption) hk4 (.inr rfl) (fun i h => .inl h); clear hD hk4))
          have HR4 := Lib.hid hR4
          clear hR4 hR3
          go_wp2_with fail
          have hR4 := HR4.out
          go_region_held3 (fun w' => Kept (old W) W w' ∧ w'.cell? ⟨wr.heap.size, 0, none⟩ = some (.int .i64 r) ∧ w'.cell? ⟨wr.heap.size, 1, none⟩ = some (.int .i64 at') ∧ w'.cell? ⟨wr.heap.size, 2, none⟩ = some (.int .u64 nn)) (first | assumption | (exact Rd.none (x := (r, at', nn, true)) (by assumption) (Only.refl _ _).drew) | (exact Rd.none (x := (r, at', nn, true)) (by assumption) (((Only.refl _ _).alloc _).alloc _))) (first | (go_at_call 12; refine (cell_any _ _).mono ?_; rintro e w' ⟨rfl, rfl⟩) | (go_at_call 11; refine (duo_write _ q p N (M.write r at' (cw nn)) _ r at' _ (HD4.out.none (by first | exact (((Only.refl _ _).alloc _).alloc _).drew | exact ((Only.refl _ _).drew.alloc _).alloc _)) (by rw [← HA.out.1]; omega)).mono ?_; rintro e w5 ⟨rfl, hD, hk5⟩; have hR5 : Rd W wr.heap.size (r, at', nn, true) w5 := Rd.kept (by assumption) hk5 (.inr rfl) (fun i h => .inl h); have HB5 := Lib.hid (show BlindAt W p q (k + 1) w5 from ⟨_, _, hD.swap.weak (fun i h => .inl h), hR5.1, HA.out.write r at' _ _, Nat.le_trans (len_write M r at' _) (by omega)⟩); clear hD hk5))
          go_wp2
          go_roundw
          case rel => exact ⟨k + 1, by go_num, by omega, HB5.out⟩
          case measure => simp [intOf]; omega
    · go_wp2_with fail
      refine (own_trace _ p M _ HD.out.left (by omega)).mono ?_
      rintro e w3 ⟨A, c3, rfl, ht, ho, _⟩
      have HT3 := Lib.hid ht.view
      have HD3 := Lib.hid (HD.out.none ho)
      have HK3 := Lib.hid (HK.out.trans (Kept.of_none ho))
      clear ht ho
      go_wp2_with fail
      refine (own_trace _ q N _ HD3.out.right (by rw [← HA.out.1]; omega)).mono ?_
      rintro e w4 ⟨A', c4, rfl, ht, ho, _⟩
      have HT4 := Lib.hid ht.view
      have HT5 := Lib.hid (HT3.out.only ho)
      have HD4 := Lib.hid (HD3.out.none ho)
      have HK4 := Lib.hid (HK3.out.trans (Kept.of_none ho))
      clear ht ho HT3 HD3 HK3
      go_wp2_with fail
      refine (same_any A A' c3 c4 M.es N.es _ HT5.out HT4.out (by omega)).mono ?_
      rw [decide_eq_true HA.out.1]
      rintro e w5 ⟨rfl, n5, rfl⟩
      go_wp2_with fail
      refine (own_fault _ p M _ (HD4.out.left.drewN n5)).mono ?_
      rintro e w6 ⟨rfl, rfl⟩
      go_wp2_with fail
      refine (own_fault _ q N _ (HD4.out.right.drewN n5)).mono ?_
      rw [← HA.out.2.1]
      rintro e w6 ⟨rfl, rfl⟩
      go_wp2
      go_ret
      exact ⟨by simp, (HK4.out.drewN n5).below (Nat.le_refl _) (fun i hi => hi)⟩

set_option maxRecDepth 100000 in
set_option maxHeartbeats 2000000 in
theorem blind_many (a : Option Addr) (n cap : Nat) (z : Nat → Int) (a2 : Option Addr) (T cap2 : Nat) (v3 : Value) (W : World)
    (hz : Nums .i64 W W.heap.size a n z) (hT : 80 < T) (hT2 : T ≤ 9223372036854775807) (hf : Fits n z) :
    Calls Try.prog 4 #[.slice a n cap, .slice a2 T cap2, v3] W (Yes W) := by
  have HZ := Lib.hid hz
  have HF := Lib.hid hf
  have hsz : ∀ i, i < n → z i = ((z i).toNat : Nat) := fun i hi => by have := (hf.2.2 i hi).1; omega
  have HSZ := Lib.hid hsz
  clear hz hf hsz
  go_enter Try.func4, Try.ntmps4
  go_wp2_with fail
  refine (shown_any W).mono ?_
  rintro e w0 ⟨rfl, hb0⟩
  have K0 : Hid (Kept (old W) W w0) := Only.of_below hb0
  have B0 := Lib.hid hb0
  clear hb0
  go_wp2_with fail
  refine (new_yes a n cap W.heap.size z (fun i => (z i).toNat) _ (HZ.out.below B0.out) B0.out.size HF.out HSZ.out).mono ?_
  rintro e w1 ⟨p, F, rfl, hm, ho, hF⟩
  have K1 := Lib.hid (K0.out.trans (Kept.of_none ho))
  have B1 := Lib.hid (K1.out.below (Nat.le_refl _) (fun i hi => hi))
  clear hm ho hF F K0 B0
  go_wp2_with fail
  refine (new_yes a n cap W.heap.size z (fun i => (z i).toNat) _ (HZ.out.below B1.out) B1.out.size HF.out HSZ.out).mono ?_
  rintro e w2 ⟨q, F, rfl, hm, ho, hF⟩
  have K2 := Lib.hid (K1.out.trans (Kept.of_none ho))
  clear hm ho hF F K1 B1
  go_wp2
  go_ret
  exact ⟨rfl, K2.out.below (Nat.le_refl _) (fun i hi => hi)⟩

set_option maxRecDepth 100000 in
set_option maxHeartbeats 2000000 in
theorem blind_none (a : Option Addr) (n cap : Nat) (z : Nat → Int) (a2 : Option Addr) (T cap2 : Nat) (v3 : Value) (W : World)
    (hn : n ≤ 9223372036854775807) (hz : Nums .i64 W W.heap.size a n z) (hf : ¬ Fits n z) :
    Calls Try.prog 4 #[.slice a n cap, .slice a2 T cap2, v3] W (Yes W) := by
  have HZ := Lib.hid hz
  have HF := Lib.hid hf
  clear hz hf
  by_cases hT : 80 < T
  all_goals
    go_enter Try.func4, Try.ntmps4
    go_wp2_with fail
    refine (shown_any W).mono ?_
    rintro e w0 ⟨rfl, hb0⟩
    have B0 := Lib.hid hb0
    clear hb0
    go_wp2_with fail
    refine (new_no a n cap W.heap.size z _ hn (HZ.out.below B0.out) HF.out).mono ?_
    rintro e w1 ⟨rfl, rfl⟩
    go_wp2_with fail
    refine (new_no a n cap W.heap.size z _ hn (HZ.out.below B0.out) HF.out).mono ?_
    rintro e w1 ⟨rfl, rfl⟩
    go_wp2
    go_ret
    exact ⟨rfl, B0.out⟩

theorem blind_any (a : Option Addr) (n cap : Nat) (z : Nat → Int) (a2 : Option Addr) (T cap2 : Nat) (x : Nat → Lk) (a3 : Option Addr) (O cap3 : Nat) (y : Nat → Int) (W : World)
    (hn : n ≤ 9223372036854775807) (hz : Nums .i64 W W.heap.size a n z) (hT : T ≤ 9223372036854775807) (hx : Looks W W.heap.size a2 T x) (hO : O ≤ 9223372036854775807) (hy : Nums .u64 W W.heap.size a3 O y) :
    Calls Try.prog 4 #[.slice a n cap, .slice a2 T cap2, .slice a3 O cap3] W (Yes W) := by
  by_cases hf : Fits n z
  · by_cases h : 80 < T
    · exact blind_many a n cap z a2 T cap2 _ W hz h hT hf
    · exact blind_loop a n cap z a2 T cap2 x a3 O cap3 y W hz hx hy hO (by omega) hf
  · exact blind_none a n cap z a2 T cap2 _ W hn hz hf
end Go.Proofs.Ytmkikelbllejjaa
