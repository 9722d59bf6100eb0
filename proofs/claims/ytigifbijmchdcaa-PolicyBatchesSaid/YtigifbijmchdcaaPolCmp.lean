/- policy: Key, Blank, Many; what items are put in order by. Nothing that was in memory changes. -/
import Derived.Test.YtigifbijmchdcaaPolItem
import Derived.Test.YtigifbijmchdcaaCmp
import Derived.Test.YtigifbijmchdcaaHeld
import Derived.BigQuiet
import Derived.Deep.Cut
import Derived.Deep.CutRange
namespace Go.Proofs.Ytigifbijmchdcaa
open Go.RowKit Go.ChangeShapes Go.WideShapes Go.ChangeAt

theorem rem_62 (r : Nat) : (r : Int).tmod 4611686018427387904 = ((r % 4611686018427387904 : Nat) : Int) := by
  rw [Int.tmod_eq_emod_of_nonneg (by omega)]; omega
set_option maxHeartbeats 1000000 in
theorem key_any (x : Pi) (w : World) : Calls Try.prog 11 #[.agg #[.int .i64 x.1, .int .u64 (x.2.1 : Int), .bool x.2.2]] w fun e w' => e = .returned (.int .u64 (pkey x : Int)) ∧ Mo w w' := by
  obtain ⟨x1, x2, x3⟩ := x
  have hr := rem_62 x2
  obtain ⟨q, hq⟩ : ∃ q, q = x2 % 4611686018427387904 := ⟨_, rfl⟩
  have hlt : q < 4611686018427387904 := by omega
  rw [← hq] at hr
  have hk : pkey (x1, x2, x3) = q + if x3 then 0 else 4611686018427387904 := by unfold pkey; rw [hq]
  have HK : Hid _ := hk
  clear hk hq
  cases x3
  · have hk2 : ((q : Int) + 4611686018427387904) = (pkey (x1, x2, false) : Int) := by rw [HK.out]; simp
    have HK2 : Hid _ := hk2
    clear hk2
    go_enter Try.func11, Try.ntmps11
    go_wp2_with fail
    go_ret
    exact ⟨ret_int HK2.out, (Mo.refl w).alloc _⟩
  · have hk2 : (q : Int) = (pkey (x1, x2, true) : Int) := by rw [HK.out]; simp
    have HK2 : Hid _ := hk2
    clear hk2
    go_enter Try.func11, Try.ntmps11
    go_wp2_with fail
    go_ret
    exact ⟨ret_int HK2.out, (Mo.refl w).alloc _⟩
set_option maxHeartbeats 1000000 in
theorem rkey_any (x : Pi) (w : World) : Calls Try.prog 12 #[.agg #[.int .i64 x.1, .int .u64 (x.2.1 : Int), .bool x.2.2]] w fun e w' => e = .returned (.int .u64 (pkey x : Int)) ∧ Mo w w' := by
  obtain ⟨x1, x2, x3⟩ := x
  have hr := rem_62 x2
  obtain ⟨q, hq⟩ : ∃ q, q = x2 % 4611686018427387904 := ⟨_, rfl⟩
  have hlt : q < 4611686018427387904 := by omega
  rw [← hq] at hr
  have hk : pkey (x1, x2, x3) = q + if x3 then 0 else 4611686018427387904 := by unfold pkey; rw [hq]
  have HK : Hid _ := hk
  clear hk hq
  cases x3
  · have hk2 : ((q : Int) + 4611686018427387904) = (pkey (x1, x2, false) : Int) := by rw [HK.out]; simp
    have HK2 : Hid _ := hk2
    clear hk2
    go_enter Try.func12, Try.ntmps12
    go_wp2_with fail
    go_ret
    exact ⟨ret_int HK2.out, (Mo.refl w).alloc _⟩
  · have hk2 : (q : Int) = (pkey (x1, x2, true) : Int) := by rw [HK.out]; simp
    have HK2 : Hid _ := hk2
    clear hk2
    go_enter Try.func12, Try.ntmps12
    go_wp2_with fail
    go_ret
    exact ⟨ret_int HK2.out, (Mo.refl w).alloc _⟩
/-- A blank's key. -/
def blankI (c : Int) : Int := 9223372036854775808 + c % 2147483648
set_option maxHeartbeats 1000000 in
theorem blank_any (c : Int) (w : World) : Calls Try.prog 13 #[.int .i64 c] w fun e w' => e = .returned (.int .u64 (blankI c)) ∧ w' = w := by
  have h1 : IntKind.u64.wrap c = c % 18446744073709551616 := by rw [IntKind.wrap_u64]
  obtain ⟨q, hq⟩ : ∃ q, q = c % 18446744073709551616 := ⟨_, rfl⟩
  have h2 : 0 ≤ q ∧ q < 18446744073709551616 := by omega
  have h3 : q.tmod 2147483648 = c % 2147483648 := by rw [Int.tmod_eq_emod_of_nonneg h2.1]; omega
  obtain ⟨z, hz⟩ : ∃ z, z = c % 2147483648 := ⟨_, rfl⟩
  have h4 : 0 ≤ z ∧ z < 2147483648 := by omega
  have HB : Hid (9223372036854775808 + z = blankI c) := by show _ = _; unfold blankI; omega
  rw [← hq] at h1
  rw [← hz] at h3
  clear hq hz
  go_enter Try.func13, Try.ntmps13
  go_wp2_with fail
  go_ret
  exact ⟨ret_int HB.out, rfl⟩
set_option maxHeartbeats 1000000 in
theorem rblank_any (c : Int) (w : World) : Calls Try.prog 14 #[.int .i64 c] w fun e w' => e = .returned (.int .u64 (blankI c)) ∧ w' = w := by
  have h1 : IntKind.u64.wrap c = c % 18446744073709551616 := by rw [IntKind.wrap_u64]
  obtain ⟨q, hq⟩ : ∃ q, q = c % 18446744073709551616 := ⟨_, rfl⟩
  have h2 : 0 ≤ q ∧ q < 18446744073709551616 := by omega
  have h3 : q.tmod 2147483648 = c % 2147483648 := by rw [Int.tmod_eq_emod_of_nonneg h2.1]; omega
  obtain ⟨z, hz⟩ : ∃ z, z = c % 2147483648 := ⟨_, rfl⟩
  have h4 : 0 ≤ z ∧ z < 2147483648 := by omega
  have HB : Hid (9223372036854775808 + z = blankI c) := by show _ = _; unfold blankI; omega
  rw [← hq] at h1
  rw [← hz] at h3
  clear hq hz
  go_enter Try.func14, Try.ntmps14
  go_wp2_with fail
  go_ret
  exact ⟨ret_int HB.out, rfl⟩
set_option maxHeartbeats 1000000 in
theorem many_any (r e c b : Int) (w : World) : Calls Try.prog 15 #[.int .i64 r, .int .i64 e, .int .i64 c, .int .i64 b] w fun x w' => x = .returned (.int .i64 (manyI r e c b)) ∧ w' = w := by
  have HM : Hid (max 0 (min b (max e (dif r c))) = manyI r e c b) := rfl
  have hd : IntKind.i64.wrap (r - c) = dif r c := rfl
  generalize dif r c = d at *
  have hd' : wrap64 (r - c) = d := by rw [← hd]; first | rfl | (rw [IntKind.wrap_i64]; rfl) | (rw [IntKind.wrap_i64]; unfold wrap64; rfl) | (rw [IntKind.wrap_i64]; unfold wrap64; omega)
  generalize manyI r e c b = v at *
  go_enter Try.func15, Try.ntmps15
  go_wp2_with fail
  all_goals
    go_ret
    exact ⟨ret_int (by have := HM.out; omega), rfl⟩
set_option maxHeartbeats 1000000 in
theorem rmany_any (r e c b : Int) (w : World) : Calls Try.prog 16 #[.int .i64 r, .int .i64 e, .int .i64 c, .int .i64 b] w fun x w' => x = .returned (.int .i64 (manyI r e c b)) ∧ w' = w := by
  have HM : Hid (max 0 (min b (max e (dif r c))) = manyI r e c b) := rfl
  have hd : IntKind.i64.wrap (r - c) = dif r c := rfl
  generalize dif r c = d at *
  have hd' : wrap64 (r - c) = d := by rw [← hd]; first | rfl | (rw [IntKind.wrap_i64]; rfl) | (rw [IntKind.wrap_i64]; unfold wrap64; rfl) | (rw [IntKind.wrap_i64]; unfold wrap64; omega)
  generalize manyI r e c b = v at *
  go_enter Try.func16, Try.ntmps16
  go_wp2_with fail
  all_goals
    go_ret
    exact ⟨ret_int (by have := HM.out; omega), rfl⟩
set_option maxHeartbeats 1000000 in
theorem or_two (a b : Int) (p : Nat) (w : World) (t : TypeId) (hb : Box w p t #[.int .i64 a, .int .i64 b]) :
    Calls Try.prog 27 #[.slice (some ⟨p, 0, none⟩) 2 2] w fun e w' => e = .returned (.int .i64 (if a = 0 then b else a)) ∧ w' = w := by
  have c0 := hb.cell 0
  have c1 := hb.cell 1
  by_cases ha : a = 0
  · rw [if_pos ha]
    subst ha
    by_cases h2 : b = 0
    · subst h2
      go_enter Try.func27, Try.ntmps27
      go_wp2_with fail
      go_loopw [5, 8] (fun _ v wr => ∃ k : Nat, v = .int .i64 k ∧ k ≤ 2 ∧ wr = w) (fun _ v _ => 2 - (intOf v).toNat)
      case atStart => exact ⟨0, rfl, by omega, rfl⟩
      case round =>
        obtain ⟨k, rfl, hk, rfl⟩ := hrel
        obtain rfl | rfl | rfl : k = 0 ∨ k = 1 ∨ k = 2 := by omega
        · go_wp2_with fail
          go_roundw
          case rel => exact ⟨1, rfl, by omega, by first | rfl | trivial⟩
          case measure => simp [intOf]
        · go_wp2_with fail
          go_roundw
          case rel => exact ⟨2, rfl, by omega, by first | rfl | trivial⟩
          case measure => simp [intOf]
        · go_wp2_with fail
          go_ret
          exact ⟨rfl, rfl⟩
    · have hbn : (b != 0) = true := by simp [h2]
      go_enter Try.func27, Try.ntmps27
      go_wp2_with fail
      go_loopw [5, 8] (fun _ v wr => ∃ k : Nat, v = .int .i64 k ∧ k ≤ 1 ∧ wr = w) (fun _ v _ => 2 - (intOf v).toNat)
      case atStart => exact ⟨0, rfl, by omega, rfl⟩
      case round =>
        obtain ⟨k, rfl, hk, rfl⟩ := hrel
        obtain rfl | rfl : k = 0 ∨ k = 1 := by omega
        · go_wp2_with fail
          go_roundw
          case rel => exact ⟨1, rfl, by omega, by first | rfl | trivial⟩
          case measure => simp [intOf]
        · go_wp2_with fail
          go_ret
          exact ⟨rfl, rfl⟩
  · rw [if_neg ha]
    have hbn : (a != 0) = true := by simp [ha]
    go_enter Try.func27, Try.ntmps27
    go_wp2_with fail
    go_loopw [5, 8] (fun _ v wr => v = .int .i64 0 ∧ wr = w) (fun _ v _ => 2 - (intOf v).toNat)
    case atStart => exact ⟨rfl, rfl⟩
    case round =>
      obtain ⟨rfl, rfl⟩ := hrel
      go_wp2_with fail
      go_ret
      exact ⟨rfl, rfl⟩
/-- Below 0: x goes ahead of y. -/
def pagst (x y : Pi) : Int := if cmpI (pkey x) (pkey y) = 0 then cmpI x.1 y.1 else cmpI (pkey x) (pkey y)
theorem pagst_iff (x y : Pi) : pagst x y < 0 ↔ pkey x < pkey y ∨ (pkey x = pkey y ∧ x.1 < y.1) := by
  have h1 := cmpI_rng (pkey x) (pkey y)
  have h2 := cmpI_rng x.1 y.1
  unfold pagst
  split <;> omega
set_option maxRecDepth 100000 in
set_option maxHeartbeats 2000000 in
theorem against_any (x y : Pi) (w : World) : Calls Try.prog 24 #[.agg #[.int .i64 x.1, .int .u64 (x.2.1 : Int), .bool x.2.2], .agg #[.int .i64 y.1, .int .u64 (y.2.1 : Int), .bool y.2.2]] w fun e w' => e = .returned (.int .i64 (pagst x y)) ∧ Mo w w' := by
  have HKX := Lib.hid (fun W => key_any x W)
  have HKY := Lib.hid (fun W => key_any y W)
  have HA : Hid ((if cmpI (pkey x) (pkey y) = 0 then cmpI x.1 y.1 else cmpI (pkey x) (pkey y)) = pagst x y) := rfl
  generalize pagst x y = r at *
  generalize pkey x = kx at *
  generalize pkey y = ky at *
  obtain ⟨x1, x2, x3⟩ := x
  obtain ⟨y1, y2, y3⟩ := y
  dsimp only at HKX HKY HA ⊢
  obtain ⟨p, hp⟩ : ∃ p, w.heap.size = p := ⟨_, rfl⟩
  obtain ⟨w2, hw2⟩ : ∃ w2, (w.alloc (.cells #[.int .i64 x1, .int .u64 (x2 : Int), .bool x3] 29)).alloc (.cells #[.int .i64 y1, .int .u64 (y2 : Int), .bool y3] 29) = w2 := ⟨_, rfl⟩
  have hx : Box w2 p 29 #[.int .i64 x1, .int .u64 (x2 : Int), .bool x3] := by rw [← hw2, ← hp]; exact (Box.new w _ _).alloc _
  have hy : Box w2 (p + 1) 29 #[.int .i64 y1, .int .u64 (y2 : Int), .bool y3] := by rw [← hw2, ← hp]; simpa using Box.new (w.alloc (.cells #[.int .i64 x1, .int .u64 (x2 : Int), .bool x3] 29)) 29 #[.int .i64 y1, .int .u64 (y2 : Int), .bool y3]
  have hm : Mo w w2 := by rw [← hw2]; exact ((Mo.refl w).alloc _).alloc _
  have HX := Lib.hid hx
  have HY := Lib.hid hy
  have HM := Lib.hid hm
  have HPP := Lib.hid hp
  have HW := Lib.hid hw2
  clear hx hy hm hp hw2
  go_enter Try.func24, Try.ntmps24
  go_upto_region 1 with fail
  simp only [HPP.out, HW.out]
  clear HPP HW
  refine held_s (S := fun w' => Box w' p 29 #[.int .i64 x1, .int .u64 (x2 : Int), .bool x3] ∧ Box w' (p + 1) 29 #[.int .i64 y1, .int .u64 (y2 : Int), .bool y3] ∧ Mo w w') 13 rfl (by kernel_rfl) ⟨HX.out.drewN 1, HY.out.drewN 1, HM.out.trans ⟨1, #[], by rw [Go.Sort.grow_empty]; rfl⟩⟩ (fun hHeld => ?_)
  clear HX HY HM
  simp only [Array.replicate_succ, Array.replicate_zero, List.push_toArray, List.nil_append, List.cons_append]
  generalize w2.drew = w3 at *
  refine wpAnyH_take (i := 0) (oi := ⟨some 5, _, _, _, _, _⟩) (v := (.agg #[.int .i64 x1, .int .u64 (x2 : Int), .bool x3])) rfl (by kernel_rfl) (by kernel_rfl) (by kernel_rfl) (fun _ _ _ h => h) (Or.inl ⟨by rfl, fun w' hw => by (have y0 := hw.1.cell 0; have y1 := hw.1.cell 1; have y2 := hw.1.cell 2; go_simp)⟩) hHeld ?_
  try simp only [Act.put, List.setIfInBounds_toArray, List.set_cons_zero, List.set_cons_succ]
  refine wpAnyH_take (i := 2) (oi := ⟨some 7, _, _, _, _, _⟩) (v := (.agg #[.int .i64 y1, .int .u64 (y2 : Int), .bool y3])) rfl (by kernel_rfl) (by kernel_rfl) (by kernel_rfl) (fun _ _ _ h => h) (Or.inl ⟨by rfl, fun w' hw => by (have y0 := hw.2.1.cell 0; have y1 := hw.2.1.cell 1; have y2 := hw.2.1.cell 2; go_simp)⟩) hHeld ?_
  try simp only [Act.put, List.setIfInBounds_toArray, List.set_cons_zero, List.set_cons_succ]
  refine wpAnyH_take (i := 5) (oi := ⟨some 10, _, _, _, _, _⟩) (v := (.pointer (some ⟨p, 0, none⟩))) rfl (by kernel_rfl) (by kernel_rfl) (by kernel_rfl) (fun _ _ _ h => h) (Or.inl ⟨by rfl, fun w' hw => by go_simp⟩) hHeld ?_
  try simp only [Act.put, List.setIfInBounds_toArray, List.set_cons_zero, List.set_cons_succ]
  refine wpAnyH_take (i := 6) (oi := ⟨some 11, _, _, _, _, _⟩) (v := (.int .i64 x1)) rfl (by kernel_rfl) (by kernel_rfl) (by kernel_rfl) (fun _ _ _ h => h) (Or.inl ⟨by rfl, fun w' hw => by (have y := hw.1.cell 0; go_simp)⟩) hHeld ?_
  try simp only [Act.put, List.setIfInBounds_toArray, List.set_cons_zero, List.set_cons_succ]
  refine wpAnyH_take (i := 7) (oi := ⟨some 12, _, _, _, _, _⟩) (v := (.pointer (some ⟨p + 1, 0, none⟩))) rfl (by kernel_rfl) (by kernel_rfl) (by kernel_rfl) (fun _ _ _ h => h) (Or.inl ⟨by rfl, fun w' hw => by go_simp⟩) hHeld ?_
  try simp only [Act.put, List.setIfInBounds_toArray, List.set_cons_zero, List.set_cons_succ]
  refine wpAnyH_take (i := 8) (oi := ⟨some 13, _, _, _, _, _⟩) (v := (.int .i64 y1)) rfl (by kernel_rfl) (by kernel_rfl) (by kernel_rfl) (fun _ _ _ h => h) (Or.inl ⟨by rfl, fun w' hw => by (have y := hw.2.1.cell 0; go_simp)⟩) hHeld ?_
  try simp only [Act.put, List.setIfInBounds_toArray, List.set_cons_zero, List.set_cons_succ]
  refine one_ready 1 rfl (by kernel_rfl) (fun K9 hK => ?_)
  go_simp
  refine (HKX.out _).mono ?_
  rintro e w4 ⟨rfl, hb4⟩
  refine hK.out _ _ ⟨hHeld.1.of (hb4.below.block _ hHeld.1.lt), hHeld.2.1.of (hb4.below.block _ hHeld.2.1.lt), hHeld.2.2.trans hb4⟩ (fun hHeld => ?_)
  clear hK K9 hb4
  try simp only [List.setIfInBounds_toArray, List.set_cons_zero, List.set_cons_succ]
  refine one_ready 3 rfl (by kernel_rfl) (fun K9 hK => ?_)
  go_simp
  refine (HKY.out _).mono ?_
  rintro e w5 ⟨rfl, hb5⟩
  refine hK.out _ _ ⟨hHeld.1.of (hb5.below.block _ hHeld.1.lt), hHeld.2.1.of (hb5.below.block _ hHeld.2.1.lt), hHeld.2.2.trans hb5⟩ (fun hHeld => ?_)
  clear hK K9 hb5
  try simp only [List.setIfInBounds_toArray, List.set_cons_zero, List.set_cons_succ]
  refine one_ready 4 rfl (by kernel_rfl) (fun K9 hK => ?_)
  go_simp
  refine (cmp_word (kx : Int) (ky : Int) _).mono ?_
  rintro e w9 ⟨rfl, rfl⟩
  refine hK.out _ _ hHeld (fun hHeld => ?_)
  clear hK K9
  try simp only [List.setIfInBounds_toArray, List.set_cons_zero, List.set_cons_succ]
  refine one_ready 9 rfl (by kernel_rfl) (fun K9 hK => ?_)
  go_simp
  refine (cmp_int x1 y1 _).mono ?_
  rintro e w9 ⟨rfl, rfl⟩
  refine hK.out _ _ hHeld (fun hHeld => ?_)
  clear hK K9
  try simp only [List.setIfInBounds_toArray, List.set_cons_zero, List.set_cons_succ]
  refine one_ready 10 rfl (by kernel_rfl) (fun K9 hK => ?_)
  go_simp
  obtain ⟨g, hg⟩ : ∃ g, w9.heap.size = g := ⟨_, rfl⟩
  obtain ⟨w8, hw8⟩ : ∃ w8, w9.alloc (.cells #[.int .i64 (cmpI kx ky), .int .i64 (cmpI x1 y1)] 3) = w8 := ⟨_, rfl⟩
  have hg8 : Box w8 g 3 #[.int .i64 (cmpI kx ky), .int .i64 (cmpI x1 y1)] := by rw [← hw8, ← hg]; exact Box.new w9 _ _
  have h8 : Box w8 p 29 #[.int .i64 x1, .int .u64 (x2 : Int), .bool x3] ∧ Box w8 (p + 1) 29 #[.int .i64 y1, .int .u64 (y2 : Int), .bool y3] ∧ Mo w w8 := by rw [← hw8]; exact ⟨hHeld.1.alloc _, hHeld.2.1.alloc _, hHeld.2.2.alloc _⟩
  simp only [hg, hw8]
  refine hK.out _ _ h8 (fun hHeld => ?_)
  clear hK K9 hg hw8 h8
  try simp only [List.setIfInBounds_toArray, List.set_cons_zero, List.set_cons_succ]
  refine one_ready 11 rfl (by kernel_rfl) (fun K9 hK => ?_)
  go_simp
  refine (or_two (cmpI kx ky) (cmpI x1 y1) g _ _ hg8).mono ?_
  rw [HA.out]
  rintro e w9 ⟨rfl, rfl⟩
  refine hK.out _ _ hHeld (fun hHeld => ?_)
  clear hK K9
  try simp only [List.setIfInBounds_toArray, List.set_cons_zero, List.set_cons_succ]
  refine wpAnyH_take (i := 12) (oi := ⟨some 4, _, _, _, _, _⟩) (v := (.int .i64 r)) rfl (by kernel_rfl) (by kernel_rfl) (by kernel_rfl) (fun _ _ _ h => h) (Or.inl ⟨by rfl, fun w' hw => by go_simp⟩) hHeld ?_
  try simp only [Act.put, List.setIfInBounds_toArray, List.set_cons_zero, List.set_cons_succ]
  refine wpAnyH_done (by kernel_rfl) ?_ _
  go_wp2_with fail
  go_ret
  exact ⟨rfl, hHeld.2.2⟩
end Go.Proofs.Ytigifbijmchdcaa
