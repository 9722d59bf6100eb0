/- filled and as: items, filled up, or taken over, in a new slice. -/
import Derived.Test.YtnpddimepcblkaaDealHelp
namespace Go.Proofs.Ytnpddimepcblkaa
open Go.RowKit Go.ChangeShapes Go.WideShapes Go.ChangeAt

theorem infoRefItem : (Try.prog.info? 51).map (fun i => (i.zero, i.size, i.bytes)) = some (some (.agg #[.int .u64 0, .int .i64 0]), 2, 16) := by kernel_rfl
/-- The first m items, and empty ones behind them. -/
def fl (m : Nat) (y : Nat → It) (j : Nat) : It := if j < m then y j else (0, -1)
def ItsPost (t : TypeId) (w : World) (n : Nat) (y : Nat → It) (e : Ending) (w' : World) : Prop :=
  ∃ A cap, e = .returned (.slice A n cap) ∧ w'.ownsRow w.heap.size t 2 (.slice A n cap) n (itl (lsI n y)) ∧ Below w.heap.size w w'
theorem row_at {w w' : World} {base : Nat} {e : TypeId} {size : Nat} {v : Value} {n : Nat} {xs : List Value} (h : w.ownsRow base e size v n xs) (hb : ∀ g, v.ownBlock = some g → w'.heap[g]? = w.heap[g]?) : w'.ownsRow base e size v n xs := by
  refine ⟨h.1, ?_⟩
  rcases h.2 with h0 | ⟨g, cap, cur, rfl, h1, h2, h3⟩
  · exact .inl h0
  · exact .inr ⟨g, cap, cur, rfl, h1, (hb g rfl).trans h2, h3⟩
theorem own_slice2 {w : World} {t : TypeId} {base : Nat} {v : Value} {n : Nat} {xs : List Value} (h : w.ownsRow base t 2 v n xs) : ∃ A cap, v = .slice A n cap := by
  rcases h.2 with ⟨rfl, h0⟩ | ⟨g, cap', cur, e, _⟩
  · exact ⟨none, 0, by rw [h0]⟩
  · exact ⟨_, _, e⟩
theorem new_two (W : World) (t : TypeId) (a b : Value) {k : Nat} (hk : k = W.heap.size) : ∀ j u, [a, b][j]? = some u → (W.alloc (.cells #[a, b] t)).cell? ((⟨k, 0, none⟩ : Addr).add j) = some u := by
  subst hk
  intro j u h
  have hb := Box.new W t #[a, b]
  have := hb.cell j
  rw [add_plain, Nat.zero_add, this]
  simpa using h
set_option maxRecDepth 100000 in
set_option maxHeartbeats 2000000 in
theorem filled_any (a : Option Addr) (m c n : Nat) (y : Nat → It) (w : World) (hn : n ≤ 1000) (hI : Its w w.heap.size a m y) :
    Calls Try.prog 6 #[.slice a m c, .int .i64 (n : Int)] w (ItsPost 44 w n (fl m y)) := by
  have HI := Lib.hid hI
  have HA : Hid (ItAt 44 w (.slice none 0 0) (lsI 0 (fl m y)) w) := ItAt.nil _ w
  clear hI
  go_enter Try.func6, Try.ntmps6
  go_wp2_with fail
  go_loopw [5, 6] (fun v5 v6 wr => ∃ i : Nat, v6 = .int .i64 i ∧ i ≤ n ∧ ItAt 44 w v5 (lsI i (fl m y)) wr) (fun _ v _ => n - (intOf v).toNat)
  case atStart => exact ⟨0, rfl, by omega, HA.out⟩
  case round =>
    obtain ⟨i, rfl, hle, hS⟩ := hrel
    clear HA
    have HS := Lib.hid hS
    by_cases hin : i < n
    · have HN := Lib.hid (lsI_succ i (fl m y))
      have hll := lsI_len i (fl m y)
      have hbs := hS.below.size
      generalize hlq : lsI i (fl m y) = lq at *
      obtain ⟨it, hit⟩ : ∃ it, wr.heap.size = it := ⟨_, rfl⟩
      have HIT := Lib.hid hit
      have HLQ := Lib.hid hlq
      have hbx : Box (wr.alloc (.cells #[.int .u64 0, .int .i64 (-1)] 44)) it 44 #[.int .u64 0, .int .i64 (-1)] := by rw [← hit]; exact Box.new wr _ _
      have HS2 := Lib.hid (hS.grow ((Below.refl _ wr).alloc (Nat.le_refl _) (.cells #[.int .u64 0, .int .i64 (-1)] 44)))
      have HBx := Lib.hid hbx
      have hio : w.heap.size ≤ it := by omega
      have hvi : ∀ g, u5.ownBlock = some g → g < it := fun g hg => by rw [← hit]; exact (own_lt hS.own hg).2
      have HVi := Lib.hid hvi
      clear hbx hit hlq HS hbs hvi
      by_cases him : i < m
      · obtain ⟨b, off, rfl, hb, c0, c1⟩ := (HI.out.below HS2.out.below).at him
        have hf : fl m y i = y i := by unfold fl; rw [if_pos him]
        rw [hf] at HN
        generalize y i = x at *
        obtain ⟨x1, x2⟩ := x
        clear hS hf
        go_upto_region 6 with fail
        rw [HIT.out]
        generalize wr.alloc (.cells #[.int .u64 0, .int .i64 (-1)] 44) = w2 at *
        have k0 := HBx.out.cell 0
        have k1 := HBx.out.cell 1
        have g0 := HBx.out.frozen 0
        have g1 := HBx.out.frozen 1
        have hbi : ¬ b = it := by omega
        go_upto_region 8 with fail
        have HBx3 : Hid (Box ((w2.setCell ⟨it, 0, none⟩ (.int .u64 x1)).setCell ⟨it, 1, none⟩ (.int .i64 x2)) it 44 #[.int .u64 x1, .int .i64 x2]) := (HBx.out.put 0 _).put 1 _
        have HS3 : Hid (ItAt 44 w u5 lq ((w2.setCell ⟨it, 0, none⟩ (.int .u64 x1)).setCell ⟨it, 1, none⟩ (.int .i64 x2))) := Lib.hid (by
          refine ⟨row_at HS2.out.own (fun g hg => ?_), (HS2.out.below.setCell (p := ⟨it, 0, none⟩) hio _).setCell (p := ⟨it, 1, none⟩) hio _⟩
          have h1 := HVi.out g hg
          exact (Below.heap_setCell _ ⟨it, 1, none⟩ _ g (by show g ≠ it; omega)).trans (Below.heap_setCell _ ⟨it, 0, none⟩ _ g (by show g ≠ it; omega)))
        clear HS2 HBx k0 k1 g0 g1 c0 c1
        generalize (w2.setCell ⟨it, 0, none⟩ (.int .u64 x1)).setCell ⟨it, 1, none⟩ (.int .i64 x2) = w3 at *
        have k0 := HBx3.out.cell 0
        have k1 := HBx3.out.cell 1
        have hb3 := HS3.out.below.size
        go_wp2_with (with_reducible refine wpList_append_where _ rfl (.tmp 22) (.tmp 24) 24 rfl w.heap.size 44 (.agg #[.int .u64 0, .int .i64 0]) 2 16 Try.underlying24 infoItem rfl (by decide) u5 lq.length (itl lq) rfl (row_stay HS3.out.own (fun b _ hb => Below.heap_alloc _ _ b hb)) ⟨w3.heap.size, 0, none⟩ 1 1 [.int .u64 x1, .int .i64 x2] rfl rfl ?c0 ?c1 ?c2 ?c3 ?c4 ?_)
        case c0 => exact new_two w3 _ _ _ rfl
        case c1 => simp [Value.oneCell']
        case c2 => simp only [maxLen]; omega
        case c3 => omega
        case c4 => have := HS3.out.below.size; simp; omega
        intro A2 cap2 w7 hown hgr _
        have HS7 := Lib.hid (HS3.out.next (x := (x1, x2)) (by rw [hll]; exact hown) hgr)
        clear hown hgr HS3
        rw [hll] at HS7
        go_wp2_with fail
        go_roundw
        case rel => exact ⟨i + 1, by go_num, by omega, by rw [HN.out]; exact HS7.out⟩
        case measure => simp [intOf]; omega
      · have hf : fl m y i = (0, -1) := by unfold fl; rw [if_neg him]
        rw [hf] at HN
        clear hS hf
        go_upto_region 8 with fail
        rw [HIT.out]
        have HBx3 := HBx
        have HS3 := HS2
        clear HBx HS2
        generalize wr.alloc (.cells #[.int .u64 0, .int .i64 (-1)] 44) = w3 at *
        have k0 := HBx3.out.cell 0
        have k1 := HBx3.out.cell 1
        have hb3 := HS3.out.below.size
        go_wp2_with (with_reducible refine wpList_append_where _ rfl (.tmp 22) (.tmp 24) 24 rfl w.heap.size 44 (.agg #[.int .u64 0, .int .i64 0]) 2 16 Try.underlying24 infoItem rfl (by decide) u5 lq.length (itl lq) rfl (row_stay HS3.out.own (fun b _ hb => Below.heap_alloc _ _ b hb)) ⟨w3.heap.size, 0, none⟩ 1 1 [.int .u64 0, .int .i64 (-1)] rfl rfl ?c0 ?c1 ?c2 ?c3 ?c4 ?_)
        case c0 => exact new_two w3 _ _ _ rfl
        case c1 => simp [Value.oneCell']
        case c2 => simp only [maxLen]; omega
        case c3 => omega
        case c4 => have := HS3.out.below.size; simp; omega
        intro A2 cap2 w7 hown hgr _
        have HS7 := Lib.hid (HS3.out.next (x := (0, (-1))) (by rw [hll]; exact hown) hgr)
        clear hown hgr HS3
        rw [hll] at HS7
        go_wp2_with fail
        go_roundw
        case rel => exact ⟨i + 1, by go_num, by omega, by rw [HN.out]; exact HS7.out⟩
        case measure => simp [intOf]; omega
    · obtain rfl : i = n := by omega
      clear hS hle hin
      go_wp2_with fail
      go_ret
      have h := HS.out
      obtain ⟨A, cap, rfl⟩ := own_slice2 h.own
      have ho := h.own
      rw [lsI_len] at ho
      exact ⟨A, cap, by simp [lsI_len], ho, h.below⟩
set_option maxRecDepth 100000 in
set_option maxHeartbeats 2000000 in
theorem as_any (a : Option Addr) (n c : Nat) (y : Nat → It) (w : World) (hn : n ≤ 1000) (hI : Its w w.heap.size a n y) :
    Calls Try.prog 10 #[.slice a n c] w (ItsPost 51 w n y) := by
  have HI := Lib.hid hI
  have HA : Hid (ItAt 51 w (.slice none 0 0) (lsI 0 y) w) := ItAt.nil _ w
  clear hI
  go_enter Try.func10, Try.ntmps10
  go_wp2_with fail
  go_loopw [3, 4] (fun v3 v4 wr => ∃ i : Nat, v4 = .int .i64 i ∧ i ≤ n ∧ ItAt 51 w v3 (lsI i y) wr) (fun _ v _ => n - (intOf v).toNat)
  case atStart => exact ⟨0, rfl, by omega, HA.out⟩
  case round =>
    obtain ⟨i, rfl, hle, hS⟩ := hrel
    clear HA
    have HS := Lib.hid hS
    by_cases hin : i < n
    · have HN := Lib.hid (lsI_succ i y)
      have hll := lsI_len i y
      generalize hlq : lsI i y = lq at *
      have HLQ := Lib.hid hlq
      obtain ⟨b, off, rfl, hb, c0, c1⟩ := (HI.out.below hS.below).at hin
      generalize y i = x at *
      obtain ⟨x1, x2⟩ := x
      clear hS hlq
      go_wp2_with fail
      have HS3 : Hid (ItAt 51 w u3 lq wr.drew) := Lib.hid (HS.out.grow ((Below.refl _ wr).drew))
      have hbs : w.heap.size ≤ wr.drew.heap.size := HS3.out.below.size
      clear HS
      refine held_s (S := fun w' => w'.cell? ⟨b, off + i * 2, none⟩ = some (.int .u64 x1) ∧ w'.cell? ⟨b, off + i * 2 + 1, none⟩ = some (.int .i64 x2)) 15 rfl (by kernel_rfl) ⟨c0, c1⟩ (fun hSd => ?_)
      have hbl := World.block_lt_of_cell? wr.drew ⟨b, off + i * 2, none⟩ c0
      clear c0 c1
      generalize wr.drew = w3 at *
      simp only [Array.replicate_succ, Array.replicate_zero, List.push_toArray, List.nil_append, List.cons_append]
      refine wpAnyH_take (i := 0) (oi := ⟨some 11, _, _, _, _, _⟩) (v := u3) rfl (by kernel_rfl) (by kernel_rfl) (by kernel_rfl) (fun _ _ _ h => h) (Or.inl ⟨by rfl, fun w' _ => by go_simp⟩) hSd ?_
      simp only [Act.put, List.setIfInBounds_toArray, List.set_cons_zero, List.set_cons_succ]
      refine wpAnyH_take (i := 1) (oi := ⟨some 12, _, _, _, _, _⟩) (v := .slice (some ⟨b, off, none⟩) n c) rfl (by kernel_rfl) (by kernel_rfl) (by kernel_rfl) (fun _ _ _ h => h) (Or.inl ⟨by rfl, fun w' _ => by go_simp⟩) hSd ?_
      simp only [Act.put, List.setIfInBounds_toArray, List.set_cons_zero, List.set_cons_succ]
      refine wpAnyH_take (i := 2) (oi := ⟨some 13, _, _, _, _, _⟩) (v := .int .i64 (i : Int)) rfl (by kernel_rfl) (by kernel_rfl) (by kernel_rfl) (fun _ _ _ h => h) (Or.inl ⟨by rfl, fun w' _ => by go_simp⟩) hSd ?_
      simp only [Act.put, List.setIfInBounds_toArray, List.set_cons_zero, List.set_cons_succ]
      refine wpAnyH_take (i := 3) (oi := ⟨some 14, _, _, _, _, _⟩) (v := .pointer (some ⟨b, off + i * 2, none⟩)) rfl (by kernel_rfl) (by kernel_rfl) (by kernel_rfl) (fun _ _ _ h => h) (Or.inl ⟨by rfl, fun w' _ => by go_simp⟩) hSd ?_
      simp only [Act.put, List.setIfInBounds_toArray, List.set_cons_zero, List.set_cons_succ]
      refine wpAnyH_take (i := 4) (oi := ⟨some 15, _, _, _, _, _⟩) (v := .pointer (some ⟨b, off + i * 2, none⟩)) rfl (by kernel_rfl) (by kernel_rfl) (by kernel_rfl) (fun _ _ _ h => h) (Or.inl ⟨by rfl, fun w' _ => by go_simp⟩) hSd ?_
      simp only [Act.put, List.setIfInBounds_toArray, List.set_cons_zero, List.set_cons_succ]
      refine wpAnyH_take (i := 5) (oi := ⟨some 16, _, _, _, _, _⟩) (v := .int .u64 x1) rfl (by kernel_rfl) (by kernel_rfl) (by kernel_rfl) (fun _ _ _ h => h) (Or.inl ⟨by rfl, fun w' ⟨k0, _⟩ => by go_simp⟩) hSd ?_
      simp only [Act.put, List.setIfInBounds_toArray, List.set_cons_zero, List.set_cons_succ]
      refine wpAnyH_take (i := 6) (oi := ⟨some 17, _, _, _, _, _⟩) (v := .slice (some ⟨b, off, none⟩) n c) rfl (by kernel_rfl) (by kernel_rfl) (by kernel_rfl) (fun _ _ _ h => h) (Or.inl ⟨by rfl, fun w' _ => by go_simp⟩) hSd ?_
      simp only [Act.put, List.setIfInBounds_toArray, List.set_cons_zero, List.set_cons_succ]
      refine wpAnyH_take (i := 7) (oi := ⟨some 18, _, _, _, _, _⟩) (v := .int .i64 (i : Int)) rfl (by kernel_rfl) (by kernel_rfl) (by kernel_rfl) (fun _ _ _ h => h) (Or.inl ⟨by rfl, fun w' _ => by go_simp⟩) hSd ?_
      simp only [Act.put, List.setIfInBounds_toArray, List.set_cons_zero, List.set_cons_succ]
      refine wpAnyH_take (i := 8) (oi := ⟨some 19, _, _, _, _, _⟩) (v := .pointer (some ⟨b, off + i * 2, none⟩)) rfl (by kernel_rfl) (by kernel_rfl) (by kernel_rfl) (fun _ _ _ h => h) (Or.inl ⟨by rfl, fun w' _ => by go_simp⟩) hSd ?_
      simp only [Act.put, List.setIfInBounds_toArray, List.set_cons_zero, List.set_cons_succ]
      refine wpAnyH_take (i := 9) (oi := ⟨some 20, _, _, _, _, _⟩) (v := .pointer (some ⟨b, off + i * 2 + 1, none⟩)) rfl (by kernel_rfl) (by kernel_rfl) (by kernel_rfl) (fun _ _ _ h => h) (Or.inl ⟨by rfl, fun w' _ => by go_simp⟩) hSd ?_
      simp only [Act.put, List.setIfInBounds_toArray, List.set_cons_zero, List.set_cons_succ]
      refine wpAnyH_take (i := 10) (oi := ⟨some 21, _, _, _, _, _⟩) (v := .int .i64 x2) rfl (by kernel_rfl) (by kernel_rfl) (by kernel_rfl) (fun _ _ _ h => h) (Or.inl ⟨by rfl, fun w' ⟨_, k1⟩ => by go_simp⟩) hSd ?_
      simp only [Act.put, List.setIfInBounds_toArray, List.set_cons_zero, List.set_cons_succ]
      refine wpAnyH_take (i := 11) (oi := ⟨some 22, _, _, _, _, _⟩) (v := .agg #[.int .u64 x1, .int .i64 x2]) rfl (by kernel_rfl) (by kernel_rfl) (by kernel_rfl) (fun _ _ _ h => h) (Or.inl ⟨by rfl, fun w' _ => by go_simp⟩) hSd ?_
      simp only [Act.put, List.setIfInBounds_toArray, List.set_cons_zero, List.set_cons_succ]
      refine one_ready 12 rfl (by kernel_rfl) (fun K hK => ?_)
      go_simp
      have hSa : (w3.alloc (.cells #[.int .u64 x1, .int .i64 x2] 51)).cell? ⟨b, off + i * 2, none⟩ = some (.int .u64 x1) ∧ (w3.alloc (.cells #[.int .u64 x1, .int .i64 x2] 51)).cell? ⟨b, off + i * 2 + 1, none⟩ = some (.int .i64 x2) :=
        ⟨by rw [World.cell?_alloc_past _ _ _ hbl]; exact hSd.1, by rw [World.cell?_alloc_past _ _ _ hbl]; exact hSd.2⟩
      refine hK.out _ _ hSa (fun _ => ?_)
      clear hK K
      simp only [List.setIfInBounds_toArray, List.set_cons_zero, List.set_cons_succ]
      refine one_ready 13 rfl (by kernel_rfl) (fun K hK => ?_)
      refine step_append_where rfl (.tmp 11) (.tmp 23) 34 rfl w.heap.size 51 (.agg #[.int .u64 0, .int .i64 0]) 2 16 Try.underlying34 infoRefItem rfl (by decide) u3 lq.length (itl lq) rfl (row_stay HS3.out.own (fun b _ hb => Below.heap_alloc _ _ b hb)) ⟨w3.heap.size, 0, none⟩ 1 1 [.int .u64 x1, .int .i64 x2] rfl rfl ?c0 ?c1 ?c2 ?c3 ?c4 ?_
      case c0 => exact new_two w3 _ _ _ rfl
      case c1 => simp [Value.oneCell']
      case c2 => simp only [maxLen]; omega
      case c3 => omega
      case c4 => simp; omega
      intro A2 cap2 w7 hown hgr _
      have hS7 : w7.cell? ⟨b, off + i * 2, none⟩ = some (.int .u64 x1) ∧ w7.cell? ⟨b, off + i * 2 + 1, none⟩ = some (.int .i64 x2) := by
        have hb7 : w7.heap[b]? = (w3.alloc (.cells #[.int .u64 x1, .int .i64 x2] 51)).heap[b]? := hgr.block b (by have : b < w3.heap.size := hbl; simp; omega) (fun e => by have := (own_lt HS3.out.own e.symm).1; omega)
        exact ⟨(World.cell?_of_block (w := w3.alloc _) hb7).trans hSa.1, (World.cell?_of_block (w := w3.alloc _) hb7).trans hSa.2⟩
      have HS7 := Lib.hid (HS3.out.next (x := (x1, x2)) hown hgr)
      clear hown hgr HS3 hSa hSd
      refine hK.out _ _ hS7 (fun _ => ?_)
      clear hK K
      simp only [List.setIfInBounds_toArray, List.set_cons_zero, List.set_cons_succ]
      refine one_ready 14 rfl (by kernel_rfl) (fun K hK => ?_)
      go_simp
      refine hK.out _ _ hS7 (fun _ => ?_)
      clear hK K hS7
      refine wpAnyH_done (by kernel_rfl) ?_ _
      rw [hll] at HS7
      go_wp2_with fail
      go_roundw
      case rel => exact ⟨i + 1, by go_num, by omega, by rw [HN.out]; exact HS7.out⟩
      case measure => simp [intOf]; omega
    · obtain rfl : i = n := by omega
      clear hS hle hin
      go_wp2_with fail
      go_ret
      have h := HS.out
      obtain ⟨A, cap, rfl⟩ := own_slice2 h.own
      have ho := h.own
      rw [lsI_len] at ho
      exact ⟨A, cap, by simp [lsI_len], ho, h.below⟩
end Go.Proofs.Ytnpddimepcblkaa
