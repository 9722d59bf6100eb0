/- The document's Order: the items' order in a new slice; nothing that was in memory changes. Condition: no more than 1,000 items. -/
import Derived.Test.YtnpddimepcblkaaDealRef
namespace Go.Proofs.Ytnpddimepcblkaa
open Go.RowKit Go.ChangeShapes Go.WideShapes Go.ChangeAt

/-- In the middle of picking. -/
structure RoAt (w w1 : World) (u n : Nat) (v : Value) (out : List Nat) (wr : World) : Prop where
  used : wr.rowIs u 4 n (fun p => .bool (out.contains p))
  own : wr.ownsRow w1.heap.size 3 1 v out.length (irow (ofN out))
  us : w.heap.size ≤ u ∧ u < w1.heap.size
  size : w1.heap.size ≤ wr.heap.size
  below : Below w.heap.size w wr
section
variable {w w1 wr wx : World} {u n : Nat} {v : Value} {out : List Nat}
theorem RoAt.grow (h : RoAt w w1 u n v out wr) (hb : Below wr.heap.size wr wx) : RoAt w w1 u n v out wx :=
  ⟨h.used.of_block (hb.block u h.used.lt), row_stay h.own (fun b _ hl => hb.block b hl), h.us, Nat.le_trans h.size hb.size, h.below.trans (hb.mono h.below.size)⟩
theorem RoAt.mark (h : RoAt w w1 u n v out wr) (x : Nat) : RoAt w w1 u n v out wr → (wr.setCell ⟨u, x, none⟩ (.bool true)).rowIs u 4 n (fun p => .bool ((out ++ [x]).contains p)) := fun _ =>
  (h.used.set _ _).congr fun p _ => by
    show (if p = x then _ else _) = _
    rw [List.contains_append]
    by_cases e : p = x
    · subst e; simp
    · rw [if_neg e]
      have : [x].contains p = false := by simp [e]
      rw [this, Bool.or_false]
theorem RoAt.put (h : RoAt w w1 u n v out wr) (x : Nat) {B : Option Addr} {cap : Nat} {t : TypeId} {w7 : World}
    (ho : w7.ownsRow w1.heap.size 3 1 (.slice B (out.length + 1) cap) (out.length + 1) (irow (ofN out) ++ irow [(x : Int)])) (hg : ((wr.setCell ⟨u, x, none⟩ (.bool true)).alloc (.cells (irow [(x : Int)]).toArray t)).grownBy w7 v.ownBlock) :
    RoAt w w1 u n (.slice B (out ++ [x]).length cap) (out ++ [x]) w7 := by
  have hv : ∀ b, v.ownBlock = some b → w1.heap.size ≤ b := fun b hb => (own_lt h.own hb).1
  have hus := h.us
  have hsz := h.size
  have hs : wr.heap.size ≤ w7.heap.size := by have := hg.size; simp [World.setCell] at this; omega
  refine ⟨(h.mark x h).of_block ?_, ?_, h.us, Nat.le_trans h.size hs, ?_⟩
  · exact (hg.block u (by simp [World.setCell]; omega) (fun e => by have := hv u e.symm; omega)).trans (Below.heap_alloc _ _ u (by simp [World.setCell]; omega))
  · rw [List.length_append, ofN_snoc, irow_append]
    exact ho
  · have hb := h.below.setCell (p := ⟨u, x, none⟩) hus.1 (.bool true)
    exact (hb.alloc hb.size _).grown hg (by have := hb.size; simp; omega) (fun b e => by have := hv b e; omega)
end
/-- In the middle of adding those that are left. -/
structure RtAt (w w1 : World) (u n : Nat) (out : List Nat) (v : Value) (l : List Nat) (wr : World) : Prop where
  used : wr.rowIs u 4 n (fun p => .bool (out.contains p))
  own : wr.ownsRow w1.heap.size 3 1 v l.length (irow (ofN l))
  us : w.heap.size ≤ u ∧ u < w1.heap.size
  size : w1.heap.size ≤ wr.heap.size
  below : Below w.heap.size w wr
theorem RoAt.rest {w w1 wr : World} {u n : Nat} {v : Value} {out : List Nat} (h : RoAt w w1 u n v out wr) : RtAt w w1 u n out v out wr := ⟨h.used, h.own, h.us, h.size, h.below⟩
theorem RtAt.add {w w1 wr : World} {u n : Nat} {v : Value} {out l : List Nat} (h : RtAt w w1 u n out v l wr) (x : Nat) {B : Option Addr} {cap : Nat} {t : TypeId} {w7 : World}
    (ho : w7.ownsRow w1.heap.size 3 1 (.slice B (l.length + 1) cap) (l.length + 1) (irow (ofN l) ++ irow [(x : Int)])) (hg : (wr.alloc (.cells (irow [(x : Int)]).toArray t)).grownBy w7 v.ownBlock) :
    RtAt w w1 u n out (.slice B (l ++ [x]).length cap) (l ++ [x]) w7 := by
  have hv : ∀ b, v.ownBlock = some b → w1.heap.size ≤ b := fun b hb => (own_lt h.own hb).1
  have hus := h.us
  have hsz := h.size
  have hs : wr.heap.size ≤ w7.heap.size := by have := hg.size; simp at this; omega
  refine ⟨h.used.of_block ?_, ?_, h.us, Nat.le_trans h.size hs, ?_⟩
  · exact (hg.block u (by simp; omega) (fun e => by have := hv u e.symm; omega)).trans (Below.heap_alloc wr _ u (by omega))
  · rw [List.length_append, ofN_snoc, irow_append]
    exact ho
  · exact (h.below.alloc h.below.size _).grown hg (by have := h.below.size; simp; omega) (fun b e => by have := hv b e; omega)
theorem filt_succ (out : List Nat) (j : Nat) : (List.range (j + 1)).filter (fun x => !out.contains x) = (List.range j).filter (fun x => !out.contains x) ++ (if out.contains j then [] else [j]) := by
  rw [List.range_succ, List.filter_append]
  congr 1
  cases h : out.contains j
  · rw [List.filter_cons_of_pos (by rw [h]; rfl)]; rfl
  · rw [List.filter_cons_of_neg (by rw [h]; decide)]; rfl
theorem filt_len (out : List Nat) (j : Nat) : ((List.range j).filter (fun x => !out.contains x)).length ≤ j := by
  have := List.length_filter_le (fun x => !out.contains x) (List.range j)
  simpa using this
theorem ahd_iff (x y : It) : ahd x y = true ↔ (y.2 < x.2 ∨ x.2 = y.2 ∧ x.1 < y.1) := by
  unfold ahd
  simp
def RefOrPost (w : World) (n : Nat) (y : Nat → It) (e : Ending) (w' : World) : Prop :=
  ∃ (o : List Nat) (A : Option Addr) (cap : Nat), IsOrd y n o ∧ e = .returned (.slice A n cap) ∧ Nums .i64 w' w'.heap.size A n (fun j => (o.getD j 0 : Nat)) ∧ Below w.heap.size w w' ∧ ∀ b off, A = some ⟨b, off, none⟩ → w.heap.size ≤ b
set_option maxRecDepth 100000 in
set_option maxHeartbeats 4000000 in
theorem ref_order (a : Option Addr) (n c : Nat) (y : Nat → It) (w : World) (hn : n ≤ 1000) (hI : Its w w.heap.size a n y) :
    Calls Try.prog 15 #[.slice a n c] w (RefOrPost w n y) := by
  have hmk := run_make_row' (P := Try.prog) 50 4 (.bool false) 1 Try.underlying50 infoBool rfl .i64 .i64 n (by omega) (by omega)
  obtain ⟨u, hu⟩ : ∃ u, w.heap.size = u := ⟨_, rfl⟩
  obtain ⟨w1, hw1⟩ : ∃ w1, w.alloc (.cells (madeCells #[.bool false] n) 4) = w1 := ⟨_, rfl⟩
  have hs1 : w1.heap.size = u + 1 := by rw [← hw1, ← hu]; simp
  have HR : Hid (RoAt w w1 u n (.slice none 0 0) [] w1) := by
    refine Lib.hid ⟨?_, World.ownsRow_nil _ _ _ _, by omega, Nat.le_refl _, ?_⟩
    · rw [← hw1, ← hu]; exact (World.rowIs_made w (.bool false) n 4).congr fun p _ => by simp
    · rw [← hw1]; exact (Below.refl _ w).alloc (Nat.le_refl _) _
  have HI := Lib.hid hI
  have HU := Lib.hid hu
  have HW1 := Lib.hid hw1
  have hus : w.heap.size ≤ u := by omega
  clear hI hu hw1 hs1
  go_enter Try.func15, Try.ntmps15
  go_wp2_with fail
  rw [HW1.out, HU.out]
  go_loopw [4, 5] (fun v4 v5 wr => ∃ (out : List Nat) (k : Nat), v5 = .int .i64 k ∧ k = out.length ∧ RoAt w w1 u n v4 out wr ∧ SelAt y n out) (fun _ v _ => n - (intOf v).toNat)
  case atStart => exact ⟨[], 0, rfl, rfl, HR.out, SelAt.nil y n⟩
  case round =>
    obtain ⟨out, k, rfl, hk, hS, hsel⟩ := hrel
    clear HR
    have hol := hsel.le
    have HSel := Lib.hid hsel
    have HS := Lib.hid hS
    have HKo := Lib.hid hk
    have hkn : k ≤ n := by omega
    clear hk hS hsel
    obtain ⟨w9, h9⟩ : ∃ x, x = wr := ⟨_, rfl⟩
    subst h9
    by_cases hlt : k < n
    · go_wp2_with fail
      go_loopw [6, 7] (fun v6 v7 wr => ∃ (i : Nat) (at' : Int), v7 = .int .i64 i ∧ v6 = .int .i64 at' ∧ i ≤ n ∧ BestAt y out i at' ∧ Below w9.heap.size w9 wr) (fun _ v _ => n - (intOf v).toNat)
      case atStart => exact ⟨0, -1, rfl, rfl, by omega, BestAt.zero y out, Below.refl _ _⟩
      case round =>
        obtain ⟨i, at', rfl, rfl, hi, hbe, hb9⟩ := hrel
        have HB5 := Lib.hid hb9
        have HS9 := Lib.hid (HS.out.grow hb9)
        have HBe := Lib.hid hbe
        clear hb9
        by_cases hin : i < n
        · have cu := Gr.cell (HS9.out.used.cell hin)
          obtain ⟨b, off, rfl, hb, c0, c1⟩ := (HI.out.below HS9.out.below).at hin
          have g0 := Gr.cell c0
          have g1 := Gr.cell c1
          clear c0 c1 hbe
          by_cases hu : i ∈ out
          · have hct : out.contains i = true := by simpa using hu
            have HNB := Lib.hid (HBe.out.skip (.inl hu))
            have HAh := Lib.hid (ref_ahead (0, 0) (0, 0))
            rw [hct] at cu
            clear hu hct HBe
            go_wp2_with fail
            refine wp_region_grow (by kernel_rfl) (by kernel_rfl) ?_
            repeat (go_big_quiet_step (first | (go_at_call 23; exact Gr.blw (HAh.out _))))
            refine wpQuiet_nil ?_
            intro w5 hw5
            obtain ⟨G, hG⟩ := hw5
            subst hG
            go_wp2_with fail
            go_roundw
            case rel => exact ⟨i + 1, _, by go_num, rfl, by omega, HNB.out, HB5.out.trans (G.ok.none.mono HB5.out.size)⟩
            case measure => simp [intOf]; omega
          · have hct : out.contains i = false := by simpa using hu
            rw [hct] at cu
            clear hct
            by_cases hneg : (y i).2 < 0
            · have HNB := Lib.hid (HBe.out.skip (.inr hneg))
              have HAh := Lib.hid (ref_ahead (0, 0) (0, 0))
              have d1 : decide (0 ≤ (y i).2) = false := decide_eq_false (by omega)
              clear hu hneg HBe
              go_wp2_with fail
              refine wp_region_grow (by kernel_rfl) (by kernel_rfl) ?_
              repeat (go_big_quiet_step (first | (go_at_call 23; exact Gr.blw (HAh.out _))))
              refine wpQuiet_nil ?_
              intro w5 hw5
              obtain ⟨G, hG⟩ := hw5
              subst hG
              go_wp2_with fail
              go_roundw
              case rel => exact ⟨i + 1, _, by go_num, rfl, by omega, HNB.out, HB5.out.trans (G.ok.none.mono HB5.out.size)⟩
              case measure => simp [intOf]; omega
            · have d1 : decide (0 ≤ (y i).2) = true := decide_eq_true (by omega)
              have hcase : at' = -1 ∨ ∃ a : Nat, at' = a ∧ a < n ∧ 0 ≤ (y a).2 := by
                rcases HBe.out with ⟨h, _⟩ | ⟨a, h, h1, h2, h3, _⟩
                · exact .inl h
                · exact .inr ⟨a, h, by omega, h3⟩
              rcases hcase with rfl | ⟨x, rfl, hxn, hxr⟩
              · have HNB := Lib.hid (HBe.out.first hu (by omega))
                have HAh := Lib.hid (ref_ahead (0, 0) (0, 0))
                have d2 : decide ((-1 : Int) < 0) = true := rfl
                clear hu hneg HBe
                go_wp2_with fail
                refine wp_region_grow (by kernel_rfl) (by kernel_rfl) ?_
                repeat (go_big_quiet_step (first | (go_at_call 23; exact Gr.blw (HAh.out _))))
                refine wpQuiet_nil ?_
                intro w5 hw5
                obtain ⟨G, hG⟩ := hw5
                subst hG
                go_wp2_with fail
                go_roundw
                case rel => exact ⟨i + 1, _, by go_num, rfl, by omega, HNB.out, HB5.out.trans (G.ok.none.mono HB5.out.size)⟩
                case measure => simp [intOf]; omega
              · obtain ⟨b2, off2, e2, hb2, x0, x1⟩ := (HI.out.below HS9.out.below).at hxn
                cases e2
                have k0 := Gr.cell x0
                have k1 := Gr.cell x1
                have d2 : decide ((x : Int) < 0) = false := by simp
                have HAh := Lib.hid (ref_ahead (y i) (y x))
                have hiff := ahd_iff (y i) (y x)
                clear x0 x1
                cases hah : ahd (y i) (y x)
                · have HNB := Lib.hid (HBe.out.worse (by omega) (fun h => by rw [hah] at hiff; have := hiff.2 h; cases this))
                  rw [hah] at HAh
                  clear hu hneg HBe hah hiff hxr
                  go_wp2_with fail
                  refine wp_region_grow (by kernel_rfl) (by kernel_rfl) ?_
                  repeat (go_big_quiet_step (first | (go_at_call 23; exact Gr.blw (HAh.out _))))
                  refine wpQuiet_nil ?_
                  intro w5 hw5
                  obtain ⟨G, hG⟩ := hw5
                  subst hG
                  go_wp2_with fail
                  go_roundw
                  case rel => exact ⟨i + 1, _, by go_num, rfl, by omega, HNB.out, HB5.out.trans (G.ok.none.mono HB5.out.size)⟩
                  case measure => simp [intOf]; omega
                · have HNB := Lib.hid (HBe.out.better hu (by omega) (hiff.1 hah))
                  rw [hah] at HAh
                  clear hu hneg HBe hah hiff hxr
                  go_wp2_with fail
                  refine wp_region_grow (by kernel_rfl) (by kernel_rfl) ?_
                  repeat (go_big_quiet_step (first | (go_at_call 23; exact Gr.blw (HAh.out _))))
                  refine wpQuiet_nil ?_
                  intro w5 hw5
                  obtain ⟨G, hG⟩ := hw5
                  subst hG
                  go_wp2_with fail
                  go_roundw
                  case rel => exact ⟨i + 1, _, by go_num, rfl, by omega, HNB.out, HB5.out.trans (G.ok.none.mono HB5.out.size)⟩
                  case measure => simp [intOf]; omega
        · have ein : n = i := by omega
          subst ein
          clear hin hi
          rcases hbe with ⟨rfl, _⟩ | ⟨x, rfl, hxn, hxo, hxr, _⟩
          · have HRt := Lib.hid HS9.out.rest
            have HBF := HBe
            clear hlt HBe HS HS9 HB5
            obtain ⟨w7, h7⟩ : ∃ x, x = wr := ⟨_, rfl⟩
            subst h7
            go_wp2_with fail
            go_loopw [4, 8] (fun v4 v8 wr => ∃ j : Nat, v8 = .int .i64 j ∧ j ≤ n ∧ RtAt w w1 u n out v4 (out ++ (List.range j).filter (fun x => !out.contains x)) wr) (fun _ v _ => n - (intOf v).toNat)
            case atStart => exact ⟨0, rfl, by omega, by simpa using HRt.out⟩
            case round =>
              obtain ⟨j, rfl, hj, hT⟩ := hrel
              clear HRt
              have HT := Lib.hid hT
              by_cases hjn : j < n
              · have cu := hT.used.cell hjn
                have hsu := filt_succ out j
                have hfl := filt_len out j
                have hbase : w1.heap.size ≤ wr.heap.size := hT.size
                clear hT
                cases hct : out.contains j
                · rw [hct] at cu hsu
                  have HSU := Lib.hid hsu
                  clear hsu hct
                  have hll : (out ++ (List.range j).filter (fun x => !out.contains x)).length ≤ 2000 := by rw [List.length_append]; omega
                  generalize hlq : out ++ (List.range j).filter (fun x => !out.contains x) = lq at *
                  have HLQ := Lib.hid hlq
                  clear hlq hfl
                  go_wp2_with (with_reducible refine wpList_append_where _ rfl (.tmp 73) (.tmp 75) 30 rfl w1.heap.size 3 (.int .i64 0) 1 8 Try.underlying30 infoI64 rfl (by decide) u4 lq.length (irow (ofN lq)) rfl (row_stay HT.out.own (fun b _ hb => Below.heap_alloc _ _ b hb)) ⟨wr.heap.size, 0, none⟩ 1 1 (irow [(j : Int)]) rfl rfl ?c0 (irow_one _) ?c2 ?c3 ?c4 ?_)
                  case c0 => exact irow_new wr _ [(j : Int)] rfl
                  case c2 => simp only [maxLen]; omega
                  case c3 => omega
                  case c4 => simp; omega
                  intro A2 cap2 w10 hown hgr _
                  have HT2 := Lib.hid (HT.out.add j hown hgr)
                  clear hown hgr HT
                  go_wp2_with fail
                  go_roundw
                  case rel =>
                    have h := HT2.out
                    refine ⟨j + 1, by go_num, by omega, ?_⟩
                    rw [HSU.out, ← List.append_assoc, HLQ.out]
                    rw [List.length_append] at h
                    exact h
                  case measure => simp [intOf]; omega
                · rw [hct] at cu hsu
                  have HSU := Lib.hid hsu
                  clear hsu hct hfl
                  go_wp2_with fail
                  go_roundw
                  case rel => exact ⟨j + 1, by go_num, by omega, by rw [HSU.out]; simpa using HT.out⟩
                  case measure => simp [intOf]; omega
              · have ejn : n = j := by omega
                subst ejn
                have hord := HSel.out.done HBF.out
                have hown := HT.out.own
                obtain ⟨A, cap, rfl⟩ := own_slice9 hown
                have HBE := Lib.hid HT.out.below
                have HOW := Lib.hid (own_nums9 hown)
                have HNW : Hid (∀ b off, A = some ⟨b, off, none⟩ → w.heap.size ≤ b) := Lib.hid (fun b off e => by have h1 := (own_lt hown (show _ = some b by rw [e]; rfl)).1; have h2 := HT.out.us; omega)
                have HOR := Lib.hid hord
                have hlen := hord.len
                have HLN := Lib.hid hlen
                clear hT HT hord hown hjn hj hlen
                go_wp2_with fail
                go_ret
                refine ⟨_, A, cap, HOR.out, ?_, ?_, HBE.out, HNW.out⟩
                · rw [HLN.out]; rfl
                · have h := HOW.out
                  rw [HLN.out] at h
                  exact h
          · have HSel2 := Lib.hid (HSel.out.next HBe.out)
            have cu := HS9.out.used.cell hxn
            have fu := HS9.out.used.frozen x
            have hbase : w1.heap.size ≤ wr.heap.size := HS9.out.size
            have d2 : decide ((x : Int) < 0) = false := by simp
            have hsl : w1.heap.size ≤ (wr.setCell ⟨u, x, none⟩ (.bool true)).heap.size := by simpa [World.setCell] using hbase
            clear hxo hxr HBe
            go_wp2_with (with_reducible refine wpList_append_where _ rfl (.tmp 58) (.tmp 60) 30 rfl w1.heap.size 3 (.int .i64 0) 1 8 Try.underlying30 infoI64 rfl (by decide) u4 out.length (irow (ofN out)) rfl ?c9 ⟨wr.heap.size, 0, none⟩ 1 1 (irow [(x : Int)]) rfl rfl ?c0 (irow_one _) ?c2 ?c3 ?c4 ?_)
            case c9 => exact row_stay HS9.out.own (fun b hb1 hb => (Below.heap_alloc _ _ b (by simpa [World.setCell] using hb)).trans (Below.heap_setCell wr ⟨u, x, none⟩ _ b (by have := HS9.out.us.2; show b ≠ u; omega)))
            case c0 => exact irow_new (wr.setCell ⟨u, x, none⟩ (.bool true)) _ [(x : Int)] (by simp [World.setCell])
            case c2 => simp only [maxLen]; omega
            case c3 => omega
            case c4 => simp [World.setCell]; omega
            intro A2 cap2 w10 hown hgr _
            have HS10 := Lib.hid (HS9.out.put x hown hgr)
            clear hown hgr HS9 HB5 cu fu
            go_wp2_with fail
            go_roundw
            case rel =>
              have h := HS10.out
              rw [List.length_append] at h
              exact ⟨out ++ [x], k + 1, by go_num, by rw [List.length_append]; have := HKo.out; simp; omega, h, HSel2.out⟩
            case measure => simp [intOf]; omega
    · have hko : out.length = n := by have := HKo.out; omega
      have HBF := Lib.hid (HSel.out.full hko)
      have HRt := Lib.hid HS.out.rest
      clear HS
      go_wp2_with fail
      go_loopw [4, 8] (fun v4 v8 wr => ∃ j : Nat, v8 = .int .i64 j ∧ j ≤ n ∧ RtAt w w1 u n out v4 (out ++ (List.range j).filter (fun x => !out.contains x)) wr) (fun _ v _ => n - (intOf v).toNat)
      case atStart => exact ⟨0, rfl, by omega, by simpa using HRt.out⟩
      case round =>
        obtain ⟨j, rfl, hj, hT⟩ := hrel
        clear HRt
        have HT := Lib.hid hT
        by_cases hjn : j < n
        · have cu := hT.used.cell hjn
          have hsu := filt_succ out j
          have hfl := filt_len out j
          have hbase : w1.heap.size ≤ wr.heap.size := hT.size
          clear hT
          cases hct : out.contains j
          · rw [hct] at cu hsu
            have HSU := Lib.hid hsu
            clear hsu hct
            have hll : (out ++ (List.range j).filter (fun x => !out.contains x)).length ≤ 2000 := by rw [List.length_append]; omega
            generalize hlq : out ++ (List.range j).filter (fun x => !out.contains x) = lq at *
            have HLQ := Lib.hid hlq
            clear hlq hfl
            go_wp2_with (with_reducible refine wpList_append_where _ rfl (.tmp 73) (.tmp 75) 30 rfl w1.heap.size 3 (.int .i64 0) 1 8 Try.underlying30 infoI64 rfl (by decide) u4 lq.length (irow (ofN lq)) rfl (row_stay HT.out.own (fun b _ hb => Below.heap_alloc _ _ b hb)) ⟨wr.heap.size, 0, none⟩ 1 1 (irow [(j : Int)]) rfl rfl ?c0 (irow_one _) ?c2 ?c3 ?c4 ?_)
            case c0 => exact irow_new wr _ [(j : Int)] rfl
            case c2 => simp only [maxLen]; omega
            case c3 => omega
            case c4 => simp; omega
            intro A2 cap2 w10 hown hgr _
            have HT2 := Lib.hid (HT.out.add j hown hgr)
            clear hown hgr HT
            go_wp2_with fail
            go_roundw
            case rel =>
              have h := HT2.out
              refine ⟨j + 1, by go_num, by omega, ?_⟩
              rw [HSU.out, ← List.append_assoc, HLQ.out]
              rw [List.length_append] at h
              exact h
            case measure => simp [intOf]; omega
          · rw [hct] at cu hsu
            have HSU := Lib.hid hsu
            clear hsu hct hfl
            go_wp2_with fail
            go_roundw
            case rel => exact ⟨j + 1, by go_num, by omega, by rw [HSU.out]; simpa using HT.out⟩
            case measure => simp [intOf]; omega
        · have ejn : n = j := by omega
          subst ejn
          have hord := HSel.out.done HBF.out
          have hown := HT.out.own
          obtain ⟨A, cap, rfl⟩ := own_slice9 hown
          have HBE := Lib.hid HT.out.below
          have HOW := Lib.hid (own_nums9 hown)
          have HNW : Hid (∀ b off, A = some ⟨b, off, none⟩ → w.heap.size ≤ b) := Lib.hid (fun b off e => by have h1 := (own_lt hown (show _ = some b by rw [e]; rfl)).1; have h2 := HT.out.us; omega)
          have HOR := Lib.hid hord
          have hlen := hord.len
          have HLN := Lib.hid hlen
          clear hT HT hord hown hjn hj hlen
          go_wp2_with fail
          go_ret
          refine ⟨_, A, cap, HOR.out, ?_, ?_, HBE.out, HNW.out⟩
          · rw [HLN.out]; rfl
          · have h := HOW.out
            rw [HLN.out] at h
            exact h
end Go.Proofs.Ytnpddimepcblkaa
