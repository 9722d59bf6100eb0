/- The law PolicyLeaves, walked: for every ranks, whichever are expired, every capacity and batch it returns true, and nothing that was in memory changes. Conditions: the first slice's cells are words, the numbers are ints. -/
import Derived.Test.YtigifbijmchdcaaPolRows
import Derived.Test.YtigifbijmchdcaaPolMore
import Derived.Test.YtigifbijmchdcaaBools
import Derived.Test.YtigifbijmchdcaaGrow
import Derived.Deep.Cut
import Derived.Deep.CutRange
import Derived.Deep.QuietTactic
namespace Go.Proofs.Ytigifbijmchdcaa
open Go.RowKit Go.ChangeShapes Go.WideShapes Go.ChangeAt

theorem infoBoolL : (Try.prog.info? 4).map (fun i => (i.zero, i.size, i.bytes)) = some (some (.bool false), 1, 1) := by kernel_rfl
def ylv (z : Nat → Int) (nx : Nat) (ze : Nat → Bool) (i : Nat) : Pi := ((i : Int), (z i).toNat % 4611686018427387904, decide (i < nx) && ze i)
theorem ylv_nodup (z : Nat → Int) (nx : Nat) (ze : Nat → Bool) (n : Nat) : ((lsP n (ylv z nx ze)).map (·.1)).Nodup := by
  have e : (lsP n (ylv z nx ze)).map (·.1) = (List.range n).map fun i => ((i : Nat) : Int) := by simp [lsP, ylv]
  rw [e, List.nodup_iff_pairwise_ne, List.pairwise_map]
  exact List.nodup_range.imp fun h => by omega
theorem ylv_mem {z : Nat → Int} {nx : Nat} {ze : Nat → Bool} {n i : Nat} (h : i < n) : ylv z nx ze i ∈ lsP n (ylv z nx ze) := List.mem_map.2 ⟨i, List.mem_range.2 h, rfl⟩
/-- The cells that go are numbers of items. -/
theorem ylv_vic {z : Nat → Int} {nx : Nat} {ze : Nat → Bool} {n j : Nat} {c b : Int} (hj : j < kMany (lsP n (ylv z nx ze)) c b) : ∃ q : Nat, q < n ∧ (victims (lsP n (ylv z nx ze)) c b).getD j 0 = (q : Int) := by
  have hl : j < (victims (lsP n (ylv z nx ze)) c b).length := by rw [victims_len]; exact hj
  have hm := vic_mem (List.getElem_mem hl)
  obtain ⟨x, hx, e⟩ := List.mem_map.1 hm
  obtain ⟨q, hq, rfl⟩ := List.mem_map.1 hx
  refine ⟨q, List.mem_range.1 hq, ?_⟩
  rw [List.getD_eq_getElem?_getD, List.getElem?_eq_getElem hl]
  exact e.symm
/-- Who is marked, behind j of them. -/
def mkd (V : List Int) (j i : Nat) : Bool := decide (((i : Nat) : Int) ∈ V.take j)
theorem mkd_succ {V : List Int} {j q : Nat} (hj : j < V.length) (hv : V.getD j 0 = (q : Int)) (i : Nat) : mkd V (j + 1) i = if i = q then true else mkd V j i := by
  have hq : V[j]? = some (q : Int) := by
    rw [List.getD_eq_getElem?_getD, List.getElem?_eq_getElem hj] at hv
    rw [List.getElem?_eq_getElem hj]; exact congrArg some hv
  unfold mkd
  rw [List.take_add_one, hq]
  by_cases e : i = q
  · subst e; simp
  · rw [if_neg e]
    have : ¬ ((i : Nat) : Int) = (q : Int) := by omega
    simp [this]
theorem mkd_no {V : List Int} (hn : V.Nodup) {j q : Nat} (hj : j < V.length) (hv : V.getD j 0 = (q : Int)) : mkd V j q = false := by
  unfold mkd
  rw [decide_eq_false_iff_not]
  intro h
  rw [List.getD_eq_getElem?_getD, List.getElem?_eq_getElem hj] at hv
  obtain ⟨i, hi, e⟩ := List.mem_iff_getElem.1 h
  rw [List.length_take] at hi
  rw [List.getElem_take] at e
  have := (List.pairwise_iff_getElem.1 hn) i j (by omega) hj (by omega)
  exact this (by rw [e]; exact hv.symm)
/-- One that stays does not go ahead of one that goes. -/
theorem stays_late {z : Nat → Int} {nx : Nat} {ze : Nat → Bool} {n i k : Nat} {c b : Int} (hi : i < n) (hk : k < n) (h1 : (((i : Nat) : Int)) ∈ victims (lsP n (ylv z nx ze)) c b) (h2 : (((k : Nat) : Int)) ∉ victims (lsP n (ylv z nx ze)) c b) :
    ((ylv z nx ze k).2.2 = true → (ylv z nx ze i).2.2 = true) ∧ ((ylv z nx ze k).2.2 = (ylv z nx ze i).2.2 → (ylv z nx ze i).2.1 ≤ (ylv z nx ze k).2.1) := by
  have h := vic_order (ylv_nodup z nx ze n) (ylv_mem hi) (ylv_mem hk) h1 h2
  rw [kle_iff] at h
  have e : ∀ j, pkey (ylv z nx ze j) = (ylv z nx ze j).2.1 + if (ylv z nx ze j).2.2 then 0 else 4611686018427387904 := fun j => by
    unfold pkey
    have : (ylv z nx ze j).2.1 % 4611686018427387904 = (ylv z nx ze j).2.1 := Nat.mod_mod _ _
    rw [this]
  have l : ∀ j, (ylv z nx ze j).2.1 < 4611686018427387904 := fun j => Nat.mod_lt _ (by decide)
  have hle : pkey (ylv z nx ze i) ≤ pkey (ylv z nx ze k) := by
    rcases h with h | h
    · exact Nat.le_of_lt h
    · exact Nat.le_of_eq h.1
  rw [e, e] at hle
  have l1 := l i
  have l2 := l k
  cases h3 : (ylv z nx ze k).2.2 <;> cases h4 : (ylv z nx ze i).2.2 <;> rw [h3, h4] at hle <;> simp at hle ⊢ <;> omega
/-- While the marks are made. -/
structure GnAt (w1 : World) (g n : Nat) (V : List Int) (j : Nat) (wr : World) : Prop where
  row : wr.rowIs g 4 n (fun i => .bool (mkd V j i))
  only : Only (just g) w1 wr
theorem GnAt.next {w1 wr : World} {g n q : Nat} {V : List Int} {j : Nat} (h : GnAt w1 g n V j wr) (hj : j < V.length) (hv : V.getD j 0 = (q : Int)) : GnAt w1 g n V (j + 1) (wr.setCell ⟨g, q, none⟩ (.bool true)) := by
  refine ⟨(h.row.set q (.bool true)).congr fun i _ => ?_, h.only.setCell (p := ⟨g, q, none⟩) (.inl rfl) _⟩
  show (if i = q then _ else _) = _
  rw [mkd_succ hj hv]
  by_cases e : i = q
  · rw [if_pos e, if_pos e]
  · rw [if_neg e, if_neg e]
set_option maxRecDepth 100000 in
set_option maxHeartbeats 8000000 in
theorem leaves_law (a0 : Option Addr) (n0 c0 : Nat) (z : Nat → Int) (a1 : Option Addr) (nx cx : Nat) (ze : Nat → Bool) (m2 m3 : Int) (w : World) (hz : Nums .u64 w w.heap.size a0 n0 z) (hw : ∀ j, j < n0 → 0 ≤ z j) (hze : Bools w w.heap.size a1 nx ze) :
    Calls Try.prog 4 #[.slice a0 n0 c0, .slice a1 nx cx, .int .i64 m2, .int .i64 m3] w fun e w' => e = .returned (.bool true) ∧ Below w.heap.size w w' := by
  have HZ := Lib.hid hz
  have HW := Lib.hid hw
  have HZE := Lib.hid hze
  clear hz hw hze
  go_enter Try.func4, Try.ntmps4
  go_wp2_with fail
  refine (pshown_any _).mono ?_
  rintro e w2 ⟨rfl, hb1⟩
  have HW1 := Lib.hid hb1
  clear hb1
  by_cases hbig : n0 > 60
  · have hbz : (n0 : Int) > 60 := by omega
    go_wp2_with fail
    all_goals
      go_ret
      exact ⟨rfl, HW1.out⟩
  have hbz : ¬ (n0 : Int) > 60 := by omega
  by_cases g2 : m2 < 0
  · go_wp2_with fail
    all_goals
      go_ret
      exact ⟨rfl, HW1.out⟩
  by_cases g3 : m3 < 0
  · go_wp2_with fail
    all_goals
      go_ret
      exact ⟨rfl, HW1.out⟩
  by_cases g4 : m2 > 1000
  · generalize wrap64 (m2 + m3) = s
    go_wp2_with fail
    all_goals
      go_ret
      exact ⟨rfl, HW1.out⟩
  by_cases g5 : m3 > 1000
  · go_wp2_with fail
    all_goals
      go_ret
      exact ⟨rfl, HW1.out⟩
  obtain ⟨c, rfl⟩ := Int.eq_ofNat_of_zero_le (a := m2) (by omega)
  obtain ⟨b, rfl⟩ := Int.eq_ofNat_of_zero_le (a := m3) (by omega)
  by_cases g6 : n0 > c + b
  · have g7 : (n0 : Int) > (c : Int) + (b : Int) := by omega
    go_wp2_with fail
    all_goals
      go_ret
      exact ⟨rfl, HW1.out⟩
  have g7 : ¬ (n0 : Int) > (c : Int) + (b : Int) := by omega
  have hcb : n0 ≤ c + b := by omega
  have d1 : decide ((60 : Int) < (n0 : Int)) = false := decide_eq_false (by omega)
  have d2 : decide ((c : Int) < 0) = false := decide_eq_false (by omega)
  have d3 : decide ((b : Int) < 0) = false := decide_eq_false (by omega)
  have d4 : decide ((c : Int) + (b : Int) < (n0 : Int)) = false := decide_eq_false (by omega)
  have d5 : decide ((1000 : Int) < (c : Int)) = false := decide_eq_false (by omega)
  have d6 : decide ((1000 : Int) < (b : Int)) = false := decide_eq_false (by omega)
  have hfit := fun (l : List Pi) (h : l.length = n0) => many_fits (l := l) (c := c) (b := b) (by omega) (by omega) (by omega)
  have hmk := run_make_row' (P := Try.prog) 40 4 (.bool false) 1 Try.underlying40 infoBoolL rfl .i64 .i64 n0 (by omega) (by omega)
  have HF := Lib.hid hfit
  have HMK := Lib.hid hmk
  have HS0 : Hid (PtAt 29 w2 (.slice none 0 0) (lsP 0 (ylv z nx ze)) w2) := PtAt.nil _ _
  clear hfit hmk
  go_wp2_with fail
  go_loopw [10, 11, 12, 13] (fun v10 v11 v12 _ wr => ∃ i : Nat, v12 = .int .i64 i ∧ i ≤ n0 ∧ v11 = .int .i64 (expd (lsP i (ylv z nx ze)) : Nat) ∧ PtAt 29 w2 v10 (lsP i (ylv z nx ze)) wr) (fun _ _ v _ _ => n0 - (intOf v).toNat)
  case atStart => exact ⟨0, rfl, by omega, rfl, HS0.out⟩
  case round =>
    clear HS0
    obtain ⟨i, rfl, hle, rfl, hS⟩ := hrel
    have HS := Lib.hid hS
    have hel := expd_le (lsP i (ylv z nx ze))
    rw [lsP_len] at hel
    by_cases hin : i < n0
    · have hb2 : Below w.heap.size w wr := HW1.out.trans (hS.below.mono HW1.out.size)
      obtain ⟨bb, off, rfl, hbl, cz⟩ := (HZ.out.below hb2).at hin
      have hz0 := HW.out i hin
      have hr := rem_62 (z i).toNat
      rw [Int.toNat_of_nonneg hz0] at hr
      have HE := Lib.hid (expd_succ i (ylv z nx ze))
      have HY : Hid (lsP (i + 1) (ylv z nx ze) = lsP i (ylv z nx ze) ++ [((i : Int), (z i).toNat % 4611686018427387904, decide (i < nx) && ze i)]) := lsP_succ i _
      have hll := lsP_len i (ylv z nx ze)
      have hye : (ylv z nx ze i).2.2 = (decide (i < nx) && ze i) := rfl
      rw [hye] at HE
      generalize expd (lsP i (ylv z nx ze)) = q0 at *
      generalize lsP i (ylv z nx ze) = lq at *
      obtain ⟨q, hq⟩ : ∃ q, q = (z i).toNat % 4611686018427387904 := ⟨_, rfl⟩
      rw [← hq] at hr HY
      obtain ⟨zi, hzi⟩ : ∃ zi, zi = z i := ⟨_, rfl⟩
      rw [← hzi] at cz hr
      have hiz : (i : Int) < (n0 : Int) := by omega
      have hsz := hS.below.size
      have hw2s := HW1.out.size
      have hbx : bb < wr.heap.size := by omega
      clear hq hzi hS hye hz0
      go_upto_region 9 with fail
      go_cut [13] from 52 to 82 (fun v wx => ∃ it ex, v = .pointer (some ⟨it, 0, none⟩) ∧ Hid (ex = (decide (i < nx) && ze i)) ∧ Hid (Box wx it 29 #[.int .i64 (i : Int), .int .u64 (q : Int), .bool ex]) ∧ Hid (PtAt 29 w2 u10 lq wx ∧ (∀ g, u10.ownBlock = some g → g ≠ it) ∧ w2.heap.size ≤ it))
      case first =>
        have hS9 : Hid (w.heap.size ≤ wr.heap.size) := hb2.size
        have HS3 : Hid (PtAt 29 w2 u10 lq wr.drew) := Lib.hid (HS.out.grow ((Below.refl _ wr).drew))
        obtain ⟨it, hit0⟩ : ∃ it, wr.heap.size = it := ⟨_, rfl⟩
        have hit : wr.drew.heap.size = it := hit0
        have hbit : bb < it := by omega
        have hwit : w.heap.size ≤ it := by have := hS9.out; omega
        clear hit0
        by_cases hnx : i < nx
        · have hnz : (i : Int) < (nx : Int) := by omega
          obtain ⟨be, oe, rfl, hbe, ce⟩ := (HZE.out.below hb2) (by omega)
          have ce := ce i hnx
          have hbeit : be < it := by omega
          have HEX : Hid (ze i = (decide (i < nx) && ze i)) := by show _ = _; rw [decide_eq_true hnx]; rfl
          generalize ze i = ex at *
          refine held_s (S := fun w' => w'.cell? ⟨bb, off + i, none⟩ = some (.int .u64 zi) ∧ w'.cell? ⟨be, oe + i, none⟩ = some (.bool ex)) 19 rfl (by kernel_rfl) ⟨cz, ce⟩ (fun hHeld => ?_)
          clear cz ce
          generalize wr.drew = w3 at *
          simp only [Array.replicate_succ, Array.replicate_zero, List.push_toArray, List.nil_append, List.cons_append]
          refine wpAnyH_take (i := 0) (oi := ⟨some 58, _, _, _, _, _⟩) (v := (.int .i64 (i : Int))) rfl (by kernel_rfl) (by kernel_rfl) (by kernel_rfl) (fun _ _ _ h => h) (Or.inl ⟨by rfl, fun w' hw => by go_simp⟩) hHeld ?_
          try simp only [Act.put, List.setIfInBounds_toArray, List.set_cons_zero, List.set_cons_succ]
          refine wpAnyH_take (i := 1) (oi := ⟨some 59, _, _, _, _, _⟩) (v := (.slice (some ⟨bb, off, none⟩) n0 c0)) rfl (by kernel_rfl) (by kernel_rfl) (by kernel_rfl) (fun _ _ _ h => h) (Or.inl ⟨by rfl, fun w' hw => by go_simp⟩) hHeld ?_
          try simp only [Act.put, List.setIfInBounds_toArray, List.set_cons_zero, List.set_cons_succ]
          refine wpAnyH_take (i := 2) (oi := ⟨some 60, _, _, _, _, _⟩) (v := (.int .i64 (i : Int))) rfl (by kernel_rfl) (by kernel_rfl) (by kernel_rfl) (fun _ _ _ h => h) (Or.inl ⟨by rfl, fun w' hw => by go_simp⟩) hHeld ?_
          try simp only [Act.put, List.setIfInBounds_toArray, List.set_cons_zero, List.set_cons_succ]
          refine wpAnyH_take (i := 3) (oi := ⟨some 61, _, _, _, _, _⟩) (v := (.pointer (some ⟨bb, off + i, none⟩))) rfl (by kernel_rfl) (by kernel_rfl) (by kernel_rfl) (fun _ _ _ h => h) (Or.inl ⟨by rfl, fun w' hw => by go_simp⟩) hHeld ?_
          try simp only [Act.put, List.setIfInBounds_toArray, List.set_cons_zero, List.set_cons_succ]
          refine wpAnyH_take (i := 4) (oi := ⟨some 62, _, _, _, _, _⟩) (v := (.int .u64 zi)) rfl (by kernel_rfl) (by kernel_rfl) (by kernel_rfl) (fun _ _ _ h => h) (Or.inl ⟨by rfl, fun w' hw => by (have y := hw.1; go_simp)⟩) hHeld ?_
          try simp only [Act.put, List.setIfInBounds_toArray, List.set_cons_zero, List.set_cons_succ]
          refine wpAnyH_take (i := 5) (oi := ⟨some 63, _, _, _, _, _⟩) (v := (.int .u64 (q : Int))) rfl (by kernel_rfl) (by kernel_rfl) (by kernel_rfl) (fun _ _ _ h => h) (Or.inl ⟨by rfl, fun w' hw => by go_simp⟩) hHeld ?_
          try simp only [Act.put, List.setIfInBounds_toArray, List.set_cons_zero, List.set_cons_succ]
          refine wpAnyH_take (i := 6) (oi := ⟨some 64, _, _, _, _, _⟩) (v := (.int .i64 (i : Int))) rfl (by kernel_rfl) (by kernel_rfl) (by kernel_rfl) (fun _ _ _ h => h) (Or.inl ⟨by rfl, fun w' hw => by go_simp⟩) hHeld ?_
          try simp only [Act.put, List.setIfInBounds_toArray, List.set_cons_zero, List.set_cons_succ]
          refine wpAnyH_take (i := 7) (oi := ⟨some 65, _, _, _, _, _⟩) (v := (.slice (some ⟨be, oe, none⟩) nx cx)) rfl (by kernel_rfl) (by kernel_rfl) (by kernel_rfl) (fun _ _ _ h => h) (Or.inl ⟨by rfl, fun w' hw => by go_simp⟩) hHeld ?_
          try simp only [Act.put, List.setIfInBounds_toArray, List.set_cons_zero, List.set_cons_succ]
          refine wpAnyH_take (i := 8) (oi := ⟨some 66, _, _, _, _, _⟩) (v := (.int .i64 (nx : Int))) rfl (by kernel_rfl) (by kernel_rfl) (by kernel_rfl) (fun _ _ _ h => h) (Or.inl ⟨by rfl, fun w' hw => by go_simp⟩) hHeld ?_
          try simp only [Act.put, List.setIfInBounds_toArray, List.set_cons_zero, List.set_cons_succ]
          refine wpAnyH_take (i := 9) (oi := ⟨some 67, _, _, _, _, _⟩) (v := (.bool true)) rfl (by kernel_rfl) (by kernel_rfl) (by kernel_rfl) (fun _ _ _ h => h) (Or.inl ⟨by rfl, fun w' hw => by go_simp⟩) hHeld ?_
          try simp only [Act.put, List.setIfInBounds_toArray, List.set_cons_zero, List.set_cons_succ]
          refine wpAnyH_take (i := 10) (oi := ⟨some 68, _, _, _, _, _⟩) (v := (.bool true)) rfl (by kernel_rfl) (by kernel_rfl) (by kernel_rfl) (fun _ _ _ h => h) (Or.inl ⟨by rfl, fun w' hw => by go_simp⟩) hHeld ?_
          try simp only [Act.put, List.setIfInBounds_toArray, List.set_cons_zero, List.set_cons_succ]
          refine wpAnyH_take (i := 11) (oi := ⟨some 69, _, _, _, _, _⟩) (v := (.slice (some ⟨be, oe, none⟩) nx cx)) rfl (by kernel_rfl) (by kernel_rfl) (by kernel_rfl) (fun _ _ _ h => h) (Or.inl ⟨by rfl, fun w' hw => by go_simp⟩) hHeld ?_
          try simp only [Act.put, List.setIfInBounds_toArray, List.set_cons_zero, List.set_cons_succ]
          refine wpAnyH_take (i := 12) (oi := ⟨some 70, _, _, _, _, _⟩) (v := (.int .i64 (i : Int))) rfl (by kernel_rfl) (by kernel_rfl) (by kernel_rfl) (fun _ _ _ h => h) (Or.inl ⟨by rfl, fun w' hw => by go_simp⟩) hHeld ?_
          try simp only [Act.put, List.setIfInBounds_toArray, List.set_cons_zero, List.set_cons_succ]
          refine wpAnyH_take (i := 13) (oi := ⟨some 71, _, _, _, _, _⟩) (v := (.pointer (some ⟨be, oe + i, none⟩))) rfl (by kernel_rfl) (by kernel_rfl) (by kernel_rfl) (fun _ _ _ h => h) (Or.inl ⟨by rfl, fun w' hw => by go_simp⟩) hHeld ?_
          try simp only [Act.put, List.setIfInBounds_toArray, List.set_cons_zero, List.set_cons_succ]
          refine wpAnyH_take (i := 14) (oi := ⟨some 72, _, _, _, _, _⟩) (v := (.bool ex)) rfl (by kernel_rfl) (by kernel_rfl) (by kernel_rfl) (fun _ _ _ h => h) (Or.inl ⟨by rfl, fun w' hw => by (have y := hw.2; go_simp)⟩) hHeld ?_
          try simp only [Act.put, List.setIfInBounds_toArray, List.set_cons_zero, List.set_cons_succ]
          refine wpAnyH_take (i := 15) (oi := ⟨some 73, _, _, _, _, _⟩) (v := (.bool ex)) rfl (by kernel_rfl) (by kernel_rfl) (by kernel_rfl) (fun _ _ _ h => h) (Or.inl ⟨by rfl, fun w' hw => by go_simp⟩) hHeld ?_
          try simp only [Act.put, List.setIfInBounds_toArray, List.set_cons_zero, List.set_cons_succ]
          refine wpAnyH_take (i := 16) (oi := ⟨some 74, _, _, _, _, _⟩) (v := (.agg #[.int .i64 (i : Int), .int .u64 (q : Int), .bool ex])) rfl (by kernel_rfl) (by kernel_rfl) (by kernel_rfl) (fun _ _ _ h => h) (Or.inl ⟨by rfl, fun w' hw => by go_simp⟩) hHeld ?_
          try simp only [Act.put, List.setIfInBounds_toArray, List.set_cons_zero, List.set_cons_succ]
          refine one_ready 17 rfl (by kernel_rfl) (fun K9 hK => ?_)
          go_simp
          obtain ⟨w4, hw4⟩ : ∃ x, w3.alloc (.cells #[.int .i64 0, .int .u64 0, .bool false] 29) = x := ⟨_, rfl⟩
          have hbx4 : Box w4 it 29 #[.int .i64 0, .int .u64 0, .bool false] := by rw [← hw4, ← hit]; exact Box.new w3 _ _
          have hP4 : PtAt 29 w2 u10 lq w4 := by rw [← hw4]; exact HS3.out.grow ((Below.refl _ w3).alloc (Nat.le_refl _) _)
          have hv4 : ∀ g, u10.ownBlock = some g → g ≠ it := fun g hg e => by have := (own_lt HS3.out.own hg).2; omega
          have hio : w2.heap.size ≤ it := by have := HS3.out.below.size; omega
          have hbi : bb ≠ it := by omega
          have hbi2 : be ≠ it := by omega
          have h4 : w4.cell? ⟨bb, off + i, none⟩ = some (.int .u64 zi) ∧ w4.cell? ⟨be, oe + i, none⟩ = some (.bool ex) := by rw [← hw4, World.cell?_alloc_past _ _ _ (by omega), World.cell?_alloc_past _ _ _ (by omega)]; exact hHeld
          simp only [hw4]
          refine hK.out _ _ h4 (fun hHeld => ?_)
          clear hK K9 hw4
          simp only [List.setIfInBounds_toArray, List.set_cons_zero, List.set_cons_succ]
          have k0 := hbx4.cell 0
          have k1 := hbx4.cell 1
          have k2 := hbx4.cell 2
          have z0 := hbx4.frozen 0
          have z1 := hbx4.frozen 1
          have z2 := hbx4.frozen 2
          refine one_ready 18 rfl (by kernel_rfl) (fun K9 hK => ?_)
          go_simp
          have hbx5 : Box (((w4.setCell ⟨it, 0, none⟩ (.int .i64 (i : Int))).setCell ⟨it, 1, none⟩ (.int .u64 (q : Int))).setCell ⟨it, 2, none⟩ (.bool ex)) it 29 #[.int .i64 (i : Int), .int .u64 (q : Int), .bool ex] := ((hbx4.put 0 _).put 1 _).put 2 _
          have ho5 : Only (just it) w4 (((w4.setCell ⟨it, 0, none⟩ (.int .i64 (i : Int))).setCell ⟨it, 1, none⟩ (.int .u64 (q : Int))).setCell ⟨it, 2, none⟩ (.bool ex)) := (((Only.refl (just it) w4).setCell (p := ⟨it, 0, none⟩) (.inl (just_self it)) _).setCell (p := ⟨it, 1, none⟩) (.inl (just_self it)) _).setCell (p := ⟨it, 2, none⟩) (.inl (just_self it)) _
          have hP5 := hP4.only ho5 (fun g hg => just_ne (hv4 g hg)) (fun g hg => just_ne (by omega))
          have hbl5 : bb < w4.heap.size := World.block_lt_of_cell? w4 ⟨bb, off + i, none⟩ hHeld.1
          have hbe5 : be < w4.heap.size := World.block_lt_of_cell? w4 ⟨be, oe + i, none⟩ hHeld.2
          have h5 := And.intro ((World.cell?_of_block (w := w4) (ho5.block bb hbl5 (just_ne hbi))).trans hHeld.1) ((World.cell?_of_block (w := w4) (ho5.block be hbe5 (just_ne hbi2))).trans hHeld.2)
          refine hK.out _ _ h5 (fun hHeld => ?_)
          clear hK K9
          refine wpAnyH_done (by kernel_rfl) ?_ _
          go_wp2_with fail
          go_meet
          exact ⟨it, ex, rfl, HEX, hbx5, hP5, hv4, hio⟩
        · have hnz : ¬ (i : Int) < (nx : Int) := by omega
          have HEX : Hid (false = (decide (i < nx) && ze i)) := by show _ = _; rw [decide_eq_false hnx]; rfl
          refine held_s (S := fun w' => w'.cell? ⟨bb, off + i, none⟩ = some (.int .u64 zi)) 19 rfl (by kernel_rfl) cz (fun hHeld => ?_)
          clear cz
          generalize wr.drew = w3 at *
          simp only [Array.replicate_succ, Array.replicate_zero, List.push_toArray, List.nil_append, List.cons_append]
          refine wpAnyH_take (i := 0) (oi := ⟨some 58, _, _, _, _, _⟩) (v := (.int .i64 (i : Int))) rfl (by kernel_rfl) (by kernel_rfl) (by kernel_rfl) (fun _ _ _ h => h) (Or.inl ⟨by rfl, fun w' hw => by go_simp⟩) hHeld ?_
          try simp only [Act.put, List.setIfInBounds_toArray, List.set_cons_zero, List.set_cons_succ]
          refine wpAnyH_take (i := 1) (oi := ⟨some 59, _, _, _, _, _⟩) (v := (.slice (some ⟨bb, off, none⟩) n0 c0)) rfl (by kernel_rfl) (by kernel_rfl) (by kernel_rfl) (fun _ _ _ h => h) (Or.inl ⟨by rfl, fun w' hw => by go_simp⟩) hHeld ?_
          try simp only [Act.put, List.setIfInBounds_toArray, List.set_cons_zero, List.set_cons_succ]
          refine wpAnyH_take (i := 2) (oi := ⟨some 60, _, _, _, _, _⟩) (v := (.int .i64 (i : Int))) rfl (by kernel_rfl) (by kernel_rfl) (by kernel_rfl) (fun _ _ _ h => h) (Or.inl ⟨by rfl, fun w' hw => by go_simp⟩) hHeld ?_
          try simp only [Act.put, List.setIfInBounds_toArray, List.set_cons_zero, List.set_cons_succ]
          refine wpAnyH_take (i := 3) (oi := ⟨some 61, _, _, _, _, _⟩) (v := (.pointer (some ⟨bb, off + i, none⟩))) rfl (by kernel_rfl) (by kernel_rfl) (by kernel_rfl) (fun _ _ _ h => h) (Or.inl ⟨by rfl, fun w' hw => by go_simp⟩) hHeld ?_
          try simp only [Act.put, List.setIfInBounds_toArray, List.set_cons_zero, List.set_cons_succ]
          refine wpAnyH_take (i := 4) (oi := ⟨some 62, _, _, _, _, _⟩) (v := (.int .u64 zi)) rfl (by kernel_rfl) (by kernel_rfl) (by kernel_rfl) (fun _ _ _ h => h) (Or.inl ⟨by rfl, fun w' hw => by (have y := hw; go_simp)⟩) hHeld ?_
          try simp only [Act.put, List.setIfInBounds_toArray, List.set_cons_zero, List.set_cons_succ]
          refine wpAnyH_take (i := 5) (oi := ⟨some 63, _, _, _, _, _⟩) (v := (.int .u64 (q : Int))) rfl (by kernel_rfl) (by kernel_rfl) (by kernel_rfl) (fun _ _ _ h => h) (Or.inl ⟨by rfl, fun w' hw => by go_simp⟩) hHeld ?_
          try simp only [Act.put, List.setIfInBounds_toArray, List.set_cons_zero, List.set_cons_succ]
          refine wpAnyH_take (i := 6) (oi := ⟨some 64, _, _, _, _, _⟩) (v := (.int .i64 (i : Int))) rfl (by kernel_rfl) (by kernel_rfl) (by kernel_rfl) (fun _ _ _ h => h) (Or.inl ⟨by rfl, fun w' hw => by go_simp⟩) hHeld ?_
          try simp only [Act.put, List.setIfInBounds_toArray, List.set_cons_zero, List.set_cons_succ]
          refine wpAnyH_take (i := 7) (oi := ⟨some 65, _, _, _, _, _⟩) (v := (.slice a1 nx cx)) rfl (by kernel_rfl) (by kernel_rfl) (by kernel_rfl) (fun _ _ _ h => h) (Or.inl ⟨by rfl, fun w' hw => by go_simp⟩) hHeld ?_
          try simp only [Act.put, List.setIfInBounds_toArray, List.set_cons_zero, List.set_cons_succ]
          refine wpAnyH_take (i := 8) (oi := ⟨some 66, _, _, _, _, _⟩) (v := (.int .i64 (nx : Int))) rfl (by kernel_rfl) (by kernel_rfl) (by kernel_rfl) (fun _ _ _ h => h) (Or.inl ⟨by rfl, fun w' hw => by go_simp⟩) hHeld ?_
          try simp only [Act.put, List.setIfInBounds_toArray, List.set_cons_zero, List.set_cons_succ]
          refine wpAnyH_take (i := 9) (oi := ⟨some 67, _, _, _, _, _⟩) (v := (.bool false)) rfl (by kernel_rfl) (by kernel_rfl) (by kernel_rfl) (fun _ _ _ h => h) (Or.inl ⟨by rfl, fun w' hw => by go_simp⟩) hHeld ?_
          try simp only [Act.put, List.setIfInBounds_toArray, List.set_cons_zero, List.set_cons_succ]
          refine wpAnyH_take (i := 10) (oi := ⟨some 68, _, _, _, _, _⟩) (v := (.bool false)) rfl (by kernel_rfl) (by kernel_rfl) (by kernel_rfl) (fun _ _ _ h => h) (Or.inl ⟨by rfl, fun w' hw => by go_simp⟩) hHeld ?_
          try simp only [Act.put, List.setIfInBounds_toArray, List.set_cons_zero, List.set_cons_succ]
          refine wpAnyH_take (i := 11) (oi := ⟨some 69, _, _, _, _, _⟩) (v := undef) rfl (by kernel_rfl) (by kernel_rfl) (by kernel_rfl) (fun _ _ _ h => h) (Or.inr ⟨by rfl, rfl⟩) hHeld ?_
          try simp only [Act.put, List.setIfInBounds_toArray, List.set_cons_zero, List.set_cons_succ]
          refine wpAnyH_take (i := 12) (oi := ⟨some 70, _, _, _, _, _⟩) (v := undef) rfl (by kernel_rfl) (by kernel_rfl) (by kernel_rfl) (fun _ _ _ h => h) (Or.inr ⟨by rfl, rfl⟩) hHeld ?_
          try simp only [Act.put, List.setIfInBounds_toArray, List.set_cons_zero, List.set_cons_succ]
          refine wpAnyH_take (i := 13) (oi := ⟨some 71, _, _, _, _, _⟩) (v := undef) rfl (by kernel_rfl) (by kernel_rfl) (by kernel_rfl) (fun _ _ _ h => h) (Or.inr ⟨by rfl, rfl⟩) hHeld ?_
          try simp only [Act.put, List.setIfInBounds_toArray, List.set_cons_zero, List.set_cons_succ]
          refine wpAnyH_take (i := 14) (oi := ⟨some 72, _, _, _, _, _⟩) (v := undef) rfl (by kernel_rfl) (by kernel_rfl) (by kernel_rfl) (fun _ _ _ h => h) (Or.inr ⟨by rfl, rfl⟩) hHeld ?_
          try simp only [Act.put, List.setIfInBounds_toArray, List.set_cons_zero, List.set_cons_succ]
          refine wpAnyH_take (i := 15) (oi := ⟨some 73, _, _, _, _, _⟩) (v := (.bool false)) rfl (by kernel_rfl) (by kernel_rfl) (by kernel_rfl) (fun _ _ _ h => h) (Or.inl ⟨by rfl, fun w' hw => by go_simp⟩) hHeld ?_
          try simp only [Act.put, List.setIfInBounds_toArray, List.set_cons_zero, List.set_cons_succ]
          refine wpAnyH_take (i := 16) (oi := ⟨some 74, _, _, _, _, _⟩) (v := (.agg #[.int .i64 (i : Int), .int .u64 (q : Int), .bool false])) rfl (by kernel_rfl) (by kernel_rfl) (by kernel_rfl) (fun _ _ _ h => h) (Or.inl ⟨by rfl, fun w' hw => by go_simp⟩) hHeld ?_
          try simp only [Act.put, List.setIfInBounds_toArray, List.set_cons_zero, List.set_cons_succ]
          refine one_ready 17 rfl (by kernel_rfl) (fun K9 hK => ?_)
          go_simp
          obtain ⟨w4, hw4⟩ : ∃ x, w3.alloc (.cells #[.int .i64 0, .int .u64 0, .bool false] 29) = x := ⟨_, rfl⟩
          have hbx4 : Box w4 it 29 #[.int .i64 0, .int .u64 0, .bool false] := by rw [← hw4, ← hit]; exact Box.new w3 _ _
          have hP4 : PtAt 29 w2 u10 lq w4 := by rw [← hw4]; exact HS3.out.grow ((Below.refl _ w3).alloc (Nat.le_refl _) _)
          have hv4 : ∀ g, u10.ownBlock = some g → g ≠ it := fun g hg e => by have := (own_lt HS3.out.own hg).2; omega
          have hio : w2.heap.size ≤ it := by have := HS3.out.below.size; omega
          have hbi : bb ≠ it := by omega
          have h4 : w4.cell? ⟨bb, off + i, none⟩ = some (.int .u64 zi) := by rw [← hw4, World.cell?_alloc_past _ _ _ (by omega)]; exact hHeld
          simp only [hw4]
          refine hK.out _ _ h4 (fun hHeld => ?_)
          clear hK K9 hw4
          simp only [List.setIfInBounds_toArray, List.set_cons_zero, List.set_cons_succ]
          have k0 := hbx4.cell 0
          have k1 := hbx4.cell 1
          have k2 := hbx4.cell 2
          have z0 := hbx4.frozen 0
          have z1 := hbx4.frozen 1
          have z2 := hbx4.frozen 2
          refine one_ready 18 rfl (by kernel_rfl) (fun K9 hK => ?_)
          go_simp
          have hbx5 : Box (((w4.setCell ⟨it, 0, none⟩ (.int .i64 (i : Int))).setCell ⟨it, 1, none⟩ (.int .u64 (q : Int))).setCell ⟨it, 2, none⟩ (.bool false)) it 29 #[.int .i64 (i : Int), .int .u64 (q : Int), .bool false] := ((hbx4.put 0 _).put 1 _).put 2 _
          have ho5 : Only (just it) w4 (((w4.setCell ⟨it, 0, none⟩ (.int .i64 (i : Int))).setCell ⟨it, 1, none⟩ (.int .u64 (q : Int))).setCell ⟨it, 2, none⟩ (.bool false)) := (((Only.refl (just it) w4).setCell (p := ⟨it, 0, none⟩) (.inl (just_self it)) _).setCell (p := ⟨it, 1, none⟩) (.inl (just_self it)) _).setCell (p := ⟨it, 2, none⟩) (.inl (just_self it)) _
          have hP5 := hP4.only ho5 (fun g hg => just_ne (hv4 g hg)) (fun g hg => just_ne (by omega))
          have hbl5 : bb < w4.heap.size := World.block_lt_of_cell? w4 ⟨bb, off + i, none⟩ hHeld
          have h5 := (World.cell?_of_block (w := w4) (ho5.block bb hbl5 (just_ne hbi))).trans hHeld
          refine hK.out _ _ h5 (fun hHeld => ?_)
          clear hK K9
          refine wpAnyH_done (by kernel_rfl) ?_ _
          go_wp2_with fail
          go_meet
          exact ⟨it, false, rfl, HEX, hbx5, hP5, hv4, hio⟩
      case rest =>
        obtain ⟨it, ex, rfl, HEX, HBx, HPP⟩ := hcut
        rw [← HEX.out] at HE HY
        have hsc := HPP.out.1.below.size
        cases ex
        · have k2 := HBx.out.cell 2
          have k0 := HBx.out.cell 0
          have k1 := HBx.out.cell 1
          have HO := Lib.hid (row_keep HPP.out.1.own (fun g hg => Below.heap_alloc wc (.cells #[.int .i64 (i : Int), .int .u64 (q : Int), .bool false] 29) g (own_lt HPP.out.1.own hg).2))
          rw [hll] at HO
          go_wp2_with (with_reducible refine wpList_append_where _ rfl (.tmp 79) (.tmp 81) 22 rfl w2.heap.size 29 (.agg #[.int .i64 0, .int .u64 0, .bool false]) 3 24 Try.underlying22 infoPit rfl (by decide) u10 i (pil lq) rfl HO.out ⟨wc.heap.size, 0, none⟩ 1 1 [.int .i64 (i : Int), .int .u64 (q : Int), .bool false] rfl rfl ?c0 ?c1 ?c2 ?c3 ?c4 ?_)
          first | (case c0 => exact new_three wc _ _ _ _ rfl) | skip
          case c1 => simp [Value.oneCell']
          case c2 => simp only [maxLen]; omega
          case c3 => omega
          case c4 => first | omega | (simp; omega)
          intro A2 cap2 w7 hown hgr _
          have HS7 := Lib.hid (HPP.out.1.next (x := ((i : Int), q, false)) (by rw [hll]; exact hown) hgr)
          rw [hll] at HS7
          clear hown hgr HPP HO HBx k0 k1 k2
          go_wp2_with fail
          go_roundw
          case rel => exact ⟨i + 1, by go_num, by omega, by rw [HE.out]; simp, by rw [HY.out]; exact HS7.out⟩
          case measure => simp [intOf]; omega
        · have k2 := HBx.out.cell 2
          have k0 := HBx.out.cell 0
          have k1 := HBx.out.cell 1
          have HO := Lib.hid (row_keep HPP.out.1.own (fun g hg => Below.heap_alloc wc (.cells #[.int .i64 (i : Int), .int .u64 (q : Int), .bool true] 29) g (own_lt HPP.out.1.own hg).2))
          rw [hll] at HO
          go_wp2_with (with_reducible refine wpList_append_where _ rfl (.tmp 79) (.tmp 81) 22 rfl w2.heap.size 29 (.agg #[.int .i64 0, .int .u64 0, .bool false]) 3 24 Try.underlying22 infoPit rfl (by decide) u10 i (pil lq) rfl HO.out ⟨wc.heap.size, 0, none⟩ 1 1 [.int .i64 (i : Int), .int .u64 (q : Int), .bool true] rfl rfl ?c0 ?c1 ?c2 ?c3 ?c4 ?_)
          first | (case c0 => exact new_three wc _ _ _ _ rfl) | skip
          case c1 => simp [Value.oneCell']
          case c2 => simp only [maxLen]; omega
          case c3 => omega
          case c4 => first | omega | (simp; omega)
          intro A2 cap2 w7 hown hgr _
          have HS7 := Lib.hid (HPP.out.1.next (x := ((i : Int), q, true)) (by rw [hll]; exact hown) hgr)
          rw [hll] at HS7
          clear hown hgr HPP HO HBx k0 k1 k2
          go_wp2_with fail
          go_roundw
          case rel => exact ⟨i + 1, by go_num, by omega, by rw [HE.out]; simp, by rw [HY.out]; exact HS7.out⟩
          case measure => simp [intOf]; omega
    · obtain rfl : i = n0 := by omega
      obtain ⟨A, cp, rfl, hA, hP⟩ := HS.out.out
      have HB3 := Lib.hid (HW1.out.trans (HS.out.below.mono HW1.out.size))
      obtain ⟨w3, h3⟩ : ∃ x, x = wr := ⟨_, rfl⟩
      subst h3
      have HFi := Lib.hid (HF.out (lsP i (ylv z nx ze)) (lsP_len _ _))
      have HV1 := Lib.hid (victims_any A i cp (ylv z nx ze) c b w3 (by omega) hA hP)
      have HVq : Hid (∀ j, j < kMany (lsP i (ylv z nx ze)) c b → ∃ q : Nat, q < i ∧ (victims (lsP i (ylv z nx ze)) c b).getD j 0 = (q : Int)) := fun j hj => ylv_vic hj
      have HNd := Lib.hid (vic_nodup (c := c) (b := b) (ylv_nodup z nx ze i))
      have HLn := Lib.hid (victims_len (lsP i (ylv z nx ze)) c b)
      have HSt : Hid (∀ p k, p < i → k < i → (((p : Nat) : Int)) ∈ victims (lsP i (ylv z nx ze)) c b → (((k : Nat) : Int)) ∉ victims (lsP i (ylv z nx ze)) c b → ((ylv z nx ze k).2.2 = true → (ylv z nx ze p).2.2 = true) ∧ ((ylv z nx ze k).2.2 = (ylv z nx ze p).2.2 → (ylv z nx ze p).2.1 ≤ (ylv z nx ze k).2.1)) := fun p k hp hk h1 h2 => stays_late hp hk h1 h2
      have HP := Lib.hid hP
      rw [lsP_len] at HFi
      unfold VicPost at HV1
      obtain ⟨K, hK⟩ : ∃ K, K = kMany (lsP i (ylv z nx ze)) c b := ⟨_, rfl⟩
      have hKi : K ≤ i := by have := kMany_le (lsP i (ylv z nx ze)) c b; rw [lsP_len] at this; omega
      rw [← hK] at HV1 HVq HLn HFi
      generalize victims (lsP i (ylv z nx ze)) c b = V at *
      generalize expd (lsP i (ylv z nx ze)) = L at *
      obtain ⟨mm, hmm⟩ : ∃ mm : Nat, min (L : Int) (b : Int) = (mm : Int) := ⟨min L b, by omega⟩
      have hf1 : ¬ (i : Int) - (K : Int) > (c : Int) := by have := HFi.out; omega
      have hf2 : ¬ (K : Int) > (b : Int) := by have := HFi.out; omega
      have hf3 : ¬ (K : Int) < (mm : Int) := by have := HFi.out; omega
      have hmk := HMK.out
      clear hK hS hle hin hA hP HS HF HFi HMK hel
      go_wp2_with fail
      refine HV1.out.mono ?_
      rintro e w4 ⟨gv, rfl, hir, hb4⟩
      have HI4 := Lib.hid hir
      have HB4 := Lib.hid (HB3.out.trans (hb4.mono HB3.out.size))
      have HP4 : Hid (Pits w4 w4.heap.size A i (ylv z nx ze)) := (HP.out.below hb4).more hb4.size
      obtain ⟨g, hg⟩ : ∃ g, w4.heap.size = g := ⟨_, rfl⟩
      have HG0 : Hid (GnAt (w4.alloc (.cells (madeCells #[.bool false] i) 4)) g i V 0 (w4.alloc (.cells (madeCells #[.bool false] i) 4))) := by
        rw [← hg]
        exact ⟨(World.rowIs_made w4 (.bool false) i 4).congr fun j _ => by simp [mkd], Only.refl _ _⟩
      have HI5 : Hid (Ir (w4.alloc (.cells (madeCells #[.bool false] i) 4)) w3.heap.size gv K (fun j => V.getD j 0)) := hir.alloc _
      have hgv : gv < g := by rw [← hg]; exact hir.lt
      have HP5 : Hid (Pits (w4.alloc (.cells (madeCells #[.bool false] i) 4)) g A i (ylv z nx ze)) := by
        rw [← hg]; exact HP4.out.below ((Below.refl _ w4).alloc (Nat.le_refl _) _)
      have HB5 : Hid (Below w.heap.size w (w4.alloc (.cells (madeCells #[.bool false] i) 4))) := HB4.out.alloc HB4.out.size _
      have hgw : w.heap.size ≤ g := by rw [← hg]; exact HB4.out.size
      have hg5 : g ≤ (w4.alloc (.cells (madeCells #[.bool false] i) 4)).heap.size := by rw [← hg]; simp
      have HG := Lib.hid hg
      clear hir hb4 HV1 HP HI4 HP4 HB4 HB3 hg
      go_wp2_with fail
      rw [HG.out]
      clear hmk
      generalize w4.alloc (.cells (madeCells #[.bool false] i) 4) = w5 at *
      go_loopw [16] (fun v wr => ∃ j : Nat, v = .int .i64 j ∧ j ≤ K ∧ GnAt w5 g i V j wr) (fun v _ => K - (intOf v).toNat)
      case atStart => exact ⟨0, rfl, by omega, HG0.out⟩
      case round =>
        clear HG0
        obtain ⟨j, rfl, hj, hGn⟩ := hrel
        have HGn := Lib.hid hGn
        clear hGn
        by_cases hjK : j < K
        · obtain ⟨q, hq, hv⟩ := HVq.out j hjK
          have hjl : j < V.length := by rw [HLn.out]; exact hjK
          have hcell : wr.cell? ⟨gv, j, none⟩ = some (.int .i64 (q : Int)) := by
            have := (HI5.out.block HGn.out.only.size (HGn.out.only.block gv HI5.out.lt (just_ne (by omega)))).cell j hjK
            rwa [hv] at this
          have hgo := HGn.out.row.cell hq
          have hfz := HGn.out.row.frozen q
          rw [mkd_no HNd.out hjl hv] at hgo
          have HN := Lib.hid (HGn.out.next hjl hv)
          have hq0 : ¬ (q : Int) < 0 := by omega
          have hq1 : ¬ (q : Int) ≥ (i : Int) := by omega
          have hq2 : (q : Int) < (i : Int) := by omega
          clear hv hjl
          go_wp2_with fail
          go_roundw
          case rel => exact ⟨j + 1, by go_num, by omega, HN.out⟩
          case measure => simp [intOf]; omega
        · obtain rfl : j = K := by omega
          have hrow := HGn.out.row
          have hvt : V.take j = V := List.take_of_length_le (by rw [HLn.out]; exact Nat.le_refl _)
          have HRw : Hid (wr.rowIs g 4 i (fun p => .bool (decide (((p : Nat) : Int) ∈ V)))) := hrow.congr fun p _ => by unfold mkd; rw [hvt]
          have HP6 : Hid (Pits wr g A i (ylv z nx ze)) := HP5.out.below (HGn.out.only.below hg5 (fun k hk e => by have e : k = g := e; omega))
          have HB6 : Hid (Below w.heap.size w wr) := below_only HB5.out HGn.out.only HB5.out.size (fun k hk e => by have e : k = g := e; omega)
          obtain ⟨w6, h6⟩ : ∃ x, x = wr := ⟨_, rfl⟩
          subst h6
          clear hrow hvt HGn HP5 HB5 HI5 hg5
          go_wp2_with fail
          go_loopw [17, 18] (fun v17 _ wr => ∃ p : Nat, v17 = .int .i64 p ∧ p ≤ i ∧ Below w6.heap.size w6 wr) (fun v _ _ => i - (intOf v).toNat)
          case atStart => exact ⟨0, rfl, by omega, Below.refl _ _⟩
          case round =>
            obtain ⟨p, rfl, hp, hbw⟩ := hrel
            have HBW := Lib.hid hbw
            clear hbw
            obtain ⟨w7, h7⟩ : ∃ x, x = wr := ⟨_, rfl⟩
            subst h7
            by_cases hpi : p < i
            · have hpz : (p : Int) < (i : Int) := by omega
              have hpd : decide ((p : Int) < (i : Int)) = true := decide_eq_true hpz
              go_wp2_with fail
              go_loopw [18] (fun v wr => ∃ k : Nat, v = .int .i64 k ∧ k ≤ i ∧ Below w7.heap.size w7 wr) (fun v _ => i - (intOf v).toNat)
              case atStart => exact ⟨0, rfl, by omega, Below.refl _ _⟩
              case round =>
                obtain ⟨k, rfl, hk, hbk⟩ := hrel
                have HBK := Lib.hid (HBW.out.trans (hbk.mono HBW.out.size))
                have HB7 := Lib.hid hbk
                have hgp := (HRw.out.of_block (HBK.out.block g HRw.out.lt)).cell hpi
                clear hbk
                by_cases hki : k < i
                · have hkz : (k : Int) < (i : Int) := by omega
                  have hgk := (HRw.out.of_block (HBK.out.block g HRw.out.lt)).cell hki
                  have hgs : g ≤ w6.heap.size := Nat.le_of_lt HRw.out.lt
                  by_cases hpv : ((p : Nat) : Int) ∈ V
                  · rw [decide_eq_true hpv] at hgp
                    by_cases hkv : ((k : Nat) : Int) ∈ V
                    · rw [decide_eq_true hkv] at hgk
                      go_upto_region 29 with fail
                      have q0 := Gr.cell hgp
                      have q1 := Gr.cell hgk
                      clear hgp hgk
                      refine wp_region_grow (by kernel_rfl) (by kernel_rfl) ?_
                      repeat (go_big_quiet_step (first | fail))
                      refine wpQuiet_nil ?_
                      intro w12 hw12
                      obtain ⟨G, hG⟩ := hw12
                      subst hG
                      have HBG := Lib.hid (HB7.out.trans (G.ok.none.mono HB7.out.size))
                      clear q0 q1
                      go_wp2_with fail
                      go_roundw
                      case rel => exact ⟨k + 1, by go_num, by omega, HBG.out⟩
                      case measure => simp [intOf]; omega
                    · rw [decide_eq_false hkv] at hgk
                      obtain ⟨b7, o7, rfl, hb7, _, d1, d2⟩ := (HP6.out.below (HBK.out.mono hgs)).at hki
                      obtain ⟨b8, o8, ea, _, _, f1, f2⟩ := (HP6.out.below (HBK.out.mono hgs)).at hpi
                      cases ea
                      have hst := HSt.out p k hpi hki hpv hkv
                      generalize (ylv z nx ze k).2.2 = ek at *
                      generalize (ylv z nx ze p).2.2 = ep at *
                      generalize (ylv z nx ze k).2.1 = rk at *
                      generalize (ylv z nx ze p).2.1 = rp at *
                      cases ek
                      · cases ep
                        · have hrr : ¬ (rk : Int) < (rp : Int) := by have := hst.2 rfl; omega
                          go_upto_region 29 with fail
                          have q0 := Gr.cell hgp
                          have q1 := Gr.cell hgk
                          have q2 := Gr.cell d1
                          have q3 := Gr.cell d2
                          have q4 := Gr.cell f1
                          have q5 := Gr.cell f2
                          clear hgp hgk d1 d2 f1 f2
                          refine wp_region_grow (by kernel_rfl) (by kernel_rfl) ?_
                          repeat (go_big_quiet_step (first | fail))
                          refine wpQuiet_nil ?_
                          intro w12 hw12
                          obtain ⟨G, hG⟩ := hw12
                          subst hG
                          have HBG := Lib.hid (HB7.out.trans (G.ok.none.mono HB7.out.size))
                          clear q0 q1 q2 q3 q4 q5
                          go_wp2_with fail
                          go_roundw
                          case rel => exact ⟨k + 1, by go_num, by omega, HBG.out⟩
                          case measure => simp [intOf]; omega
                        · clear hst
                          go_upto_region 29 with fail
                          have q0 := Gr.cell hgp
                          have q1 := Gr.cell hgk
                          have q2 := Gr.cell d1
                          have q3 := Gr.cell d2
                          have q4 := Gr.cell f1
                          have q5 := Gr.cell f2
                          clear hgp hgk d1 d2 f1 f2
                          refine wp_region_grow (by kernel_rfl) (by kernel_rfl) ?_
                          repeat (go_big_quiet_step (first | fail))
                          refine wpQuiet_nil ?_
                          intro w12 hw12
                          obtain ⟨G, hG⟩ := hw12
                          subst hG
                          have HBG := Lib.hid (HB7.out.trans (G.ok.none.mono HB7.out.size))
                          clear q0 q1 q2 q3 q4 q5
                          go_wp2_with fail
                          go_roundw
                          case rel => exact ⟨k + 1, by go_num, by omega, HBG.out⟩
                          case measure => simp [intOf]; omega
                      · cases ep
                        · exact absurd (hst.1 rfl) (by decide)
                        · have hrr : ¬ (rk : Int) < (rp : Int) := by have := hst.2 rfl; omega
                          go_upto_region 29 with fail
                          have q0 := Gr.cell hgp
                          have q1 := Gr.cell hgk
                          have q2 := Gr.cell d1
                          have q3 := Gr.cell d2
                          have q4 := Gr.cell f1
                          have q5 := Gr.cell f2
                          clear hgp hgk d1 d2 f1 f2
                          refine wp_region_grow (by kernel_rfl) (by kernel_rfl) ?_
                          repeat (go_big_quiet_step (first | fail))
                          refine wpQuiet_nil ?_
                          intro w12 hw12
                          obtain ⟨G, hG⟩ := hw12
                          subst hG
                          have HBG := Lib.hid (HB7.out.trans (G.ok.none.mono HB7.out.size))
                          clear q0 q1 q2 q3 q4 q5
                          go_wp2_with fail
                          go_roundw
                          case rel => exact ⟨k + 1, by go_num, by omega, HBG.out⟩
                          case measure => simp [intOf]; omega
                  · rw [decide_eq_false hpv] at hgp
                    clear hgk
                    go_wp2_with fail
                    go_roundw
                    case rel => exact ⟨p + 1, by go_num, by omega, HBK.out⟩
                    case measure => simp [intOf]; omega
                · go_wp2_with fail
                  all_goals
                    go_roundw
                    case rel => exact ⟨p + 1, by go_num, by omega, HBK.out⟩
                    case measure => simp [intOf]; omega
            · obtain rfl : p = i := by omega
              go_wp2_with fail
              go_ret
              exact ⟨rfl, HB6.out.trans (HBW.out.mono HB6.out.size)⟩
end Go.Proofs.Ytigifbijmchdcaa
