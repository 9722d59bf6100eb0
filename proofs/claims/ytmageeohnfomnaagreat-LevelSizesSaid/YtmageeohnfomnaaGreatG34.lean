/- Texts of ours put together: LevelSpotsI, LevelEventsI, RLevelPlaces. -/
import Derived.Below
import Derived.BigQuiet
import Derived.BigRegion
import Derived.Carry
import Derived.ChangeArms
import Derived.ChangeKeysEq
import Derived.ChangeSlices
import Derived.Deep.Cut
import Derived.Deep.Draws
import Derived.Deep.MidRow
import Derived.Deep.OwnRows
import Derived.Deep.Quiet
import Derived.Deep.QuietTactic
import Derived.Deep.RegionHeld
import Derived.Deep.RegionHeld3
import Derived.Deep.Slices
import Derived.Deep.WholeRow
import Derived.Laws.AppendOwn
import Derived.Laws.BitsAllLaws
import Derived.Laws.CopyOwn
import Derived.Laws.StructEq
import Derived.Lib.BitFns
import Derived.Lib.Hide
import Derived.LoopIn
import Derived.LoopNIn
import Derived.Maps.AppendAt
import Derived.Maps.OwnSet
import Derived.OpenShut
import Derived.OrdersIn
import Derived.OwnWalk
import Derived.OwnWalkIn
import Derived.ProofKit
import Derived.RangeFuncBound
import Derived.RangeFuncCalls
import Derived.RangeFuncLeaves
import Derived.RangeFuncNested
import Derived.RegionTactic
import Derived.RowKit3
import Derived.Shelf.Abstract
import Derived.Shelf.Bits.Mul64
import Derived.Shelf.RegionOpen
import Derived.Shelf.SlSortCmp.WholeK
import Derived.Shelf.Spec.BitsCarry
import Derived.Shelf.Strconv.Itoa0
import Derived.SizedLaws
import Derived.Sort.Grow
import Derived.StillTailTactics
import Derived.TacticsInMore
import Derived.WalkKit
import Derived.WideShapes
import Derived.Test.YtmageeohnfomnaaGreatProg
import Derived.Test.YtmageeohnfomnaaGreatG2
import Derived.Test.YtmageeohnfomnaaGreatG0
import Derived.Test.YtmageeohnfomnaaGreatG15
import Derived.Test.YtmageeohnfomnaaGreatG16
import Derived.Test.YtmageeohnfomnaaGreatG20
import Derived.Test.YtmageeohnfomnaaGreatG17
import Derived.Test.YtmageeohnfomnaaGreatG3
import Derived.Test.YtmageeohnfomnaaGreatG1
import Derived.Test.YtmageeohnfomnaaGreatG19
import Derived.Test.YtmageeohnfomnaaGreatG21
import Derived.Test.YtmageeohnfomnaaGreatG5
import Derived.Test.YtmageeohnfomnaaGreatG27
import Derived.Test.YtmageeohnfomnaaGreatG30
import Derived.Test.YtmageeohnfomnaaGreatG6
import Derived.Test.YtmageeohnfomnaaGreatG33
import Derived.Test.YtmageeohnfomnaaGreatG29
import Derived.Test.YtmageeohnfomnaaGreatG10
import Derived.Test.YtmageeohnfomnaaGreatG23
import Derived.Test.YtmageeohnfomnaaGreatG25
import Derived.Test.YtmageeohnfomnaaGreatG43
import Derived.Test.YtmageeohnfomnaaGreatG44
import Derived.Test.YtmageeohnfomnaaGreatG26
import Derived.Test.YtmageeohnfomnaaGreatG39
import Derived.Test.YtmageeohnfomnaaGreatG28
import Derived.Test.YtmageeohnfomnaaGreatG46
import Derived.Test.YtmageeohnfomnaaGreatG24
import Derived.Test.YtmageeohnfomnaaGreatG31
import Derived.Test.YtmageeohnfomnaaGreatG22
import Derived.Test.YtmageeohnfomnaaGreatG14
namespace Go.Proofs.YtmageeohnfomnaaGreat
set_option maxRecDepth 100000
open Go.RowKit Go.ChangeShapes Go.WideShapes Go.ChangeAt

def plI (f : Int) (N S T : Nat) : Array Value := #[.int .i64 f, .int .i64 (N : Int), .int .i64 (S : Int), .int .i64 (T : Int)]
set_option maxRecDepth 100000 in
set_option maxHeartbeats 2000000 in
theorem table_spots_all {N S T D L n Q P : Nat} (h : Conf N S T D L n Q P) (f : Int) (w : World) :
    Calls Tryz.prog 42 #[.agg (plI f N S T)] w (IpPost w Q (fun i => (wrap64 (f + 2), (i : Int)))) := by
  have HR := Lib.hid (fun W => round_of h W)
  obtain ⟨f2, hf2⟩ : ∃ x, x = wrap64 (f + 2) := ⟨_, rfl⟩
  have HT := Lib.hid (fun W => table_all f (N : Int) (S : Int) (T : Int) W)
  rw [← hf2] at HT ⊢
  clear hf2
  have hQ := h.big.2.2.2
  have hQ0 := h.le
  have hQ1 := h.big.2.1
  clear h
  obtain ⟨b, hb⟩ : ∃ b, w.heap.size = b := ⟨_, rfl⟩
  obtain ⟨w2, hw2⟩ : ∃ w2, w.alloc (.cells (plI f N S T) 77) = w2 := ⟨_, rfl⟩
  have hx : Box w2 b 77 (plI f N S T) := by rw [← hw2, ← hb]; exact Box.new w _ _
  have hs2 : w2.heap.size = b + 1 := by rw [← hw2, ← hb]; simp
  have hbl : Below w.heap.size w w2 := by rw [← hw2]; exact (Below.refl _ w).alloc (Nat.le_refl _) _
  have HB := Lib.hid hbl
  have HX := Lib.hid hx
  have HS2 := Lib.hid hs2
  have HW2 := Lib.hid hw2
  have HBb := Lib.hid hb
  have p1 : w2.cell? ⟨b, 1, none⟩ = some (.int .i64 (N : Int)) := hx.cell 1
  have p2 : w2.cell? ⟨b, 2, none⟩ = some (.int .i64 (S : Int)) := hx.cell 2
  have p3 : w2.cell? ⟨b, 3, none⟩ = some (.int .i64 (T : Int)) := hx.cell 3
  clear hx hbl hw2 hb hs2
  go_enter Tryz.func42, Tryz.ntmps42
  go_upto_region 1 with fail
  rw [HBb.out, HW2.out]
  go_wp2_with fail
  refine (HR.out _).mono ?_
  rintro e w3 ⟨rfl, hb3⟩
  have HX3 := Lib.hid (HX.out.of (hb3.block _ HX.out.lt))
  have HA : Hid (IpAt 92 w2 (.slice none 0 0) (ipL (fun i : Nat => (f2, (i : Int))) 0) w3) := Lib.hid ((IpAt.nil _ w2).grow hb3)
  clear hb3 p1 p2 p3 HX
  go_wp2_with fail
  go_loopw [3, 8] (fun v3 v8 wr => ∃ i : Nat, v8 = .int .i64 i ∧ i ≤ Q ∧ IpAt 92 w2 v3 (ipL (fun i : Nat => (f2, (i : Int))) i) wr ∧ Box wr b 77 (plI f N S T)) (fun _ v _ => Q - (intOf v).toNat)
  case atStart => exact ⟨0, rfl, by omega, HA.out, HX3.out⟩
  case round =>
    obtain ⟨i, rfl, hi, hS, hX⟩ := hrel
    clear HA HX3
    have HS := Lib.hid hS
    have HX := Lib.hid hX
    have p0 : wr.cell? ⟨b, 0, none⟩ = some (.int .i64 (f : Int)) := hX.cell 0
    have p1 : wr.cell? ⟨b, 1, none⟩ = some (.int .i64 (N : Int)) := hX.cell 1
    have p2 : wr.cell? ⟨b, 2, none⟩ = some (.int .i64 (S : Int)) := hX.cell 2
    have p3 : wr.cell? ⟨b, 3, none⟩ = some (.int .i64 (T : Int)) := hX.cell 3
    clear hS hX
    by_cases hin : i < Q
    · go_wp2_with fail
      refine (HT.out _).mono ?_
      rintro e w4 ⟨rfl, hb4⟩
      have HS4 := Lib.hid (HS.out.grow hb4)
      have HX4 := Lib.hid (HX.out.of (hb4.block _ HX.out.lt))
      have hll := ipL_len (fun i : Nat => (f2, (i : Int))) i
      have HSu := Lib.hid (ipL_succ (fun i : Nat => (f2, (i : Int))) i)
      have hsz : w2.heap.size ≤ w4.heap.size := HS4.out.below.size
      clear hb4 p0 p1 p2 p3 HS HX
      generalize hlq : ipL (fun i : Nat => (f2, (i : Int))) i = lq at *
      have HLq := Lib.hid hlq
      have hlb : lq.length ≤ 256 := by omega
      have HLl := Lib.hid hll
      clear hlq hll
      go_wp2_with (with_reducible refine wpList_append_where _ rfl (.tmp 11) (.tmp 16) 88 rfl w2.heap.size 92 (.agg #[.int .i64 0, .int .i64 0]) 2 16 Tryz.underlying88 infoSpot rfl (by decide) u3 lq.length (ipl lq) rfl (row_stay HS4.out.own (fun b _ hb => Below.heap_alloc _ _ b hb)) ⟨w4.heap.size, 0, none⟩ 1 1 [.int .i64 f2, .int .i64 (i : Int)] rfl rfl ?p10 ?p11 ?p12 ?p13 ?p14 ?_)
      case p10 => first | exact new_pair w4 _ _ _ rfl | exact fun j u hu => hu
      case p11 => simp [Value.oneCell']
      case p12 => simp only [maxLen]; omega
      case p13 => omega
      case p14 => first | omega | (simp; omega)
      intro A2 cap2 w7 hown hgr _
      have HS7 := Lib.hid (HS4.out.next (x := (f2, (i : Int))) hown hgr)
      have HX7 := Lib.hid (HX4.out.of (HS4.out.keep hgr b (by have := HS2.out; omega)))
      clear hown hgr HS4 HX4
      go_wp2_with fail
      go_roundw
      case rel => exact ⟨i + 1, by go_num, by omega, by rw [HSu.out]; exact HS7.out, HX7.out⟩
      case measure => simp [intOf]; omega
    · obtain rfl : i = Q := by omega
      have HE : Hid (IpPost w i (fun i : Nat => (f2, (i : Int))) (.returned u3) wr) := Lib.hid (by
        obtain ⟨g, cap, he, hs, hb⟩ := ip_post HS.out (by omega) rfl
        have h1 := HB.out.size
        exact ⟨g, cap, he, ⟨Nat.le_trans h1 hs.old, hs.lt, hs.cell⟩, HB.out.trans (hb.mono h1)⟩)
      clear HS HX p0 p1 p2 p3
      go_wp2_with fail
      go_ret
      exact HE.out

set_option maxRecDepth 100000 in
set_option maxHeartbeats 4000000 in
theorem way_spots_all {N S T D L n Q P : Nat} (h : Conf N S T D L n Q P) (f : Int) (lf : Nat) (hlf : lf < N) (w : World) :
    Calls Tryz.prog 41 #[.agg (plI f N S T), .int .i64 (lf : Int)] w (IpPost w (L + T) (plcI S D f lf)) := by
  have HW := Lib.hid (fun W => way_in D N lf W h.hD h.hN hlf)
  have HTr := Lib.hid (fun W => tree_all f (N : Int) (S : Int) (T : Int) W)
  obtain ⟨f1, hf1⟩ : ∃ x, x = wrap64 (f + 1) := ⟨_, rfl⟩
  have HSt := Lib.hid (fun W => stash_all f (N : Int) (S : Int) (T : Int) W)
  rw [← hf1] at HSt
  have hD := h.hD
  have s8 := h.s8
  have t64 := h.t64
  have t1 := h.t1
  have hLb := h.big.1
  have HL := Lib.hid h.hL
  have HN := Lib.hid h.hN
  have hlf2 : lf < 2 ^ D := by rw [h.hN]; exact hlf
  have HLf := Lib.hid hlf2
  have hN1 := h.n1
  obtain ⟨E, hE⟩ : ∃ E, D + 1 = E := ⟨_, rfl⟩
  have HEe := Lib.hid hE
  have hE2 : E = D + 1 := hE.symm
  clear h hlf2 hlf hE
  obtain ⟨z, hz⟩ : ∃ z, plcI S D f lf = z := ⟨_, rfl⟩
  have HZt : Hid (∀ k s, s < S → k ≤ D → z (k * S + s) = (f, ((nd D lf k * S + s : Nat) : Int)) ∧ k * S + s < L) := Lib.hid (fun k s hs hk => by rw [← hz]; exact plc_tree hs HL.out hk)
  have HZs : Hid (∀ i : Nat, z (L + i) = (f1, (i : Int))) := Lib.hid (fun i => by rw [← hz, hf1]; exact plc_stash HL.out)
  rw [hz]
  clear hz hf1
  obtain ⟨b, hb⟩ : ∃ b, w.heap.size = b := ⟨_, rfl⟩
  obtain ⟨w2, hw2⟩ : ∃ w2, w.alloc (.cells (plI f N S T) 77) = w2 := ⟨_, rfl⟩
  have hx : Box w2 b 77 (plI f N S T) := by rw [← hw2, ← hb]; exact Box.new w _ _
  have hs2 : w2.heap.size = b + 1 := by rw [← hw2, ← hb]; simp
  have hbl : Below w.heap.size w w2 := by rw [← hw2]; exact (Below.refl _ w).alloc (Nat.le_refl _) _
  have HB := Lib.hid hbl
  have HX := Lib.hid hx
  have HS2 := Lib.hid hs2
  have HW2 := Lib.hid hw2
  have HBb := Lib.hid hb
  have p1 : w2.cell? ⟨b, 1, none⟩ = some (.int .i64 (N : Int)) := hx.cell 1
  clear hx hbl hw2 hb hs2
  go_enter Tryz.func41, Tryz.ntmps41
  go_upto_region 1 with fail
  rw [HBb.out, HW2.out]
  go_wp2_with fail
  refine (HW.out _).mono ?_
  rintro e w3 ⟨gw, cw, rfl, hcw, hir, hb3⟩
  rw [HEe.out]
  have hgw : b + 1 ≤ gw ∧ gw < w3.heap.size := ⟨by have := hir.old; have := HS2.out; omega, hir.lt⟩
  have HX3 := Lib.hid (HX.out.of (hb3.block _ HX.out.lt))
  have HIr := Lib.hid hir.cell
  have HB3 := Lib.hid (HB.out.trans (hb3.mono HB.out.size))
  have HA : Hid (IpAt 92 w3 (.slice none 0 0) (ipL z 0) w3) := Lib.hid (IpAt.nil _ w3)
  have hbs : b < w3.heap.size := by omega
  clear hb3 hir p1 HX HW hcw
  have HE2 := Lib.hid hE2
  clear hE2
  go_wp2_with fail
  go_loopw [5, 16] (fun v5 v16 wr => ∃ k : Nat, v16 = .int .i64 k ∧ k ≤ E ∧ IpAt 92 w3 v5 (ipL z (k * S)) wr) (fun _ v _ => E - (intOf v).toNat)
  case atStart => exact ⟨0, rfl, by omega, by rw [Nat.zero_mul]; exact HA.out⟩
  case round =>
    obtain ⟨k, rfl, hk, hS⟩ := hrel
    clear HA
    have HS := Lib.hid hS
    have hXr := HX3.out.of (hS.below.block b hbs)
    have p2 : wr.cell? ⟨b, 2, none⟩ = some (.int .i64 (S : Int)) := hXr.cell 2
    have p3 : wr.cell? ⟨b, 3, none⟩ = some (.int .i64 (T : Int)) := hXr.cell 3
    have HXr := Lib.hid hXr
    clear hXr
    by_cases hkE : k < E
    · have hkD : k ≤ D := by have := HE2.out; omega
      have ck := (World.cell?_of_block (w := w3) (hS.below.block gw hgw.2)).trans (HIr.out k (by omega))
      have hnd := nd_in D lf k hkD HLf.out
      have hmul : (2 * 2 ^ D - 1) * S ≤ 2047 * 8 := Nat.mul_le_mul (by rw [HN.out]; omega) s8
      have hmul2 : (nd D lf k + 1) * S ≤ (2 * 2 ^ D - 1) * S := Nat.mul_le_mul_right _ hnd
      rw [Nat.add_mul, Nat.one_mul] at hmul2
      have HZk := Lib.hid (fun s (hs : s < S) => HZt.out k s hs hkD)
      generalize hndq : nd D lf k = nk at *
      have hms : (nk : Int) * (S : Int) = ((nk * S : Nat) : Int) := by simp
      have hwm : IntKind.i64.wrap ((nk : Int) * (S : Int)) = ((nk * S : Nat) : Int) := by rw [hms, IntKind.wrap_i64]; omega
      have hmb : nk * S ≤ 20000 := by omega
      have e1 : (k + 1) * S = k * S + S := by rw [Nat.add_mul, Nat.one_mul]
      have HE1 := Lib.hid e1
      clear hS hnd hmul hmul2 hndq hms e1
      generalize nk * S = m at *
      generalize k * S = ks at *
      go_wp2_with fail
      clear ck
      go_loopw [5, 23] (fun v5 v23 wr => ∃ s : Nat, v23 = .int .i64 s ∧ s ≤ S ∧ IpAt 92 w3 v5 (ipL z (ks + s)) wr) (fun _ v _ => S - (intOf v).toNat)
      case atStart => exact ⟨0, rfl, by omega, HS.out⟩
      case round =>
        obtain ⟨s, rfl, hs, hSs⟩ := hrel
        have HSs := Lib.hid hSs
        by_cases hsS : s < S
        · obtain ⟨q, hq⟩ : ∃ q, m + s = q := ⟨_, rfl⟩
          have hwa : IntKind.i64.wrap ((m : Int) + (s : Int)) = (q : Int) := by rw [IntKind.wrap_i64]; omega
          have hll := ipL_len z (ks + s)
          have HSu := Lib.hid (ipL_succ z (ks + s))
          have hzk := HZk.out s hsS
          rw [hzk.1, hq] at HSu
          have hksL := hzk.2
          clear hSs hzk hq
          generalize hlq : ipL z (ks + s) = lq at *
          have hlb : lq.length ≤ 256 := by omega
          clear hlq hll hksL
          have HS5 := Lib.hid (HSs.out.grow ((Below.refl wr.heap.size wr).drew))
          have hXs := (HX3.out.of (HSs.out.below.block b hbs)).drewN 1
          have p2 := hXs.cell 2
          clear HSs p2
          go_upto_region 8 with fail
          refine held_s (S := fun w' => Box w' b 77 (plI f N S T)) 14 rfl (by kernel_rfl) hXs (fun hHeld => ?_)
          simp only [Array.replicate_succ, Array.replicate_zero, List.push_toArray, List.nil_append, List.cons_append]
          clear hXs
          generalize wr.drew = w5 at *
          refine wpAnyH_take (i := 0) (oi := ⟨some 26, _, _, _, _, _⟩) (v := (u5)) rfl (by kernel_rfl) (by kernel_rfl) (by kernel_rfl) (fun _ _ _ h => h) (Or.inl ⟨by rfl, fun w' hw => by go_simp⟩) hHeld ?_
          try simp only [Act.put, List.setIfInBounds_toArray, List.set_cons_zero, List.set_cons_succ]
          refine wpAnyH_take (i := 1) (oi := ⟨some 27, _, _, _, _, _⟩) (v := (.agg #[.int .i64 (f : Int), .int .i64 (N : Int), .int .i64 (S : Int), .int .i64 (T : Int)])) rfl (by kernel_rfl) (by kernel_rfl) (by kernel_rfl) (fun _ _ _ h => h) (Or.inl ⟨by rfl, fun w' hw => by (have k0 := hw.cell 0; have k1 := hw.cell 1; have k2 := hw.cell 2; have k3 := hw.cell 3; simp only [plI] at k0 k1 k2 k3; go_simp)⟩) hHeld ?_
          try simp only [Act.put, List.setIfInBounds_toArray, List.set_cons_zero, List.set_cons_succ]
          refine wpAnyH_take (i := 3) (oi := ⟨some 29, _, _, _, _, _⟩) (v := (.int .i64 (nk : Int))) rfl (by kernel_rfl) (by kernel_rfl) (by kernel_rfl) (fun _ _ _ h => h) (Or.inl ⟨by rfl, fun w' hw => by go_simp⟩) hHeld ?_
          try simp only [Act.put, List.setIfInBounds_toArray, List.set_cons_zero, List.set_cons_succ]
          refine wpAnyH_take (i := 4) (oi := ⟨some 30, _, _, _, _, _⟩) (v := (.pointer (some ⟨b, 1, none⟩))) rfl (by kernel_rfl) (by kernel_rfl) (by kernel_rfl) (fun _ _ _ h => h) (Or.inl ⟨by rfl, fun w' hw => by go_simp⟩) hHeld ?_
          try simp only [Act.put, List.setIfInBounds_toArray, List.set_cons_zero, List.set_cons_succ]
          refine wpAnyH_take (i := 5) (oi := ⟨some 31, _, _, _, _, _⟩) (v := (.pointer (some ⟨b, 2, none⟩))) rfl (by kernel_rfl) (by kernel_rfl) (by kernel_rfl) (fun _ _ _ h => h) (Or.inl ⟨by rfl, fun w' hw => by go_simp⟩) hHeld ?_
          try simp only [Act.put, List.setIfInBounds_toArray, List.set_cons_zero, List.set_cons_succ]
          refine wpAnyH_take (i := 6) (oi := ⟨some 32, _, _, _, _, _⟩) (v := (.int .i64 (S : Int))) rfl (by kernel_rfl) (by kernel_rfl) (by kernel_rfl) (fun _ _ _ h => h) (Or.inl ⟨by rfl, fun w' hw => by (have k0 := hw.cell 0; have k1 := hw.cell 1; have k2 := hw.cell 2; have k3 := hw.cell 3; simp only [plI] at k0 k1 k2 k3; go_simp)⟩) hHeld ?_
          try simp only [Act.put, List.setIfInBounds_toArray, List.set_cons_zero, List.set_cons_succ]
          refine wpAnyH_take (i := 7) (oi := ⟨some 33, _, _, _, _, _⟩) (v := (.int .i64 (m : Int))) rfl (by kernel_rfl) (by kernel_rfl) (by kernel_rfl) (fun _ _ _ h => h) (Or.inl ⟨by rfl, fun w' hw => by go_simp⟩) hHeld ?_
          try simp only [Act.put, List.setIfInBounds_toArray, List.set_cons_zero, List.set_cons_succ]
          refine wpAnyH_take (i := 8) (oi := ⟨some 34, _, _, _, _, _⟩) (v := (.int .i64 (s : Int))) rfl (by kernel_rfl) (by kernel_rfl) (by kernel_rfl) (fun _ _ _ h => h) (Or.inl ⟨by rfl, fun w' hw => by go_simp⟩) hHeld ?_
          try simp only [Act.put, List.setIfInBounds_toArray, List.set_cons_zero, List.set_cons_succ]
          refine wpAnyH_take (i := 9) (oi := ⟨some 35, _, _, _, _, _⟩) (v := (.int .i64 (q : Int))) rfl (by kernel_rfl) (by kernel_rfl) (by kernel_rfl) (fun _ _ _ h => h) (Or.inl ⟨by rfl, fun w' hw => by go_simp⟩) hHeld ?_
          try simp only [Act.put, List.setIfInBounds_toArray, List.set_cons_zero, List.set_cons_succ]
          refine one_ready 2 rfl (by kernel_rfl) (fun K hK => ?_)
          go_simp
          refine (HTr.out _).mono ?_
          rintro e w4 ⟨rfl, hb4⟩
          have HS4 := Lib.hid (HS5.out.grow hb4)
          have hX4 := hHeld.of (hb4.block b hHeld.lt)
          have hsz : w3.heap.size ≤ w4.heap.size := HS4.out.below.size
          refine hK.out _ _ hX4 (fun hHeld => ?_)
          clear hK K hb4
          simp only [List.setIfInBounds_toArray, List.set_cons_zero, List.set_cons_succ]
          refine wpAnyH_take (i := 10) (oi := ⟨some 36, _, _, _, _, _⟩) (v := (.agg #[.int .i64 (f : Int), .int .i64 (q : Int)])) rfl (by kernel_rfl) (by kernel_rfl) (by kernel_rfl) (fun _ _ _ h => h) (Or.inl ⟨by rfl, fun w' hw => by go_simp⟩) hHeld ?_
          try simp only [Act.put, List.setIfInBounds_toArray, List.set_cons_zero, List.set_cons_succ]
          refine one_ready 11 rfl (by kernel_rfl) (fun K hK => ?_)
          go_simp
          have hXa : Box (w4.alloc (.cells #[.int .i64 (f : Int), .int .i64 (q : Int)] 92)) b 77 (plI f N S T) := hX4.alloc _
          refine hK.out _ _ hXa (fun _ => ?_)
          clear hK K
          simp only [List.setIfInBounds_toArray, List.set_cons_zero, List.set_cons_succ]
          refine one_ready 12 rfl (by kernel_rfl) (fun K hK => ?_)
          refine step_append_where rfl (.tmp 26) (.tmp 37) 88 rfl w3.heap.size 92 (.agg #[.int .i64 0, .int .i64 0]) 2 16 Tryz.underlying88 infoSpot rfl (by decide) u5 lq.length (ipl lq) rfl (row_stay HS4.out.own (fun b _ hb => Below.heap_alloc _ _ b hb)) ⟨w4.heap.size, 0, none⟩ 1 1 [.int .i64 (f : Int), .int .i64 (q : Int)] rfl rfl ?p10 ?p11 ?p12 ?p13 ?p14 ?_
          case p10 => exact new_pair w4 _ _ _ rfl
          case p11 => simp [Value.oneCell']
          case p12 => simp only [maxLen]; omega
          case p13 => omega
          case p14 => simp; omega
          intro A2 cap2 w7 hown hgr _
          have hX7 := hX4.of (HS4.out.keep hgr b hbs)
          have HS7 := Lib.hid (HS4.out.next (x := (f, (q : Int))) hown hgr)
          clear hown hgr HS4 hXa
          refine hK.out _ _ hX7 (fun hHeld => ?_)
          clear hK K
          simp only [List.setIfInBounds_toArray, List.set_cons_zero, List.set_cons_succ]
          refine wpAnyH_take (i := 13) (oi := ⟨some 5, _, _, _, _, _⟩) (v := (.slice A2 (lq.length + 1) cap2)) rfl (by kernel_rfl) (by kernel_rfl) (by kernel_rfl) (fun _ _ _ h => h) (Or.inl ⟨by rfl, fun w' hw => by go_simp⟩) hHeld ?_
          try simp only [Act.put, List.setIfInBounds_toArray, List.set_cons_zero, List.set_cons_succ]
          refine wpAnyH_done (by kernel_rfl) ?_ _
          go_wp2_with fail
          go_roundw
          case rel => exact ⟨s + 1, by go_num, by omega, by rw [← Nat.add_assoc, HSu.out]; exact HS7.out⟩
          case measure => simp [intOf]; omega
        · obtain rfl : s = S := by omega
          clear hSs
          go_wp2_with fail
          go_roundw
          case rel => exact ⟨k + 1, by go_num, by omega, by rw [HE1.out]; exact HSs.out⟩
          case measure => simp [intOf]; omega
    · obtain rfl : k = E := by omega
      have HS1 : Hid (IpAt 92 w3 u5 (ipL z (L + 0)) wr) := Lib.hid (by have := HS.out; rw [HE2.out, HL.out] at this; exact this)
      clear hS HS hkE hk
      go_wp2_with fail
      go_loopw [5, 44] (fun v5 v44 wr => ∃ i : Nat, v44 = .int .i64 i ∧ i ≤ T ∧ IpAt 92 w3 v5 (ipL z (L + i)) wr) (fun _ v _ => T - (intOf v).toNat)
      case atStart => exact ⟨0, rfl, by omega, HS1.out⟩
      case round =>
        obtain ⟨i, rfl, hi, hSi⟩ := hrel
        clear HS1 p2 p3 HXr
        have HSi := Lib.hid hSi
        have hXi := HX3.out.of (hSi.below.block b hbs)
        have p0 : wr.cell? ⟨b, 0, none⟩ = some (.int .i64 (f : Int)) := hXi.cell 0
        have p1 : wr.cell? ⟨b, 1, none⟩ = some (.int .i64 (N : Int)) := hXi.cell 1
        have p2 : wr.cell? ⟨b, 2, none⟩ = some (.int .i64 (S : Int)) := hXi.cell 2
        have p3 : wr.cell? ⟨b, 3, none⟩ = some (.int .i64 (T : Int)) := hXi.cell 3
        clear hSi hXi
        by_cases hiT : i < T
        · go_wp2_with fail
          refine (HSt.out _).mono ?_
          rintro e w4 ⟨rfl, hb4⟩
          have HS4 := Lib.hid (HSi.out.grow hb4)
          have hll := ipL_len z (L + i)
          have HSu := Lib.hid (ipL_succ z (L + i))
          rw [HZs.out i] at HSu
          have hsz : w3.heap.size ≤ w4.heap.size := HS4.out.below.size
          clear hb4 p0 p1 p2 p3 HSi
          generalize hlq : ipL z (L + i) = lq at *
          have hlb : lq.length ≤ 256 := by omega
          clear hlq hll
          go_wp2_with (with_reducible refine wpList_append_where _ rfl (.tmp 47) (.tmp 52) 88 rfl w3.heap.size 92 (.agg #[.int .i64 0, .int .i64 0]) 2 16 Tryz.underlying88 infoSpot rfl (by decide) u5 lq.length (ipl lq) rfl (row_stay HS4.out.own (fun b _ hb => Below.heap_alloc _ _ b hb)) ⟨w4.heap.size, 0, none⟩ 1 1 [.int .i64 f1, .int .i64 (i : Int)] rfl rfl ?q20 ?q21 ?q22 ?q23 ?q24 ?_)
          case q20 => first | exact new_pair w4 _ _ _ rfl | exact fun j u hu => hu
          case q21 => simp [Value.oneCell']
          case q22 => simp only [maxLen]; omega
          case q23 => omega
          case q24 => first | omega | (simp; omega)
          intro A2 cap2 w7 hown hgr _
          have HS7 := Lib.hid (HS4.out.next (x := (f1, (i : Int))) hown hgr)
          clear hown hgr HS4
          go_wp2_with fail
          go_roundw
          case rel => exact ⟨i + 1, by go_num, by omega, by rw [← Nat.add_assoc, HSu.out]; exact HS7.out⟩
          case measure => simp [intOf]; omega
        · obtain rfl : i = T := by omega
          have HE : Hid (IpPost w (L + i) z (.returned u5) wr) := Lib.hid (by
            obtain ⟨g, cap, he, hs, hb⟩ := ip_post HSi.out (by omega) rfl
            have h1 := HB3.out.size
            exact ⟨g, cap, he, ⟨Nat.le_trans h1 hs.old, hs.lt, hs.cell⟩, HB3.out.trans (hb.mono h1)⟩)
          clear HSi p0 p1 p2 p3
          go_wp2_with fail
          go_ret
          exact HE.out
end Go.Proofs.YtmageeohnfomnaaGreat


namespace Go.Proofs.YtmageeohnfomnaaGreat
set_option maxRecDepth 100000
open Go.RowKit Go.ChangeShapes Go.WideShapes Go.ChangeAt

theorem xF_step (z : Nat → Ip) (t : Int) (m i : Nat) : xF z t m (i + 1) = (xF z t m i ++ (if i < m then [((z i).1, (z i).2, false)] else [])) ++ [(t, (i : Int), true)] := rfl
theorem xE_step (t : Int) (j : Nat) : xE t (j + 1) = xE t j ++ [(t, (j : Int), false), (t, (j : Int), true)] := rfl
theorem xG_step (z : Nat → Ip) (t : Int) (k : Nat) : xG z t (k + 1) = xG z t k ++ [(t, (k : Int), false), ((z k).1, (z k).2, true)] := rfl
theorem xR_step (z : Nat → Ip) (t : Int) (m Q P r : Nat) : xR z t m Q P (r + 1) = xR z t m Q P r ++ xE t Q ++ ilooks t (netL P) := rfl
theorem infoPlanI (f : Int) (N S T : Nat) : (Tryz.prog.info? 77).map (·.size) = some (plI f N S T).size := by kernel_rfl
theorem wpList_store_newI {ops : Array Oper} {rest : List Oper} {op : Oper} {a : Act} {w : World} {Q : Exit → Act → World → Prop} (hgd : op.guard = none) (x y : Operand) (ho : op.op = .store 77 x y)
    (hx : a.eval x = .pointer (some ⟨w.heap.size, 0, none⟩)) (f : Int) (N S T : Nat) (hy : a.eval y = .agg #[.int .i64 f, .int .i64 (N : Int), .int .i64 (S : Int), .int .i64 (T : Int)]) {c : Array Value} (hc : c.size = 4)
    (h : wpList Tryz.prog ops Q rest (a.put op.dst undef) (w.alloc (.cells (plI f N S T) 77))) : wpList Tryz.prog ops Q (op :: rest) a (w.alloc (.cells c 77)) := by
  refine wpList_plain hgd fun K hK => ?_
  have hr := run_storeAt_new (P := Tryz.prog) w 77 c (plI f N S T) (infoPlanI f N S T) (by rw [hc]; rfl) (by simp [plI, Value.oneCell'])
  have hy' : a.eval y = .agg (plI f N S T) := hy
  unfold Oper.wp execOp
  simp only [ho, hx, hy', Sem.run_bind, Result.andThen_ok, hr, Sem.run_pure]
  exact hK _ _ h
section
variable {w : World} {f : Int} {b N S T : Nat}
theorem pli_0 (h : Box w b 77 (plI f N S T)) : w.cell? ⟨b, 0, none⟩ = some (.int .i64 f) := h.cell 0
theorem pli_1 (h : Box w b 77 (plI f N S T)) : w.cell? ⟨b, 1, none⟩ = some (.int .i64 (N : Int)) := h.cell 1
theorem pli_2 (h : Box w b 77 (plI f N S T)) : w.cell? ⟨b, 2, none⟩ = some (.int .i64 (S : Int)) := h.cell 2
theorem pli_3 (h : Box w b 77 (plI f N S T)) : w.cell? ⟨b, 3, none⟩ = some (.int .i64 (T : Int)) := h.cell 3
end
structure EvsI (w : World) (pb g g2 : Nat) (f : Int) (N S T m Q : Nat) (z : Nat → Ip) (t : Int) (wr : World) : Prop where
  box : Box wr pb 77 (plI f N S T)
  way : Ips wr w.heap.size g m z
  tab : Ips wr w.heap.size g2 Q (fun i => (t, (i : Int)))
  bel : Below w.heap.size w wr
section
variable {w wr wx : World} {pb g g2 N S T m Q : Nat} {f t : Int} {z : Nat → Ip}
theorem EvsI.nob (h : EvsI w pb g g2 f N S T m Q z t wr) (ho : Below wr.heap.size wr wx) : EvsI w pb g g2 f N S T m Q z t wx :=
  ⟨h.box.of (ho.block _ h.box.lt), h.way.block ho.size (ho.block _ h.way.lt), h.tab.block ho.size (ho.block _ h.tab.lt), h.bel.trans (ho.mono h.bel.size)⟩
end
set_option maxRecDepth 100000 in
set_option maxHeartbeats 4000000 in
theorem levents_all {N S T D L n Q P : Nat} (h : Conf N S T D L n Q P) (f : Int) (lf : Nat) (hlf : lf < N) (w : World) :
    Calls Tryz.prog 16 #[.int .i64 (f : Int), .agg #[.int .i64 (N : Int), .int .i64 (S : Int), .int .i64 (T : Int)], .int .i64 (lf : Int)] w (EvPost w (xA (plcI S D f lf) (wrap64 (f + 2)) (L + T) Q P)) := by
  have HR := Lib.hid (fun W => lright_of h W)
  have HLf : Hid (∀ W, Calls Tryz.prog 40 #[.agg #[.int .i64 (N : Int), .int .i64 (S : Int), .int .i64 (T : Int)], .int .i64 (lf : Int)] W fun e w' => e = .returned (.bool true) ∧ Below W.heap.size W w') := Lib.hid fun W => by
    have := leaf_any (N : Int) (S : Int) (T : Int) (lf : Int) W
    rwa [show isLf (N : Int) (lf : Int) = true by unfold isLf; simp; omega] at this
  have HW := Lib.hid (fun W => way_spots_all h f lf hlf W)
  have HTb := Lib.hid (fun W => table_spots_all h f W)
  have HTa := Lib.hid (fun W => table_all f (N : Int) (S : Int) (T : Int) W)
  obtain ⟨z, hzz⟩ : ∃ z, plcI S D f lf = z := ⟨_, rfl⟩
  rw [hzz] at HW ⊢
  clear hzz
  obtain ⟨t, ht⟩ : ∃ t, t = wrap64 (f + 2) := ⟨_, rfl⟩
  rw [← ht] at HTb HTa ⊢
  clear ht
  have hL := h.hL
  have hbig := h.big
  have hQ := h.hQ
  have hQ256 := h.big.2.2.2
  have hle := h.le
  have hnn := h.hn
  have hnet : (netL P).length * 4 ≤ 18432 := by
    have h256 : 2 ^ P ≤ 256 := by omega
    have := Nat.mul_le_mul (Nat.mul_le_mul h.hP (show P + 1 ≤ 9 by have := h.hP; omega)) h256
    rw [Nat.mul_comm, netL_len P]
    omega
  have hP8 := h.hP
  have hP0 : 0 < P := Nat.pos_of_ne_zero fun e => by rw [e] at hQ; omega
  have hnet0 : 0 < (netL P).length * 4 := by
    rw [Nat.mul_comm, netL_len P]
    exact Nat.mul_pos (Nat.mul_pos hP0 (Nat.succ_pos _)) (Nat.two_pow_pos P)
  clear h
  obtain ⟨b, hb⟩ : ∃ b, w.heap.size = b := ⟨_, rfl⟩
  obtain ⟨w2, hw2⟩ : ∃ w2, w.alloc (.cells (cfA N S T) 23) = w2 := ⟨_, rfl⟩
  have hx : Box w2 b 23 (cfA N S T) := by rw [← hw2, ← hb]; exact Box.new w _ _
  have ho2 : Below w.heap.size w w2 := by rw [← hw2]; exact (Below.refl _ w).alloc (Nat.le_refl _) _
  have HX := Lib.hid hx
  have HO := Lib.hid ho2
  have HW2 := Lib.hid hw2
  have HBb := Lib.hid hb
  have k0 := hx.cell 0
  have k1 := hx.cell 1
  have k2 := hx.cell 2
  clear hx ho2 hw2 hb
  go_enter Tryz.func16, Tryz.ntmps16
  go_upto_region 1 with fail
  simp only [HBb.out]
  rw [show w.alloc (.cells #[.int .i64 (N : Int), .int .i64 (S : Int), .int .i64 (T : Int)] 23) = w2 from HW2.out]
  simp only [cfA] at k0 k1 k2
  go_wp2_with fail
  refine (HR.out _).mono ?_
  rintro e w3 ⟨rfl, hb3⟩
  have HX3 := Lib.hid (HX.out.of (hb3.block _ HX.out.lt))
  have HO3 := Lib.hid (HO.out.trans (hb3.mono HO.out.size))
  clear hb3 k0 k1 k2 HX HO HR
  have k0 := HX3.out.cell 0
  have k1 := HX3.out.cell 1
  have k2 := HX3.out.cell 2
  simp only [cfA] at k0 k1 k2
  go_wp2_with fail
  refine (HLf.out _).mono ?_
  rintro e w4 ⟨rfl, hb4⟩
  have HX4 := Lib.hid (HX3.out.of (hb4.block _ HX3.out.lt))
  have HO4 := Lib.hid (HO3.out.trans (hb4.mono HO3.out.size))
  clear hb4 k0 k1 k2 HX3 HO3 HLf
  have k0 := HX4.out.cell 0
  have k1 := HX4.out.cell 1
  have k2 := HX4.out.cell 2
  simp only [cfA] at k0 k1 k2
  go_upto_region 4 with (refine wpList_store_newI rfl (.tmp 7) (.tmp 28) rfl rfl f N S T rfl rfl ?_)
  obtain ⟨pb, hpb⟩ : ∃ b, w4.heap.size = b := ⟨_, rfl⟩
  have hp := Box.new w4 77 (plI f N S T)
  have HO5 := Lib.hid (HO4.out.alloc HO4.out.size (.cells (plI f N S T) 77))
  rw [hpb] at hp ⊢
  clear hpb k0 k1 k2 HX4 HO4
  generalize w4.alloc (.cells (plI f N S T) 77) = w5 at *
  have hp' : Box w5.drew pb 77 (plI f N S T) := hp
  have hO5 : Below w.heap.size w w5.drew := HO5.out.drew
  refine held_s (S := fun u => Box u pb 77 (plI f N S T)) 7 rfl (by kernel_rfl) hp' (fun hHeld => ?_)
  simp only [Array.replicate_succ, Array.replicate_zero, List.push_toArray, List.nil_append, List.cons_append]
  generalize w5.drew = wd at *
  refine wpAnyH_take (i := 0) (oi := ⟨some 29, _, _, _, _, _⟩) (v := (.agg #[.int .i64 (f : Int), .int .i64 (N : Int), .int .i64 (S : Int), .int .i64 (T : Int)])) rfl (by kernel_rfl) (by kernel_rfl) (by kernel_rfl) (fun _ _ _ h => h) (Or.inl ⟨by rfl, fun w' hw => by (have p0 := pli_0 hw; have p1 := pli_1 hw; have p2 := pli_2 hw; have p3 := pli_3 hw; go_simp)⟩) hHeld ?_
  try simp only [Act.put, List.setIfInBounds_toArray, List.set_cons_zero, List.set_cons_succ]
  refine wpAnyH_take (i := 1) (oi := ⟨some 30, _, _, _, _, _⟩) (v := (.int .i64 (lf : Int))) rfl (by kernel_rfl) (by kernel_rfl) (by kernel_rfl) (fun _ _ _ h => h) (Or.inl ⟨by rfl, fun w' hw => by go_simp⟩) hHeld ?_
  try simp only [Act.put, List.setIfInBounds_toArray, List.set_cons_zero, List.set_cons_succ]
  refine wpAnyH_take (i := 3) (oi := ⟨some 32, _, _, _, _, _⟩) (v := (.agg #[.int .i64 (f : Int), .int .i64 (N : Int), .int .i64 (S : Int), .int .i64 (T : Int)])) rfl (by kernel_rfl) (by kernel_rfl) (by kernel_rfl) (fun _ _ _ h => h) (Or.inl ⟨by rfl, fun w' hw => by (have p0 := pli_0 hw; have p1 := pli_1 hw; have p2 := pli_2 hw; have p3 := pli_3 hw; go_simp)⟩) hHeld ?_
  try simp only [Act.put, List.setIfInBounds_toArray, List.set_cons_zero, List.set_cons_succ]
  refine one_ready 2 rfl (by kernel_rfl) (fun K hK => ?_)
  go_simp
  refine (HW.out _).mono ?_
  rintro e w6 ⟨g, cap6, rfl, hs6, hb6⟩
  refine hK.out _ _ (hHeld.of (hb6.block _ hHeld.lt)) (fun hHeld => ?_)
  clear hK K
  simp only [List.setIfInBounds_toArray, List.set_cons_zero, List.set_cons_succ]
  refine one_ready 4 rfl (by kernel_rfl) (fun K hK => ?_)
  go_simp
  refine (HTb.out _).mono ?_
  rintro e w7 ⟨g2, cap7, rfl, hs7, hb7⟩
  refine hK.out _ _ (hHeld.of (hb7.block _ hHeld.lt)) (fun hHeld => ?_)
  clear hK K
  simp only [List.setIfInBounds_toArray, List.set_cons_zero, List.set_cons_succ]
  refine wpAnyH_take (i := 5) (oi := ⟨some 8, _, _, _, _, _⟩) (v := (.slice (some ⟨g, 0, none⟩) (L + T) cap6)) rfl (by kernel_rfl) (by kernel_rfl) (by kernel_rfl) (fun _ _ _ h => h) (Or.inl ⟨by rfl, fun w' hw => by go_simp⟩) hHeld ?_
  try simp only [Act.put, List.setIfInBounds_toArray, List.set_cons_zero, List.set_cons_succ]
  refine wpAnyH_take (i := 6) (oi := ⟨some 9, _, _, _, _, _⟩) (v := (.slice (some ⟨g2, 0, none⟩) Q cap7)) rfl (by kernel_rfl) (by kernel_rfl) (by kernel_rfl) (fun _ _ _ h => h) (Or.inl ⟨by rfl, fun w' hw => by go_simp⟩) hHeld ?_
  try simp only [Act.put, List.setIfInBounds_toArray, List.set_cons_zero, List.set_cons_succ]
  refine wpAnyH_done (by kernel_rfl) ?_ _
  have HI : Hid (EvsI w pb g g2 f N S T (L + T) Q z t w7) := Lib.hid (by
    have q1 := hO5.size
    have q2 := hb6.size
    have q3 := hb7.size
    exact ⟨hHeld, ⟨by have := hs6.old; omega, by have := hs6.lt; omega, (hs6.block q3 (hb7.block _ hs6.lt)).cell⟩, ⟨by have := hs7.old; omega, hs7.lt, hs7.cell⟩, (hO5.trans (hb6.mono q1)).trans (hb7.mono (by omega))⟩)
  clear hHeld hs6 hs7 hb6 hb7 hO5 hp hp' HW HTb HO5
  go_wp2_with fail
  go_loopw [10, 36] (fun v10 v36 wr => ∃ i : Nat, v36 = .int .i64 i ∧ i ≤ Q ∧ EvAt w7 v10 (xF z t (L + T) i) wr) (fun _ v36 _ => Q - (intOf v36).toNat)
  case atStart => exact ⟨0, rfl, by omega, EvAt.nil w7⟩
  case round =>
    obtain ⟨i, rfl, hi, hE⟩ := hrel
    by_cases hlt : i < Q
    · have hI := HI.out.nob hE.below
      obtain ⟨c1, c2⟩ := hI.tab.cell i hlt
      go_upto_region 9 with fail
      obtain ⟨xb, hxb⟩ : ∃ b, wr.heap.size = b := ⟨_, rfl⟩
      have hX := Box.new wr 92 #[.int .i64 t, .int .i64 (i : Int)]
      have hb8 : Below wr.heap.size wr (wr.alloc (.cells #[.int .i64 t, .int .i64 (i : Int)] 92)) := (Below.refl _ _).alloc (Nat.le_refl _) _
      have hE8 := hE.stay hb8
      have hI8 := hI.nob hb8
      have hrow : ∀ k, u10.ownBlock = some k → k ≠ xb := fun k e => by have := (hE.own.lt k e).2; omega
      rw [hxb] at hX ⊢
      generalize wr.alloc (.cells #[.int .i64 t, .int .i64 (i : Int)] 92) = wx at *
      clear hb8 c1 c2 hE hI hxb
      obtain ⟨li, hli⟩ : ∃ li, xF z t (L + T) i = li := ⟨_, rfl⟩
      have hlen : li.length ≤ 2 * i := by rw [← hli]; exact xF_len z t (L + T) i
      rw [hli] at hE8
      have hs8 := hE8.below.size
      have HLi := Lib.hid hli
      have HX := Lib.hid hX
      have HE8 := Lib.hid hE8
      have HRow := Lib.hid hrow
      clear hli hX hE8 hrow
      by_cases hw : i < L + T
      · obtain ⟨d1, d2⟩ := hI8.way.cell i hw
        have hw' : (i : Int) < ((L + T : Nat) : Int) := by omega
        go_wp2_with fail
        refine (spot_read _ _ _).mono ?_
        rintro e wy ⟨rfl, hby⟩
        have HEy := Lib.hid (HE8.out.stay hby)
        have HXy := Lib.hid (HX.out.of (hby.block _ HX.out.lt))
        have hsy : w7.heap.size ≤ wy.heap.size := HEy.out.below.size
        have HOW : Hid (wy.ownsRow w7.heap.size 87 3 u10 li.length (ievs li)) := Lib.hid HEy.out.own
        clear hby HE8 HX d1 d2
        go_wp2_with (with_reducible refine wpList_append_where _ rfl (.tmp 45) (.tmp 51) 48 rfl w7.heap.size 87 (.agg #[.int .i64 0, .int .i64 0, .bool false]) 3 24 Tryz.underlying48 infoEvent rfl (by decide) u10 (li.length) (ievs (li)) rfl (HOW.out.alloc _) ⟨wy.heap.size, 0, none⟩ 1 1 (ievs [(((z i).1), ((z i).2), false)]) rfl rfl ?h10 (ievs_one _) ?h12 ?h13 ?h14 ?_)
        case h10 => exact ievs_new wy _ [(((z i).1), ((z i).2), false)] rfl
        case h12 => simp only [maxLen]; omega
        case h13 => omega
        case h14 => simp; omega
        intro A2 cap2 w9 hown hgr _
        have HE9 := Lib.hid (HEy.out.one (e := (((z i).1), ((z i).2), false)) rfl hown hgr)
        have HX9 := Lib.hid (box_grown hgr (HXy.out.alloc _) HRow.out)
        clear hown hgr HEy HXy HOW hsy
        have x0 : w9.cell? ⟨xb, 0, none⟩ = some (.int .i64 t) := HX9.out.cell 0
        have x1 : w9.cell? ⟨xb, 1, none⟩ = some (.int .i64 (i : Int)) := HX9.out.cell 1
        go_wp2_with fail
        refine (spot_written _ _ _).mono ?_
        rintro e wz ⟨rfl, hbz⟩
        have HEz := Lib.hid (HE9.out.stay hbz)
        have hsz : w7.heap.size ≤ wz.heap.size := HEz.out.below.size
        have HOW : Hid (wz.ownsRow w7.heap.size 87 3 (.slice A2 (li.length + 1) cap2) (li.length + 1) (ievs (li ++ [(((z i).1), ((z i).2), false)]))) := Lib.hid (by have := HEz.out.own; rwa [List.length_append] at this)
        clear hbz HE9 x0 x1 HX9
        go_wp2_with (with_reducible refine wpList_append_where _ rfl (.tmp 53) (.tmp 56) 48 rfl w7.heap.size 87 (.agg #[.int .i64 0, .int .i64 0, .bool false]) 3 24 Tryz.underlying48 infoEvent rfl (by decide) (.slice A2 (li.length + 1) cap2) (li.length + 1) (ievs (li ++ [(((z i).1), ((z i).2), false)])) rfl (HOW.out.alloc _) ⟨wz.heap.size, 0, none⟩ 1 1 (ievs [(t, (i : Int), true)]) rfl rfl ?h20 (ievs_one _) ?h22 ?h23 ?h24 ?_)
        case h20 => exact ievs_new wz _ [(t, (i : Int), true)] rfl
        case h22 => simp only [maxLen]; omega
        case h23 => omega
        case h24 => simp; omega
        intro A3 cap3 w11 hown hgr _
        have HE11 := Lib.hid (HEz.out.one (e := (t, (i : Int), true)) (by simp) hown hgr)
        clear hown hgr HEz HOW hsz
        go_wp2_with fail
        go_roundw
        case rel => exact ⟨i + 1, by go_num, by omega, by rw [xF_step, if_pos hw, HLi.out]; exact HE11.out⟩
        case measure => simp [intOf]; omega
      · have hw' : ¬ (i : Int) < (L : Int) + (T : Int) := by omega
        have x0 : wx.cell? ⟨xb, 0, none⟩ = some (.int .i64 t) := HX.out.cell 0
        have x1 : wx.cell? ⟨xb, 1, none⟩ = some (.int .i64 (i : Int)) := HX.out.cell 1
        go_wp2_with fail
        refine (spot_written _ _ _).mono ?_
        rintro e wz ⟨rfl, hbz⟩
        have HEz := Lib.hid (HE8.out.stay hbz)
        have hsz : w7.heap.size ≤ wz.heap.size := HEz.out.below.size
        have HOW : Hid (wz.ownsRow w7.heap.size 87 3 u10 li.length (ievs li)) := Lib.hid HEz.out.own
        clear hbz HE8 HX x0 x1
        go_wp2_with (with_reducible refine wpList_append_where _ rfl (.tmp 53) (.tmp 56) 48 rfl w7.heap.size 87 (.agg #[.int .i64 0, .int .i64 0, .bool false]) 3 24 Tryz.underlying48 infoEvent rfl (by decide) u10 (li.length) (ievs (li)) rfl (HOW.out.alloc _) ⟨wz.heap.size, 0, none⟩ 1 1 (ievs [(t, (i : Int), true)]) rfl rfl ?h30 (ievs_one _) ?h32 ?h33 ?h34 ?_)
        case h30 => exact ievs_new wz _ [(t, (i : Int), true)] rfl
        case h32 => simp only [maxLen]; omega
        case h33 => omega
        case h34 => simp; omega
        intro A3 cap3 w11 hown hgr _
        have HE11 := Lib.hid (HEz.out.one (e := (t, (i : Int), true)) rfl hown hgr)
        clear hown hgr HEz HOW hsz
        go_wp2_with fail
        go_roundw
        case rel => exact ⟨i + 1, by go_num, by omega, by rw [xF_step, if_neg hw, HLi.out, List.append_nil]; exact HE11.out⟩
        case measure => simp [intOf]; omega
    · obtain rfl : i = Q := by omega
      have HE1 := Lib.hid hE
      clear hE
      have hnl : (ilooks t (netL P)).length ≤ 18432 := by rw [ilooks_len]; exact hnet
      have HLen := Lib.hid (xR_len z t (L + T) i P hQ256 hnet)
      have HE1 : Hid (EvAt w7 u10 (xR z t (L + T) i P 0) wr) := HE1
      go_wp2_with fail
      go_loopw [10, 59] (fun v10 v59 wr => ∃ r : Nat, v59 = .int .i64 r ∧ r ≤ 2 ∧ EvAt w7 v10 (xR z t (L + T) i P r) wr) (fun _ v59 _ => 2 - (intOf v59).toNat)
      case atStart => exact ⟨0, rfl, by omega, HE1.out⟩
      case round =>
        clear HE1
        obtain ⟨r, rfl, hr, hE⟩ := hrel
        by_cases hr2 : r < 2
        · have HE1 := Lib.hid hE
          have hrd : decide ((r : Int) < 2) = true := decide_eq_true (by omega)
          clear hE
          go_wp2_with fail
          go_loopw [10, 63] (fun v10 v63 wr => ∃ j : Nat, v63 = .int .i64 j ∧ j ≤ i ∧ EvAt w7 v10 (xR z t (L + T) i P r ++ xE t j) wr) (fun _ v63 _ => i - (intOf v63).toNat)
          case atStart => exact ⟨0, rfl, by omega, by rw [show xE t 0 = [] from rfl, List.append_nil]; exact HE1.out⟩
          case round =>
            clear HE1
            obtain ⟨j, rfl, hj, hE⟩ := hrel
            by_cases hjt : j < i
            · have hI := HI.out.nob hE.below
              obtain ⟨c1, c2⟩ := hI.tab.cell j hjt
              go_upto_region 18 with fail
              obtain ⟨xb, hxb⟩ : ∃ b, wr.heap.size = b := ⟨_, rfl⟩
              have hX := Box.new wr 92 #[.int .i64 t, .int .i64 (j : Int)]
              have hb8 : Below wr.heap.size wr (wr.alloc (.cells #[.int .i64 t, .int .i64 (j : Int)] 92)) := (Below.refl _ _).alloc (Nat.le_refl _) _
              have hE8 := hE.stay hb8
              have hrow : ∀ k, u10.ownBlock = some k → k ≠ xb := fun k e => by have := (hE.own.lt k e).2; omega
              rw [hxb] at hX ⊢
              generalize wr.alloc (.cells #[.int .i64 t, .int .i64 (j : Int)] 92) = wx at *
              clear hb8 c1 c2 hE hI hxb
              obtain ⟨li, hli⟩ : ∃ li, xR z t (L + T) i P r ++ xE t j = li := ⟨_, rfl⟩
              have hlen : li.length ≤ 60000 := by
                rw [← hli, List.length_append, xE_len]
                have := HLen.out r
                have := Nat.mul_le_mul_right 18944 hr
                omega
              rw [hli] at hE8
              have HLi := Lib.hid hli
              have HRow := Lib.hid hrow
              clear hli hrow
              have HE8 := Lib.hid hE8
              have HE8d : Hid (EvAt w7 u10 li wx.drew) := Lib.hid (HE8.out.stay (Below.refl _ wx).drew)
              clear HE8
              refine held_s (S := fun u => Box u xb 92 #[.int .i64 t, .int .i64 (j : Int)]) 8 rfl (by kernel_rfl) (hX.drewN 1) (fun hHeld => ?_)
              simp only [Array.replicate_succ, Array.replicate_zero, List.push_toArray, List.nil_append, List.cons_append]
              generalize wx.drew = wd at *
              clear hX
              refine wpAnyH_take (i := 0) (oi := ⟨some 67, _, _, _, _, _⟩) (v := (u10)) rfl (by kernel_rfl) (by kernel_rfl) (by kernel_rfl) (fun _ _ _ h => h) (Or.inl ⟨by rfl, fun w' hw => by go_simp⟩) hHeld ?_
              try simp only [Act.put, List.setIfInBounds_toArray, List.set_cons_zero, List.set_cons_succ]
              refine wpAnyH_take (i := 1) (oi := ⟨some 68, _, _, _, _, _⟩) (v := (.agg #[.int .i64 t, .int .i64 (j : Int)])) rfl (by kernel_rfl) (by kernel_rfl) (by kernel_rfl) (fun _ _ _ h => h) (Or.inl ⟨by rfl, fun w' hw => by (have x0 := sp_0 hw; have x1 := sp_1 hw; go_simp)⟩) hHeld ?_
              try simp only [Act.put, List.setIfInBounds_toArray, List.set_cons_zero, List.set_cons_succ]
              refine wpAnyH_take (i := 3) (oi := ⟨some 70, _, _, _, _, _⟩) (v := (.agg #[.int .i64 t, .int .i64 (j : Int)])) rfl (by kernel_rfl) (by kernel_rfl) (by kernel_rfl) (fun _ _ _ h => h) (Or.inl ⟨by rfl, fun w' hw => by (have x0 := sp_0 hw; have x1 := sp_1 hw; go_simp)⟩) hHeld ?_
              try simp only [Act.put, List.setIfInBounds_toArray, List.set_cons_zero, List.set_cons_succ]
              refine one_ready 2 rfl (by kernel_rfl) (fun K hK => ?_)
              go_simp
              refine (spot_read _ _ _).mono ?_
              rintro e wy ⟨rfl, hby⟩
              have hXy := hHeld.of (hby.block _ hHeld.lt)
              have HEy := Lib.hid (HE8d.out.stay hby)
              refine hK.out _ _ hXy (fun hHeld => ?_)
              clear hK K hby HE8d
              simp only [List.setIfInBounds_toArray, List.set_cons_zero, List.set_cons_succ]
              refine one_ready 4 rfl (by kernel_rfl) (fun K hK => ?_)
              go_simp
              refine (spot_written _ _ _).mono ?_
              rintro e wz ⟨rfl, hbz⟩
              have hXz := hHeld.of (hbz.block _ hHeld.lt)
              have HEz := Lib.hid (HEy.out.stay hbz)
              have hsz : w7.heap.size ≤ wz.heap.size := HEz.out.below.size
              have HOW : Hid (wz.ownsRow w7.heap.size 87 3 u10 li.length (ievs li)) := Lib.hid HEz.out.own
              refine hK.out _ _ hXz (fun hHeld => ?_)
              clear hK K hbz HEy
              simp only [List.setIfInBounds_toArray, List.set_cons_zero, List.set_cons_succ]
              refine one_ready 5 rfl (by kernel_rfl) (fun K hK => ?_)
              go_simp
              refine hK.out _ _ (hXz.alloc _) (fun _ => ?_)
              clear hK K
              simp only [List.setIfInBounds_toArray, List.set_cons_zero, List.set_cons_succ]
              refine one_ready 6 rfl (by kernel_rfl) (fun K hK => ?_)
              refine step_append_where rfl (.tmp 67) (.tmp 72) 48 rfl w7.heap.size 87 (.agg #[.int .i64 0, .int .i64 0, .bool false]) 3 24 Tryz.underlying48 infoEvent rfl (by decide) u10 li.length (ievs li) rfl (HOW.out.alloc _) ⟨wz.heap.size, 0, none⟩ 2 2 (ievs [(t, (j : Int), false), (t, (j : Int), true)]) rfl rfl ?h40 (ievs_one _) ?h42 ?h43 ?h44 ?_
              case h40 => exact ievs_new wz _ [(t, (j : Int), false), (t, (j : Int), true)] rfl
              case h42 => simp only [maxLen]; omega
              case h43 => omega
              case h44 => simp; omega
              intro A2 cap2 w9 hown hgr _
              have HE11 := Lib.hid (HEz.out.two (e := (t, (j : Int), false)) (e' := (t, (j : Int), true)) rfl hown hgr)
              have hX9 := box_grown hgr (hXz.alloc _) HRow.out
              clear hown hgr
              refine hK.out _ _ hX9 (fun hHeld => ?_)
              clear hK K
              simp only [List.setIfInBounds_toArray, List.set_cons_zero, List.set_cons_succ]
              refine wpAnyH_take (i := 7) (oi := ⟨some 10, _, _, _, _, _⟩) (v := (.slice A2 (li.length + 2) cap2)) rfl (by kernel_rfl) (by kernel_rfl) (by kernel_rfl) (fun _ _ _ h => h) (Or.inl ⟨by rfl, fun w' hw => by go_simp⟩) hHeld ?_
              try simp only [Act.put, List.setIfInBounds_toArray, List.set_cons_zero, List.set_cons_succ]
              refine wpAnyH_done (by kernel_rfl) ?_ _
              clear hHeld hXy hXz hX9
              go_wp2_with fail
              go_roundw
              case rel => exact ⟨j + 1, by go_num, by omega, by rw [xE_step, ← List.append_assoc, HLi.out]; exact HE11.out⟩
              case measure => simp [intOf]; omega
            · obtain rfl : j = i := by omega
              have HE1 := Lib.hid hE
              have HI1 := Lib.hid (HI.out.nob hE.below)
              clear hE
              have p0 := pli_0 HI1.out.box
              have p1 := pli_1 HI1.out.box
              have p2 := pli_2 HI1.out.box
              have p3 := pli_3 HI1.out.box
              go_wp2_with fail
              refine (HTa.out _).mono ?_
              rintro e wy ⟨rfl, hby⟩
              have HEy := Lib.hid (HE1.out.stay hby)
              clear hby p0 p1 p2 p3 HE1 HI1
              go_wp2_with fail
              refine (events_any t (j : Int) (2 ^ P) (netL P) ⟨.inl ⟨P, by omega, by rw [hQ], rfl, rfl⟩⟩ _).mono ?_
              rintro e we ⟨A, cap, rfl, hv, ho⟩
              have hne : ilooks t (netL P) ≠ [] := fun e => by
                have h1 := congrArg List.length e
                rw [ilooks_len] at h1
                have h2 := hnet0
                simp only [List.length_nil] at h1
                omega
              obtain ⟨bA, oA, rfl, hrA⟩ := hv hne
              have HEe := Lib.hid (HEy.out.stay (Only.none ho))
              obtain ⟨li, hli⟩ : ∃ li, xR z t (L + T) j P r ++ xE t j = li := ⟨_, rfl⟩
              have hlen : li.length ≤ 60000 := by
                rw [← hli, List.length_append, xE_len]
                have := HLen.out r
                have := Nat.mul_le_mul_right 18944 hr
                omega
              rw [hli] at HEe
              have hse : w7.heap.size ≤ we.heap.size := HEe.out.below.size
              have HOW : Hid (we.ownsRow w7.heap.size 87 3 u10 li.length (ievs li)) := Lib.hid HEe.out.own
              have HLi := Lib.hid hli
              have HRa := Lib.hid hrA
              clear hv ho hne hli hrA HEy
              go_wp2_with (with_reducible refine wpList_append_where _ rfl (.tmp 75) (.tmp 80) 48 rfl w7.heap.size 87 (.agg #[.int .i64 0, .int .i64 0, .bool false]) 3 24 Tryz.underlying48 infoEvent rfl (by decide) u10 li.length (ievs li) rfl HOW.out ⟨bA, oA, none⟩ (ilooks t (netL P)).length cap (ievs (ilooks t (netL P))) rfl (ievs_len _) ?h50 (ievs_one _) ?h52 ?h53 ?h54 ?_)
              case h50 => exact fun q u hq => by rw [add_plain]; exact HRa.out q u hq
              case h52 => simp only [maxLen]; omega
              case h53 => omega
              case h54 => exact hse
              intro A2 cap2 w9 hown hgr _
              have HE9 := Lib.hid (HEe.out.all hown hgr)
              clear hown hgr HEe HOW hse
              go_wp2_with fail
              go_roundw
              case rel => exact ⟨r + 1, by go_num, by omega, by
                rw [xR_step, HLi.out]
                exact HE9.out⟩
              case measure => simp [intOf]; omega
        · have HR3 : Hid (r = 2) := Lib.hid (by omega)
          have HE1 := Lib.hid hE
          clear hE
          have hlt2 : L + T ≤ i := by omega
          have hrd : decide ((r : Int) < 2) = false := decide_eq_false (by omega)
          go_wp2_with fail
          go_loopw [10, 85] (fun v10 v85 wr => ∃ k : Nat, v85 = .int .i64 k ∧ k ≤ L + T ∧ EvAt w7 v10 (xR z t (L + T) i P r ++ xG z t k) wr) (fun _ v85 _ => L + T - (intOf v85).toNat)
          case atStart => exact ⟨0, rfl, by omega, by rw [show xG z t 0 = [] from rfl, List.append_nil]; exact HE1.out⟩
          case round =>
            clear HE1
            obtain ⟨k, rfl, hk, hE⟩ := hrel
            by_cases hkt : k < L + T
            · have hI := HI.out.nob hE.below
              obtain ⟨d1, d2⟩ := hI.way.cell k hkt
              have hkl : (k : Int) < (L : Int) + (T : Int) := by omega
              have hkq : k < i := by omega
              go_upto_region 25 with fail
              obtain ⟨xb, hxb⟩ : ∃ b, wr.heap.size = b := ⟨_, rfl⟩
              have hX := Box.new wr 92 #[.int .i64 ((z k).1), .int .i64 ((z k).2)]
              have hb8 : Below wr.heap.size wr (wr.alloc (.cells #[.int .i64 ((z k).1), .int .i64 ((z k).2)] 92)) := (Below.refl _ _).alloc (Nat.le_refl _) _
              have hE8 := hE.stay hb8
              have hrow : ∀ k, u10.ownBlock = some k → k ≠ xb := fun k e => by have := (hE.own.lt k e).2; omega
              rw [hxb] at hX ⊢
              generalize wr.alloc (.cells #[.int .i64 ((z k).1), .int .i64 ((z k).2)] 92) = wx at *
              clear hb8 d1 d2 hE hI hxb
              obtain ⟨li, hli⟩ : ∃ li, xR z t (L + T) i P r ++ xG z t k = li := ⟨_, rfl⟩
              have hlen : li.length ≤ 60000 := by
                rw [← hli, List.length_append, xG_len]
                have := HLen.out r
                have := Nat.mul_le_mul_right 18944 hr
                omega
              rw [hli] at hE8
              have HLi := Lib.hid hli
              have HRow := Lib.hid hrow
              clear hli hrow
              have HE8 := Lib.hid hE8
              have HE8d : Hid (EvAt w7 u10 li wx.drew) := Lib.hid (HE8.out.stay (Below.refl _ wx).drew)
              clear HE8
              refine held_s (S := (fun u => Box u xb 92 #[.int .i64 ((z k).1), .int .i64 ((z k).2)] ∧ u.cell? ⟨g2, k * 2, none⟩ = some (.int .i64 t) ∧ u.cell? ⟨g2, k * 2 + 1, none⟩ = some (.int .i64 (k : Int)))) 11 rfl (by kernel_rfl) ⟨hX.drewN 1, (HI.out.nob HE8d.out.below).tab.cell k hkq⟩ (fun hHeld => ?_)
              simp only [Array.replicate_succ, Array.replicate_zero, List.push_toArray, List.nil_append, List.cons_append]
              generalize wx.drew = wd at *
              clear hX
              refine wpAnyH_take (i := 0) (oi := ⟨some 90, _, _, _, _, _⟩) (v := (u10)) rfl (by kernel_rfl) (by kernel_rfl) (by kernel_rfl) (fun _ _ _ h => h) (Or.inl ⟨by rfl, fun w' hw => by go_simp⟩) hHeld ?_
              try simp only [Act.put, List.setIfInBounds_toArray, List.set_cons_zero, List.set_cons_succ]
              refine wpAnyH_take (i := 1) (oi := ⟨some 91, _, _, _, _, _⟩) (v := (.slice (some ⟨g2, 0, none⟩) i cap7)) rfl (by kernel_rfl) (by kernel_rfl) (by kernel_rfl) (fun _ _ _ h => h) (Or.inl ⟨by rfl, fun w' hw => by go_simp⟩) hHeld ?_
              try simp only [Act.put, List.setIfInBounds_toArray, List.set_cons_zero, List.set_cons_succ]
              refine wpAnyH_take (i := 2) (oi := ⟨some 92, _, _, _, _, _⟩) (v := (.int .i64 (k : Int))) rfl (by kernel_rfl) (by kernel_rfl) (by kernel_rfl) (fun _ _ _ h => h) (Or.inl ⟨by rfl, fun w' hw => by go_simp⟩) hHeld ?_
              try simp only [Act.put, List.setIfInBounds_toArray, List.set_cons_zero, List.set_cons_succ]
              refine wpAnyH_take (i := 3) (oi := ⟨some 93, _, _, _, _, _⟩) (v := (.pointer (some ⟨g2, k * 2, none⟩))) rfl (by kernel_rfl) (by kernel_rfl) (by kernel_rfl) (fun _ _ _ h => h) (Or.inl ⟨by rfl, fun w' hw => by go_simp⟩) hHeld ?_
              try simp only [Act.put, List.setIfInBounds_toArray, List.set_cons_zero, List.set_cons_succ]
              refine wpAnyH_take (i := 4) (oi := ⟨some 94, _, _, _, _, _⟩) (v := (.agg #[.int .i64 t, .int .i64 (k : Int)])) rfl (by kernel_rfl) (by kernel_rfl) (by kernel_rfl) (fun _ _ _ h => h) (Or.inl ⟨by rfl, fun w' hw => by (have x0 := sp_0 hw.1; have x1 := sp_1 hw.1; obtain ⟨_, y0, y1⟩ := hw; go_simp)⟩) hHeld ?_
              try simp only [Act.put, List.setIfInBounds_toArray, List.set_cons_zero, List.set_cons_succ]
              refine wpAnyH_take (i := 6) (oi := ⟨some 96, _, _, _, _, _⟩) (v := (.agg #[.int .i64 ((z k).1), .int .i64 ((z k).2)])) rfl (by kernel_rfl) (by kernel_rfl) (by kernel_rfl) (fun _ _ _ h => h) (Or.inl ⟨by rfl, fun w' hw => by (have x0 := sp_0 hw.1; have x1 := sp_1 hw.1; obtain ⟨_, y0, y1⟩ := hw; go_simp)⟩) hHeld ?_
              try simp only [Act.put, List.setIfInBounds_toArray, List.set_cons_zero, List.set_cons_succ]
              refine one_ready 5 rfl (by kernel_rfl) (fun K hK => ?_)
              go_simp
              refine (spot_read _ _ _).mono ?_
              rintro e wy ⟨rfl, hby⟩
              have hXy := hHeld.1.of (hby.block _ hHeld.1.lt)
              have HEy := Lib.hid (HE8d.out.stay hby)
              refine hK.out _ _ ⟨hXy, (HI.out.nob HEy.out.below).tab.cell k hkq⟩ (fun hHeld => ?_)
              clear hK K hby HE8d
              simp only [List.setIfInBounds_toArray, List.set_cons_zero, List.set_cons_succ]
              refine one_ready 7 rfl (by kernel_rfl) (fun K hK => ?_)
              go_simp
              refine (spot_written _ _ _).mono ?_
              rintro e wz ⟨rfl, hbz⟩
              have hXz := hHeld.1.of (hbz.block _ hHeld.1.lt)
              have HEz := Lib.hid (HEy.out.stay hbz)
              have hsz : w7.heap.size ≤ wz.heap.size := HEz.out.below.size
              have HOW : Hid (wz.ownsRow w7.heap.size 87 3 u10 li.length (ievs li)) := Lib.hid HEz.out.own
              refine hK.out _ _ ⟨hXz, (HI.out.nob HEz.out.below).tab.cell k hkq⟩ (fun hHeld => ?_)
              clear hK K hbz HEy
              simp only [List.setIfInBounds_toArray, List.set_cons_zero, List.set_cons_succ]
              refine one_ready 8 rfl (by kernel_rfl) (fun K hK => ?_)
              go_simp
              refine hK.out _ _ ⟨hXz.alloc _, (HI.out.nob (HEz.out.stay ((Below.refl _ _).alloc (Nat.le_refl _) _)).below).tab.cell k hkq⟩ (fun _ => ?_)
              clear hK K
              simp only [List.setIfInBounds_toArray, List.set_cons_zero, List.set_cons_succ]
              refine one_ready 9 rfl (by kernel_rfl) (fun K hK => ?_)
              refine step_append_where rfl (.tmp 90) (.tmp 98) 48 rfl w7.heap.size 87 (.agg #[.int .i64 0, .int .i64 0, .bool false]) 3 24 Tryz.underlying48 infoEvent rfl (by decide) u10 li.length (ievs li) rfl (HOW.out.alloc _) ⟨wz.heap.size, 0, none⟩ 2 2 (ievs [(t, (k : Int), false), (((z k).1), ((z k).2), true)]) rfl rfl ?h60 (ievs_one _) ?h62 ?h63 ?h64 ?_
              case h60 => exact ievs_new wz _ [(t, (k : Int), false), (((z k).1), ((z k).2), true)] rfl
              case h62 => simp only [maxLen]; omega
              case h63 => omega
              case h64 => simp; omega
              intro A2 cap2 w9 hown hgr _
              have HE11 := Lib.hid (HEz.out.two (e := (t, (k : Int), false)) (e' := (((z k).1), ((z k).2), true)) rfl hown hgr)
              have hX9 := box_grown hgr (hXz.alloc _) HRow.out
              clear hown hgr
              refine hK.out _ _ ⟨hX9, (HI.out.nob HE11.out.below).tab.cell k hkq⟩ (fun hHeld => ?_)
              clear hK K
              simp only [List.setIfInBounds_toArray, List.set_cons_zero, List.set_cons_succ]
              refine wpAnyH_take (i := 10) (oi := ⟨some 10, _, _, _, _, _⟩) (v := (.slice A2 (li.length + 2) cap2)) rfl (by kernel_rfl) (by kernel_rfl) (by kernel_rfl) (fun _ _ _ h => h) (Or.inl ⟨by rfl, fun w' hw => by go_simp⟩) hHeld ?_
              try simp only [Act.put, List.setIfInBounds_toArray, List.set_cons_zero, List.set_cons_succ]
              refine wpAnyH_done (by kernel_rfl) ?_ _
              clear hHeld hXy hXz hX9
              go_wp2_with fail
              go_roundw
              case rel => exact ⟨k + 1, by go_num, by omega, by rw [xG_step, ← List.append_assoc, HLi.out]; exact HE11.out⟩
              case measure => simp [intOf]; omega
            · obtain rfl : k = L + T := by omega
              have HD : Hid (EvPost w (xA z t (L + T) i P) (.returned u10) wr) := Lib.hid (by
                rw [HR3.out] at hE
                exact ev_done hE HI.out.bel)
              clear hE
              go_wp2_with fail
              go_ret
              exact HD.out
end Go.Proofs.YtmageeohnfomnaaGreat


namespace Go.Proofs.YtmageeohnfomnaaGreat
set_option maxRecDepth 100000
open Go.RowKit Go.ChangeShapes Go.WideShapes Go.ChangeAt

theorem infoPlace : (Tryz.prog.info? 98).map (fun i => (i.zero, i.size, i.bytes)) = some (some (.agg #[.int .i64 0, .int .i64 0]), 2, 16) := by kernel_rfl
set_option maxRecDepth 100000 in
set_option maxHeartbeats 4000000 in
theorem rplaces_of {N S T D L n Q P : Nat} (h : Conf N S T D L n Q P) (f : Int) (lf : Nat) (hlf : lf < N) (w : World) :
    Calls Tryz.prog 46 #[.int .i64 f, .agg #[.int .i64 (N : Int), .int .i64 (S : Int), .int .i64 (T : Int)], .int .i64 (lf : Int)] w (IpPost w (L + T) (plcI S D f lf)) := by
  have HW := Lib.hid (fun W => rway_in D N lf W h.hD h.hN hlf)
  have s8 := h.s8
  have t64 := h.t64
  have t1 := h.t1
  have hLb := h.big.1
  have HL := Lib.hid h.hL
  have HN := Lib.hid h.hN
  have hlf2 : lf < 2 ^ D := by rw [h.hN]; exact hlf
  have HLf := Lib.hid hlf2
  have hN1 := h.n1
  obtain ⟨E, hE⟩ : ∃ E, D + 1 = E := ⟨_, rfl⟩
  have HEe := Lib.hid hE
  have hE2 : E = D + 1 := hE.symm
  have hE11 : E ≤ 11 := by have := h.hD; omega
  clear h hlf2 hlf hE
  obtain ⟨z, hz⟩ : ∃ z, plcI S D f lf = z := ⟨_, rfl⟩
  have HZt : Hid (∀ k s, s < S → k ≤ D → z (k * S + s) = (f, ((nd D lf k * S + s : Nat) : Int)) ∧ k * S + s < L) := Lib.hid (fun k s hs hk => by rw [← hz]; exact plc_tree hs HL.out hk)
  obtain ⟨f1, hf1⟩ : ∃ x, x = wrap64 (f + 1) := ⟨_, rfl⟩
  have HZs : Hid (∀ i : Nat, z (L + i) = (f1, (i : Int))) := Lib.hid (fun i => by rw [← hz, hf1]; exact plc_stash HL.out)
  have HF1 := Lib.hid hf1
  rw [hz]
  clear hz hf1
  obtain ⟨b, hb⟩ : ∃ b, w.heap.size = b := ⟨_, rfl⟩
  obtain ⟨w2, hw2⟩ : ∃ w2, w.alloc (.cells #[.int .i64 (N : Int), .int .i64 (S : Int), .int .i64 (T : Int)] 28) = w2 := ⟨_, rfl⟩
  have hx : Box w2 b 28 #[.int .i64 (N : Int), .int .i64 (S : Int), .int .i64 (T : Int)] := by rw [← hw2, ← hb]; exact Box.new w _ _
  have hs2 : w2.heap.size = b + 1 := by rw [← hw2, ← hb]; simp
  have hbl : Below w.heap.size w w2 := by rw [← hw2]; exact (Below.refl _ w).alloc (Nat.le_refl _) _
  have HB := Lib.hid hbl
  have HX := Lib.hid hx
  have HS2 := Lib.hid hs2
  have HW2 := Lib.hid hw2
  have HBb := Lib.hid hb
  have k0 : w2.cell? ⟨b, 0, none⟩ = some (.int .i64 (N : Int)) := hx.cell 0
  clear hx hbl hw2 hb hs2
  go_enter Tryz.func46, Tryz.ntmps46
  go_upto_region 1 with fail
  rw [HBb.out, HW2.out]
  go_wp2_with fail
  refine (HW.out _).mono ?_
  rintro e w3 ⟨gw, cw, rfl, hcw, hir, hb3⟩
  rw [HEe.out]
  have hgw : b + 1 ≤ gw ∧ gw < w3.heap.size := ⟨by have := hir.old; have := HS2.out; omega, hir.lt⟩
  have HX3 := Lib.hid (HX.out.of (hb3.block _ HX.out.lt))
  have HIr := Lib.hid hir.cell
  have HB3 := Lib.hid (HB.out.trans (hb3.mono HB.out.size))
  have HA : Hid (IpAt 98 w3 (.slice none 0 0) (ipL z 0) w3) := Lib.hid (IpAt.nil _ w3)
  have hbs : b < w3.heap.size := by omega
  clear hb3 hir k0 HX HW hcw
  have HE2 := Lib.hid hE2
  clear hE2
  go_wp2_with fail
  go_loopw [7, 9] (fun v7 v9 wr => ∃ k : Nat, v9 = .int .i64 k ∧ k ≤ E ∧ IpAt 98 w3 v7 (ipL z (k * S)) wr) (fun _ v _ => E - (intOf v).toNat)
  case atStart => exact ⟨0, rfl, by omega, by rw [Nat.zero_mul]; exact HA.out⟩
  case round =>
    obtain ⟨k, rfl, hk, hS⟩ := hrel
    clear HA
    have HS := Lib.hid hS
    by_cases hkE : k < E
    · have hkD : k ≤ D := by have := HE2.out; omega
      have hnd := nd_in D lf k hkD HLf.out
      have hmul : (2 * 2 ^ D - 1) * S ≤ 2047 * 8 := Nat.mul_le_mul (by rw [HN.out]; omega) s8
      have hmul2 : (nd D lf k + 1) * S ≤ (2 * 2 ^ D - 1) * S := Nat.mul_le_mul_right _ hnd
      rw [Nat.add_mul, Nat.one_mul] at hmul2
      have HZk := Lib.hid (fun s (hs : s < S) => HZt.out k s hs hkD)
      have HCk := Lib.hid (HIr.out k (by omega))
      generalize hndq : nd D lf k = nk at *
      have hms : (nk : Int) * (S : Int) = ((nk * S : Nat) : Int) := by simp
      have hwm : IntKind.i64.wrap ((nk : Int) * (S : Int)) = ((nk * S : Nat) : Int) := by rw [hms, IntKind.wrap_i64]; omega
      have hmb : nk * S ≤ 20000 := by omega
      have e1 : (k + 1) * S = k * S + S := by rw [Nat.add_mul, Nat.one_mul]
      have HE1 := Lib.hid e1
      clear hS hnd hmul hmul2 hndq hms e1
      generalize nk * S = m at *
      generalize k * S = ks at *
      go_wp2_with fail
      go_loopw [7, 10] (fun v7 v10 wr => ∃ s : Nat, v10 = .int .i64 s ∧ s ≤ S ∧ IpAt 98 w3 v7 (ipL z (ks + s)) wr) (fun _ v _ => S - (intOf v).toNat)
      case atStart => exact ⟨0, rfl, by omega, HS.out⟩
      case round =>
        obtain ⟨s, rfl, hs, hSs⟩ := hrel
        have HSs := Lib.hid hSs
        have hXr := HX3.out.of (hSs.below.block b hbs)
        have k1 : wr.cell? ⟨b, 1, none⟩ = some (.int .i64 (S : Int)) := hXr.cell 1
        have HXr := Lib.hid hXr
        clear hXr
        by_cases hsS : s < S
        · obtain ⟨q, hq⟩ : ∃ q, m + s = q := ⟨_, rfl⟩
          have hwa : IntKind.i64.wrap ((m : Int) + (s : Int)) = (q : Int) := by rw [IntKind.wrap_i64]; omega
          have hll := ipL_len z (ks + s)
          have HSu := Lib.hid (ipL_succ z (ks + s))
          have hzk := HZk.out s hsS
          rw [hzk.1, hq] at HSu
          have hksL := hzk.2
          have hrow : wr.cell? ⟨gw, k, none⟩ = some (.int .i64 (nk : Int)) := (World.cell?_of_block (w := w3) (hSs.below.block gw hgw.2)).trans HCk.out
          clear hSs hzk hq
          generalize hlq : ipL z (ks + s) = lq at *
          have hlb : lq.length ≤ 256 := by omega
          clear hlq hll hksL
          have HS5 := Lib.hid (HSs.out.grow ((Below.refl wr.heap.size wr).drew))
          have HR5 : Hid (wr.drew.cell? ⟨gw, k, none⟩ = some (.int .i64 (nk : Int))) := Lib.hid hrow
          have hXs := HXr.out.drewN 1
          go_upto_region 9 with fail
          clear HSs k1 hrow
          refine held_s (S := fun w' => Box w' b 28 #[.int .i64 (N : Int), .int .i64 (S : Int), .int .i64 (T : Int)] ∧ w'.cell? ⟨gw, k, none⟩ = some (.int .i64 (nk : Int))) 15 rfl (by kernel_rfl) ⟨hXs, HR5.out⟩ (fun hHeld => ?_)
          simp only [Array.replicate_succ, Array.replicate_zero, List.push_toArray, List.nil_append, List.cons_append]
          clear hXs
          generalize wr.drew = w5 at *
          refine wpAnyH_take (i := 0) (oi := ⟨some 28, _, _, _, _, _⟩) (v := (u7)) rfl (by kernel_rfl) (by kernel_rfl) (by kernel_rfl) (fun _ _ _ h => h) (Or.inl ⟨by rfl, fun w' hw => by go_simp⟩) hHeld ?_
          try simp only [Act.put, List.setIfInBounds_toArray, List.set_cons_zero, List.set_cons_succ]
          refine wpAnyH_take (i := 1) (oi := ⟨some 29, _, _, _, _, _⟩) (v := (.int .i64 f)) rfl (by kernel_rfl) (by kernel_rfl) (by kernel_rfl) (fun _ _ _ h => h) (Or.inl ⟨by rfl, fun w' hw => by go_simp⟩) hHeld ?_
          try simp only [Act.put, List.setIfInBounds_toArray, List.set_cons_zero, List.set_cons_succ]
          refine wpAnyH_take (i := 2) (oi := ⟨some 30, _, _, _, _, _⟩) (v := (.slice (some ⟨gw, 0, none⟩) E cw)) rfl (by kernel_rfl) (by kernel_rfl) (by kernel_rfl) (fun _ _ _ h => h) (Or.inl ⟨by rfl, fun w' hw => by go_simp⟩) hHeld ?_
          try simp only [Act.put, List.setIfInBounds_toArray, List.set_cons_zero, List.set_cons_succ]
          refine wpAnyH_take (i := 3) (oi := ⟨some 31, _, _, _, _, _⟩) (v := (.int .i64 (k : Int))) rfl (by kernel_rfl) (by kernel_rfl) (by kernel_rfl) (fun _ _ _ h => h) (Or.inl ⟨by rfl, fun w' hw => by go_simp⟩) hHeld ?_
          try simp only [Act.put, List.setIfInBounds_toArray, List.set_cons_zero, List.set_cons_succ]
          refine wpAnyH_take (i := 4) (oi := ⟨some 32, _, _, _, _, _⟩) (v := (.pointer (some ⟨gw, k, none⟩))) rfl (by kernel_rfl) (by kernel_rfl) (by kernel_rfl) (fun _ _ _ h => h) (Or.inl ⟨by rfl, fun w' hw => by go_simp⟩) hHeld ?_
          try simp only [Act.put, List.setIfInBounds_toArray, List.set_cons_zero, List.set_cons_succ]
          refine wpAnyH_take (i := 5) (oi := ⟨some 33, _, _, _, _, _⟩) (v := (.int .i64 (nk : Int))) rfl (by kernel_rfl) (by kernel_rfl) (by kernel_rfl) (fun _ _ _ h => h) (Or.inl ⟨by rfl, fun w' hw => by (have c0 := hw.2; go_simp)⟩) hHeld ?_
          try simp only [Act.put, List.setIfInBounds_toArray, List.set_cons_zero, List.set_cons_succ]
          refine wpAnyH_take (i := 6) (oi := ⟨some 34, _, _, _, _, _⟩) (v := (.pointer (some ⟨b, 1, none⟩))) rfl (by kernel_rfl) (by kernel_rfl) (by kernel_rfl) (fun _ _ _ h => h) (Or.inl ⟨by rfl, fun w' hw => by go_simp⟩) hHeld ?_
          try simp only [Act.put, List.setIfInBounds_toArray, List.set_cons_zero, List.set_cons_succ]
          refine wpAnyH_take (i := 7) (oi := ⟨some 35, _, _, _, _, _⟩) (v := (.int .i64 (S : Int))) rfl (by kernel_rfl) (by kernel_rfl) (by kernel_rfl) (fun _ _ _ h => h) (Or.inl ⟨by rfl, fun w' hw => by (have k0 := hw.1.cell 0; have k1 := hw.1.cell 1; have k2 := hw.1.cell 2; go_simp)⟩) hHeld ?_
          try simp only [Act.put, List.setIfInBounds_toArray, List.set_cons_zero, List.set_cons_succ]
          refine wpAnyH_take (i := 8) (oi := ⟨some 36, _, _, _, _, _⟩) (v := (.int .i64 (m : Int))) rfl (by kernel_rfl) (by kernel_rfl) (by kernel_rfl) (fun _ _ _ h => h) (Or.inl ⟨by rfl, fun w' hw => by go_simp⟩) hHeld ?_
          try simp only [Act.put, List.setIfInBounds_toArray, List.set_cons_zero, List.set_cons_succ]
          refine wpAnyH_take (i := 9) (oi := ⟨some 37, _, _, _, _, _⟩) (v := (.int .i64 (s : Int))) rfl (by kernel_rfl) (by kernel_rfl) (by kernel_rfl) (fun _ _ _ h => h) (Or.inl ⟨by rfl, fun w' hw => by go_simp⟩) hHeld ?_
          try simp only [Act.put, List.setIfInBounds_toArray, List.set_cons_zero, List.set_cons_succ]
          refine wpAnyH_take (i := 10) (oi := ⟨some 38, _, _, _, _, _⟩) (v := (.int .i64 (q : Int))) rfl (by kernel_rfl) (by kernel_rfl) (by kernel_rfl) (fun _ _ _ h => h) (Or.inl ⟨by rfl, fun w' hw => by go_simp⟩) hHeld ?_
          try simp only [Act.put, List.setIfInBounds_toArray, List.set_cons_zero, List.set_cons_succ]
          refine wpAnyH_take (i := 11) (oi := ⟨some 39, _, _, _, _, _⟩) (v := (.agg #[.int .i64 f, .int .i64 (q : Int)])) rfl (by kernel_rfl) (by kernel_rfl) (by kernel_rfl) (fun _ _ _ h => h) (Or.inl ⟨by rfl, fun w' hw => by go_simp⟩) hHeld ?_
          try simp only [Act.put, List.setIfInBounds_toArray, List.set_cons_zero, List.set_cons_succ]
          refine one_ready 12 rfl (by kernel_rfl) (fun K hK => ?_)
          go_simp
          have hXa : Box (w5.alloc (.cells #[.int .i64 f, .int .i64 (q : Int)] 98)) b 28 #[.int .i64 (N : Int), .int .i64 (S : Int), .int .i64 (T : Int)] := hHeld.1.alloc _
          have hRa : (w5.alloc (.cells #[.int .i64 f, .int .i64 (q : Int)] 98)).cell? ⟨gw, k, none⟩ = some (.int .i64 (nk : Int)) := (World.cell?_of_block (w := w5) (Below.heap_alloc w5 _ gw (by have := HS5.out.below.size; omega))).trans hHeld.2
          have hX4 := hHeld.1
          have hR4 := hHeld.2
          have hsz : w3.heap.size ≤ w5.heap.size := HS5.out.below.size
          refine hK.out _ _ ⟨hXa, hRa⟩ (fun _ => ?_)
          clear hK K
          simp only [List.setIfInBounds_toArray, List.set_cons_zero, List.set_cons_succ]
          refine one_ready 13 rfl (by kernel_rfl) (fun K hK => ?_)
          refine step_append_where rfl (.tmp 28) (.tmp 40) 95 rfl w3.heap.size 98 (.agg #[.int .i64 0, .int .i64 0]) 2 16 Tryz.underlying95 infoPlace rfl (by decide) u7 lq.length (ipl lq) rfl (row_stay HS5.out.own (fun b _ hb => Below.heap_alloc _ _ b hb)) ⟨w5.heap.size, 0, none⟩ 1 1 [.int .i64 f, .int .i64 (q : Int)] rfl rfl ?a0 ?a1 ?a2 ?a3 ?a4 ?_
          case a0 => exact new_pair w5 _ _ _ rfl
          case a1 => simp [Value.oneCell']
          case a2 => simp only [maxLen]; omega
          case a3 => omega
          case a4 => simp; omega
          intro A2 cap2 w7 hown hgr _
          have hX7 := hX4.of (HS5.out.keep hgr b hbs)
          have hR7 : w7.cell? ⟨gw, k, none⟩ = some (.int .i64 (nk : Int)) := (World.cell?_of_block (w := w5) (HS5.out.keep hgr gw hgw.2)).trans hR4
          have HS7 := Lib.hid (HS5.out.next (x := (f, (q : Int))) hown hgr)
          clear hown hgr HS5 hXa hRa hHeld
          refine hK.out _ _ ⟨hX7, hR7⟩ (fun hHeld => ?_)
          clear hK K
          simp only [List.setIfInBounds_toArray, List.set_cons_zero, List.set_cons_succ]
          refine wpAnyH_take (i := 14) (oi := ⟨some 7, _, _, _, _, _⟩) (v := (.slice A2 (lq.length + 1) cap2)) rfl (by kernel_rfl) (by kernel_rfl) (by kernel_rfl) (fun _ _ _ h => h) (Or.inl ⟨by rfl, fun w' hw => by go_simp⟩) hHeld ?_
          try simp only [Act.put, List.setIfInBounds_toArray, List.set_cons_zero, List.set_cons_succ]
          refine wpAnyH_done (by kernel_rfl) ?_ _
          clear hX4 hR4 hX7 hR7
          go_wp2_with fail
          go_roundw
          case rel => exact ⟨s + 1, by go_num, by omega, by rw [← Nat.add_assoc, HSu.out]; exact HS7.out⟩
          case measure => simp [intOf]; omega
        · obtain rfl : s = S := by omega
          clear hSs
          go_wp2_with fail
          go_roundw
          case rel => exact ⟨k + 1, by go_num, by omega, by rw [HE1.out]; exact HSs.out⟩
          case measure => simp [intOf]; omega
    · obtain rfl : k = E := by omega
      have HS1 : Hid (IpAt 98 w3 u7 (ipL z (L + 0)) wr) := Lib.hid (by have := HS.out; rw [HE2.out, HL.out] at this; exact this)
      clear hS HS hkE hk
      go_wp2_with fail
      go_loopw [7, 11] (fun v7 v11 wr => ∃ i : Nat, v11 = .int .i64 i ∧ i ≤ T ∧ IpAt 98 w3 v7 (ipL z (L + i)) wr) (fun _ v _ => T - (intOf v).toNat)
      case atStart => exact ⟨0, rfl, by omega, HS1.out⟩
      case round =>
        obtain ⟨i, rfl, hi, hSi⟩ := hrel
        clear HS1
        have HSi := Lib.hid hSi
        have hXi := HX3.out.of (hSi.below.block b hbs)
        have k2 : wr.cell? ⟨b, 2, none⟩ = some (.int .i64 (T : Int)) := hXi.cell 2
        clear hSi hXi
        by_cases hiT : i < T
        · have hll := ipL_len z (L + i)
          have HSu := Lib.hid (ipL_succ z (L + i))
          rw [HZs.out i] at HSu
          have hsz : w3.heap.size ≤ wr.heap.size := HSi.out.below.size
          generalize hlq : ipL z (L + i) = lq at *
          have hlb : lq.length ≤ 256 := by omega
          clear hlq hll
          go_upto_region 13 with fail
          clear k2
          have hf1 : wrap64 (f + 1) = f1 := HF1.out.symm
          go_wp2_with (with_reducible refine wpList_append_where _ rfl (.tmp 48) (.tmp 53) 95 rfl w3.heap.size 98 (.agg #[.int .i64 0, .int .i64 0]) 2 16 Tryz.underlying95 infoPlace rfl (by decide) u7 lq.length (ipl lq) rfl (row_stay HSi.out.own (fun b _ hb => Below.heap_alloc _ _ b hb)) ⟨wr.heap.size, 0, none⟩ 1 1 [.int .i64 f1, .int .i64 (i : Int)] rfl rfl ?b0 ?b1 ?b2 ?b3 ?b4 ?_)
          case b0 => first | exact new_pair wr _ _ _ rfl | exact fun j u hu => hu
          case b1 => simp [Value.oneCell']
          case b2 => simp only [maxLen]; omega
          case b3 => omega
          case b4 => first | omega | (simp; omega)
          intro A2 cap2 w7 hown hgr _
          have HS7 := Lib.hid (HSi.out.next (x := (f1, (i : Int))) hown hgr)
          clear hown hgr HSi hf1
          go_wp2_with fail
          go_roundw
          case rel => exact ⟨i + 1, by go_num, by omega, by rw [← Nat.add_assoc, HSu.out]; exact HS7.out⟩
          case measure => simp [intOf]; omega
        · obtain rfl : i = T := by omega
          have HE : Hid (IpPost w (L + i) z (.returned u7) wr) := Lib.hid (by
            obtain ⟨g, cap, he, hs, hb⟩ := ip_post HSi.out (by omega) rfl
            have h1 := HB3.out.size
            exact ⟨g, cap, he, ⟨Nat.le_trans h1 hs.old, hs.lt, hs.cell⟩, HB3.out.trans (hb.mono h1)⟩)
          clear HSi
          go_wp2_with fail
          go_ret
          exact HE.out
end Go.Proofs.YtmageeohnfomnaaGreat

