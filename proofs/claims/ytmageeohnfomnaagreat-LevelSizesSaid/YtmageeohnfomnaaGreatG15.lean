/- Texts of ours put together: LevelConf, CfMath, LevelSizes, CfLevel. -/
import Derived.Below
import Derived.BigQuiet
import Derived.BigRegion
import Derived.ChangeArms
import Derived.ChangeSlices
import Derived.Deep.Cut
import Derived.Deep.Draws
import Derived.Deep.MidRow
import Derived.Deep.OwnRows
import Derived.Deep.Quiet
import Derived.Deep.QuietTactic
import Derived.Deep.RegionHeld
import Derived.Deep.RegionHeld3
import Derived.Deep.Slices
import Derived.Laws.AppendOwn
import Derived.Laws.BitsAllLaws
import Derived.Lib.BitFns
import Derived.Lib.Hide
import Derived.OpenShut
import Derived.OwnWalk
import Derived.ProofKit
import Derived.RegionTactic
import Derived.RowKit3
import Derived.Shelf.Strconv.Itoa0
import Derived.SizedLaws
import Derived.StillTailTactics
import Derived.WalkKit
import Derived.WideShapes
import Derived.Test.YtmageeohnfomnaaGreatProg
import Derived.Test.YtmageeohnfomnaaGreatG0
import Derived.Test.YtmageeohnfomnaaGreatG3
import Derived.Test.YtmageeohnfomnaaGreatG1
import Derived.Test.YtmageeohnfomnaaGreatG8
import Derived.Test.YtmageeohnfomnaaGreatG4
import Derived.Test.YtmageeohnfomnaaGreatG5
import Derived.Test.YtmageeohnfomnaaGreatG2
import Derived.Test.YtmageeohnfomnaaGreatG9
import Derived.Test.YtmageeohnfomnaaGreatG10
import Derived.Test.YtmageeohnfomnaaGreatG11
import Derived.Test.YtmageeohnfomnaaGreatG13
import Derived.Test.YtmageeohnfomnaaGreatG6
import Derived.Test.YtmageeohnfomnaaGreatG14
namespace Go.Proofs.YtmageeohnfomnaaGreat
set_option maxRecDepth 100000
open Go.RowKit Go.ChangeShapes Go.WideShapes Go.ChangeAt

theorem rd_small (m : Nat) (h1 : 1 < m) (h2 : m ≤ 200) : re (m : Int) ≤ 8 ∧ rd (m : Int) = ((2 ^ re (m : Int) : Nat) : Int) ∧ m ≤ 2 ^ re (m : Int) := by
  have c : ((2 ^ re (m : Int) : Nat) : Int) = rd (m : Int) := by unfold rd; simp
  obtain ⟨a, b⟩ := rd_mid (m : Int) (by omega) (by omega)
  have b := b (by omega)
  rw [← c] at a b
  refine ⟨?_, c.symm, by omega⟩
  apply Nat.le_of_not_lt
  intro h
  have h2 : 2 ^ 9 ≤ 2 ^ re (m : Int) := Nat.pow_le_pow_right (by decide) h
  omega
structure Conf (N S T D L n Q P : Nat) : Prop where
  hD : D ≤ 10
  hN : 2 ^ D = N
  s1 : 1 ≤ S
  s8 : S ≤ 8
  t1 : 1 ≤ T
  t64 : T ≤ 64
  hL : (D + 1) * S = L
  hn : L + T + 1 = n
  hQ : 2 ^ P = Q
  hP : P ≤ 8
  hR : rd (n : Int) = (Q : Int)
  le : n ≤ Q
section
variable {N S T D L n Q P : Nat}
theorem Conf.n1 (h : Conf N S T D L n Q P) : 1 ≤ N ∧ N ≤ 1024 := by
  have := tree_le D h.hD
  have h2 := Nat.two_pow_pos D
  rw [h.hN] at this h2
  omega
theorem Conf.big (h : Conf N S T D L n Q P) : L ≤ 88 ∧ 3 ≤ n ∧ n ≤ 153 ∧ Q ≤ 256 := by
  have h1 := (mul_places h.hD h.s8 h.hL).2
  have h2 := h.hn
  have h3 := h.t1
  have h4 := h.t64
  have h5 : 2 ^ P ≤ 2 ^ 8 := Nat.pow_le_pow_right (by decide) h.hP
  rw [h.hQ] at h5
  have h6 : 1 ≤ L := by rw [← h.hL]; exact Nat.le_trans h.s1 (Nat.le_mul_of_pos_left S (by omega))
  omega
theorem Conf.mk' (hD : D ≤ 10) (hN : 2 ^ D = N) (s1 : 1 ≤ S) (s8 : S ≤ 8) (t1 : 1 ≤ T) (t64 : T ≤ 64) : ∃ Q P, Conf N S T D ((D + 1) * S) ((D + 1) * S + T + 1) Q P := by
  have hl := (mul_places hD s8 rfl).2
  obtain ⟨h1, h2, h3⟩ := rd_small ((D + 1) * S + T + 1) (by omega) (by omega)
  exact ⟨_, _, hD, hN, s1, s8, t1, t64, rfl, rfl, rfl, h1, h2, h3⟩
end
set_option maxHeartbeats 1000000 in
theorem shape_in (N : Nat) (S T : Int) (D : Nat) (w : World) (hD : D ≤ 10) (hN : 2 ^ D = N) :
    Calls Tryz.prog 31 #[.agg #[.int .i64 (N : Int), .int .i64 (S : Int), .int .i64 (T : Int)]] w fun e w' => e = .returned (.agg #[.int .i64 (D : Int), .int .i64 (S : Int), .int .i64 (T : Int)]) ∧ Below w.heap.size w w' := by
  have hd := dpt_two hD hN
  have hn := tree_le D hD
  rw [hN] at hn
  have HD := Lib.hid (fun W => path_depth (N : Int) W (by omega) (by omega))
  rw [hd] at HD
  clear hd hn hN
  go_enter Tryz.func31, Tryz.ntmps31
  go_wp2_with fail
  obtain ⟨b, hb⟩ : ∃ b, w.heap.size = b := ⟨_, rfl⟩
  obtain ⟨w2, hw2⟩ : ∃ w2, ((w.alloc (.cells #[.int .i64 (N : Int), .int .i64 (S : Int), .int .i64 (T : Int)] 23)).alloc (.cells #[.int .i64 0, .int .i64 0, .int .i64 0] 68)) = w2 := ⟨_, rfl⟩
  have hbx : Box w2 b 23 #[.int .i64 (N : Int), .int .i64 (S : Int), .int .i64 (T : Int)] := by rw [← hw2, ← hb]; exact (Box.new w _ _).alloc _
  have hby : Box w2 (b + 1) 68 #[.int .i64 0, .int .i64 0, .int .i64 0] := by
    rw [← hw2, ← hb]
    have := Box.new (w.alloc (.cells #[.int .i64 (N : Int), .int .i64 (S : Int), .int .i64 (T : Int)] 23)) 68 #[.int .i64 0, .int .i64 0, .int .i64 0]
    simpa using this
  have hbl : Below w.heap.size w w2 := by rw [← hw2]; exact ((Below.refl _ w).alloc (Nat.le_refl _) _).alloc (by simp) _
  have hbb : ¬ b + 1 = b := by omega
  simp only [hw2, hb]
  clear hw2
  refine held_s (S := fun w' => Box w' b 23 #[.int .i64 (N : Int), .int .i64 (S : Int), .int .i64 (T : Int)] ∧ Below w.heap.size w w') 9 rfl (by kernel_rfl) ⟨hbx.drewN 1, hbl.trans ((Below.refl _ _).drew)⟩ (fun hHeld => ?_)
  have y0 := hby.cell 0
  have y1 := hby.cell 1
  have y2 := hby.cell 2
  have f0 := hby.frozen 0
  have f1 := hby.frozen 1
  have f2 := hby.frozen 2
  simp only [Array.replicate_succ, Array.replicate_zero, List.push_toArray, List.nil_append, List.cons_append]
  refine wpAnyH_take (i := 0) (oi := ⟨some 3, _, _, _, _, _⟩) (v := (.pointer (some ⟨b, 0, none⟩))) rfl (by kernel_rfl) (by kernel_rfl) (by kernel_rfl) (fun _ _ _ h => h) (Or.inl ⟨by rfl, fun w' hw => by go_simp⟩) hHeld ?_
  try simp only [Act.put, List.setIfInBounds_toArray, List.set_cons_zero, List.set_cons_succ]
  refine wpAnyH_take (i := 1) (oi := ⟨some 4, _, _, _, _, _⟩) (v := (.int .i64 (N : Int))) rfl (by kernel_rfl) (by kernel_rfl) (by kernel_rfl) (fun _ _ _ h => h) (Or.inl ⟨by rfl, fun w' hw => by (have k0 := hw.1.cell 0; have k1 := hw.1.cell 1; have k2 := hw.1.cell 2; go_simp)⟩) hHeld ?_
  try simp only [Act.put, List.setIfInBounds_toArray, List.set_cons_zero, List.set_cons_succ]
  refine wpAnyH_take (i := 3) (oi := ⟨some 6, _, _, _, _, _⟩) (v := (.pointer (some ⟨b, 1, none⟩))) rfl (by kernel_rfl) (by kernel_rfl) (by kernel_rfl) (fun _ _ _ h => h) (Or.inl ⟨by rfl, fun w' hw => by go_simp⟩) hHeld ?_
  try simp only [Act.put, List.setIfInBounds_toArray, List.set_cons_zero, List.set_cons_succ]
  refine wpAnyH_take (i := 4) (oi := ⟨some 7, _, _, _, _, _⟩) (v := (.int .i64 (S : Int))) rfl (by kernel_rfl) (by kernel_rfl) (by kernel_rfl) (fun _ _ _ h => h) (Or.inl ⟨by rfl, fun w' hw => by (have k0 := hw.1.cell 0; have k1 := hw.1.cell 1; have k2 := hw.1.cell 2; go_simp)⟩) hHeld ?_
  try simp only [Act.put, List.setIfInBounds_toArray, List.set_cons_zero, List.set_cons_succ]
  refine wpAnyH_take (i := 5) (oi := ⟨some 8, _, _, _, _, _⟩) (v := (.pointer (some ⟨b, 2, none⟩))) rfl (by kernel_rfl) (by kernel_rfl) (by kernel_rfl) (fun _ _ _ h => h) (Or.inl ⟨by rfl, fun w' hw => by go_simp⟩) hHeld ?_
  try simp only [Act.put, List.setIfInBounds_toArray, List.set_cons_zero, List.set_cons_succ]
  refine wpAnyH_take (i := 6) (oi := ⟨some 9, _, _, _, _, _⟩) (v := (.int .i64 (T : Int))) rfl (by kernel_rfl) (by kernel_rfl) (by kernel_rfl) (fun _ _ _ h => h) (Or.inl ⟨by rfl, fun w' hw => by (have k0 := hw.1.cell 0; have k1 := hw.1.cell 1; have k2 := hw.1.cell 2; go_simp)⟩) hHeld ?_
  try simp only [Act.put, List.setIfInBounds_toArray, List.set_cons_zero, List.set_cons_succ]
  refine one_ready 2 rfl (by kernel_rfl) (fun K hK => ?_)
  go_simp
  refine (HD.out _).mono ?_
  rintro e w3 ⟨rfl, rfl⟩
  refine hK.out _ _ hHeld (fun hHeld => ?_)
  clear hK K
  try simp only [List.setIfInBounds_toArray, List.set_cons_zero, List.set_cons_succ]
  refine wpAnyH_take (i := 7) (oi := ⟨some 10, _, _, _, _, _⟩) (v := (.agg #[.int .i64 (D : Int), .int .i64 (S : Int), .int .i64 (T : Int)])) rfl (by kernel_rfl) (by kernel_rfl) (by kernel_rfl) (fun _ _ _ h => h) (Or.inl ⟨by rfl, fun w' hw => by go_simp⟩) hHeld ?_
  try simp only [Act.put, List.setIfInBounds_toArray, List.set_cons_zero, List.set_cons_succ]
  refine one_ready 8 rfl (by kernel_rfl) (fun K hK => ?_)
  go_simp
  have ho : Only (just (b + 1)) w2 ((((w2.setCell ⟨b + 1, 0, none⟩ (.int .i64 (D : Int))).setCell ⟨b + 1, 1, none⟩ (.int .i64 (S : Int))).setCell ⟨b + 1, 2, none⟩ (.int .i64 (T : Int))).drew) := ((((Only.refl (just (b + 1)) w2).setCell (p := ⟨b + 1, 0, none⟩) (.inl (just_self _)) (.int .i64 (D : Int))).setCell (p := ⟨b + 1, 1, none⟩) (.inl (just_self _)) (.int .i64 (S : Int))).setCell (p := ⟨b + 1, 2, none⟩) (.inl (just_self _)) (.int .i64 (T : Int))).drew
  have hE : Hid (Below w.heap.size w _) := Lib.hid (below_only hbl ho hbl.size (fun i hi e => by have e : i = b + 1 := e; omega))
  have hz : Box _ (b + 1) 68 #[.int .i64 (D : Int), .int .i64 (S : Int), .int .i64 (T : Int)] := (((hby.put 0 (.int .i64 (D : Int))).put 1 (.int .i64 (S : Int))).put 2 (.int .i64 (T : Int))).drewN 1
  have hZ := Lib.hid hz
  refine hK.out _ _ ⟨hbx.only ho (just_ne (fun e => by omega)), hE.out⟩ (fun hHeld => ?_)
  clear hK K ho hz
  refine wpAnyH_done (by kernel_rfl) ?_ _
  have z0 := hZ.out.cell 0
  have z1 := hZ.out.cell 1
  have z2 := hZ.out.cell 2
  go_wp2_with fail
  exact bodyPost_ret (v := .agg #[.int .i64 (D : Int), .int .i64 (S : Int), .int .i64 (T : Int)]) (results_one Tryz.results31 rfl (load_box hZ.out Tryz.underlying68 rfl (by kernel_rfl))) rfl ⟨rfl, hE.out⟩
theorem shape_of {N S T D L n Q P : Nat} (h : Conf N S T D L n Q P) (w : World) : Calls Tryz.prog 31 #[.agg #[.int .i64 (N : Int), .int .i64 (S : Int), .int .i64 (T : Int)]] w fun e w' => e = .returned (.agg #[.int .i64 (D : Int), .int .i64 (S : Int), .int .i64 (T : Int)]) ∧ Below w.heap.size w w' := shape_in N S T D w h.hD h.hN
set_option maxHeartbeats 1000000 in
theorem round_of {N S T D L n Q P : Nat} (h : Conf N S T D L n Q P) (w : World) : Calls Tryz.prog 24 #[.agg #[.int .i64 (N : Int), .int .i64 (S : Int), .int .i64 (T : Int)]] w fun e w' => e = .returned (.int .i64 (Q : Int)) ∧ Below w.heap.size w w' := by
  have HS := Lib.hid (fun W => shape_of h W)
  have HP := Lib.hid (fun W => places_in D S T L n h.hD h.s1 h.s8 h.t1 h.t64 h.hL h.hn W)
  have HR := Lib.hid (fun W => round_any (n : Int) W (by have := h.big; omega) (by have := h.big; omega))
  rw [h.hR] at HR
  go_enter Tryz.func24, Tryz.ntmps24
  go_wp2_with fail
  refine (HS.out _).mono ?_
  rintro e w1 ⟨rfl, hb1⟩
  have HB := Lib.hid (((Below.refl _ w).alloc (Nat.le_refl _) (.cells #[.int .i64 (N : Int), .int .i64 (S : Int), .int .i64 (T : Int)] 23)).trans (hb1.mono (by simp)))
  clear hb1
  go_wp2_with fail
  refine (HP.out _).mono ?_
  rintro e w2 ⟨rfl, hb2⟩
  have HB2 := Lib.hid (HB.out.trans (hb2.mono HB.out.size))
  clear hb2
  go_wp2_with fail
  refine (HR.out _).mono ?_
  rintro e w3 ⟨rfl, rfl⟩
  go_wp2_with fail
  go_ret
  exact ⟨rfl, HB2.out⟩
def isLf (N lf : Int) : Bool := decide (0 ≤ lf) && decide (lf < N)
set_option maxHeartbeats 1000000 in
theorem leaf_any (N S T lf : Int) (w : World) : Calls Tryz.prog 40 #[.agg #[.int .i64 N, .int .i64 S, .int .i64 T], .int .i64 lf] w fun e w' => e = .returned (.bool (isLf N lf)) ∧ Below w.heap.size w w' := by
  unfold isLf
  by_cases h : 0 ≤ lf
  · have d : decide (0 ≤ lf) = true := decide_eq_true h
    rw [d, Bool.true_and]
    go_enter Tryz.func40, Tryz.ntmps40
    go_wp2_with fail
    go_ret
    exact ⟨rfl, (Below.refl _ w).alloc (Nat.le_refl _) _⟩
  · have d : decide (0 ≤ lf) = false := decide_eq_false h
    rw [d, Bool.false_and]
    go_enter Tryz.func40, Tryz.ntmps40
    go_wp2_with fail
    go_ret
    exact ⟨rfl, (Below.refl _ w).alloc (Nat.le_refl _) _⟩
set_option maxHeartbeats 1000000 in
theorem tree_at (f : Nat) (N S T : Int) (w : World) : Calls Tryz.prog 36 #[.agg #[.int .i64 (f : Int), .int .i64 N, .int .i64 S, .int .i64 T]] w fun e w' => e = .returned (.int .i64 (f : Int)) ∧ Below w.heap.size w w' := by
  go_enter Tryz.func36, Tryz.ntmps36
  go_wp2_with fail
  go_ret
  exact ⟨rfl, (Below.refl _ w).alloc (Nat.le_refl _) _⟩
set_option maxHeartbeats 1000000 in
theorem stash_at (f : Nat) (N S T : Int) (w : World) (hf : f ≤ 100) : Calls Tryz.prog 37 #[.agg #[.int .i64 (f : Int), .int .i64 N, .int .i64 S, .int .i64 T]] w fun e w' => e = .returned (.int .i64 ((f + 1 : Nat) : Int)) ∧ Below w.heap.size w w' := by
  go_enter Tryz.func37, Tryz.ntmps37
  go_wp2_with fail
  go_ret
  exact ⟨ret_int (by omega), (Below.refl _ w).alloc (Nat.le_refl _) _⟩
set_option maxHeartbeats 1000000 in
theorem table_at (f : Nat) (N S T : Int) (w : World) (hf : f ≤ 100) : Calls Tryz.prog 38 #[.agg #[.int .i64 (f : Int), .int .i64 N, .int .i64 S, .int .i64 T]] w fun e w' => e = .returned (.int .i64 ((f + 2 : Nat) : Int)) ∧ Below w.heap.size w w' := by
  go_enter Tryz.func38, Tryz.ntmps38
  go_wp2_with fail
  go_ret
  exact ⟨ret_int (by omega), (Below.refl _ w).alloc (Nat.le_refl _) _⟩
set_option maxHeartbeats 1000000 in
theorem has_any (g : Nat → Int) (w : World) : Calls Tryz.prog 58 #[.agg (CA g)] w fun e w' => e = .returned (.bool (g 0 == 1)) ∧ Below w.heap.size w w' := by
  have c0 : (w.alloc (.cells (CA g) 103)).cell? ⟨w.heap.size, 0, none⟩ = some (.int .u64 (g 0)) := (Box.new w 103 (CA g)).cell 0
  have HB := Lib.hid ((Below.refl _ w).alloc (Nat.le_refl _) (.cells (CA g) 103))
  go_enter Tryz.func58, Tryz.ntmps58
  go_wp2_with fail
  go_ret
  exact ⟨rfl, HB.out⟩
def isAsk (N op id at' lf to : Int) : Bool := decide (0 ≤ op) && decide (op ≤ 3) && isLf N lf && isLf N to && decide (id ≤ 2147483648) && (decide (op ≠ 2) || decide (0 ≤ at') && decide (at' ≤ 6))
def askA (op id at' : Int) (d : Nat → Int) (lf to : Int) : Array Value := #[.int .i64 op, .int .u64 id, .int .i64 at', .int .u64 (d 0), .int .u64 (d 1), .int .u64 (d 2), .int .u64 (d 3), .int .u64 (d 4), .int .u64 (d 5), .int .u64 (d 6), .int .u64 (d 7), .int .i64 lf, .int .i64 to]
set_option maxHeartbeats 1000000 in
theorem puts_any (op id at' : Int) (d : Nat → Int) (lf to : Int) (w : World) : Calls Tryz.prog 49 #[.agg (askA op id at' d lf to)] w fun e w' => e = .returned (.bool (op == 1 || op == 2)) ∧ Below w.heap.size w w' := by
  have c0 : (w.alloc (.cells (askA op id at' d lf to) 100)).cell? ⟨w.heap.size, 0, none⟩ = some (.int .i64 op) := (Box.new w 100 (askA op id at' d lf to)).cell 0
  have HB := Lib.hid ((Below.refl _ w).alloc (Nat.le_refl _) (.cells (askA op id at' d lf to) 100))
  cases h : (op == 1)
  · rw [Bool.false_or]
    go_enter Tryz.func49, Tryz.ntmps49
    go_wp2_with fail
    go_ret
    exact ⟨rfl, HB.out⟩
  · rw [Bool.true_or]
    go_enter Tryz.func49, Tryz.ntmps49
    go_wp2_with fail
    go_ret
    exact ⟨rfl, HB.out⟩
end Go.Proofs.YtmageeohnfomnaaGreat


namespace Go.Proofs.YtmageeohnfomnaaGreat
set_option maxRecDepth 100000
open Go.RowKit

def Rg (x : Int) : Prop := -9223372036854775808 ≤ x ∧ x ≤ 9223372036854775807
def isSt (S H : Int) : Bool := decide (1 ≤ S) && decide (S ≤ 8) && decide (1 ≤ H) && decide (H ≤ 64)
theorem isSt_iff (S H : Int) : isSt S H = true ↔ (1 ≤ S ∧ S ≤ 8) ∧ (1 ≤ H ∧ H ≤ 64) := by
  unfold isSt
  simp only [Bool.and_eq_true, decide_eq_true_eq]
  constructor
  · rintro ⟨⟨⟨a, b⟩, c⟩, d⟩; exact ⟨⟨a, b⟩, c, d⟩
  · rintro ⟨⟨a, b⟩, c, d⟩; exact ⟨⟨⟨a, b⟩, c⟩, d⟩
theorem isSh_st {D : Nat} (h : D ≤ 10) (S H : Int) : isSh (D : Int) S H = isSt S H := by
  unfold isSh isSt
  have h1 : decide ((0 : Int) ≤ (D : Int)) = true := decide_eq_true (by omega)
  have h2 : decide ((D : Int) ≤ 10) = true := decide_eq_true (by omega)
  rw [h1, h2]
  simp
def isVs (V : Int) : Bool := decide (1 ≤ V) && decide (V ≤ 4)
def stR (N S H V : Int) : Bool := isTree N && isVs V && isSt S H
def qOf (D S H : Nat) : Int := rd (((D + 1) * S + H + 1 : Nat) : Int)
theorem conf_of {D S H : Nat} (hD : D ≤ 10) (s1 : 1 ≤ S) (s8 : S ≤ 8) (t1 : 1 ≤ H) (t64 : H ≤ 64) : ∃ Q P, Conf (2 ^ D) S H D ((D + 1) * S) ((D + 1) * S + H + 1) Q P ∧ qOf D S H = (Q : Int) ∧ 3 ≤ Q ∧ Q ≤ 256 := by
  obtain ⟨Q, P, h⟩ := Conf.mk' hD rfl s1 s8 t1 t64
  have hb := h.big
  have := h.le
  exact ⟨Q, P, h, h.hR, by omega, hb.2.2.2⟩
def szOf (b S H h : Nat) : List Int := [((S * (2 * 2 ^ (b - 2 * h) - 1) : Nat) : Int), (H : Int), qOf (b - 2 * h) S H]
def szL (b S H : Nat) : Nat → List Int
  | 0 => []
  | n + 1 => szL b S H n ++ szOf b S H n
def szS (b S H n : Nat) : List Int := ((blN b (n - 1) : Nat) : Int) :: szL b S H n
def szI (N S H V : Int) : List Int := if stR N S H V = true then szS (dpt N) S.toNat H.toNat V.toNat else []
def bigL (l : List Int) : Bool := l.any fun x => decide (4096 < x)

structure Cfg where
  A : Int
  B : Int
  K : Int
  P : Int
  T : Int
  S : Int
  H : Int
  V : Int
  O : Int
structure Cfg.Wf (c : Cfg) : Prop where
  A : Rg c.A
  B : Rg c.B
  K : Rg c.K
  P : Rg c.P
  T : Rg c.T
  S : Rg c.S
  H : Rg c.H
  V : Rg c.V
  O : Rg c.O
def wtE (n l g : Int) : Int := if n < l ∨ n > g then 2 else 0
def wA (c : Cfg) : Int := wrap64 (c.A + c.B)
def nB (c : Cfg) : Int := rd (wrap64 (wrap64 (2 * c.T) + wA c))
def tbE (c : Cfg) : Int := if wtE c.T 1 128 ≠ 0 then wtE c.T 1 128 else if rd c.T ≠ c.T then 3 else if c.T < wA c then 4 else 0
def lvE (c : Cfg) : Int := if stR (nB c) c.S c.H c.V = true ∧ bigL (szI (nB c) c.S c.H c.V) = false then 0 else 1
def ftE (c : Cfg) : Nat → Int
  | 0 => wtE c.A 1 64
  | 1 => wtE c.B 1 16
  | 2 => wtE c.K 1 16
  | 3 => wtE c.P 1 32
  | 4 => wtE c.O 0 2
  | 5 => tbE c
  | 6 => lvE c
  | _ => 0
structure Fst (c : Cfg) (i : Nat) : Prop where
  le : i ≤ 7
  ok : ∀ j, j < i → ftE c j = 0
  bad : i < 7 → ftE c i ≠ 0
end Go.Proofs.YtmageeohnfomnaaGreat


namespace Go.Proofs.YtmageeohnfomnaaGreat
set_option maxRecDepth 100000
open Go.RowKit Go.ChangeShapes Go.WideShapes Go.ChangeAt

def cfA (N S T : Nat) : Array Value := #[.int .i64 (N : Int), .int .i64 (S : Int), .int .i64 (T : Int)]
set_option maxHeartbeats 1000000 in
theorem lright_of {N S T D L n Q P : Nat} (h : Conf N S T D L n Q P) (w : World) : Calls Tryz.prog 8 #[.agg #[.int .i64 (N : Int), .int .i64 (S : Int), .int .i64 (T : Int)]] w fun e w' => e = .returned (.bool true) ∧ Below w.heap.size w w' := by
  have hn := h.n1
  have hq := h.big.2.2.2
  have HP := Lib.hid (fun W => path_right (N : Int) W (by omega) (by omega))
  rw [isTree_two h.hD h.hN] at HP
  have HS := Lib.hid (fun W => shape_of h W)
  have HD := Lib.hid (fun W => deal_right (D : Int) (S : Int) (T : Int) W)
  rw [isSh_yes h.hD h.s1 h.s8 h.t1 h.t64] at HD
  have HR := Lib.hid (fun W => round_of h W)
  obtain ⟨b, hb⟩ : ∃ b, w.heap.size = b := ⟨_, rfl⟩
  obtain ⟨w2, hw2⟩ : ∃ w2, w.alloc (.cells #[.int .i64 (N : Int), .int .i64 (S : Int), .int .i64 (T : Int)] 23) = w2 := ⟨_, rfl⟩
  have hx : Box w2 b 23 #[.int .i64 (N : Int), .int .i64 (S : Int), .int .i64 (T : Int)] := by rw [← hw2, ← hb]; exact Box.new w _ _
  have hbl : Below w.heap.size w w2 := by rw [← hw2]; exact (Below.refl _ w).alloc (Nat.le_refl _) _
  have HX := Lib.hid hx
  have HB := Lib.hid hbl
  have HW2 := Lib.hid hw2
  have HBb := Lib.hid hb
  have k0 : w2.cell? ⟨b, 0, none⟩ = some (.int .i64 (N : Int)) := hx.cell 0
  have k1 : w2.cell? ⟨b, 1, none⟩ = some (.int .i64 (S : Int)) := hx.cell 1
  have k2 : w2.cell? ⟨b, 2, none⟩ = some (.int .i64 (T : Int)) := hx.cell 2
  clear hx hbl hw2 hb
  go_enter Tryz.func8, Tryz.ntmps8
  go_upto_region 1 with fail
  rw [HBb.out, HW2.out]
  go_wp2_with fail
  refine (HP.out _).mono ?_
  rintro e w1 ⟨rfl, rfl⟩
  go_wp2_with fail
  refine (HS.out _).mono ?_
  rintro e w3 ⟨rfl, hb3⟩
  have HB3 := Lib.hid (HB.out.trans (hb3.mono HB.out.size))
  have HX3 := Lib.hid (HX.out.of (hb3.block _ HX.out.lt))
  clear hb3 k0 k1 k2 HX
  go_wp2_with fail
  refine (HD.out _).mono ?_
  rintro e w4 ⟨rfl, hb4⟩
  have HB4 := Lib.hid (HB3.out.trans (hb4.mono HB3.out.size))
  have HX4 := HX3.out.of (hb4.block _ HX3.out.lt)
  have k0 : w4.cell? ⟨b, 0, none⟩ = some (.int .i64 (N : Int)) := HX4.cell 0
  have k1 : w4.cell? ⟨b, 1, none⟩ = some (.int .i64 (S : Int)) := HX4.cell 1
  have k2 : w4.cell? ⟨b, 2, none⟩ = some (.int .i64 (T : Int)) := HX4.cell 2
  clear hb4 HX4
  go_wp2_with fail
  refine (HR.out _).mono ?_
  rintro e w5 ⟨rfl, hb5⟩
  have HB5 := Lib.hid (HB4.out.trans (hb5.mono HB4.out.size))
  have hle : decide ((Q : Int) ≤ 1024) = true := decide_eq_true (by omega)
  clear hb5 k0 k1 k2
  go_wp2_with fail
  go_ret
  exact ⟨rfl, HB5.out⟩
set_option maxHeartbeats 2000000 in
theorem sizes_of {N S T D L n Q P : Nat} (h : Conf N S T D L n Q P) (w : World) : Calls Tryz.prog 5 #[.agg #[.int .i64 (N : Int), .int .i64 (S : Int), .int .i64 (T : Int)]] w fun e w' =>
    e = .returned (.tuple #[.int .i64 ((S * (2 * 2 ^ D - 1) : Nat) : Int), .int .i64 (T : Int), .int .i64 (Q : Int)]) ∧ Below w.heap.size w w' := by
  have hn := h.n1
  have HR := Lib.hid (fun W => lright_of h W)
  have HQ := Lib.hid (fun W => round_of h W)
  have HN := Lib.hid (fun W => path_nodes (N : Int) W (by omega) (by omega))
  rw [ndsI_yes (isTree_two h.hD h.hN)] at HN
  have hm : (S : Int) * (2 * (N : Int) - 1) = ((S * (2 * 2 ^ D - 1) : Nat) : Int) := by
    have := Nat.two_pow_pos D
    rw [← h.hN]
    rw [Int.natCast_mul]
    congr 1
    omega
  have hml : S * (2 * 2 ^ D - 1) ≤ 8 * 2047 := Nat.mul_le_mul h.s8 (by have := tree_le D h.hD; omega)
  generalize S * (2 * 2 ^ D - 1) = tr at *
  obtain ⟨b, hb⟩ : ∃ b, w.heap.size = b := ⟨_, rfl⟩
  obtain ⟨w2, hw2⟩ : ∃ w2, w.alloc (.cells #[.int .i64 (N : Int), .int .i64 (S : Int), .int .i64 (T : Int)] 23) = w2 := ⟨_, rfl⟩
  have hx : Box w2 b 23 #[.int .i64 (N : Int), .int .i64 (S : Int), .int .i64 (T : Int)] := by rw [← hw2, ← hb]; exact Box.new w _ _
  have hbl : Below w.heap.size w w2 := by rw [← hw2]; exact (Below.refl _ w).alloc (Nat.le_refl _) _
  have HX := Lib.hid hx
  have HB := Lib.hid hbl
  have HW2 := Lib.hid hw2
  have HBb := Lib.hid hb
  have k0 : w2.cell? ⟨b, 0, none⟩ = some (.int .i64 (N : Int)) := hx.cell 0
  have k1 : w2.cell? ⟨b, 1, none⟩ = some (.int .i64 (S : Int)) := hx.cell 1
  have k2 : w2.cell? ⟨b, 2, none⟩ = some (.int .i64 (T : Int)) := hx.cell 2
  clear hx hbl hw2 hb
  go_enter Tryz.func5, Tryz.ntmps5
  go_upto_region 1 with fail
  rw [HBb.out, HW2.out]
  go_wp2_with fail
  refine (HR.out _).mono ?_
  rintro e w3 ⟨rfl, hb3⟩
  have HB3 := Lib.hid (HB.out.trans (hb3.mono HB.out.size))
  have HX3 := Lib.hid (HX.out.of (hb3.block _ HX.out.lt))
  clear hb3 k0 k1 k2 HX
  go_upto_region 3 with fail
  refine held_s (S := fun w' => Box w' b 23 #[.int .i64 (N : Int), .int .i64 (S : Int), .int .i64 (T : Int)] ∧ Below w.heap.size w w') 13 rfl (by kernel_rfl) ⟨HX3.out.drewN 1, HB3.out.trans ((Below.refl _ _).drew)⟩ (fun hHeld => ?_)
  simp only [Array.replicate_succ, Array.replicate_zero, List.push_toArray, List.nil_append, List.cons_append]
  generalize w3.drew = w4 at *
  refine wpAnyH_take (i := 0) (oi := ⟨some 8, _, _, _, _, _⟩) (v := (.pointer (some ⟨b, 1, none⟩))) rfl (by kernel_rfl) (by kernel_rfl) (by kernel_rfl) (fun _ _ _ h => h) (Or.inl ⟨by rfl, fun w' hw => by go_simp⟩) hHeld ?_
  try simp only [Act.put, List.setIfInBounds_toArray, List.set_cons_zero, List.set_cons_succ]
  refine wpAnyH_take (i := 1) (oi := ⟨some 9, _, _, _, _, _⟩) (v := (.int .i64 (S : Int))) rfl (by kernel_rfl) (by kernel_rfl) (by kernel_rfl) (fun _ _ _ h => h) (Or.inl ⟨by rfl, fun w' hw => by (have k0 := hw.1.cell 0; have k1 := hw.1.cell 1; have k2 := hw.1.cell 2; go_simp)⟩) hHeld ?_
  try simp only [Act.put, List.setIfInBounds_toArray, List.set_cons_zero, List.set_cons_succ]
  refine wpAnyH_take (i := 2) (oi := ⟨some 10, _, _, _, _, _⟩) (v := (.pointer (some ⟨b, 0, none⟩))) rfl (by kernel_rfl) (by kernel_rfl) (by kernel_rfl) (fun _ _ _ h => h) (Or.inl ⟨by rfl, fun w' hw => by go_simp⟩) hHeld ?_
  try simp only [Act.put, List.setIfInBounds_toArray, List.set_cons_zero, List.set_cons_succ]
  refine wpAnyH_take (i := 3) (oi := ⟨some 11, _, _, _, _, _⟩) (v := (.int .i64 (N : Int))) rfl (by kernel_rfl) (by kernel_rfl) (by kernel_rfl) (fun _ _ _ h => h) (Or.inl ⟨by rfl, fun w' hw => by (have k0 := hw.1.cell 0; have k1 := hw.1.cell 1; have k2 := hw.1.cell 2; go_simp)⟩) hHeld ?_
  try simp only [Act.put, List.setIfInBounds_toArray, List.set_cons_zero, List.set_cons_succ]
  refine wpAnyH_take (i := 6) (oi := ⟨some 14, _, _, _, _, _⟩) (v := (.pointer (some ⟨b, 2, none⟩))) rfl (by kernel_rfl) (by kernel_rfl) (by kernel_rfl) (fun _ _ _ h => h) (Or.inl ⟨by rfl, fun w' hw => by go_simp⟩) hHeld ?_
  try simp only [Act.put, List.setIfInBounds_toArray, List.set_cons_zero, List.set_cons_succ]
  refine wpAnyH_take (i := 7) (oi := ⟨some 15, _, _, _, _, _⟩) (v := (.int .i64 (T : Int))) rfl (by kernel_rfl) (by kernel_rfl) (by kernel_rfl) (fun _ _ _ h => h) (Or.inl ⟨by rfl, fun w' hw => by (have k0 := hw.1.cell 0; have k1 := hw.1.cell 1; have k2 := hw.1.cell 2; go_simp)⟩) hHeld ?_
  try simp only [Act.put, List.setIfInBounds_toArray, List.set_cons_zero, List.set_cons_succ]
  refine wpAnyH_take (i := 8) (oi := ⟨some 16, _, _, _, _, _⟩) (v := (.agg #[.int .i64 (N : Int), .int .i64 (S : Int), .int .i64 (T : Int)])) rfl (by kernel_rfl) (by kernel_rfl) (by kernel_rfl) (fun _ _ _ h => h) (Or.inl ⟨by rfl, fun w' hw => by (have k0 := hw.1.cell 0; have k1 := hw.1.cell 1; have k2 := hw.1.cell 2; go_simp)⟩) hHeld ?_
  try simp only [Act.put, List.setIfInBounds_toArray, List.set_cons_zero, List.set_cons_succ]
  refine one_ready 4 rfl (by kernel_rfl) (fun K hK => ?_)
  go_simp
  refine (HN.out _).mono ?_
  rintro e w6 ⟨rfl, rfl⟩
  refine hK.out _ _ hHeld (fun hHeld => ?_)
  clear hK K
  simp only [List.setIfInBounds_toArray, List.set_cons_zero, List.set_cons_succ]
  refine wpAnyH_take (i := 5) (oi := ⟨some 13, _, _, _, _, _⟩) (v := (.int .i64 (tr : Int))) rfl (by kernel_rfl) (by kernel_rfl) (by kernel_rfl) (fun _ _ _ h => h) (Or.inl ⟨by rfl, fun w' hw => by (go_simp; rw [IntKind.wrap_i64]; omega)⟩) hHeld ?_
  try simp only [Act.put, List.setIfInBounds_toArray, List.set_cons_zero, List.set_cons_succ]
  refine one_ready 9 rfl (by kernel_rfl) (fun K hK => ?_)
  go_simp
  refine (HQ.out _).mono ?_
  rintro e w7 ⟨rfl, hb7⟩
  have hH7 : Box w7 b 23 #[.int .i64 (N : Int), .int .i64 (S : Int), .int .i64 (T : Int)] ∧ Below w.heap.size w w7 := ⟨hHeld.1.of (hb7.block _ hHeld.1.lt), hHeld.2.trans (hb7.mono hHeld.2.size)⟩
  refine hK.out _ _ hH7 (fun hHeld => ?_)
  clear hK K hb7 hH7
  simp only [List.setIfInBounds_toArray, List.set_cons_zero, List.set_cons_succ]
  refine wpAnyH_take (i := 10) (oi := ⟨some 2, _, _, _, _, _⟩) (v := (.int .i64 (tr : Int))) rfl (by kernel_rfl) (by kernel_rfl) (by kernel_rfl) (fun _ _ _ h => h) (Or.inl ⟨by rfl, fun w' hw => by go_simp⟩) hHeld ?_
  try simp only [Act.put, List.setIfInBounds_toArray, List.set_cons_zero, List.set_cons_succ]
  refine wpAnyH_take (i := 11) (oi := ⟨some 3, _, _, _, _, _⟩) (v := (.int .i64 (T : Int))) rfl (by kernel_rfl) (by kernel_rfl) (by kernel_rfl) (fun _ _ _ h => h) (Or.inl ⟨by rfl, fun w' hw => by go_simp⟩) hHeld ?_
  try simp only [Act.put, List.setIfInBounds_toArray, List.set_cons_zero, List.set_cons_succ]
  refine wpAnyH_take (i := 12) (oi := ⟨some 4, _, _, _, _, _⟩) (v := (.int .i64 (Q : Int))) rfl (by kernel_rfl) (by kernel_rfl) (by kernel_rfl) (fun _ _ _ h => h) (Or.inl ⟨by rfl, fun w' hw => by go_simp⟩) hHeld ?_
  try simp only [Act.put, List.setIfInBounds_toArray, List.set_cons_zero, List.set_cons_succ]
  refine wpAnyH_done (by kernel_rfl) ?_ _
  have HE := Lib.hid hHeld.2
  clear hHeld
  go_wp2_with fail
  go_ret3
  exact ⟨rfl, HE.out⟩
end Go.Proofs.YtmageeohnfomnaaGreat


namespace Go.Proofs.YtmageeohnfomnaaGreat
set_option maxRecDepth 100000
open Go.RowKit Go.ChangeShapes Go.WideShapes Go.ChangeAt
set_option maxHeartbeats 1000000 in
theorem lright_any (D : Nat) (S T : Int) (w : World) (hD : D ≤ 10) : Calls Tryz.prog 8 #[.agg #[.int .i64 ((2 ^ D : Nat) : Int), .int .i64 S, .int .i64 T]] w fun e w' => e = .returned (.bool (isSt S T)) ∧ Below w.heap.size w w' := by
  cases h : isSt S T
  · have hn := tree_le D hD
    have HS := Lib.hid (fun W => shape_in (2 ^ D) S T D W hD rfl)
    have ht := isTree_two hD (N := 2 ^ D) rfl
    have HD := Lib.hid (fun W => deal_right (D : Int) S T W)
    rw [isSh_st hD, h] at HD
    generalize 2 ^ D = N at *
    have HP := Lib.hid (fun W => path_right (N : Int) W (by omega) (by omega))
    rw [ht] at HP
    clear h hn ht
    go_enter Tryz.func8, Tryz.ntmps8
    go_wp2_with fail
    refine (HP.out _).mono ?_
    rintro e w1 ⟨rfl, rfl⟩
    go_wp2_with fail
    refine (HS.out _).mono ?_
    rintro e w3 ⟨rfl, hb3⟩
    have HB3 := Lib.hid (((Below.refl _ w).alloc (Nat.le_refl _) (.cells #[.int .i64 (N : Int), .int .i64 S, .int .i64 T] 23)).trans (hb3.mono (by simp)))
    clear hb3
    go_wp2_with fail
    refine (HD.out _).mono ?_
    rintro e w4 ⟨rfl, hb4⟩
    have HB4 := Lib.hid (HB3.out.trans (hb4.mono HB3.out.size))
    clear hb4
    go_wp2_with fail
    go_ret
    exact ⟨rfl, HB4.out⟩
  · obtain ⟨⟨h1, h2⟩, h3, h4⟩ := (isSt_iff _ _).1 h
    obtain ⟨s, rfl⟩ : ∃ s : Nat, S = (s : Int) := ⟨S.toNat, by omega⟩
    obtain ⟨t, rfl⟩ : ∃ t : Nat, T = (t : Int) := ⟨T.toNat, by omega⟩
    obtain ⟨Q, P, hc⟩ := Conf.mk' hD rfl (S := s) (T := t) (by omega) (by omega) (by omega) (by omega)
    exact lright_of hc w
end Go.Proofs.YtmageeohnfomnaaGreat

