import Derived.BigQuiet
import Derived.OwnWalk
import Derived.Deep.QuietTactic
import Derived.Test.YtknnebhjldfkhaaGreatG15
import Derived.Test.YtknnebhjldfkhaaGreatG6
import Derived.Test.YtknnebhjldfkhaaGreatG9
import Derived.Test.YtknnebhjldfkhaaGreatG10
import Derived.Test.YtknnebhjldfkhaaGreatG11
import Derived.Test.YtknnebhjldfkhaaGreatG13
import Derived.Test.YtknnebhjldfkhaaGreatG0
import Derived.Test.YtknnebhjldfkhaaGreatG5
import Derived.Test.YtknnebhjldfkhaaGreatG4
import Derived.Test.YtknnebhjldfkhaaGreatG8
namespace Go.Proofs.YtknnebhjldfkhaaGreat
set_option maxRecDepth 100000
open Go.RowKit Go.ChangeShapes Go.WideShapes Go.ChangeAt

theorem rd_small (m : Nat) (h1 : 1 < m) (h2 : m ≤ 200) : re (m : Int) ≤ 8 ∧ rd (m : Int) = ((2 ^ re (m : Int) : Nat) : Int) ∧ m ≤ 2 ^ re (m : Int) := by
 have c : ((2 ^ re (m : Int) : Nat) : Int) = rd (m : Int) := by unfold rd; simp
 obtain ⟨a, b⟩ := rd_mid (m : Int) (by omega) (by omega)
 have b := b (by omega)
 rw [← c] at a b
 refine ⟨?_, c.symm, by omega⟩
 apply Nat.le_of_not_lt
 intro h
 have h2 : 2 ^ 9 ≤ 2 ^ re (m : Int) := Nat.pow_le_pow_right (by decide) h
 omega
structure Conf (N S T D L n Q P : Nat) : Prop where
 hD : D ≤ 10
 hN : 2 ^ D = N
 s1 : 1 ≤ S
 s8 : S ≤ 8
 t1 : 1 ≤ T
 t64 : T ≤ 64
 hL : (D + 1) * S = L
 hn : L + T + 1 = n
 hQ : 2 ^ P = Q
 hP : P ≤ 8
 hR : rd (n : Int) = (Q : Int)
 le : n ≤ Q
section
variable {N S T D L n Q P : Nat}
theorem Conf.n1 (h : Conf N S T D L n Q P) : 1 ≤ N ∧ N ≤ 1024 := by
 have := tree_le D h.hD
 have h2 := Nat.two_pow_pos D
 rw [h.hN] at this h2
 omega
theorem Conf.big (h : Conf N S T D L n Q P) : L ≤ 88 ∧ 3 ≤ n ∧ n ≤ 153 ∧ Q ≤ 256 := by
 have h1 := (mul_places h.hD h.s8 h.hL).2
 have h2 := h.hn
 have h3 := h.t1
 have h4 := h.t64
 have h5 : 2 ^ P ≤ 2 ^ 8 := Nat.pow_le_pow_right (by decide) h.hP
 rw [h.hQ] at h5
 have h6 : 1 ≤ L := by rw [← h.hL]; exact Nat.le_trans h.s1 (Nat.le_mul_of_pos_left S (by omega))
 omega
theorem Conf.mk' (hD : D ≤ 10) (hN : 2 ^ D = N) (s1 : 1 ≤ S) (s8 : S ≤ 8) (t1 : 1 ≤ T) (t64 : T ≤ 64) : ∃ Q P, Conf N S T D ((D + 1) * S) ((D + 1) * S + T + 1) Q P := by
 have hl := (mul_places hD s8 rfl).2
 obtain ⟨h1, h2, h3⟩ := rd_small ((D + 1) * S + T + 1) (by omega) (by omega)
 exact ⟨_, _, hD, hN, s1, s8, t1, t64, rfl, rfl, rfl, h1, h2, h3⟩
end
set_option maxHeartbeats 1000000 in
theorem shape_in (N : Nat) (S T : Int) (D : Nat) (w : World) (hD : D ≤ 10) (hN : 2 ^ D = N) :
  Calls Tryz.prog 100 #[.agg #[.int .i64 (N : Int), .int .i64 (S : Int), .int .i64 (T : Int)]] w fun e w' => e = .returned (.agg #[.int .i64 (D : Int), .int .i64 (S : Int), .int .i64 (T : Int)]) ∧ Below w.heap.size w w' := by
 have hd := dpt_two hD hN
 have hn := tree_le D hD
 rw [hN] at hn
 have HD := Lib.hid (fun W => path_depth (N : Int) W (by omega) (by omega))
 rw [hd] at HD
 clear hd hn hN
 go_enter Tryz.func100, Tryz.ntmps100
 go_wp2_with fail
 obtain ⟨b, hb⟩ : ∃ b, w.heap.size = b := ⟨_, rfl⟩
 obtain ⟨w2, hw2⟩ : ∃ w2, ((w.alloc (.cells #[.int .i64 (N : Int), .int .i64 (S : Int), .int .i64 (T : Int)] 25)).alloc (.cells #[.int .i64 0, .int .i64 0, .int .i64 0] 159)) = w2 := ⟨_, rfl⟩
 have hbx : Box w2 b 25 #[.int .i64 (N : Int), .int .i64 (S : Int), .int .i64 (T : Int)] := by rw [← hw2, ← hb]; exact (Box.new w _ _).alloc _
 have hby : Box w2 (b + 1) 159 #[.int .i64 0, .int .i64 0, .int .i64 0] := by
  rw [← hw2, ← hb]
  have := Box.new (w.alloc (.cells #[.int .i64 (N : Int), .int .i64 (S : Int), .int .i64 (T : Int)] 25)) 159 #[.int .i64 0, .int .i64 0, .int .i64 0]
  simpa using this
 have hbl : Below w.heap.size w w2 := by rw [← hw2]; exact ((Below.refl _ w).alloc (Nat.le_refl _) _).alloc (by simp) _
 have hbb : ¬ b + 1 = b := by omega
 simp only [hw2, hb]
 clear hw2
 refine held_s (S := fun w' => Box w' b 25 #[.int .i64 (N : Int), .int .i64 (S : Int), .int .i64 (T : Int)] ∧ Below w.heap.size w w') 9 rfl (by kernel_rfl) ⟨hbx.drewN 1, hbl.trans ((Below.refl _ _).drew)⟩ (fun hHeld => ?_)
 have y0 := hby.cell 0
 have y1 := hby.cell 1
 have y2 := hby.cell 2
 have f0 := hby.frozen 0
 have f1 := hby.frozen 1
 have f2 := hby.frozen 2
 simp only [qA0, qB0, qC0, List.nil_append, List.cons_append]
 refine tk1 0 3 (.pointer (some ⟨b, 0, none⟩)) rfl (Or.inl ⟨by rfl, fun w' hw => by go_simp⟩) hHeld ?_
 try simp only [Act.put, sA0, sB0, sC0]
 refine tk1 1 4 (.int .i64 (N : Int)) rfl (Or.inl ⟨by rfl, fun w' hw => by (have k0 := hw.1.cell 0; have k1 := hw.1.cell 1; have k2 := hw.1.cell 2; go_simp)⟩) hHeld ?_
 try simp only [Act.put, sA0, sB0, sC0]
 refine tk1 3 6 (.pointer (some ⟨b, 1, none⟩)) rfl (Or.inl ⟨by rfl, fun w' hw => by go_simp⟩) hHeld ?_
 try simp only [Act.put, sA0, sB0, sC0]
 refine tk1 4 7 (.int .i64 (S : Int)) rfl (Or.inl ⟨by rfl, fun w' hw => by (have k0 := hw.1.cell 0; have k1 := hw.1.cell 1; have k2 := hw.1.cell 2; go_simp)⟩) hHeld ?_
 try simp only [Act.put, sA0, sB0, sC0]
 refine tk1 5 8 (.pointer (some ⟨b, 2, none⟩)) rfl (Or.inl ⟨by rfl, fun w' hw => by go_simp⟩) hHeld ?_
 try simp only [Act.put, sA0, sB0, sC0]
 refine tk1 6 9 (.int .i64 (T : Int)) rfl (Or.inl ⟨by rfl, fun w' hw => by (have k0 := hw.1.cell 0; have k1 := hw.1.cell 1; have k2 := hw.1.cell 2; go_simp)⟩) hHeld ?_
 try simp only [Act.put, sA0, sB0, sC0]
 refine one_ready 2 rfl (by kernel_rfl) (fun K hK => ?_)
 go_simp
 refine (HD.out _).mono ?_
 rintro e w3 ⟨rfl, rfl⟩
 refine hK.out _ _ hHeld (fun hHeld => ?_)
 clear hK K
 try simp only [sA0, sB0, sC0]
 refine tk1 7 10 (.agg #[.int .i64 (D : Int), .int .i64 (S : Int), .int .i64 (T : Int)]) rfl (Or.inl ⟨by rfl, fun w' hw => by go_simp⟩) hHeld ?_
 try simp only [Act.put, sA0, sB0, sC0]
 refine one_ready 8 rfl (by kernel_rfl) (fun K hK => ?_)
 go_simp
 have ho : Only (just (b + 1)) w2 ((((w2.setCell ⟨b + 1, 0, none⟩ (.int .i64 (D : Int))).setCell ⟨b + 1, 1, none⟩ (.int .i64 (S : Int))).setCell ⟨b + 1, 2, none⟩ (.int .i64 (T : Int))).drew) := ((((Only.refl (just (b + 1)) w2).setCell (p := ⟨b + 1, 0, none⟩) (.inl (just_self _)) (.int .i64 (D : Int))).setCell (p := ⟨b + 1, 1, none⟩) (.inl (just_self _)) (.int .i64 (S : Int))).setCell (p := ⟨b + 1, 2, none⟩) (.inl (just_self _)) (.int .i64 (T : Int))).drew
 have hE : Hid (Below w.heap.size w _) := Lib.hid (below_only hbl ho hbl.size (fun i hi e => by have e : i = b + 1 := e; omega))
 have hz : Box _ (b + 1) 159 #[.int .i64 (D : Int), .int .i64 (S : Int), .int .i64 (T : Int)] := (((hby.put 0 (.int .i64 (D : Int))).put 1 (.int .i64 (S : Int))).put 2 (.int .i64 (T : Int))).drewN 1
 have hZ := Lib.hid hz
 refine hK.out _ _ ⟨hbx.only ho (just_ne (fun e => by omega)), hE.out⟩ (fun hHeld => ?_)
 clear hK K ho hz
 refine wpAnyH_done (by kernel_rfl) ?_ _
 have z0 := hZ.out.cell 0
 have z1 := hZ.out.cell 1
 have z2 := hZ.out.cell 2
 go_wp2_with fail
 exact bodyPost_ret (v := .agg #[.int .i64 (D : Int), .int .i64 (S : Int), .int .i64 (T : Int)]) (results_one Tryz.results100 rfl (load_box hZ.out Tryz.underlying159 rfl (by kernel_rfl))) rfl ⟨rfl, hE.out⟩
theorem shape_of {N S T D L n Q P : Nat} (h : Conf N S T D L n Q P) (w : World) : Calls Tryz.prog 100 #[.agg #[.int .i64 (N : Int), .int .i64 (S : Int), .int .i64 (T : Int)]] w fun e w' => e = .returned (.agg #[.int .i64 (D : Int), .int .i64 (S : Int), .int .i64 (T : Int)]) ∧ Below w.heap.size w w' := shape_in N S T D w h.hD h.hN
set_option maxHeartbeats 1000000 in
theorem round_of {N S T D L n Q P : Nat} (h : Conf N S T D L n Q P) (w : World) : Calls Tryz.prog 97 #[.agg #[.int .i64 (N : Int), .int .i64 (S : Int), .int .i64 (T : Int)]] w fun e w' => e = .returned (.int .i64 (Q : Int)) ∧ Below w.heap.size w w' := by
 have HS := Lib.hid (fun W => shape_of h W)
 have HP := Lib.hid (fun W => places_in D S T L n h.hD h.s1 h.s8 h.t1 h.t64 h.hL h.hn W)
 have HR := Lib.hid (fun W => round_any (n : Int) W (by have := h.big; omega) (by have := h.big; omega))
 rw [h.hR] at HR
 go_enter Tryz.func97, Tryz.ntmps97
 go_wp2_with fail
 refine (HS.out _).mono ?_
 rintro e w1 ⟨rfl, hb1⟩
 have HB := Lib.hid (((Below.refl _ w).alloc (Nat.le_refl _) (.cells #[.int .i64 (N : Int), .int .i64 (S : Int), .int .i64 (T : Int)] 25)).trans (hb1.mono (by simp)))
 clear hb1
 go_wp2_with fail
 refine (HP.out _).mono ?_
 rintro e w2 ⟨rfl, hb2⟩
 have HB2 := Lib.hid (HB.out.trans (hb2.mono HB.out.size))
 clear hb2
 go_wp2_with fail
 refine (HR.out _).mono ?_
 rintro e w3 ⟨rfl, rfl⟩
 go_wp2_with fail
 go_ret
 exact ⟨rfl, HB2.out⟩
def isLf (N lf : Int) : Bool := decide (0 ≤ lf) && decide (lf < N)
set_option maxHeartbeats 1000000 in
theorem leaf_any (N S T lf : Int) (w : World) : Calls Tryz.prog 88 #[.agg #[.int .i64 N, .int .i64 S, .int .i64 T], .int .i64 lf] w fun e w' => e = .returned (.bool (isLf N lf)) ∧ Below w.heap.size w w' := by
 unfold isLf
 by_cases h : 0 ≤ lf
 ·have d : decide (0 ≤ lf) = true := decide_eq_true h
  rw [d, Bool.true_and]
  go_enter Tryz.func88, Tryz.ntmps88
  go_wp2_with fail
  go_ret
  exact ⟨rfl, (Below.refl _ w).alloc (Nat.le_refl _) _⟩
 ·have d : decide (0 ≤ lf) = false := decide_eq_false h
  rw [d, Bool.false_and]
  go_enter Tryz.func88, Tryz.ntmps88
  go_wp2_with fail
  go_ret
  exact ⟨rfl, (Below.refl _ w).alloc (Nat.le_refl _) _⟩
set_option maxHeartbeats 1000000 in
theorem tree_at (f : Nat) (N S T : Int) (w : World) : Calls Tryz.prog 105 #[.agg #[.int .i64 (f : Int), .int .i64 N, .int .i64 S, .int .i64 T]] w fun e w' => e = .returned (.int .i64 (f : Int)) ∧ Below w.heap.size w w' := by
 go_enter Tryz.func105, Tryz.ntmps105
 go_wp2_with fail
 go_ret
 exact ⟨rfl, (Below.refl _ w).alloc (Nat.le_refl _) _⟩
set_option maxHeartbeats 1000000 in
theorem stash_at (f : Nat) (N S T : Int) (w : World) (hf : f ≤ 100) : Calls Tryz.prog 106 #[.agg #[.int .i64 (f : Int), .int .i64 N, .int .i64 S, .int .i64 T]] w fun e w' => e = .returned (.int .i64 ((f + 1 : Nat) : Int)) ∧ Below w.heap.size w w' := by
 go_enter Tryz.func106, Tryz.ntmps106
 go_wp2_with fail
 go_ret
 exact ⟨ret_int (by omega), (Below.refl _ w).alloc (Nat.le_refl _) _⟩
set_option maxHeartbeats 1000000 in
theorem table_at (f : Nat) (N S T : Int) (w : World) (hf : f ≤ 100) : Calls Tryz.prog 93 #[.agg #[.int .i64 (f : Int), .int .i64 N, .int .i64 S, .int .i64 T]] w fun e w' => e = .returned (.int .i64 ((f + 2 : Nat) : Int)) ∧ Below w.heap.size w w' := by
 go_enter Tryz.func93, Tryz.ntmps93
 go_wp2_with fail
 go_ret
 exact ⟨ret_int (by omega), (Below.refl _ w).alloc (Nat.le_refl _) _⟩
set_option maxHeartbeats 1000000 in
theorem has_any (g : Nat → Int) (w : World) : Calls Tryz.prog 81 #[.agg (CA g)] w fun e w' => e = .returned (.bool (g 0 == 1)) ∧ Below w.heap.size w w' := by
 have c0 : (w.alloc (.cells (CA g) 64)).cell? ⟨w.heap.size, 0, none⟩ = some (.int .u64 (g 0)) := (Box.new w 64 (CA g)).cell 0
 have HB := Lib.hid ((Below.refl _ w).alloc (Nat.le_refl _) (.cells (CA g) 64))
 go_enter Tryz.func81, Tryz.ntmps81
 go_wp2_with fail
 go_ret
 exact ⟨rfl, HB.out⟩
def isAsk (N op id at' lf to : Int) : Bool := decide (0 ≤ op) && decide (op ≤ 3) && isLf N lf && isLf N to && decide (id ≤ 2147483648) && (decide (op ≠ 2) || decide (0 ≤ at') && decide (at' ≤ 6))
def askA (op id at' : Int) (d : Nat → Int) (lf to : Int) : Array Value := #[.int .i64 op, .int .u64 id, .int .i64 at', .int .u64 (d 0), .int .u64 (d 1), .int .u64 (d 2), .int .u64 (d 3), .int .u64 (d 4), .int .u64 (d 5), .int .u64 (d 6), .int .u64 (d 7), .int .i64 lf, .int .i64 to]
set_option maxHeartbeats 1000000 in
theorem puts_any (op id at' : Int) (d : Nat → Int) (lf to : Int) (w : World) : Calls Tryz.prog 71 #[.agg (askA op id at' d lf to)] w fun e w' => e = .returned (.bool (op == 1 || op == 2)) ∧ Below w.heap.size w w' := by
 have c0 : (w.alloc (.cells (askA op id at' d lf to) 122)).cell? ⟨w.heap.size, 0, none⟩ = some (.int .i64 op) := (Box.new w 122 (askA op id at' d lf to)).cell 0
 have HB := Lib.hid ((Below.refl _ w).alloc (Nat.le_refl _) (.cells (askA op id at' d lf to) 122))
 cases h : (op == 1)
 ·rw [Bool.false_or]
  go_enter Tryz.func71, Tryz.ntmps71
  go_wp2_with fail
  go_ret
  exact ⟨rfl, HB.out⟩
 ·rw [Bool.true_or]
  go_enter Tryz.func71, Tryz.ntmps71
  go_wp2_with fail
  go_ret
  exact ⟨rfl, HB.out⟩
end Go.Proofs.YtknnebhjldfkhaaGreat


namespace Go.Proofs.YtknnebhjldfkhaaGreat
set_option maxRecDepth 100000
open Go.RowKit Go.ChangeShapes Go.WideShapes Go.ChangeAt

def scA (b : Nat) (S T : Int) (n : Nat) : Array Value := #[.int .i64 ((2 ^ b : Nat) : Int), .int .i64 S, .int .i64 T, .int .i64 (n : Int)]
theorem quo_four (x : Nat) : (x : Int) / 4 = ((x / 4 : Nat) : Int) := by omega
set_option maxHeartbeats 1000000 in
theorem blocks_any (b : Nat) (S T : Int) (n h : Nat) (w : World) (hb : b ≤ 10) (hh : h ≤ 100) :
  Calls Tryz.prog 149 #[.agg (scA b S T n), .int .i64 (h : Int)] w fun e w' => e = .returned (.int .i64 (blN b h : Nat)) ∧ w' = w.alloc (.cells (scA b S T n) 79) := by
 have hB : 2 ^ b ≤ 1024 := by have := blN_le b 0 hb; unfold blN at this; simpa using this
 have HM := Lib.hid (bl_max b h)
 unfold scA
 generalize hy : 2 ^ b = B at *
 go_enter Tryz.func149, Tryz.ntmps149
 go_wp2_with fail
 go_loopw [5, 9] (fun v i wr => ∃ k : Nat, k ≤ h ∧ i = .int .i64 k ∧ v = .int .i64 (B / 4 ^ k : Nat) ∧ wr = w.alloc (.cells #[.int .i64 (B : Int), .int .i64 S, .int .i64 T, .int .i64 (n : Int)] 79)) (fun _ i _ => h - (intOf i).toNat)
 case atStart => exact ⟨0, by omega, rfl, by simp, rfl⟩
 case round =>
  obtain ⟨k, hk, rfl, rfl, rfl⟩ := hrel
  have h4 := div_four B k
  have hle : B / 4 ^ k ≤ B := Nat.div_le_self _ _
  have H4' := Lib.hid h4
  clear h4
  by_cases hlt : k < h
  ·generalize B / 4 ^ k = x at *
   go_wp2_with fail
   go_roundw
   case rel => exact ⟨k + 1, by omega, by go_num, by rw [← H4'.out, quo_four], trivial⟩
   case measure => simp [intOf]; omega
  ·obtain rfl : k = h := by omega
   have hm := HM.out
   obtain ⟨x, hx⟩ : ∃ x, B / 4 ^ k = x := ⟨_, rfl⟩
   rw [hx] at hm hle ⊢
   have hmi : max (x : Int) 1 = ((blN b k : Nat) : Int) := by rw [← hm]; omega
   have hmj : max 1 (x : Int) = ((blN b k : Nat) : Int) := by rw [← hm]; omega
   clear hx HM H4' hm
   go_wp2_with fail
   go_ret
   first | exact ⟨rfl, rfl⟩ | exact ⟨rfl, trivial⟩
theorem last_any (b : Nat) (S T : Int) (n : Nat) (w : World) (h0 : 1 ≤ n) (h1 : n ≤ 100) :
  Calls Tryz.prog 113 #[.agg (scA b S T n)] w fun e w' => e = .returned (.int .i64 ((n - 1 : Nat) : Int)) ∧ w' = w.alloc (.cells (scA b S T n) 79) := by
 have e : ((n - 1 : Nat) : Int) = (n : Int) - 1 := by omega
 rw [e]
 unfold scA
 go_enter Tryz.func113, Tryz.ntmps113
 go_wp2_with fail
 go_ret
 exact ⟨rfl, rfl⟩
theorem meant_any (id h : Nat) (w : World) (hi : id ≤ 18446744073709551615) (hh : h ≤ 100) :
  Calls Tryz.prog 151 #[.int .u64 (id : Int), .int .i64 (h : Int)] w fun e w' => e = .returned (.int .u64 ((id / 4 ^ h : Nat) : Int)) ∧ w' = w := by
 go_enter Tryz.func151, Tryz.ntmps151
 go_wp2_with fail
 go_loopw [0, 6] (fun v i wr => ∃ k : Nat, k ≤ h ∧ i = .int .i64 k ∧ v = .int .u64 (id / 4 ^ k : Nat) ∧ wr = w) (fun _ i _ => h - (intOf i).toNat)
 case atStart => exact ⟨0, by omega, rfl, by simp, rfl⟩
 case round =>
  obtain ⟨k, hk, rfl, rfl, rfl⟩ := hrel
  have hle : id / 4 ^ k ≤ id := Nat.div_le_self _ _
  have H4' := Lib.hid (div_four id k)
  by_cases hlt : k < h
  ·generalize id / 4 ^ k = x at *
   go_wp2_with fail
   go_roundw
   case rel => exact ⟨k + 1, by omega, by go_num, by rw [← H4'.out, quo_four], trivial⟩
   case measure => simp [intOf]; omega
  ·obtain rfl : k = h := by omega
   obtain ⟨x, hx⟩ : ∃ x, id / 4 ^ k = x := ⟨_, rfl⟩
   rw [hx] at hle ⊢
   have HX := Lib.hid hx
   clear hx H4'
   go_wp2_with fail
   go_ret
   exact ⟨by rw [HX.out]; rfl, rfl⟩
theorem plan_top (f B S T n : Int) (w : World) :
  Calls Tryz.prog 127 #[.agg #[.int .i64 f, .int .i64 B, .int .i64 S, .int .i64 T, .int .i64 n]] w fun e w' => e = .returned (.int .i64 f) ∧ w' = w.alloc (.cells #[.int .i64 f, .int .i64 B, .int .i64 S, .int .i64 T, .int .i64 n] 166) := by
 go_enter Tryz.func127, Tryz.ntmps127
 go_wp2_with fail
 go_ret
 exact ⟨rfl, rfl⟩
theorem plan_region (f h : Nat) (B S T n : Int) (w : World) (hf : f ≤ 100) (hh : h ≤ 100) :
  Calls Tryz.prog 129 #[.agg #[.int .i64 (f : Int), .int .i64 B, .int .i64 S, .int .i64 T, .int .i64 n], .int .i64 (h : Int)] w fun e w' => e = .returned (.int .i64 ((f + 1 + 3 * h : Nat) : Int)) ∧ w' = w.alloc (.cells #[.int .i64 (f : Int), .int .i64 B, .int .i64 S, .int .i64 T, .int .i64 n] 166) := by
 have e : ((f + 1 + 3 * h : Nat) : Int) = (f : Int) + 1 + 3 * (h : Int) := by omega
 rw [e]
 go_enter Tryz.func129, Tryz.ntmps129
 go_wp2_with fail
 go_ret
 exact ⟨rfl, rfl⟩
def isOp (op : Int) (id B : Nat) : Bool := (op == 0 || op == 1 || op == 3) && decide (id < B)
theorem right_of (b : Nat) (S T : Int) (n : Nat) (op : Int) (id : Nat) (w : World) (hb : b ≤ 10) :
  Calls Tryz.prog 110 #[.agg (scA b S T n), .int .i64 op, .int .u64 (id : Int)] w fun e w' => e = .returned (.bool (isOp op id (2 ^ b))) ∧ Below w.heap.size w w' := by
 have hB : 2 ^ b ≤ 1024 := by have := blN_le b 0 hb; unfold blN at this; simpa using this
 unfold scA isOp
 generalize 2 ^ b = B at *
 go_enter Tryz.func110, Tryz.ntmps110
 cases h1 : op == 0
 ·cases h2 : op == 1
  ·cases h3 : op == 3
   ·go_wp2_with fail
    go_ret
    exact ⟨rfl, (Below.refl _ w).alloc (Nat.le_refl _) _⟩
   ·go_wp2_with fail
    go_ret
    exact ⟨by simp, (Below.refl _ w).alloc (Nat.le_refl _) _⟩
  ·go_wp2_with fail
   go_ret
   exact ⟨by simp, (Below.refl _ w).alloc (Nat.le_refl _) _⟩
 ·go_wp2_with fail
  go_ret
  exact ⟨by simp, (Below.refl _ w).alloc (Nat.le_refl _) _⟩
end Go.Proofs.YtknnebhjldfkhaaGreat


namespace Go.Proofs.YtknnebhjldfkhaaGreat
set_option maxRecDepth 100000
open Go.RowKit Go.ChangeShapes Go.WideShapes Go.ChangeAt

def cfA (N S T : Nat) : Array Value := #[.int .i64 (N : Int), .int .i64 (S : Int), .int .i64 (T : Int)]
set_option maxHeartbeats 1000000 in
theorem lright_of {N S T D L n Q P : Nat} (h : Conf N S T D L n Q P) (w : World) : Calls Tryz.prog 29 #[.agg #[.int .i64 (N : Int), .int .i64 (S : Int), .int .i64 (T : Int)]] w fun e w' => e = .returned (.bool true) ∧ Below w.heap.size w w' := by
 have hn := h.n1
 have hq := h.big.2.2.2
 have HP := Lib.hid (fun W => path_right (N : Int) W (by omega) (by omega))
 rw [isTree_two h.hD h.hN] at HP
 have HS := Lib.hid (fun W => shape_of h W)
 have HD := Lib.hid (fun W => deal_right (D : Int) (S : Int) (T : Int) W)
 rw [isSh_yes h.hD h.s1 h.s8 h.t1 h.t64] at HD
 have HR := Lib.hid (fun W => round_of h W)
 obtain ⟨b, hb⟩ : ∃ b, w.heap.size = b := ⟨_, rfl⟩
 obtain ⟨w2, hw2⟩ : ∃ w2, w.alloc (.cells #[.int .i64 (N : Int), .int .i64 (S : Int), .int .i64 (T : Int)] 25) = w2 := ⟨_, rfl⟩
 have hx : Box w2 b 25 #[.int .i64 (N : Int), .int .i64 (S : Int), .int .i64 (T : Int)] := by rw [← hw2, ← hb]; exact Box.new w _ _
 have hbl : Below w.heap.size w w2 := by rw [← hw2]; exact (Below.refl _ w).alloc (Nat.le_refl _) _
 have HX := Lib.hid hx
 have HB := Lib.hid hbl
 have HW2 := Lib.hid hw2
 have HBb := Lib.hid hb
 have k0 : w2.cell? ⟨b, 0, none⟩ = some (.int .i64 (N : Int)) := hx.cell 0
 have k1 : w2.cell? ⟨b, 1, none⟩ = some (.int .i64 (S : Int)) := hx.cell 1
 have k2 : w2.cell? ⟨b, 2, none⟩ = some (.int .i64 (T : Int)) := hx.cell 2
 clear hx hbl hw2 hb
 go_enter Tryz.func29, Tryz.ntmps29
 go_upto_region 1 with fail
 rw [HBb.out, HW2.out]
 go_wp2_with fail
 refine (HP.out _).mono ?_
 rintro e w1 ⟨rfl, rfl⟩
 go_wp2_with fail
 refine (HS.out _).mono ?_
 rintro e w3 ⟨rfl, hb3⟩
 have HB3 := Lib.hid (HB.out.trans (hb3.mono HB.out.size))
 have HX3 := Lib.hid (HX.out.of (hb3.block _ HX.out.lt))
 clear hb3 k0 k1 k2 HX
 go_wp2_with fail
 refine (HD.out _).mono ?_
 rintro e w4 ⟨rfl, hb4⟩
 have HB4 := Lib.hid (HB3.out.trans (hb4.mono HB3.out.size))
 have HX4 := HX3.out.of (hb4.block _ HX3.out.lt)
 have k0 : w4.cell? ⟨b, 0, none⟩ = some (.int .i64 (N : Int)) := HX4.cell 0
 have k1 : w4.cell? ⟨b, 1, none⟩ = some (.int .i64 (S : Int)) := HX4.cell 1
 have k2 : w4.cell? ⟨b, 2, none⟩ = some (.int .i64 (T : Int)) := HX4.cell 2
 clear hb4 HX4
 go_wp2_with fail
 refine (HR.out _).mono ?_
 rintro e w5 ⟨rfl, hb5⟩
 have HB5 := Lib.hid (HB4.out.trans (hb5.mono HB4.out.size))
 have hle : decide ((Q : Int) ≤ 1024) = true := decide_eq_true (by omega)
 clear hb5 k0 k1 k2
 go_wp2_with fail
 go_ret
 exact ⟨rfl, HB5.out⟩
set_option maxHeartbeats 2000000 in
theorem sizes_of {N S T D L n Q P : Nat} (h : Conf N S T D L n Q P) (w : World) : Calls Tryz.prog 28 #[.agg #[.int .i64 (N : Int), .int .i64 (S : Int), .int .i64 (T : Int)]] w fun e w' =>
  e = .returned (.tuple #[.int .i64 ((S * (2 * 2 ^ D - 1) : Nat) : Int), .int .i64 (T : Int), .int .i64 (Q : Int)]) ∧ Below w.heap.size w w' := by
 have hn := h.n1
 have HR := Lib.hid (fun W => lright_of h W)
 have HQ := Lib.hid (fun W => round_of h W)
 have HN := Lib.hid (fun W => path_nodes (N : Int) W (by omega) (by omega))
 rw [ndsI_yes (isTree_two h.hD h.hN)] at HN
 have hm : (S : Int) * (2 * (N : Int) - 1) = ((S * (2 * 2 ^ D - 1) : Nat) : Int) := by
  have := Nat.two_pow_pos D
  rw [← h.hN]
  rw [Int.natCast_mul]
  congr 1
  omega
 have hml : S * (2 * 2 ^ D - 1) ≤ 8 * 2047 := Nat.mul_le_mul h.s8 (by have := tree_le D h.hD; omega)
 generalize S * (2 * 2 ^ D - 1) = tr at *
 obtain ⟨b, hb⟩ : ∃ b, w.heap.size = b := ⟨_, rfl⟩
 obtain ⟨w2, hw2⟩ : ∃ w2, w.alloc (.cells #[.int .i64 (N : Int), .int .i64 (S : Int), .int .i64 (T : Int)] 25) = w2 := ⟨_, rfl⟩
 have hx : Box w2 b 25 #[.int .i64 (N : Int), .int .i64 (S : Int), .int .i64 (T : Int)] := by rw [← hw2, ← hb]; exact Box.new w _ _
 have hbl : Below w.heap.size w w2 := by rw [← hw2]; exact (Below.refl _ w).alloc (Nat.le_refl _) _
 have HX := Lib.hid hx
 have HB := Lib.hid hbl
 have HW2 := Lib.hid hw2
 have HBb := Lib.hid hb
 have k0 : w2.cell? ⟨b, 0, none⟩ = some (.int .i64 (N : Int)) := hx.cell 0
 have k1 : w2.cell? ⟨b, 1, none⟩ = some (.int .i64 (S : Int)) := hx.cell 1
 have k2 : w2.cell? ⟨b, 2, none⟩ = some (.int .i64 (T : Int)) := hx.cell 2
 clear hx hbl hw2 hb
 go_enter Tryz.func28, Tryz.ntmps28
 go_upto_region 1 with fail
 rw [HBb.out, HW2.out]
 go_wp2_with fail
 refine (HR.out _).mono ?_
 rintro e w3 ⟨rfl, hb3⟩
 have HB3 := Lib.hid (HB.out.trans (hb3.mono HB.out.size))
 have HX3 := Lib.hid (HX.out.of (hb3.block _ HX.out.lt))
 clear hb3 k0 k1 k2 HX
 go_upto_region 3 with fail
 refine held_s (S := fun w' => Box w' b 25 #[.int .i64 (N : Int), .int .i64 (S : Int), .int .i64 (T : Int)] ∧ Below w.heap.size w w') 13 rfl (by kernel_rfl) ⟨HX3.out.drewN 1, HB3.out.trans ((Below.refl _ _).drew)⟩ (fun hHeld => ?_)
 simp only [qA0, qB0, qC0, List.nil_append, List.cons_append]
 generalize w3.drew = w4 at *
 refine tk1 0 8 (.pointer (some ⟨b, 1, none⟩)) rfl (Or.inl ⟨by rfl, fun w' hw => by go_simp⟩) hHeld ?_
 try simp only [Act.put, sA0, sB0, sC0]
 refine tk1 1 9 (.int .i64 (S : Int)) rfl (Or.inl ⟨by rfl, fun w' hw => by (have k0 := hw.1.cell 0; have k1 := hw.1.cell 1; have k2 := hw.1.cell 2; go_simp)⟩) hHeld ?_
 try simp only [Act.put, sA0, sB0, sC0]
 refine tk1 2 10 (.pointer (some ⟨b, 0, none⟩)) rfl (Or.inl ⟨by rfl, fun w' hw => by go_simp⟩) hHeld ?_
 try simp only [Act.put, sA0, sB0, sC0]
 refine tk1 3 11 (.int .i64 (N : Int)) rfl (Or.inl ⟨by rfl, fun w' hw => by (have k0 := hw.1.cell 0; have k1 := hw.1.cell 1; have k2 := hw.1.cell 2; go_simp)⟩) hHeld ?_
 try simp only [Act.put, sA0, sB0, sC0]
 refine tk1 6 14 (.pointer (some ⟨b, 2, none⟩)) rfl (Or.inl ⟨by rfl, fun w' hw => by go_simp⟩) hHeld ?_
 try simp only [Act.put, sA0, sB0, sC0]
 refine tk1 7 15 (.int .i64 (T : Int)) rfl (Or.inl ⟨by rfl, fun w' hw => by (have k0 := hw.1.cell 0; have k1 := hw.1.cell 1; have k2 := hw.1.cell 2; go_simp)⟩) hHeld ?_
 try simp only [Act.put, sA0, sB0, sC0]
 refine tk1 8 16 (.agg #[.int .i64 (N : Int), .int .i64 (S : Int), .int .i64 (T : Int)]) rfl (Or.inl ⟨by rfl, fun w' hw => by (have k0 := hw.1.cell 0; have k1 := hw.1.cell 1; have k2 := hw.1.cell 2; go_simp)⟩) hHeld ?_
 try simp only [Act.put, sA0, sB0, sC0]
 refine one_ready 4 rfl (by kernel_rfl) (fun K hK => ?_)
 go_simp
 refine (HN.out _).mono ?_
 rintro e w6 ⟨rfl, rfl⟩
 refine hK.out _ _ hHeld (fun hHeld => ?_)
 clear hK K
 simp only [sA0, sB0, sC0]
 refine tk1 5 13 (.int .i64 (tr : Int)) rfl (Or.inl ⟨by rfl, fun w' hw => by (go_simp; rw [IntKind.wrap_i64]; omega)⟩) hHeld ?_
 try simp only [Act.put, sA0, sB0, sC0]
 refine one_ready 9 rfl (by kernel_rfl) (fun K hK => ?_)
 go_simp
 refine (HQ.out _).mono ?_
 rintro e w7 ⟨rfl, hb7⟩
 have hH7 : Box w7 b 25 #[.int .i64 (N : Int), .int .i64 (S : Int), .int .i64 (T : Int)] ∧ Below w.heap.size w w7 := ⟨hHeld.1.of (hb7.block _ hHeld.1.lt), hHeld.2.trans (hb7.mono hHeld.2.size)⟩
 refine hK.out _ _ hH7 (fun hHeld => ?_)
 clear hK K hb7 hH7
 simp only [sA0, sB0, sC0]
 refine tk1 10 2 (.int .i64 (tr : Int)) rfl (Or.inl ⟨by rfl, fun w' hw => by go_simp⟩) hHeld ?_
 try simp only [Act.put, sA0, sB0, sC0]
 refine tk1 11 3 (.int .i64 (T : Int)) rfl (Or.inl ⟨by rfl, fun w' hw => by go_simp⟩) hHeld ?_
 try simp only [Act.put, sA0, sB0, sC0]
 refine tk1 12 4 (.int .i64 (Q : Int)) rfl (Or.inl ⟨by rfl, fun w' hw => by go_simp⟩) hHeld ?_
 try simp only [Act.put, sA0, sB0, sC0]
 refine wpAnyH_done (by kernel_rfl) ?_ _
 have HE := Lib.hid hHeld.2
 clear hHeld
 go_wp2_with fail
 go_ret3
 exact ⟨rfl, HE.out⟩
end Go.Proofs.YtknnebhjldfkhaaGreat


namespace Go.Proofs.YtknnebhjldfkhaaGreat
set_option maxRecDepth 100000
open Go.RowKit Go.ChangeShapes Go.WideShapes Go.ChangeAt

set_option linter.unusedSimpArgs false in
set_option maxHeartbeats 1000000 in
theorem leaves_there {b n N cap : Nat} {A : Option Addr} {S T : Int} {lf : Nat → Nat} (w : World) (hb : b ≤ 10) (n1 : 1 ≤ n) (n4 : n ≤ 4) (hN : N ≤ 1000) (hz : Nums .i64 w w.heap.size A N (fun j => ((lf j : Nat) : Int))) (hl : ∀ i, i < N → lf i < blN b (n - 1 - i % n)) :
  Calls Tryz.prog 125 #[.agg (scA b S T n), .slice A N cap] w fun e w' => e = .returned (.bool true) ∧ Below w.heap.size w w' := by
 have HLa : Hid (∀ W, Calls Tryz.prog 113 #[.agg (scA b S T n)] W fun e w' => e = .returned (.int .i64 ((n - 1 : Nat) : Int)) ∧ Below W.heap.size W w') := Lib.hid fun W => (last_any b S T n W n1 (by omega)).mono fun e w' h => ⟨h.1, by rw [h.2]; exact (Below.refl _ W).alloc (Nat.le_refl _) _⟩
 have HBl : Hid (∀ (W : World) (h : Nat), h ≤ 100 → Calls Tryz.prog 149 #[.agg (scA b S T n), .int .i64 (h : Int)] W fun e w' => e = .returned (.int .i64 ((blN b h : Nat) : Int)) ∧ Below W.heap.size W w') := Lib.hid fun W h hh => (blocks_any b S T n h W hb hh).mono fun e w' h => ⟨h.1, by rw [h.2]; exact (Below.refl _ W).alloc (Nat.le_refl _) _⟩
 have hbl := fun h => blN_le b h hb
 have HZ := Lib.hid hz
 have HL := Lib.hid hl
 clear hz hl
 unfold scA at *
 generalize blN b = NB at *
 generalize ((2 ^ b : Nat) : Int) = B at *
 obtain ⟨p, hp⟩ : ∃ p, w.heap.size = p := ⟨_, rfl⟩
 obtain ⟨w2, hw2⟩ : ∃ w2, w.alloc (.cells #[.int .i64 B, .int .i64 S, .int .i64 T, .int .i64 (n : Int)] 79) = w2 := ⟨_, rfl⟩
 have HX := Lib.hid (show Box w2 p 79 #[.int .i64 B, .int .i64 S, .int .i64 T, .int .i64 (n : Int)] by rw [← hw2, ← hp]; exact Box.new w _ _)
 have HB := Lib.hid (show Below w.heap.size w w2 by rw [← hw2]; exact (Below.refl _ w).alloc (Nat.le_refl _) _)
 have HW2 := Lib.hid hw2
 have HPP := Lib.hid hp
 have HLe := Lib.hid hbl
 clear hw2 hp hbl
 go_enter Tryz.func125, Tryz.ntmps125
 go_upto_region 1 with fail
 rw [HPP.out, HW2.out]
 go_wp2_with fail
 go_loopw [10] (fun v10 wr => ∃ i : Nat, v10 = .int .i64 i ∧ i ≤ N ∧ Below w.heap.size w wr ∧ Box wr p 79 #[.int .i64 B, .int .i64 S, .int .i64 T, .int .i64 (n : Int)]) (fun v10 _ => N - (intOf v10).toNat)
 case atStart => exact ⟨0, rfl, by omega, HB.out, HX.out⟩
 case round =>
  obtain ⟨i, rfl, hi, hB, hX⟩ := hrel
  by_cases hlt : i < N
  ·obtain ⟨g, o, rfl, hg, hc⟩ := HZ.out (by omega)
   have hlf := HL.out i hlt
   obtain ⟨q, hq⟩ : ∃ q, i % n = q := ⟨_, rfl⟩
   have hqn : q < n := by rw [← hq]; exact Nat.mod_lt _ (by omega)
   have b1 : (i : Int).tmod (n : Int) = ((q : Nat) : Int) := by rw [← hq, Int.tmod_eq_emod_of_nonneg (by omega)]; rfl
   rw [hq] at hlf
   have c0 : wr.cell? ⟨g, o + i, none⟩ = some (.int .i64 ((lf i : Nat) : Int)) := (World.cell?_of_block (hB.block g hg)).trans (hc i hlt)
   have hNB := HLe.out (n - 1 - q)
   have hn0 : ¬ (n : Int) = 0 := by omega
   have hn0' : ¬ n = 0 := by omega
   have hnn : ¬ (n : Int) = -1 := by omega
   clear hq hc
   go_upto_region 4 with fail
   refine held_s (S := fun u => Box u p 79 #[.int .i64 B, .int .i64 S, .int .i64 T, .int .i64 (n : Int)]) 8 rfl (by kernel_rfl) (hX.drewN 1) (fun hHeld => ?_)
   simp only [qA0, qB0, qC0, List.nil_append, List.cons_append]
   have hB := hB.drew
   clear hX c0
   generalize World.drew _ = wd at *
   refine tk1 0 15 (.agg #[.int .i64 B, .int .i64 S, .int .i64 T, .int .i64 (n : Int)]) rfl (Or.inl ⟨by rfl, fun w' hw => by (have y0 := hw.cell 0; have y1 := hw.cell 1; have y2 := hw.cell 2; have y3 := hw.cell 3; go_simp)⟩) hHeld ?_
   try simp only [Act.put, sA0, sB0, sC0]
   refine tk1 2 17 (.int .i64 (i : Int)) rfl (Or.inl ⟨by rfl, fun w' hw => by go_simp⟩) hHeld ?_
   try simp only [Act.put, sA0, sB0, sC0]
   refine tk1 3 18 (.pointer (some ⟨p, 3, none⟩)) rfl (Or.inl ⟨by rfl, fun w' hw => by go_simp⟩) hHeld ?_
   try simp only [Act.put, sA0, sB0, sC0]
   refine tk1 4 19 (.int .i64 (n : Int)) rfl (Or.inl ⟨by rfl, fun w' hw => by (have y := hw.cell 3; go_simp)⟩) hHeld ?_
   try simp only [Act.put, sA0, sB0, sC0]
   refine tk1 5 20 (.int .i64 ((q : Nat) : Int)) rfl (Or.inl ⟨by rfl, fun w' hw => by (go_simp; first | done | omega | (rw [IntKind.wrap_i64]; omega) | (intro h; omega))⟩) hHeld ?_
   try simp only [Act.put, sA0, sB0, sC0]
   refine one_ready 1 rfl (by kernel_rfl) (fun K9 hK => ?_)
   go_simp
   refine (HLa.out _).mono ?_
   rintro e w4 ⟨rfl, hb4⟩
   have hB := hB.trans (hb4.mono hB.size)
   refine hK.out _ _ (hHeld.of (hb4.block _ hHeld.lt)) (fun hHeld => ?_)
   clear hK K9 hb4
   try simp only [sA0, sB0, sC0]
   refine tk1 6 21 (.int .i64 ((n - 1 - q : Nat) : Int)) rfl (Or.inl ⟨by rfl, fun w' hw => by (go_simp; first | done | omega | (rw [IntKind.wrap_i64]; omega) | (intro h; omega))⟩) hHeld ?_
   try simp only [Act.put, sA0, sB0, sC0]
   refine tk1 7 7 (.int .i64 ((n - 1 - q : Nat) : Int)) rfl (Or.inl ⟨by rfl, fun w' hw => by go_simp⟩) hHeld ?_
   try simp only [Act.put, sA0, sB0, sC0]
   refine wpAnyH_done (by kernel_rfl) ?_ _
   have y0 := hHeld.cell 0
   have y1 := hHeld.cell 1
   have y2 := hHeld.cell 2
   have y3 := hHeld.cell 3
   simp at y0 y1 y2 y3
   have f0 : ¬ ((lf i : Nat) : Int) < 0 := by omega
   obtain ⟨x, hx⟩ : ∃ x, lf i = x := ⟨_, rfl⟩
   obtain ⟨nb, hnb⟩ : ∃ nb, NB (n - 1 - q) = nb := ⟨_, rfl⟩
   have HBq := HBl.out
   have HB1 := Lib.hid (fun W => HBl.out W (n - 1 - q) (by omega))
   rw [hnb] at HB1 hlf
   rw [hx] at hlf f0
   clear HBq hnb
   have f1 : ¬ ((nb : Nat) : Int) ≤ ((x : Nat) : Int) := by omega
   have f2 : ((x : Nat) : Int) < ((nb : Nat) : Int) := by omega
   try simp only [hx]
   clear hx
   go_wp2_with fail
   refine (HB1.out _).mono ?_
   rintro e w5 ⟨rfl, hb5⟩
   have hX := hHeld.of (hb5.block _ hHeld.lt)
   have hB := hB.trans (hb5.mono hB.size)
   clear hb5 y0 y1 y2 y3
   go_wp2_with fail
   go_roundw
   case rel => exact ⟨i + 1, by go_num, by omega, hB, hX⟩
   case measure => simp [intOf]; omega
  ·obtain rfl : i = N := by omega
   go_wp2_with fail
   go_ret
   exact ⟨rfl, hB⟩
end Go.Proofs.YtknnebhjldfkhaaGreat


namespace Go.Proofs.YtknnebhjldfkhaaGreat
set_option maxRecDepth 100000
open Go.RowKit

def Rg (x : Int) : Prop := -9223372036854775808 ≤ x ∧ x ≤ 9223372036854775807
def isSt (S H : Int) : Bool := decide (1 ≤ S) && decide (S ≤ 8) && decide (1 ≤ H) && decide (H ≤ 64)
theorem isSt_iff (S H : Int) : isSt S H = true ↔ (1 ≤ S ∧ S ≤ 8) ∧ (1 ≤ H ∧ H ≤ 64) := by
 unfold isSt
 simp only [Bool.and_eq_true, decide_eq_true_eq]
 constructor
 ·rintro ⟨⟨⟨a, b⟩, c⟩, d⟩; exact ⟨⟨a, b⟩, c, d⟩
 ·rintro ⟨⟨a, b⟩, c, d⟩; exact ⟨⟨⟨a, b⟩, c⟩, d⟩
theorem isSh_st {D : Nat} (h : D ≤ 10) (S H : Int) : isSh (D : Int) S H = isSt S H := by
 unfold isSh isSt
 have h1 : decide ((0 : Int) ≤ (D : Int)) = true := decide_eq_true (by omega)
 have h2 : decide ((D : Int) ≤ 10) = true := decide_eq_true (by omega)
 rw [h1, h2]
 simp
def isVs (V : Int) : Bool := decide (1 ≤ V) && decide (V ≤ 4)
theorem isVs_iff (V : Int) : isVs V = true ↔ 1 ≤ V ∧ V ≤ 4 := by
 unfold isVs
 rw [Bool.and_eq_true, decide_eq_true_eq, decide_eq_true_eq]
def stR (N S H V : Int) : Bool := isTree N && isVs V && isSt S H
theorem stR_iff (N S H V : Int) : stR N S H V = true ↔ ∃ b s t n : Nat, b ≤ 10 ∧ N = ((2 ^ b : Nat) : Int) ∧ S = s ∧ H = t ∧ V = n ∧ 1 ≤ s ∧ s ≤ 8 ∧ 1 ≤ t ∧ t ≤ 64 ∧ 1 ≤ n ∧ n ≤ 4 := by
 unfold stR
 rw [Bool.and_eq_true, Bool.and_eq_true, isTree_iff, isVs_iff, isSt_iff]
 constructor
 ·rintro ⟨⟨⟨b, hb, rfl⟩, h⟩, h2, h3⟩
  exact ⟨b, S.toNat, H.toNat, V.toNat, hb, rfl, by omega, by omega, by omega, by omega, by omega, by omega, by omega, by omega, by omega⟩
 ·rintro ⟨b, s, t, n, hb, rfl, rfl, rfl, rfl, h1, h2, h3, h4, h5, h6⟩
  exact ⟨⟨⟨b, hb, rfl⟩, by omega, by omega⟩, ⟨by omega, by omega⟩, by omega, by omega⟩
def qOf (D S H : Nat) : Int := rd (((D + 1) * S + H + 1 : Nat) : Int)
theorem conf_of {D S H : Nat} (hD : D ≤ 10) (s1 : 1 ≤ S) (s8 : S ≤ 8) (t1 : 1 ≤ H) (t64 : H ≤ 64) : ∃ Q P, Conf (2 ^ D) S H D ((D + 1) * S) ((D + 1) * S + H + 1) Q P ∧ qOf D S H = (Q : Int) ∧ 3 ≤ Q ∧ Q ≤ 256 := by
 obtain ⟨Q, P, h⟩ := Conf.mk' hD rfl s1 s8 t1 t64
 have hb := h.big
 have := h.le
 exact ⟨Q, P, h, h.hR, by omega, hb.2.2.2⟩
def szOf (b S H h : Nat) : List Int := [((S * (2 * 2 ^ (b - 2 * h) - 1) : Nat) : Int), (H : Int), qOf (b - 2 * h) S H]
def szL (b S H : Nat) : Nat → List Int
 | 0 => []
 | n + 1 => szL b S H n ++ szOf b S H n
theorem szL_len (b S H : Nat) : ∀ n, (szL b S H n).length = 3 * n
 | 0 => rfl
 | n + 1 => by rw [szL, List.length_append, szL_len b S H n]; show 3 * n + 3 = _; omega
def szS (b S H n : Nat) : List Int := ((blN b (n - 1) : Nat) : Int) :: szL b S H n
theorem szS_len (b S H n : Nat) : (szS b S H n).length = 3 * n + 1 := by simp [szS, szL_len]
def szI (N S H V : Int) : List Int := if stR N S H V = true then szS (dpt N) S.toNat H.toNat V.toNat else []
def bigL (l : List Int) : Bool := l.any fun x => decide (4096 < x)

structure Cfg where
 A : Int
 B : Int
 K : Int
 P : Int
 T : Int
 S : Int
 H : Int
 V : Int
 O : Int
structure Cfg.Wf (c : Cfg) : Prop where
 A : Rg c.A
 B : Rg c.B
 K : Rg c.K
 P : Rg c.P
 T : Rg c.T
 S : Rg c.S
 H : Rg c.H
 V : Rg c.V
 O : Rg c.O
def wtE (n l g : Int) : Int := if n < l ∨ n > g then 2 else 0
def wA (c : Cfg) : Int := wrap64 (c.A + c.B)
def nB (c : Cfg) : Int := rd (wrap64 (wrap64 (2 * c.T) + wA c))
def tbE (c : Cfg) : Int := if wtE c.T 1 128 ≠ 0 then wtE c.T 1 128 else if rd c.T ≠ c.T then 3 else if c.T < wA c then 4 else 0
def lvE (c : Cfg) : Int := if stR (nB c) c.S c.H c.V = true ∧ bigL (szI (nB c) c.S c.H c.V) = false then 0 else 1
def ftE (c : Cfg) : Nat → Int
 | 0 => wtE c.A 1 64
 | 1 => wtE c.B 1 16
 | 2 => wtE c.K 1 16
 | 3 => wtE c.P 1 32
 | 4 => wtE c.O 0 2
 | 5 => tbE c
 | 6 => lvE c
 | _ => 0
structure Fst (c : Cfg) (i : Nat) : Prop where
 le : i ≤ 7
 ok : ∀ j, j < i → ftE c j = 0
 bad : i < 7 → ftE c i ≠ 0
end Go.Proofs.YtknnebhjldfkhaaGreat


namespace Go.Proofs.YtknnebhjldfkhaaGreat
set_option maxRecDepth 100000
open Go.RowKit Go.ChangeShapes Go.WideShapes Go.ChangeAt

set_option maxHeartbeats 1000000 in
theorem lcfg_any (b : Nat) (S T : Int) (n h : Nat) (w : World) (hb : b ≤ 10) (hh : h ≤ 100) :
  Calls Tryz.prog 124 #[.agg (scA b S T n), .int .i64 (h : Int)] w fun e w' => e = .returned (.agg #[.int .i64 ((blN b h : Nat) : Int), .int .i64 S, .int .i64 T]) ∧ Below w.heap.size w w' := by
 have HBl := Lib.hid (fun W => blocks_any b S T n h W hb hh)
 generalize blN b h = N at *
 unfold scA at *
 generalize 2 ^ b = B at *
 obtain ⟨p, hp⟩ : ∃ p, w.heap.size = p := ⟨_, rfl⟩
 obtain ⟨w2, hw2⟩ : ∃ w2, ((w.alloc (.cells #[.int .i64 (B : Int), .int .i64 S, .int .i64 T, .int .i64 (n : Int)] 79)).alloc (.cells #[.int .i64 0, .int .i64 0, .int .i64 0] 25)) = w2 := ⟨_, rfl⟩
 have hbx : Box w2 p 79 #[.int .i64 (B : Int), .int .i64 S, .int .i64 T, .int .i64 (n : Int)] := by rw [← hw2, ← hp]; exact (Box.new w _ _).alloc _
 have hby : Box w2 (p + 1) 25 #[.int .i64 0, .int .i64 0, .int .i64 0] := by
  rw [← hw2, ← hp]
  have := Box.new (w.alloc (.cells #[.int .i64 (B : Int), .int .i64 S, .int .i64 T, .int .i64 (n : Int)] 79)) 25 #[.int .i64 0, .int .i64 0, .int .i64 0]
  simpa using this
 have hbl : Below w.heap.size w w2 := by rw [← hw2]; exact ((Below.refl _ w).alloc (Nat.le_refl _) _).alloc (by simp) _
 have HWp := Lib.hid hp
 have HW2 := Lib.hid hw2
 clear hw2
 go_enter Tryz.func124, Tryz.ntmps124
 go_upto_region 1 with fail
 rw [HW2.out]
 refine held_s (S := fun w' => Box w' p 79 #[.int .i64 (B : Int), .int .i64 S, .int .i64 T, .int .i64 (n : Int)] ∧ Below w.heap.size w w' ∧ ∃ x y z, Box w' (p + 1) 25 #[x, y, z]) 9 rfl (by kernel_rfl) ⟨hbx.drewN 1, hbl.trans ((Below.refl _ _).drew), _, _, _, hby.drewN 1⟩ (fun hHeld => ?_)
 clear hbx hby hbl
 simp only [qA0, qB0, qC0, List.nil_append, List.cons_append]
 generalize w2.drew = w4 at *
 refine tk1 0 5 (.agg #[.int .i64 (B : Int), .int .i64 S, .int .i64 T, .int .i64 (n : Int)]) rfl (Or.inl ⟨by rfl, fun w' hw => by (have k0 := hw.1.cell 0; have k1 := hw.1.cell 1; have k2 := hw.1.cell 2; have k3 := hw.1.cell 3; go_simp)⟩) hHeld ?_
 try simp only [Act.put, sA0, sB0, sC0]
 refine tk1 1 6 (.int .i64 (h : Int)) rfl (Or.inl ⟨by rfl, fun w' hw => by go_simp⟩) hHeld ?_
 try simp only [Act.put, sA0, sB0, sC0]
 refine tk1 3 8 (.pointer (some ⟨p, 1, none⟩)) rfl (Or.inl ⟨by rfl, fun w' hw => by go_simp⟩) hHeld ?_
 try simp only [Act.put, sA0, sB0, sC0]
 refine tk1 4 9 (.int .i64 S) rfl (Or.inl ⟨by rfl, fun w' hw => by (have k1 := hw.1.cell 1; go_simp)⟩) hHeld ?_
 try simp only [Act.put, sA0, sB0, sC0]
 refine tk1 5 10 (.pointer (some ⟨p, 2, none⟩)) rfl (Or.inl ⟨by rfl, fun w' hw => by go_simp⟩) hHeld ?_
 try simp only [Act.put, sA0, sB0, sC0]
 refine tk1 6 11 (.int .i64 T) rfl (Or.inl ⟨by rfl, fun w' hw => by (have k2 := hw.1.cell 2; go_simp)⟩) hHeld ?_
 try simp only [Act.put, sA0, sB0, sC0]
 refine one_ready 2 rfl (by kernel_rfl) (fun K hK => ?_)
 go_simp
 refine (HBl.out _).mono ?_
 rintro e w3 ⟨rfl, rfl⟩
 refine hK.out _ _ ⟨hHeld.1.alloc _, hHeld.2.1.alloc hHeld.2.1.size _, hHeld.2.2.choose, hHeld.2.2.choose_spec.choose, hHeld.2.2.choose_spec.choose_spec.choose, hHeld.2.2.choose_spec.choose_spec.choose_spec.alloc _⟩ (fun hHeld => ?_)
 clear hK K
 generalize w4.alloc _ = w5 at *
 simp only [sA0, sB0, sC0]
 refine tk1 7 12 (.agg #[.int .i64 (N : Int), .int .i64 S, .int .i64 T]) rfl (Or.inl ⟨by rfl, fun w' hw => by go_simp⟩) hHeld ?_
 try simp only [Act.put, sA0, sB0, sC0]
 refine one_ready 8 rfl (by kernel_rfl) (fun K hK => ?_)
 obtain ⟨hx, hB, x, y, z, hy⟩ := hHeld
 have y0 := hy.cell 0
 have y1 := hy.cell 1
 have y2 := hy.cell 2
 have f0 := hy.frozen 0
 have f1 := hy.frozen 1
 have f2 := hy.frozen 2
 go_simp
 have hz := ((hy.put 0 (.int .i64 (N : Int))).put 1 (.int .i64 S)).put 2 (.int .i64 T)
 have HZ := Lib.hid hz
 have hE := below_only hB ((((Only.refl (just (p + 1)) _).setCell (p := ⟨p + 1, 0, none⟩) (.inl (just_self _)) (.int .i64 (N : Int))).setCell (p := ⟨p + 1, 1, none⟩) (.inl (just_self _)) (.int .i64 S)).setCell (p := ⟨p + 1, 2, none⟩) (.inl (just_self _)) (.int .i64 T)) hB.size (fun i hi e => by have e : i = p + 1 := e; have := HWp.out; omega)
 have HE := Lib.hid hE
 refine hK.out _ _ ⟨((hx.far (by simp) _).far (by simp) _).far (by simp) _, hE, _, _, _, hz⟩ (fun hHeld => ?_)
 clear hK K hz hE hHeld y0 y1 y2 f0 f1 f2
 refine wpAnyH_done (by kernel_rfl) ?_ _
 go_wp2_with fail
 exact bodyPost_ret (v := .agg #[.int .i64 (N : Int), .int .i64 S, .int .i64 T]) (results_one Tryz.results124 rfl (load_box HZ.out Tryz.underlying25 rfl (by kernel_rfl))) rfl ⟨rfl, HE.out⟩
set_option maxHeartbeats 1000000 in
theorem topcells_any (b : Nat) (S T : Int) (n : Nat) (w : World) (hb : b ≤ 10) (h0 : 1 ≤ n) (h1 : n ≤ 100) :
  Calls Tryz.prog 123 #[.agg (scA b S T n)] w fun e w' => e = .returned (.int .i64 ((blN b (n - 1) : Nat) : Int)) ∧ Below w.heap.size w w' := by
 have HBl := Lib.hid (fun W => blocks_any b S T n (n - 1) W hb (by omega))
 have HLa := Lib.hid (fun W => last_any b S T n W h0 h1)
 generalize blN b (n - 1) = N at *
 generalize n - 1 = m at *
 unfold scA at *
 generalize 2 ^ b = B at *
 have c0 := Gr.cell ((Box.new w 79 #[.int .i64 (B : Int), .int .i64 S, .int .i64 T, .int .i64 (n : Int)]).cell 0)
 have c1 := Gr.cell ((Box.new w 79 #[.int .i64 (B : Int), .int .i64 S, .int .i64 T, .int .i64 (n : Int)]).cell 1)
 have c2 := Gr.cell ((Box.new w 79 #[.int .i64 (B : Int), .int .i64 S, .int .i64 T, .int .i64 (n : Int)]).cell 2)
 have c3 := Gr.cell ((Box.new w 79 #[.int .i64 (B : Int), .int .i64 S, .int .i64 T, .int .i64 (n : Int)]).cell 3)
 go_enter Tryz.func123, Tryz.ntmps123
 go_upto_region 1 with fail
 refine wp_region_grow (by kernel_rfl) (by kernel_rfl) ?_
 repeat (go_big_quiet_step (first | (go_at_call 113; exact Gr.calls ((HLa.out _).mono fun _ _ ⟨he, hw⟩ => ⟨he, by rw [hw]; exact (Only.refl _ _).alloc _⟩)) | (go_at_call 149; exact Gr.calls ((HBl.out _).mono fun _ _ ⟨he, hw⟩ => ⟨he, by rw [hw]; exact (Only.refl _ _).alloc _⟩))))
 refine wpQuiet_nil ?_
 intro w9 hw9
 obtain ⟨G, hG⟩ := hw9
 subst hG
 have HE := Lib.hid (((Below.refl w.heap.size w).alloc (Nat.le_refl _) (.cells #[.int .i64 (B : Int), .int .i64 S, .int .i64 T, .int .i64 (n : Int)] 79)).trans (G.ok.none.mono (by simp)))
 go_wp2_with fail
 go_ret
 exact ⟨rfl, HE.out⟩
set_option maxHeartbeats 1000000 in
theorem lright_any (D : Nat) (S T : Int) (w : World) (hD : D ≤ 10) : Calls Tryz.prog 29 #[.agg #[.int .i64 ((2 ^ D : Nat) : Int), .int .i64 S, .int .i64 T]] w fun e w' => e = .returned (.bool (isSt S T)) ∧ Below w.heap.size w w' := by
 cases h : isSt S T
 ·have hn := tree_le D hD
  have HS := Lib.hid (fun W => shape_in (2 ^ D) S T D W hD rfl)
  have ht := isTree_two hD (N := 2 ^ D) rfl
  have HD := Lib.hid (fun W => deal_right (D : Int) S T W)
  rw [isSh_st hD, h] at HD
  generalize 2 ^ D = N at *
  have HP := Lib.hid (fun W => path_right (N : Int) W (by omega) (by omega))
  rw [ht] at HP
  clear h hn ht
  go_enter Tryz.func29, Tryz.ntmps29
  go_wp2_with fail
  refine (HP.out _).mono ?_
  rintro e w1 ⟨rfl, rfl⟩
  go_wp2_with fail
  refine (HS.out _).mono ?_
  rintro e w3 ⟨rfl, hb3⟩
  have HB3 := Lib.hid (((Below.refl _ w).alloc (Nat.le_refl _) (.cells #[.int .i64 (N : Int), .int .i64 S, .int .i64 T] 25)).trans (hb3.mono (by simp)))
  clear hb3
  go_wp2_with fail
  refine (HD.out _).mono ?_
  rintro e w4 ⟨rfl, hb4⟩
  have HB4 := Lib.hid (HB3.out.trans (hb4.mono HB3.out.size))
  clear hb4
  go_wp2_with fail
  go_ret
  exact ⟨rfl, HB4.out⟩
 ·obtain ⟨⟨h1, h2⟩, h3, h4⟩ := (isSt_iff _ _).1 h
  obtain ⟨s, rfl⟩ : ∃ s : Nat, S = (s : Int) := ⟨S.toNat, by omega⟩
  obtain ⟨t, rfl⟩ : ∃ t : Nat, T = (t : Int) := ⟨T.toNat, by omega⟩
  obtain ⟨Q, P, hc⟩ := Conf.mk' hD rfl (S := s) (T := t) (by omega) (by omega) (by omega) (by omega)
  exact lright_of hc w
end Go.Proofs.YtknnebhjldfkhaaGreat


namespace Go.Proofs.YtknnebhjldfkhaaGreat
set_option maxRecDepth 100000
open Go.RowKit Go.Shelf Go.ChangeShapes Go.WideShapes Go.ChangeAt

end Go.Proofs.YtknnebhjldfkhaaGreat

