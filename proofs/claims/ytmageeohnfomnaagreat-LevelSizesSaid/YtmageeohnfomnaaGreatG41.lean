/- Texts of ours put together: DealRepeat. -/
import Derived.Below
import Derived.ChangeSlices
import Derived.Deep.Draws
import Derived.Deep.MidRow
import Derived.Deep.OwnRows
import Derived.Deep.RegionHeld
import Derived.Laws.AppendOwn
import Derived.Laws.CopyOwn
import Derived.Lib.Hide
import Derived.OpenShut
import Derived.ProofKit
import Derived.RowKit3
import Derived.Shelf.Bits.Mul64
import Derived.SizedLaws
import Derived.WalkKit
import Derived.Test.YtmageeohnfomnaaGreatProg
import Derived.Test.YtmageeohnfomnaaGreatG0
import Derived.Test.YtmageeohnfomnaaGreatG2
namespace Go.Proofs.YtmageeohnfomnaaGreat
set_option maxRecDepth 100000
open Go.RowKit Go.Shelf Go.ChangeShapes Go.WideShapes Go.ChangeAt

def mul_ren : Go.Shelf.Ren := ⟨fun | 212 => 108 | 263 => 122 | 264 => 123 | n => n, fun | 46 => 141 | 51 => 178 | 53 => 54 | 146 => 182 | 148 => 180 | n => n, fun | n => n⟩
theorem mul_laid : Go.Proofs.Lays.n212 Tryz.prog mul_ren := {
  mixed := by kernel_rfl
  f212 := Tryz.func108.trans (congrArg some (by kernel_rfl))
  f263 := Tryz.func122.trans (congrArg some (by kernel_rfl))
  f264 := Tryz.func123.trans (congrArg some (by kernel_rfl))
  t46 := Tryz.underlying141
  a46 := Tryz.isAgg141
  z46 := Tryz.sizeOf141
  v46 := Tryz.zeroValue141
  t51 := Tryz.underlying178
  a51 := Tryz.isAgg178
  z51 := Tryz.sizeOf178
  v51 := Tryz.zeroValue178
  t53 := Tryz.underlying54
  a53 := Tryz.isAgg54
  z53 := Tryz.sizeOf54
  v53 := Tryz.zeroValue54
  t146 := Tryz.underlying182
  a146 := Tryz.isAgg182
  z146 := Tryz.sizeOf182
  v146 := Tryz.zeroValue182
  t148 := Tryz.underlying180
  a148 := Tryz.isAgg180
  z148 := Tryz.sizeOf180
  v148 := Tryz.zeroValue180 }
theorem mul_one (n : Nat) (hn : n ≤ 1000) (w : World) : Calls Tryz.prog 108 #[.int .u64 1, .int .u64 (n : Int)] w fun e w' => e = .returned (.tuple #[.int .u64 0, .int .u64 (n : Int)]) ∧ w' = w := by
  have h := Any.bits_Mul mul_laid 1 n (by omega) (by omega) w
  have e1 : 1 * n / 18446744073709551616 = 0 := by omega
  have e2 : 1 * n % 18446744073709551616 = n := by omega
  rw [e1, e2] at h
  exact h
def rep (n k : Nat) (x : Int) : List Value := List.replicate k (.int .i64 x) ++ List.replicate (n - k) (.int .i64 0)
theorem rep_len (n k : Nat) (x : Int) (h : k ≤ n) : (rep n k x).length = n := by simp [rep]; omega
theorem rep_at (n k j : Nat) (x : Int) (h : j < k) : (rep n k x)[j]? = some (.int .i64 x) := by
  unfold rep
  rw [List.getElem?_append_left (by simpa using h)]
  simp [h]
theorem rep_splice (n k m : Nat) (x : Int) (h : k + m ≤ n) : splice (rep n k x) k (List.replicate m (.int .i64 x)) = rep n (k + m) x := by
  unfold splice rep
  rw [List.take_left' (by simp), List.drop_append, List.length_replicate, List.length_replicate, List.drop_eq_nil_of_le (by simp), List.nil_append, ← List.append_assoc, List.replicate_append_replicate]
  congr 1
  rw [List.drop_replicate]
  congr 1
  omega
theorem sizeI64 : (Tryz.prog.info? 3).map (·.size) = some 1 := by kernel_rfl
def RpPost (w : World) (n : Nat) (x : Int) (e : Ending) (w' : World) : Prop :=
  ∃ g, e = .returned (.slice (some ⟨g, 0, none⟩) n n) ∧ w'.rowIs g 3 n (fun _ => .int .i64 x) ∧ w.heap.size ≤ g ∧ Below w.heap.size w w'
set_option maxRecDepth 100000 in
set_option maxHeartbeats 2000000 in
theorem repeat_one (b n : Nat) (x : Int) (w : World) (hn : 0 < n) (hn2 : n ≤ 1000) (hc : w.cell? ⟨b, 0, none⟩ = some (.int .i64 x)) :
    Calls Tryz.prog 98 #[.slice (some ⟨b, 0, none⟩) 1 1, .int .i64 (n : Int)] w (RpPost w n x) := by
  have hmk := run_make_row' (P := Tryz.prog) 36 3 (.int .i64 0) 8 Tryz.underlying36 infoI64 rfl .i64 .i64 n (by omega) (by omega)
  have hbl := World.block_lt_of_cell? w ⟨b, 0, none⟩ hc
  have hmade : (w.alloc (.cells (madeCells #[.int .i64 0] n) 3)).heap[w.heap.size]? = some (.cells (rep n 0 x).toArray 3 (0, 0)) := by
    rw [Go.Deep.blk_alloc_new]
    congr 2
    apply Array.ext
    · rw [size_madeCells]; simp [rep]
    · intro i h1 h2
      have hi : i < n := by rwa [size_madeCells] at h1
      simp [madeCells, rep, Nat.mod_one]
  have HM := Lib.hid hmade
  have HC := Lib.hid hc
  clear hc hmade
  go_enter Tryz.func98, Tryz.ntmps98
  go_wp2_with fail
  refine (mul_one n hn2 _).mono ?_
  rintro e w1 ⟨rfl, rfl⟩
  go_wp2_with (with_reducible refine wpList_copy_splice rfl (.tmp 31) (.tmp 32) 36 36 rfl 3 Tryz.underlying36 sizeI64 (some ⟨w1.heap.size, 0, none⟩) (some ⟨b, 0, none⟩) n n 1 1 rfl rfl w1.heap.size 0 (rep n 0 x) 3 HM.out [.int .i64 x] ?c2 ?c3 ?c4 ?c5 w1.heap.size w1 ?c6 (Nat.le_refl _) ?_)
  case c2 => simp only [List.length_singleton]; show 1 = min 1 n; omega
  case c3 =>
    intro j v hv
    match j, hv with
    | 0, hv => exact HC.out.trans hv
  case c4 => first | omega | (rw [rep_len n 0 x (by omega)]; omega) | (simp [rep]; omega)
  case c5 => simp [Value.oneCell']
  case c6 => exact (Below.refl _ _).alloc (Nat.le_refl _) _
  intro w2 hw2 hb2
  have HW2 : Hid (w2.heap[w1.heap.size]? = some (.cells (rep n 1 x).toArray 3 (0, 0))) := by
    have := hw2.out
    rw [show splice (rep n 0 x) 0 [.int .i64 x] = rep n (0 + 1) x from rep_splice n 0 1 x (by omega)] at this
    exact this
  have HB2 := Lib.hid hb2
  clear hw2 hb2 HM HC
  obtain ⟨g, hg⟩ : ∃ g, w1.heap.size = g := ⟨_, rfl⟩
  rw [hg] at HW2
  have HG := Lib.hid hg
  clear hg
  go_wp2_with fail
  rw [HG.out]
  go_loopw [8] (fun v wr => ∃ k : Nat, v = .int .i64 k ∧ 1 ≤ k ∧ k ≤ n ∧ Hid (wr.heap[g]? = some (.cells (rep n k x).toArray 3 (0, 0))) ∧ Below w1.heap.size w1 wr) (fun v _ => n - (intOf v).toNat)
  case atStart => exact ⟨1, rfl, by omega, by omega, HW2, HB2.out⟩
  case round =>
    obtain ⟨k, rfl, hk1, hkn, hW, hB⟩ := hrel
    have HB := Lib.hid hB
    clear HW2 HB2 hB
    by_cases hlt : k < n
    · go_wp2_with fail
      obtain ⟨m, hm⟩ : ∃ m, min k (n - k) = m := ⟨_, rfl⟩
      have hmk2 : 1 ≤ m ∧ k + m ≤ n := by omega
      have hss := rep_splice n k m x (by omega)
      have hrl := rep_len n k x hkn
      have HSS := Lib.hid hss
      have hBg : w1.heap.size ≤ g := by have := HG.out; omega
      clear hss
      have hnk : ¬ n = k := by omega
      have hwk : IntKind.i64.wrap ((k : Int) + (m : Int)) = (k : Int) + (m : Int) := by rw [IntKind.wrap_i64]; omega
      refine held_t 10 rfl (by kernel_rfl) ?_
      simp only [Array.replicate_succ, Array.replicate_zero, List.push_toArray, List.nil_append, List.cons_append]
      refine wpAnyH_take (i := 0) (oi := ⟨some 38, _, _, _, _, _⟩) (v := .int .i64 (k : Int)) rfl (by kernel_rfl) (by kernel_rfl) (by kernel_rfl) (fun _ _ _ h => h) (Or.inl ⟨by rfl, fun w' _ => by go_simp⟩) trivial ?_
      simp only [Act.put, List.setIfInBounds_toArray, List.set_cons_zero, List.set_cons_succ]
      refine wpAnyH_take (i := 1) (oi := ⟨some 39, _, _, _, _, _⟩) (v := .slice (some ⟨g, 0, none⟩) n n) rfl (by kernel_rfl) (by kernel_rfl) (by kernel_rfl) (fun _ _ _ h => h) (Or.inl ⟨by rfl, fun w' _ => by go_simp⟩) trivial ?_
      simp only [Act.put, List.setIfInBounds_toArray, List.set_cons_zero, List.set_cons_succ]
      refine wpAnyH_take (i := 2) (oi := ⟨some 40, _, _, _, _, _⟩) (v := .int .i64 (k : Int)) rfl (by kernel_rfl) (by kernel_rfl) (by kernel_rfl) (fun _ _ _ h => h) (Or.inl ⟨by rfl, fun w' _ => by go_simp⟩) trivial ?_
      simp only [Act.put, List.setIfInBounds_toArray, List.set_cons_zero, List.set_cons_succ]
      refine wpAnyH_take (i := 3) (oi := ⟨some 41, _, _, _, _, _⟩) (v := .slice (some ⟨g, k, none⟩) (n - k) (n - k)) rfl (by kernel_rfl) (by kernel_rfl) (by kernel_rfl) (fun _ _ _ h => h) (Or.inl ⟨by rfl, fun w' _ => by go_simp⟩) trivial ?_
      simp only [Act.put, List.setIfInBounds_toArray, List.set_cons_zero, List.set_cons_succ]
      refine wpAnyH_take (i := 4) (oi := ⟨some 42, _, _, _, _, _⟩) (v := .slice (some ⟨g, 0, none⟩) n n) rfl (by kernel_rfl) (by kernel_rfl) (by kernel_rfl) (fun _ _ _ h => h) (Or.inl ⟨by rfl, fun w' _ => by go_simp⟩) trivial ?_
      simp only [Act.put, List.setIfInBounds_toArray, List.set_cons_zero, List.set_cons_succ]
      refine wpAnyH_take (i := 5) (oi := ⟨some 43, _, _, _, _, _⟩) (v := .int .i64 (k : Int)) rfl (by kernel_rfl) (by kernel_rfl) (by kernel_rfl) (fun _ _ _ h => h) (Or.inl ⟨by rfl, fun w' _ => by go_simp⟩) trivial ?_
      simp only [Act.put, List.setIfInBounds_toArray, List.set_cons_zero, List.set_cons_succ]
      refine wpAnyH_take (i := 6) (oi := ⟨some 44, _, _, _, _, _⟩) (v := .slice (some ⟨g, 0, none⟩) k n) rfl (by kernel_rfl) (by kernel_rfl) (by kernel_rfl) (fun _ _ _ h => h) (Or.inl ⟨by rfl, fun w' _ => by go_simp⟩) trivial ?_
      simp only [Act.put, List.setIfInBounds_toArray, List.set_cons_zero, List.set_cons_succ]
      refine one_ready 7 rfl (by kernel_rfl) (fun K hK => ?_)
      refine step_copy_splice rfl (.tmp 41) (.tmp 44) 36 36 rfl 3 Tryz.underlying36 sizeI64 (some ⟨g, k, none⟩) (some ⟨g, 0, none⟩) (n - k) (n - k) k n rfl rfl g k (rep n k x) 3 hW.out (List.replicate m (.int .i64 x)) ?c2 ?c3 ?c4 ?c5 w1.heap.size w1 ?c6 hBg ?_
      case c2 => rw [List.length_replicate]; exact hm.symm
      case c3 =>
        intro _
        refine ⟨rfl, _, rfl, fun j v hv => ?_⟩
        have hj : j < m := by have := (List.getElem?_eq_some_iff.1 hv).1; simpa using this
        have e2 : v = .int .i64 x := by simp [hj] at hv; exact hv.symm
        subst e2
        have hb : Box (wr.drew) g 3 (rep n k x).toArray := hW.out
        rw [add_plain, Nat.zero_add, hb.cell j, List.getElem?_toArray]
        exact rep_at n k j x (by omega)
      case c4 => rw [List.length_replicate, hrl]; omega
      case c5 => intro v hv; rw [List.eq_of_mem_replicate hv]; rfl
      case c6 => exact HB.out.drew
      intro w4 hw4 hb4
      have HW4 : Hid (w4.heap[g]? = some (.cells (rep n (k + m) x).toArray 3 (0, 0))) := by
        have := hw4.out
        rwa [HSS.out] at this
      have HB4 := Lib.hid hb4
      clear hw4 hb4 HSS hW HB
      simp only [List.length_replicate]
      refine hK.out _ _ trivial (fun _ => ?_)
      clear hK K
      simp only [Act.put, List.setIfInBounds_toArray, List.set_cons_zero, List.set_cons_succ]
      refine one_ready 8 rfl (by kernel_rfl) (fun K hK => ?_)
      go_simp
      refine hK.out _ _ trivial (fun _ => ?_)
      clear hK K
      simp only [List.setIfInBounds_toArray, List.set_cons_zero, List.set_cons_succ]
      refine one_ready 9 rfl (by kernel_rfl) (fun K hK => ?_)
      go_simp
      refine hK.out _ _ trivial (fun _ => ?_)
      clear hK K
      refine wpAnyH_done (by kernel_rfl) ?_ _
      go_wp2_with fail
      go_roundw
      case rel => exact ⟨k + m, by go_num, by omega, by omega, HW4, HB4.out⟩
      case measure => simp [intOf]; omega
    · obtain rfl : k = n := by omega
      go_wp2_with fail
      go_ret
      refine ⟨g, rfl, ⟨_, hW.out, by simp [rep_len k k x], fun i hi => ?_⟩, by have := HG.out; omega, HB.out⟩
      rw [List.getElem?_toArray]
      exact rep_at k k i x hi
end Go.Proofs.YtmageeohnfomnaaGreat

