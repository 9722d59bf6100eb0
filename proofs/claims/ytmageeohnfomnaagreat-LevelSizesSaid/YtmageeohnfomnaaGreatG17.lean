/- Texts of ours put together: DealCmp. -/
import Derived.Below
import Derived.BigQuiet
import Derived.ChangeArms
import Derived.ChangeSlices
import Derived.Deep.Draws
import Derived.Deep.OwnRows
import Derived.Deep.QuietTactic
import Derived.Deep.Slices
import Derived.Laws.AppendOwn
import Derived.Lib.Hide
import Derived.OpenShut
import Derived.ProofKit
import Derived.RowKit3
import Derived.SizedLaws
import Derived.Sort.Grow
import Derived.WalkKit
import Derived.WideShapes
import Derived.Test.YtmageeohnfomnaaGreatProg
import Derived.Test.YtmageeohnfomnaaGreatG16
import Derived.Test.YtmageeohnfomnaaGreatG3
import Derived.Test.YtmageeohnfomnaaGreatG1
import Derived.Test.YtmageeohnfomnaaGreatG2
import Derived.Test.YtmageeohnfomnaaGreatG6
namespace Go.Proofs.YtmageeohnfomnaaGreat
set_option maxRecDepth 100000
open Go.RowKit Go.ChangeShapes Go.WideShapes Go.ChangeAt

abbrev Cd := Int × Int × Int
def cdc (x : Cd) : List Value := [.int .u64 x.1, .int .i64 x.2.1, .int .i64 x.2.2]
theorem cdc_len (x : Cd) : (cdc x).length = 3 := rfl
theorem cdc_one (x : Cd) : ∀ v ∈ cdc x, v.oneCell' = true := by
  intro v hv
  simp only [cdc, List.mem_cons, List.not_mem_nil, or_false] at hv
  rcases hv with rfl | rfl | rfl <;> rfl
def agst (x y : Cd) : Int := if cmpI y.2.1 x.2.1 = 0 then if cmpI x.1 y.1 = 0 then cmpI x.2.2 y.2.2 else cmpI x.1 y.1 else cmpI y.2.1 x.2.1
theorem agst_iff (x y : Cd) : agst x y < 0 ↔ y.2.1 < x.2.1 ∨ (y.2.1 = x.2.1 ∧ (x.1 < y.1 ∨ (x.1 = y.1 ∧ x.2.2 < y.2.2))) := by
  have h1 := cmpI_rng y.2.1 x.2.1
  have h2 := cmpI_rng x.1 y.1
  have h3 := cmpI_rng x.2.2 y.2.2
  unfold agst
  split
  · split <;> omega
  · omega
section
variable (x y : Cd) (w : World)
set_option maxHeartbeats 1000000 in
theorem by_deep : Calls Tryz.prog 103 #[.agg #[.int .u64 x.1, .int .i64 x.2.1, .int .i64 x.2.2], .agg #[.int .u64 y.1, .int .i64 y.2.1, .int .i64 y.2.2]] w fun e w' => e = .returned (.int .i64 (cmpI y.2.1 x.2.1)) ∧ Mo w w' := by
  obtain ⟨x1, x2, x3⟩ := x
  obtain ⟨y1, y2, y3⟩ := y
  go_enter Tryz.func103, Tryz.ntmps103
  go_wp2_with fail
  refine (cmp_int y2 x2 _).mono ?_
  rintro e w1 ⟨rfl, rfl⟩
  go_wp2_with fail
  go_ret
  exact ⟨rfl, ((Mo.refl w).alloc _).alloc _⟩
set_option maxHeartbeats 1000000 in
theorem by_id : Calls Tryz.prog 104 #[.agg #[.int .u64 x.1, .int .i64 x.2.1, .int .i64 x.2.2], .agg #[.int .u64 y.1, .int .i64 y.2.1, .int .i64 y.2.2]] w fun e w' => e = .returned (.int .i64 (cmpI x.1 y.1)) ∧ Mo w w' := by
  obtain ⟨x1, x2, x3⟩ := x
  obtain ⟨y1, y2, y3⟩ := y
  go_enter Tryz.func104, Tryz.ntmps104
  go_wp2_with fail
  refine (cmp_word x1 y1 _).mono ?_
  rintro e w1 ⟨rfl, rfl⟩
  go_wp2_with fail
  go_ret
  exact ⟨rfl, ((Mo.refl w).alloc _).alloc _⟩
set_option maxHeartbeats 1000000 in
theorem by_at : Calls Tryz.prog 105 #[.agg #[.int .u64 x.1, .int .i64 x.2.1, .int .i64 x.2.2], .agg #[.int .u64 y.1, .int .i64 y.2.1, .int .i64 y.2.2]] w fun e w' => e = .returned (.int .i64 (cmpI x.2.2 y.2.2)) ∧ Mo w w' := by
  obtain ⟨x1, x2, x3⟩ := x
  obtain ⟨y1, y2, y3⟩ := y
  go_enter Tryz.func105, Tryz.ntmps105
  go_wp2_with fail
  refine (cmp_int x3 y3 _).mono ?_
  rintro e w1 ⟨rfl, rfl⟩
  go_wp2_with fail
  go_ret
  exact ⟨rfl, ((Mo.refl w).alloc _).alloc _⟩
end
structure CdTwo (w : World) (x1 x2 x3 y1 y2 y3 : Int) (wr : World) : Prop where
  b1 : Box wr w.heap.size 151 #[.int .u64 x1, .int .i64 x2, .int .i64 x3]
  b2 : Box wr (w.heap.size + 1) 151 #[.int .u64 y1, .int .i64 y2, .int .i64 y3]
  mo : Mo w wr
theorem CdTwo.next {w wr wx : World} {x1 x2 x3 y1 y2 y3 : Int} (h : CdTwo w x1 x2 x3 y1 y2 y3 wr) (k : Mo wr wx) : CdTwo w x1 x2 x3 y1 y2 y3 wx :=
  ⟨h.b1.of (k.below.block _ h.b1.lt), h.b2.of (k.below.block _ h.b2.lt), h.mo.trans k⟩
def three : Array Value := #[.func (.func 103) #[] #[], .func (.func 104) #[] #[], .func (.func 105) #[] #[]]
theorem index_three (k : Nat) (v : Value) (h : three[k]? = some v) (w : World) : (Instr.index 163 (.agg three) (.int .i64 (k : Int))).run Tryz.prog w = .ok v w := by
  have hk : k < 3 := (Array.getElem?_eq_some_iff.1 h).1
  have hk' : k = 0 ∨ k = 1 ∨ k = 2 := by omega
  rcases hk' with rfl | rfl | rfl <;>
    simp [Instr.index, run_underlying Tryz.underlying163, asIntOf, Go.part, isAgg, run_underlying Tryz.underlying153, Tryz.sizeOf153, three] at h ⊢ <;> first | exact h | (subst h; rfl) | (rw [← h])
set_option maxRecDepth 100000 in
set_option maxHeartbeats 2000000 in
theorem against_any (x y : Cd) (w : World) : Calls Tryz.prog 96 #[.agg #[.int .u64 x.1, .int .i64 x.2.1, .int .i64 x.2.2], .agg #[.int .u64 y.1, .int .i64 y.2.1, .int .i64 y.2.2]] w fun e w' => e = .returned (.int .i64 (agst x y)) ∧ Mo w w' := by
  have HD := Lib.hid (by_deep x y)
  have HI := Lib.hid (by_id x y)
  have HT := Lib.hid (by_at x y)
  have hA : (if cmpI y.2.1 x.2.1 = 0 then if cmpI x.1 y.1 = 0 then cmpI x.2.2 y.2.2 else cmpI x.1 y.1 else cmpI y.2.1 x.2.1) = agst x y := rfl
  have r1b := cmpI_rng y.2.1 x.2.1
  have r2b := cmpI_rng x.1 y.1
  have r3b := cmpI_rng x.2.2 y.2.2
  generalize agst x y = r at *
  obtain ⟨x1, x2, x3⟩ := x
  obtain ⟨y1, y2, y3⟩ := y
  dsimp only at HD HI HT hA r1b r2b r3b ⊢
  generalize cmpI y2 x2 = r1 at *
  generalize cmpI x1 y1 = r2 at *
  generalize cmpI x3 y3 = r3 at *
  have HA := Lib.hid hA
  have H2 : Hid (CdTwo w x1 x2 x3 y1 y2 y3 ((w.alloc (.cells #[.int .u64 x1, .int .i64 x2, .int .i64 x3] 151)).alloc (.cells #[.int .u64 y1, .int .i64 y2, .int .i64 y3] 151))) :=
    ⟨(Box.new w _ _).alloc _, by simpa using Box.new (w.alloc _) 151 #[.int .u64 y1, .int .i64 y2, .int .i64 y3], ((Mo.refl w).alloc _).alloc _⟩
  clear hA r1b r2b r3b
  go_enter Tryz.func96, Tryz.ntmps96
  go_wp2_with fail
  go_loopw [9] (fun v wr => ∃ k : Nat, v = .int .i64 k ∧ k ≤ 3 ∧ (1 ≤ k → r1 = 0) ∧ (2 ≤ k → r2 = 0) ∧ (3 ≤ k → r3 = 0) ∧ CdTwo w x1 x2 x3 y1 y2 y3 wr) (fun v _ => 3 - (intOf v).toNat)
  case atStart => exact ⟨0, rfl, by omega, by omega, by omega, by omega, H2.out⟩
  case round =>
    obtain ⟨k, rfl, hk, k1, k2, k3, hS⟩ := hrel
    clear H2
    have c10 := hS.b1.cell 0
    have c11 := hS.b1.cell 1
    have c12 := hS.b1.cell 2
    have c20 := hS.b2.cell 0
    have c21 := hS.b2.cell 1
    have c22 := hS.b2.cell 2
    have HS := Lib.hid hS
    clear hS
    have hk' : k = 0 ∨ k = 1 ∨ k = 2 ∨ k = 3 := by omega
    rcases hk' with rfl | rfl | rfl | rfl
    · clear k1 k2 k3
      have hix : ∀ W, (Instr.index 163 (.agg #[.func (.func 103) #[] #[], .func (.func 104) #[] #[], .func (.func 105) #[] #[]]) (.int .i64 0)).run Tryz.prog W = .ok (.func (.func 103) #[] #[]) W := index_three 0 _ rfl
      go_wp2_with fail
      refine (HD.out _).mono ?_
      rintro e w3 ⟨rfl, hm⟩
      have HN := Lib.hid (HS.out.next hm)
      clear hm HS c10 c11 c12 c20 c21 c22 hix
      by_cases hr : r1 = 0
      · subst hr
        go_wp2_with fail
        go_roundw
        case rel => exact ⟨1, rfl, by omega, by simp, by omega, by omega, HN.out⟩
        case measure => simp [intOf]
      · have hb : (r1 != 0) = true := by simp [hr]
        go_wp2_with fail
        go_ret
        exact ⟨ret_int (by rw [← HA.out, if_neg hr]), HN.out.mo⟩
    · have hr1 := k1 (by omega)
      clear k1 k2 k3
      have hix : ∀ W, (Instr.index 163 (.agg #[.func (.func 103) #[] #[], .func (.func 104) #[] #[], .func (.func 105) #[] #[]]) (.int .i64 1)).run Tryz.prog W = .ok (.func (.func 104) #[] #[]) W := index_three 1 _ rfl
      go_wp2_with fail
      refine (HI.out _).mono ?_
      rintro e w3 ⟨rfl, hm⟩
      have HN := Lib.hid (HS.out.next hm)
      clear hm HS c10 c11 c12 c20 c21 c22 hix
      by_cases hr : r2 = 0
      · subst hr
        go_wp2_with fail
        go_roundw
        case rel => exact ⟨2, rfl, by omega, by simp [hr1], by simp, by omega, HN.out⟩
        case measure => simp [intOf]
      · have hb : (r2 != 0) = true := by simp [hr]
        go_wp2_with fail
        go_ret
        exact ⟨ret_int (by rw [← HA.out, if_pos hr1, if_neg hr]), HN.out.mo⟩
    · have hr1 := k1 (by omega)
      have hr2 := k2 (by omega)
      clear k1 k2 k3
      have hix : ∀ W, (Instr.index 163 (.agg #[.func (.func 103) #[] #[], .func (.func 104) #[] #[], .func (.func 105) #[] #[]]) (.int .i64 2)).run Tryz.prog W = .ok (.func (.func 105) #[] #[]) W := index_three 2 _ rfl
      go_wp2_with fail
      refine (HT.out _).mono ?_
      rintro e w3 ⟨rfl, hm⟩
      have HN := Lib.hid (HS.out.next hm)
      clear hm HS c10 c11 c12 c20 c21 c22 hix
      by_cases hr : r3 = 0
      · subst hr
        go_wp2_with fail
        go_roundw
        case rel => exact ⟨3, rfl, by omega, by simp [hr1], by simp [hr2], by simp, HN.out⟩
        case measure => simp [intOf]
      · have hb : (r3 != 0) = true := by simp [hr]
        go_wp2_with fail
        go_ret
        exact ⟨ret_int (by rw [← HA.out, if_pos hr1, if_pos hr2]), HN.out.mo⟩
    · have hr1 := k1 (by omega)
      have hr2 := k2 (by omega)
      have hr3 := k3 (by omega)
      clear k1 k2 k3
      go_wp2_with fail
      go_ret
      exact ⟨ret_int (by rw [← HA.out, if_pos hr1, if_pos hr2, hr3]), HS.out.mo⟩
end Go.Proofs.YtmageeohnfomnaaGreat

