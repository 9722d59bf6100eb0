import Derived.Sort.Grow
import Derived.Test.YtknnebhjldfkhaaGreatG8
import Derived.Test.YtknnebhjldfkhaaGreatG2
namespace Go.Proofs.YtknnebhjldfkhaaGreat
set_option maxRecDepth 100000
open Go.RowKit Go.ChangeShapes Go.WideShapes Go.ChangeAt

abbrev Cd := Int × Int × Int
def cdc (x : Cd) : List Value := [.int .u64 x.1, .int .i64 x.2.1, .int .i64 x.2.2]
theorem cdc_len (x : Cd) : (cdc x).length = 3 := rfl
theorem cdc_one (x : Cd) : ∀ v ∈ cdc x, v.oneCell' = true := by
 intro v hv
 simp only [cdc, List.mem_cons, List.not_mem_nil, or_false] at hv
 rcases hv with rfl | rfl | rfl <;> rfl
def cmpI (a b : Int) : Int := if a < b then -1 else if b < a then 1 else 0
theorem cmpI_rng (a b : Int) : (cmpI a b = -1 ∧ a < b) ∨ (cmpI a b = 1 ∧ b < a) ∨ (cmpI a b = 0 ∧ a = b) := by
 unfold cmpI
 split
 ·omega
 ·split <;> omega
def agst (x y : Cd) : Int := if cmpI y.2.1 x.2.1 = 0 then if cmpI x.1 y.1 = 0 then cmpI x.2.2 y.2.2 else cmpI x.1 y.1 else cmpI y.2.1 x.2.1
theorem agst_iff (x y : Cd) : agst x y < 0 ↔ y.2.1 < x.2.1 ∨ (y.2.1 = x.2.1 ∧ (x.1 < y.1 ∨ (x.1 = y.1 ∧ x.2.2 < y.2.2))) := by
 have h1 := cmpI_rng y.2.1 x.2.1
 have h2 := cmpI_rng x.1 y.1
 have h3 := cmpI_rng x.2.2 y.2.2
 unfold agst
 split
 ·split <;> omega
 ·omega
set_option maxHeartbeats 1000000 in
theorem isNaN_int (x : Int) (w : World) : Calls Tryz.prog 213 #[.int .i64 x] w fun e w' => e = .returned (.bool false) ∧ w' = w := by
 have h : (x != x) = false := by simp
 go_enter Tryz.func213, Tryz.ntmps213
 go_wp2_with fail
 go_ret
 exact ⟨by simp, rfl⟩
set_option maxHeartbeats 1000000 in
theorem isNaN_word (x : Int) (w : World) : Calls Tryz.prog 214 #[.int .u64 x] w fun e w' => e = .returned (.bool false) ∧ w' = w := by
 have h : (x != x) = false := by simp
 go_enter Tryz.func214, Tryz.ntmps214
 go_wp2_with fail
 go_ret
 exact ⟨by simp, rfl⟩
set_option maxHeartbeats 1000000 in
theorem cmp_int (a b : Int) (w : World) : Calls Tryz.prog 203 #[.int .i64 a, .int .i64 b] w fun e w' => e = .returned (.int .i64 (cmpI a b)) ∧ w' = w := by
 unfold cmpI
 by_cases h1 : a < b
 ·rw [if_pos h1]
  go_enter Tryz.func203, Tryz.ntmps203
  go_wp2_with fail
  refine (isNaN_int a _).mono ?_
  rintro e w1 ⟨rfl, rfl⟩
  go_wp2_with fail
  refine (isNaN_int b _).mono ?_
  rintro e w2 ⟨rfl, rfl⟩
  go_wp2_with fail
  go_ret
  exact ⟨rfl, rfl⟩
 rw [if_neg h1]
 by_cases h2 : b < a
 ·rw [if_pos h2]
  go_enter Tryz.func203, Tryz.ntmps203
  go_wp2_with fail
  refine (isNaN_int a _).mono ?_
  rintro e w1 ⟨rfl, rfl⟩
  go_wp2_with fail
  refine (isNaN_int b _).mono ?_
  rintro e w2 ⟨rfl, rfl⟩
  go_wp2_with fail
  go_ret
  exact ⟨rfl, rfl⟩
 ·rw [if_neg h2]
  go_enter Tryz.func203, Tryz.ntmps203
  go_wp2_with fail
  refine (isNaN_int a _).mono ?_
  rintro e w1 ⟨rfl, rfl⟩
  go_wp2_with fail
  refine (isNaN_int b _).mono ?_
  rintro e w2 ⟨rfl, rfl⟩
  go_wp2_with fail
  go_ret
  exact ⟨rfl, rfl⟩
set_option maxHeartbeats 1000000 in
theorem cmp_word (a b : Int) (w : World) : Calls Tryz.prog 204 #[.int .u64 a, .int .u64 b] w fun e w' => e = .returned (.int .i64 (cmpI a b)) ∧ w' = w := by
 unfold cmpI
 by_cases h1 : a < b
 ·rw [if_pos h1]
  go_enter Tryz.func204, Tryz.ntmps204
  go_wp2_with fail
  refine (isNaN_word a _).mono ?_
  rintro e w1 ⟨rfl, rfl⟩
  go_wp2_with fail
  refine (isNaN_word b _).mono ?_
  rintro e w2 ⟨rfl, rfl⟩
  go_wp2_with fail
  go_ret
  exact ⟨rfl, rfl⟩
 rw [if_neg h1]
 by_cases h2 : b < a
 ·rw [if_pos h2]
  go_enter Tryz.func204, Tryz.ntmps204
  go_wp2_with fail
  refine (isNaN_word a _).mono ?_
  rintro e w1 ⟨rfl, rfl⟩
  go_wp2_with fail
  refine (isNaN_word b _).mono ?_
  rintro e w2 ⟨rfl, rfl⟩
  go_wp2_with fail
  go_ret
  exact ⟨rfl, rfl⟩
 ·rw [if_neg h2]
  go_enter Tryz.func204, Tryz.ntmps204
  go_wp2_with fail
  refine (isNaN_word a _).mono ?_
  rintro e w1 ⟨rfl, rfl⟩
  go_wp2_with fail
  refine (isNaN_word b _).mono ?_
  rintro e w2 ⟨rfl, rfl⟩
  go_wp2_with fail
  go_ret
  exact ⟨rfl, rfl⟩
def Mo (w w' : World) : Prop := ∃ (q : Nat) (os : Array Obj), w' = Go.Sort.grow (w.drewN q) os
theorem Mo.refl (w : World) : Mo w w := ⟨0, #[], by simp [World.drewN]⟩
theorem Mo.alloc {a w : World} (h : Mo a w) (o : Obj) : Mo a (w.alloc o) := by
 obtain ⟨q, os, rfl⟩ := h
 exact ⟨q, os ++ #[o], by rw [Go.Sort.alloc_eq_grow, Go.Sort.grow_grow]⟩
theorem Mo.trans {a b c : World} (h : Mo a b) (k : Mo b c) : Mo a c := by
 obtain ⟨q, os, rfl⟩ := h
 obtain ⟨q', os', rfl⟩ := k
 refine ⟨q + q', os ++ os', ?_⟩
 rw [← Go.Sort.grow_grow]
 simp [Go.Sort.grow, World.drewN, Nat.add_assoc]
theorem Mo.below {w w' : World} (h : Mo w w') : Below w.heap.size w w' := by
 obtain ⟨q, os, rfl⟩ := h
 exact ⟨rfl, rfl, rfl, by simp [Go.Sort.grow, World.drewN], fun k hk => by
  have := Go.Sort.heap_grow_old (w.drewN q) os (k := k) hk
  exact this⟩
section
variable (x y : Cd) (w : World)
set_option maxHeartbeats 1000000 in
theorem by_deep : Calls Tryz.prog 187 #[.agg #[.int .u64 x.1, .int .i64 x.2.1, .int .i64 x.2.2], .agg #[.int .u64 y.1, .int .i64 y.2.1, .int .i64 y.2.2]] w fun e w' => e = .returned (.int .i64 (cmpI y.2.1 x.2.1)) ∧ Mo w w' := by
 obtain ⟨x1, x2, x3⟩ := x
 obtain ⟨y1, y2, y3⟩ := y
 go_enter Tryz.func187, Tryz.ntmps187
 go_wp2_with fail
 refine (cmp_int y2 x2 _).mono ?_
 rintro e w1 ⟨rfl, rfl⟩
 go_wp2_with fail
 go_ret
 exact ⟨rfl, ((Mo.refl w).alloc _).alloc _⟩
set_option maxHeartbeats 1000000 in
theorem by_id : Calls Tryz.prog 188 #[.agg #[.int .u64 x.1, .int .i64 x.2.1, .int .i64 x.2.2], .agg #[.int .u64 y.1, .int .i64 y.2.1, .int .i64 y.2.2]] w fun e w' => e = .returned (.int .i64 (cmpI x.1 y.1)) ∧ Mo w w' := by
 obtain ⟨x1, x2, x3⟩ := x
 obtain ⟨y1, y2, y3⟩ := y
 go_enter Tryz.func188, Tryz.ntmps188
 go_wp2_with fail
 refine (cmp_word x1 y1 _).mono ?_
 rintro e w1 ⟨rfl, rfl⟩
 go_wp2_with fail
 go_ret
 exact ⟨rfl, ((Mo.refl w).alloc _).alloc _⟩
set_option maxHeartbeats 1000000 in
theorem by_at : Calls Tryz.prog 189 #[.agg #[.int .u64 x.1, .int .i64 x.2.1, .int .i64 x.2.2], .agg #[.int .u64 y.1, .int .i64 y.2.1, .int .i64 y.2.2]] w fun e w' => e = .returned (.int .i64 (cmpI x.2.2 y.2.2)) ∧ Mo w w' := by
 obtain ⟨x1, x2, x3⟩ := x
 obtain ⟨y1, y2, y3⟩ := y
 go_enter Tryz.func189, Tryz.ntmps189
 go_wp2_with fail
 refine (cmp_int x3 y3 _).mono ?_
 rintro e w1 ⟨rfl, rfl⟩
 go_wp2_with fail
 go_ret
 exact ⟨rfl, ((Mo.refl w).alloc _).alloc _⟩
end
structure CdTwo (w : World) (x1 x2 x3 y1 y2 y3 : Int) (wr : World) : Prop where
 b1 : Box wr w.heap.size 237 #[.int .u64 x1, .int .i64 x2, .int .i64 x3]
 b2 : Box wr (w.heap.size + 1) 237 #[.int .u64 y1, .int .i64 y2, .int .i64 y3]
 mo : Mo w wr
theorem CdTwo.next {w wr wx : World} {x1 x2 x3 y1 y2 y3 : Int} (h : CdTwo w x1 x2 x3 y1 y2 y3 wr) (k : Mo wr wx) : CdTwo w x1 x2 x3 y1 y2 y3 wx :=
 ⟨h.b1.of (k.below.block _ h.b1.lt), h.b2.of (k.below.block _ h.b2.lt), h.mo.trans k⟩
def three : Array Value := #[.func (.func 187) #[] #[], .func (.func 188) #[] #[], .func (.func 189) #[] #[]]
theorem index_three (k : Nat) (v : Value) (h : three[k]? = some v) (w : World) : (Instr.index 252 (.agg three) (.int .i64 (k : Int))).run Tryz.prog w = .ok v w := by
 have hk : k < 3 := (Array.getElem?_eq_some_iff.1 h).1
 have hk' : k = 0 ∨ k = 1 ∨ k = 2 := by omega
 rcases hk' with rfl | rfl | rfl <;>
  simp [Instr.index, run_underlying Tryz.underlying252, asIntOf, Go.part, isAgg, run_underlying Tryz.underlying239, Tryz.sizeOf239, three] at h ⊢ <;> first | exact h | (subst h; rfl) | (rw [← h])
set_option maxRecDepth 100000 in
set_option maxHeartbeats 2000000 in
theorem against_any (x y : Cd) (w : World) : Calls Tryz.prog 176 #[.agg #[.int .u64 x.1, .int .i64 x.2.1, .int .i64 x.2.2], .agg #[.int .u64 y.1, .int .i64 y.2.1, .int .i64 y.2.2]] w fun e w' => e = .returned (.int .i64 (agst x y)) ∧ Mo w w' := by
 have HD := Lib.hid (by_deep x y)
 have HI := Lib.hid (by_id x y)
 have HT := Lib.hid (by_at x y)
 have hA : (if cmpI y.2.1 x.2.1 = 0 then if cmpI x.1 y.1 = 0 then cmpI x.2.2 y.2.2 else cmpI x.1 y.1 else cmpI y.2.1 x.2.1) = agst x y := rfl
 have r1b := cmpI_rng y.2.1 x.2.1
 have r2b := cmpI_rng x.1 y.1
 have r3b := cmpI_rng x.2.2 y.2.2
 generalize agst x y = r at *
 obtain ⟨x1, x2, x3⟩ := x
 obtain ⟨y1, y2, y3⟩ := y
 dsimp only at HD HI HT hA r1b r2b r3b ⊢
 generalize cmpI y2 x2 = r1 at *
 generalize cmpI x1 y1 = r2 at *
 generalize cmpI x3 y3 = r3 at *
 have HA := Lib.hid hA
 have H2 : Hid (CdTwo w x1 x2 x3 y1 y2 y3 ((w.alloc (.cells #[.int .u64 x1, .int .i64 x2, .int .i64 x3] 237)).alloc (.cells #[.int .u64 y1, .int .i64 y2, .int .i64 y3] 237))) :=
  ⟨(Box.new w _ _).alloc _, by simpa using Box.new (w.alloc _) 237 #[.int .u64 y1, .int .i64 y2, .int .i64 y3], ((Mo.refl w).alloc _).alloc _⟩
 clear hA r1b r2b r3b
 go_enter Tryz.func176, Tryz.ntmps176
 go_wp2_with fail
 go_loopw [9] (fun v wr => ∃ k : Nat, v = .int .i64 k ∧ k ≤ 3 ∧ (1 ≤ k → r1 = 0) ∧ (2 ≤ k → r2 = 0) ∧ (3 ≤ k → r3 = 0) ∧ CdTwo w x1 x2 x3 y1 y2 y3 wr) (fun v _ => 3 - (intOf v).toNat)
 case atStart => exact ⟨0, rfl, by omega, by omega, by omega, by omega, H2.out⟩
 case round =>
  obtain ⟨k, rfl, hk, k1, k2, k3, hS⟩ := hrel
  clear H2
  have c10 := hS.b1.cell 0
  have c11 := hS.b1.cell 1
  have c12 := hS.b1.cell 2
  have c20 := hS.b2.cell 0
  have c21 := hS.b2.cell 1
  have c22 := hS.b2.cell 2
  have HS := Lib.hid hS
  clear hS
  have hk' : k = 0 ∨ k = 1 ∨ k = 2 ∨ k = 3 := by omega
  rcases hk' with rfl | rfl | rfl | rfl
  ·clear k1 k2 k3
   have hix : ∀ W, (Instr.index 252 (.agg #[.func (.func 187) #[] #[], .func (.func 188) #[] #[], .func (.func 189) #[] #[]]) (.int .i64 0)).run Tryz.prog W = .ok (.func (.func 187) #[] #[]) W := index_three 0 _ rfl
   go_wp2_with fail
   refine (HD.out _).mono ?_
   rintro e w3 ⟨rfl, hm⟩
   have HN := Lib.hid (HS.out.next hm)
   clear hm HS c10 c11 c12 c20 c21 c22 hix
   by_cases hr : r1 = 0
   ·subst hr
    go_wp2_with fail
    go_roundw
    case rel => exact ⟨1, rfl, by omega, by simp, by omega, by omega, HN.out⟩
    case measure => simp [intOf]
   ·have hb : (r1 != 0) = true := by simp [hr]
    go_wp2_with fail
    go_ret
    exact ⟨ret_int (by rw [← HA.out, if_neg hr]), HN.out.mo⟩
  ·have hr1 := k1 (by omega)
   clear k1 k2 k3
   have hix : ∀ W, (Instr.index 252 (.agg #[.func (.func 187) #[] #[], .func (.func 188) #[] #[], .func (.func 189) #[] #[]]) (.int .i64 1)).run Tryz.prog W = .ok (.func (.func 188) #[] #[]) W := index_three 1 _ rfl
   go_wp2_with fail
   refine (HI.out _).mono ?_
   rintro e w3 ⟨rfl, hm⟩
   have HN := Lib.hid (HS.out.next hm)
   clear hm HS c10 c11 c12 c20 c21 c22 hix
   by_cases hr : r2 = 0
   ·subst hr
    go_wp2_with fail
    go_roundw
    case rel => exact ⟨2, rfl, by omega, by simp [hr1], by simp, by omega, HN.out⟩
    case measure => simp [intOf]
   ·have hb : (r2 != 0) = true := by simp [hr]
    go_wp2_with fail
    go_ret
    exact ⟨ret_int (by rw [← HA.out, if_pos hr1, if_neg hr]), HN.out.mo⟩
  ·have hr1 := k1 (by omega)
   have hr2 := k2 (by omega)
   clear k1 k2 k3
   have hix : ∀ W, (Instr.index 252 (.agg #[.func (.func 187) #[] #[], .func (.func 188) #[] #[], .func (.func 189) #[] #[]]) (.int .i64 2)).run Tryz.prog W = .ok (.func (.func 189) #[] #[]) W := index_three 2 _ rfl
   go_wp2_with fail
   refine (HT.out _).mono ?_
   rintro e w3 ⟨rfl, hm⟩
   have HN := Lib.hid (HS.out.next hm)
   clear hm HS c10 c11 c12 c20 c21 c22 hix
   by_cases hr : r3 = 0
   ·subst hr
    go_wp2_with fail
    go_roundw
    case rel => exact ⟨3, rfl, by omega, by simp [hr1], by simp [hr2], by simp, HN.out⟩
    case measure => simp [intOf]
   ·have hb : (r3 != 0) = true := by simp [hr]
    go_wp2_with fail
    go_ret
    exact ⟨ret_int (by rw [← HA.out, if_pos hr1, if_pos hr2]), HN.out.mo⟩
  ·have hr1 := k1 (by omega)
   have hr2 := k2 (by omega)
   have hr3 := k3 (by omega)
   clear k1 k2 k3
   go_wp2_with fail
   go_ret
   exact ⟨ret_int (by rw [← HA.out, if_pos hr1, if_pos hr2, hr3]), HS.out.mo⟩
end Go.Proofs.YtknnebhjldfkhaaGreat

