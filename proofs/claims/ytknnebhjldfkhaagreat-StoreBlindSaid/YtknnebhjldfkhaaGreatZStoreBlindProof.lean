/- 'StoreBlind': for every input the law returns true, and each argument reads afterwards as it read before. Conditions: none beyond those of the given statement. -/
import Derived.Test.YtknnebhjldfkhaaGreatRows
import Derived.Test.YtknnebhjldfkhaaGreatZStoreBlind
import Derived.Test.YtknnebhjldfkhaaGreatG49
import Derived.Test.YtknnebhjldfkhaaGreatG2
import Derived.Test.YtknnebhjldfkhaaGreatG35
namespace Go.Proofs.YtknnebhjldfkhaaGreat.storeBlind
open Go.ChangeShapes Go.WideShapes Go.ChangeAt Go.RowKit

theorem own : ownKnob Tryz.prog.godebug = none := by kernel_rfl
theorem laidOut : laidOutB Tryz.prog = true := by kernel_rfl
theorem cells43 : Tryz.prog.cellsOf 43 = 1 := by kernel_rfl
theorem bytes43 : Tryz.prog.bytesOf 43 = 8 := by kernel_rfl
set_option maxRecDepth 100000 in
theorem lifted (os : Os) (started : os.Started) (H : Type) (enc : TypeId × Value → H) :
  ReturnsInHanded {} Tryz.checked os 7 .any (Rows.storeBlindSpec.pre6 enc Tryz.prog Tryz.f7 [] false) (Rows.storeBlindSpec.post enc Tryz.prog Tryz.f7 false true false false) := by
 refine lifted_law (C := Tryz.checked) own started (by kernel_rfl) Tryz.func7
  (ChangeSpec.witness6 (enc := enc) (C := Tryz.checked) false ⟨#[], #[.int .i64 0, .slice none 0 0, .slice none 0 0], []⟩ 8 (by kernel_rfl) (by kernel_rfl) (by kernel_rfl) (by kernel_rfl)) laidOut (by kernel_rfl) (bt := 4) Tryz.underlying4 (by kernel_rfl) rfl
  (fun ds hd => ?_) ?_
 ·match ds, hd with
  | [_, _, _], _ => exact ⟨rfl, rfl, rfl⟩
 intro W base args ds ps hval0 hA0 hlt hsz0
 have hval : ∀ (j : Nat) t v, Tryz.f7.params[j]? = some t → args[j]? = some v → Value.okWide Tryz.prog W .any base t v := hval0
 have hA : DataW.TrodAll enc Tryz.prog W 0 (fun _ => true) true Tryz.f7.params.toList args.toList ds ps := hA0
 have hsz : (DataW.weightsEach Tryz.prog Tryz.f7.params.toList ds).all (· ≤ reachBytes) = true := hsz0
 clear hval0 hA0 hsz0
 rw [Tryz.params7] at hA hval hsz
 obtain ⟨v0, vs0, d0, ds0, p0, q0, hargs, rfl, rfl, h0, r0⟩ := trodAll_cons hA
 obtain ⟨v1, vs1, d1, ds1, p1, q1, rfl, rfl, rfl, h1, r1⟩ := trodAll_cons r0
 obtain ⟨v2, vs2, d2, ds2, p2, q2, rfl, rfl, rfl, h2, r2⟩ := trodAll_cons r1
 obtain ⟨rfl, rfl, rfl⟩ := trodAll_nil r2
 obtain rfl : args = #[v0, v1, v2] := by cases args; simp_all
 obtain ⟨m0, rfl, rfl, rfl, hw0⟩ := open_int Tryz.underlying3 (hval 0 3 v0 rfl rfl) h0
 obtain ⟨a1, n1, c1, z1, rfl, _, _, _, hz1, hw1, _⟩ := open_nums Tryz.underlying54 Tryz.underlying43 cells43 bytes43 (hval 1 54 v1 rfl rfl) h1 (fun x hx => hlt x (by simp [hx])) hsz (j := 1) rfl rfl
 obtain ⟨a2, n2, c2, y2, rfl, _, hz2, hw2⟩ := open_steps3 (hval 2 77 v2 rfl rfl) h2 (fun x hx => hlt x (by simp [hx]))
 exact sblind_law m0 a1 n1 c1 z1 a2 n2 c2 y2 W hw0 hz1 hw1 hz2 hw2

theorem over : Rows.storeBlindRow.holds Tryz.pinned (OpenSpec.ofChange Rows.storeBlindSpec) :=
 OpenClaim.holds_of_wide 7 Tryz.f7 rfl rfl rfl rfl rfl rfl rfl ⟨rfl, rfl, rfl, rfl, rfl⟩ rfl rfl rfl rfl rfl (by kernel_rfl) Tryz.func7 (by kernel_rfl)
  (of_decide_eq_true (by kernel_rfl)) (by unfold Func.isWrapper; first | (rw [if_pos (by decide +kernel)]; kernel_rfl) | (rw [if_neg (by decide +kernel)]; exact ⟨rfl, rfl⟩))
  (fun os started H enc _ => lifted os started H enc)

theorem proved : Rows.StoreBlindSaid :=
 over
#print axioms proved
end Go.Proofs.YtknnebhjldfkhaaGreat.storeBlind

