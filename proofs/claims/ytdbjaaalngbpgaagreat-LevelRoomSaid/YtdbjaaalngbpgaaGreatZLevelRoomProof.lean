/- 'LevelRoom': for every input the law returns true, and each argument reads afterwards as it read before. Conditions: none beyond those of the given statement. -/
import Derived.Test.YtdbjaaalngbpgaaGreatRows
import Derived.Test.YtdbjaaalngbpgaaGreatZLevelRoom
import Derived.Test.YtdbjaaalngbpgaaGreatG46
import Derived.Test.YtdbjaaalngbpgaaGreatG8
import Derived.Test.YtdbjaaalngbpgaaGreatG47
namespace Go.Proofs.YtdbjaaalngbpgaaGreat.levelRoom
open Go.ChangeShapes Go.WideShapes Go.ChangeAt Go.RowKit

theorem own : ownKnob Tryz.prog.godebug = none := by kernel_rfl
theorem laidOut : laidOutB Tryz.prog = true := by kernel_rfl

set_option maxRecDepth 100000 in
theorem lifted (os : Os) (started : os.Started) (H : Type) (enc : TypeId × Value → H) :
    ReturnsInHanded {} Tryz.checked os 7 .any (Rows.levelRoomSpec.pre6 enc Tryz.prog Tryz.f7 [] false) (Rows.levelRoomSpec.post enc Tryz.prog Tryz.f7 false true false false) := by
  refine lifted_law (C := Tryz.checked) own started (by kernel_rfl) Tryz.func7
    (ChangeSpec.witness6 (enc := enc) (C := Tryz.checked) false ⟨#[], #[.int .i64 0, .slice none 0 0], []⟩ 8 (by kernel_rfl) (by kernel_rfl) (by kernel_rfl) (by kernel_rfl)) laidOut (by kernel_rfl) (bt := 4) Tryz.underlying4 (by kernel_rfl) rfl
    (fun ds hd => ?_) ?_
  · match ds, hd with
    | [_, _], _ => exact ⟨rfl, rfl, rfl⟩
  intro W base args ds ps hval0 hA0 hlt hsz0
  have hval : ∀ (j : Nat) t v, Tryz.f7.params[j]? = some t → args[j]? = some v → Value.okWide Tryz.prog W .any base t v := hval0
  have hA : DataW.TrodAll enc Tryz.prog W 0 (fun _ => true) true Tryz.f7.params.toList args.toList ds ps := hA0
  have hsz : (DataW.weightsEach Tryz.prog Tryz.f7.params.toList ds).all (· ≤ reachBytes) = true := hsz0
  clear hval0 hA0 hsz0
  rw [Tryz.params7] at hA hval hsz
  obtain ⟨v0, vs0, d0, ds0, p0, q0, hargs, rfl, rfl, h0, r0⟩ := trodAll_cons hA
  obtain ⟨v1, vs1, d1, ds1, p1, q1, rfl, rfl, rfl, h1, r1⟩ := trodAll_cons r0
  obtain ⟨rfl, rfl, rfl⟩ := trodAll_nil r1
  obtain rfl : args = #[v0, v1] := by cases args; simp_all
  obtain ⟨m0, rfl, rfl, rfl, hw0⟩ := open_int Tryz.underlying3 (hval 0 3 v0 rfl rfl) h0
  obtain ⟨a1, n1, c1, y1, rfl, _, hz1, hw1⟩ := open_steps (hval 1 22 v1 rfl rfl) h1 (fun x hx => hlt x (by simp [hx]))
  exact room_law m0 a1 n1 c1 y1 W hw0 hz1 hw1

theorem over : Rows.levelRoomRow.holds Tryz.pinned (OpenSpec.ofChange Rows.levelRoomSpec) :=
  OpenClaim.holds_of_wide 7 Tryz.f7 rfl rfl rfl rfl rfl rfl rfl ⟨rfl, rfl, rfl, rfl, rfl⟩ rfl rfl rfl rfl rfl (by kernel_rfl) Tryz.func7 (by kernel_rfl)
    (of_decide_eq_true (by kernel_rfl)) (by unfold Func.isWrapper; first | (rw [if_pos (by decide +kernel)]; kernel_rfl) | (rw [if_neg (by decide +kernel)]; exact ⟨rfl, rfl⟩))
    (fun os started H enc _ => lifted os started H enc)

theorem proved : Rows.LevelRoomSaid :=
  over
#print axioms proved
end Go.Proofs.YtdbjaaalngbpgaaGreat.levelRoom
