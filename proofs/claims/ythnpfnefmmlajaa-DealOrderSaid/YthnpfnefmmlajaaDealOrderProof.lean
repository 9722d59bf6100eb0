/- 'DealOrder': for every input the law returns true, and each argument reads afterwards as it read before. Conditions: none beyond those of the given statement. -/
import Derived.Test.YthnpfnefmmlajaaRows
import Derived.Test.YthnpfnefmmlajaaDealLawO
import Derived.Test.YthnpfnefmmlajaaLaw
import Derived.Test.YthnpfnefmmlajaaHeap
import Derived.Test.YthnpfnefmmlajaaDealItem
namespace Go.Proofs.Ythnpfnefmmlajaa.dealOrder
open Go.ChangeShapes Go.WideShapes Go.ChangeAt Go.RowKit

theorem own : ownKnob Try.prog.godebug = none := by kernel_rfl
theorem laidOut : laidOutB Try.prog = true := by kernel_rfl

set_option maxRecDepth 100000 in
theorem lifted (os : Os) (started : os.Started) (H : Type) (enc : TypeId × Value → H) :
    ReturnsInHanded {} Try.checked os 7 .any (Rows.dealOrderSpec.pre6 enc Try.prog Try.f7 [] false) (Rows.dealOrderSpec.post enc Try.prog Try.f7 false true false false) := by
  refine lifted_law (C := Try.checked) own started (by kernel_rfl) Try.func7
    (ChangeSpec.witness6 (enc := enc) (C := Try.checked) false ⟨#[], #[.slice none 0 0], []⟩ 8 (by kernel_rfl) (by kernel_rfl) (by kernel_rfl) (by kernel_rfl)) laidOut (by kernel_rfl) (bt := 4) Try.underlying4 (by kernel_rfl) rfl
    (fun ds hd => ?_) ?_
  · match ds, hd with
    | [_], _ => exact ⟨rfl, rfl, rfl⟩
  intro W base args ds ps hval0 hA0 hlt hsz0
  have hval : ∀ (j : Nat) t v, Try.f7.params[j]? = some t → args[j]? = some v → Value.okWide Try.prog W .any base t v := hval0
  have hA : DataW.TrodAll enc Try.prog W 0 (fun _ => true) true Try.f7.params.toList args.toList ds ps := hA0
  have hsz : (DataW.weightsEach Try.prog Try.f7.params.toList ds).all (· ≤ reachBytes) = true := hsz0
  clear hval0 hA0 hsz0
  rw [Try.params7] at hA hval hsz
  obtain ⟨v0, vs0, d0, ds0, p0, q0, hargs, rfl, rfl, h0, r0⟩ := trodAll_cons hA
  obtain ⟨rfl, rfl, rfl⟩ := trodAll_nil r0
  obtain rfl : args = #[v0] := by cases args; simp_all
  obtain ⟨a0, n0, c0, y0, rfl, _, hz0, _⟩ := open_items (hval 0 24 v0 rfl rfl) h0 (fun x hx => hlt x (by simp [hx]))
  exact order_law a0 n0 c0 y0 W hz0

theorem over : Rows.dealOrderRow.holds Try.pinned (OpenSpec.ofChange Rows.dealOrderSpec) :=
  OpenClaim.holds_of_wide 7 Try.f7 rfl rfl rfl rfl rfl rfl rfl ⟨rfl, rfl, rfl, rfl, rfl⟩ rfl rfl rfl rfl rfl (by kernel_rfl) Try.func7 (by kernel_rfl)
    (of_decide_eq_true (by kernel_rfl)) (by unfold Func.isWrapper; first | (rw [if_pos (by decide +kernel)]; kernel_rfl) | (rw [if_neg (by decide +kernel)]; exact ⟨rfl, rfl⟩))
    (fun os started H enc _ => lifted os started H enc)

theorem proved : Rows.DealOrderSaid :=
  over
#print axioms proved
end Go.Proofs.Ythnpfnefmmlajaa.dealOrder
