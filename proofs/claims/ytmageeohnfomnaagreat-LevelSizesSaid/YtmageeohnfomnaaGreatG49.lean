/- Texts of ours put together: SizeList. -/
import Derived.Below
import Derived.BigQuiet
import Derived.BigRegion
import Derived.ChangeKeysEq
import Derived.ChangeSlices
import Derived.Deep.Cut
import Derived.Deep.Draws
import Derived.Deep.MidRow
import Derived.Deep.OwnRows
import Derived.Deep.QuietTactic
import Derived.Deep.RegionHeld
import Derived.Deep.RegionLaw
import Derived.Deep.WholeRow
import Derived.Laws.AppendOwn
import Derived.Laws.StructEq
import Derived.Lib.Hide
import Derived.OpenShut
import Derived.OwnWalk
import Derived.ProofKit
import Derived.RegionTactic
import Derived.RowKit3
import Derived.SizedLaws
import Derived.StillTailTactics
import Derived.WalkKit
import Derived.Test.YtmageeohnfomnaaGreatProg
import Derived.Test.YtmageeohnfomnaaGreatG0
import Derived.Test.YtmageeohnfomnaaGreatG21
import Derived.Test.YtmageeohnfomnaaGreatG2
import Derived.Test.YtmageeohnfomnaaGreatG10
import Derived.Test.YtmageeohnfomnaaGreatG23
import Derived.Test.YtmageeohnfomnaaGreatG48
namespace Go.Proofs.YtmageeohnfomnaaGreat
set_option maxRecDepth 100000
open Go.RowKit Go.ChangeShapes Go.WideShapes Go.ChangeAt

theorem list_nums (L : List Nat) (w : World) (cs : Array Value) (t : TypeId) (hcs : cs = (L.map fun (s : Nat) => Value.int .i64 (s : Int)).toArray) :
    Nums .i64 (w.alloc (.cells cs t)) (w.heap.size + 1) (some ⟨w.heap.size, 0, none⟩) L.length (fun i => ((L.getD i 0 : Nat) : Int)) := by
  intro _
  refine ⟨_, 0, rfl, by omega, fun j hj => ?_⟩
  subst hcs
  rw [Nat.zero_add, (Box.new w t _).cell j]
  simp [hj]
theorem new_list_no (L : List Nat) (hn : L.length ≤ 9223372036854775807) (hL : ∃ i, i < L.length ∧ L.getD i 0 = 0) (w : World) (cs : Array Value) (t : TypeId) (hcs : cs = (L.map fun (s : Nat) => Value.int .i64 (s : Int)).toArray) :
    Calls Tryz.prog 10 #[.slice (some ⟨w.heap.size, 0, none⟩) L.length L.length] (w.alloc (.cells cs t)) fun e w' => e = .returned (.tuple #[.pointer none, .int .i64 1]) ∧ w.alloc (.cells cs t) = w' := by
  obtain ⟨i, hi, h0⟩ := hL
  exact new_no _ L.length L.length _ _ _ hn (list_nums L w cs t hcs) (fun h => by
    have := (h.2.2 i hi).1
    simp only [h0] at this
    omega)
theorem rnew_list_no (L : List Nat) (hn : L.length ≤ 9223372036854775807) (hL : ∃ i, i < L.length ∧ L.getD i 0 = 0) (w : World) (cs : Array Value) (t : TypeId) (hcs : cs = (L.map fun (s : Nat) => Value.int .i64 (s : Int)).toArray) :
    Calls Tryz.prog 13 #[.slice (some ⟨w.heap.size, 0, none⟩) L.length L.length] (w.alloc (.cells cs t)) (RNoPost (w.alloc (.cells cs t))) := by
  obtain ⟨i, hi, h0⟩ := hL
  exact rnew_no _ L.length L.length _ _ _ hn (list_nums L w cs t hcs) (by simp) (fun h => by
    have := (h.2.2 i hi).1
    simp only [h0] at this
    omega)
theorem rnew_list (L : List Nat) (hL : (decide (1 ≤ L.length) && decide (L.length ≤ 16) && L.all fun s => decide (1 ≤ s) && decide (s ≤ 4096)) = true) (w : World) (cs : Array Value) (t : TypeId) (hcs : cs = (L.map fun (s : Nat) => Value.int .i64 (s : Int)).toArray) :
    Calls Tryz.prog 13 #[.slice (some ⟨w.heap.size, 0, none⟩) L.length L.length] (w.alloc (.cells cs t)) (RNewPost (w.alloc (.cells cs t)) L.length (fun i => L.getD i 0)) := by
  simp only [Bool.and_eq_true, decide_eq_true_eq, List.all_eq_true] at hL
  obtain ⟨⟨h1, h2⟩, h3⟩ := hL
  refine rnew_yes _ L.length L.length (w.heap.size + 1) _ (fun i => L.getD i 0) _ (list_nums L w cs t hcs) (by simp) ⟨h1, h2, fun i hi => ?_⟩ (fun i _ => rfl)
  have := h3 (L[i]) (List.getElem_mem hi)
  simp [hi]
  omega
end Go.Proofs.YtmageeohnfomnaaGreat

