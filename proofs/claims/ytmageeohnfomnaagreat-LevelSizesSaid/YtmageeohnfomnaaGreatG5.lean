/- Texts of ours put together: Grow. -/
import Derived.Below
import Derived.BigQuiet
import Derived.ChangeSlices
import Derived.Deep.Draws
import Derived.Deep.OwnRows
import Derived.Deep.Quiet
import Derived.Deep.QuietTactic
import Derived.Lib.Hide
import Derived.OpenShut
import Derived.ProofKit
import Derived.RowKit3
import Derived.SizedLaws
import Derived.WalkKit
import Derived.Test.YtmageeohnfomnaaGreatProg
import Derived.Test.YtmageeohnfomnaaGreatG2
namespace Go.Proofs.YtmageeohnfomnaaGreat
set_option maxRecDepth 100000
open Go.RowKit

structure Gr (w : World) where
  w' : World
  ok : Only nobody w w'
instance (w : World) : Nonempty (Gr w) := ⟨⟨w, Only.refl nobody w⟩⟩
theorem wp_region_grow {P : Program} {id : Nat} {Q : Exit → Act → World → Prop} {a : Act} {w : World} {l : List Oper} (hm : P.follows .mixedOrders = true) (hB : Region.lexB .any l.toArray = true)
    (h : wpQuiet P l.toArray (fun w1 => ∃ g : Gr w, w1 = g.w') (fun a' => ∀ w1, (∃ g : Gr w, w1 = g.w') → Q .normal a' w1) l a) : (Code.region id l.toArray true).wp P Q a w :=
  wp_region_quiet (C := fun w1 => ∃ g : Gr w, w1 = g.w') hm hB ⟨⟨_, (Only.refl nobody w).drew⟩, rfl⟩ (by simpa using h)
theorem Gr.calls {P : Program} {f : FuncId} {args : Array Value} {w : World} {g : Gr w} {v : Value} (h : Calls P f args g.w' fun e w1 => e = .returned v ∧ Only nobody g.w' w1) :
    Calls P f args g.w' fun e w2 => e = .returned v ∧ ∃ g' : Gr w, w2 = g'.w' := h.mono fun _ w1 ⟨he, ho⟩ => ⟨he, ⟨w1, g.ok.trans ho⟩, rfl⟩
theorem Gr.same {P : Program} {f : FuncId} {args : Array Value} {w : World} {g : Gr w} {v : Value} (h : Calls P f args g.w' fun e w1 => e = .returned v ∧ g.w' = w1) :
    Calls P f args g.w' fun e w2 => e = .returned v ∧ ∃ g' : Gr w, w2 = g'.w' := Gr.calls (h.mono fun _ w1 ⟨he, ho⟩ => ⟨he, by rw [← ho]; exact Only.refl _ _⟩)
theorem Gr.cell {w : World} {b o : Nat} {v : Value} (h : w.cell? ⟨b, o, none⟩ = some v) (g : Gr w) : g.w'.cell? ⟨b, o, none⟩ = some v :=
  (World.cell?_of_block (w := w) (g.ok.block b (World.block_lt_of_cell? w ⟨b, o, none⟩ h) (not_nobody _))).trans h
theorem Gr.blw {P : Program} {f : FuncId} {args : Array Value} {w : World} {g : Gr w} {v : Value} (h : Calls P f args g.w' fun e w1 => e = .returned v ∧ Below g.w'.heap.size g.w' w1) :
    Calls P f args g.w' fun e w2 => e = .returned v ∧ ∃ g' : Gr w, w2 = g'.w' := Gr.calls (h.mono fun _ _ ⟨he, hb⟩ => ⟨he, Only.of_below hb⟩)
end Go.Proofs.YtmageeohnfomnaaGreat

