/- A region that draws its order, whose operations only read and whose callees read, or make new blocks alone: one walk, in the order of the text (the library's law of quiet regions, at the class of worlds that have only grown). No program is named here. -/
import Derived.Test.YtpnjeoilkaimmaaHeap
import Derived.Deep.Quiet
import Derived.Deep.QuietTactic
import Derived.BigQuiet
namespace Go.Proofs.Ytpnjeoilkaimmaa
open Go.RowKit

/-- A world that has only grown since w. -/
structure Gr (w : World) where
  w' : World
  ok : Only nobody w w'
instance (w : World) : Nonempty (Gr w) := ⟨⟨w, Only.refl nobody w⟩⟩
theorem wp_region_grow {P : Program} {id : Nat} {Q : Exit → Act → World → Prop} {a : Act} {w : World} {l : List Oper} (hm : P.follows .mixedOrders = true) (hB : Region.lexB .any l.toArray = true)
    (h : wpQuiet P l.toArray (fun w1 => ∃ g : Gr w, w1 = g.w') (fun a' => ∀ w1, (∃ g : Gr w, w1 = g.w') → Q .normal a' w1) l a) : (Code.region id l.toArray true).wp P Q a w :=
  wp_region_quiet (C := fun w1 => ∃ g : Gr w, w1 = g.w') hm hB ⟨⟨_, (Only.refl nobody w).drew⟩, rfl⟩ (by simpa using h)
/-- A callee that makes new blocks alone. -/
theorem Gr.calls {P : Program} {f : FuncId} {args : Array Value} {w : World} {g : Gr w} {v : Value} (h : Calls P f args g.w' fun e w1 => e = .returned v ∧ Only nobody g.w' w1) :
    Calls P f args g.w' fun e w2 => e = .returned v ∧ ∃ g' : Gr w, w2 = g'.w' := h.mono fun _ w1 ⟨he, ho⟩ => ⟨he, ⟨w1, g.ok.trans ho⟩, rfl⟩
theorem Gr.same {P : Program} {f : FuncId} {args : Array Value} {w : World} {g : Gr w} {v : Value} (h : Calls P f args g.w' fun e w1 => e = .returned v ∧ g.w' = w1) :
    Calls P f args g.w' fun e w2 => e = .returned v ∧ ∃ g' : Gr w, w2 = g'.w' := Gr.calls (h.mono fun _ w1 ⟨he, ho⟩ => ⟨he, by rw [← ho]; exact Only.refl _ _⟩)
theorem Gr.drawn {P : Program} {f : FuncId} {args : Array Value} {w : World} {g : Gr w} {v : Value} (h : Calls P f args g.w' fun e w1 => e = .returned v ∧ ∃ n, w1 = g.w'.drewN n) :
    Calls P f args g.w' fun e w2 => e = .returned v ∧ ∃ g' : Gr w, w2 = g'.w' := Gr.calls (h.mono fun _ w1 ⟨he, n, ho⟩ => ⟨he, by rw [ho]; exact (Only.refl _ _).drewN n⟩)
theorem quiet_eq {P : Program} {f : FuncId} {args : Array Value} {w : World} {n : Nat} {v : Value} (h : Calls P f args (w.drewN n) fun e w' => e = .returned v ∧ w.drewN n = w') :
    Calls P f args (w.drewN n) fun e w'' => e = .returned v ∧ ∃ m, w'' = w.drewN m := h.mono fun _ _ ⟨he, hm⟩ => ⟨he, n, hm.symm⟩
/-- A cell that was there. -/
theorem Gr.cell {w : World} {b o : Nat} {v : Value} (h : w.cell? ⟨b, o, none⟩ = some v) (g : Gr w) : g.w'.cell? ⟨b, o, none⟩ = some v :=
  (World.cell?_of_block (w := w) (g.ok.block b (World.block_lt_of_cell? w ⟨b, o, none⟩ h) (not_nobody _))).trans h
/-- A callee that makes new blocks alone, told by Below. -/
theorem Gr.blw {P : Program} {f : FuncId} {args : Array Value} {w : World} {g : Gr w} {v : Value} (h : Calls P f args g.w' fun e w1 => e = .returned v ∧ Below g.w'.heap.size g.w' w1) :
    Calls P f args g.w' fun e w2 => e = .returned v ∧ ∃ g' : Gr w, w2 = g'.w' := Gr.calls (h.mono fun _ _ ⟨he, hb⟩ => ⟨he, Only.of_below hb⟩)
end Go.Proofs.Ytpnjeoilkaimmaa
