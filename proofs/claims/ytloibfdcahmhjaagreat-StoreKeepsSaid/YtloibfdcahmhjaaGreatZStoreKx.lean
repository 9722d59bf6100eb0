/- StoreKeeps: lemmas on a law's store that this claim wants beside the groups of texts. -/
import Derived.Test.YtloibfdcahmhjaaGreatG25
import Derived.Test.YtloibfdcahmhjaaGreatG49
namespace Go.Proofs.YtloibfdcahmhjaaGreat
set_option maxRecDepth 100000
open Go.RowKit Go.ChangeShapes Go.WideShapes Go.ChangeAt Go.Maps Go.Deep
section
theorem neq_data (f g : Nat → Int) (w : World) : (binOp .neq 48 (.agg (DA f)) (.agg (DA g))).run Tryz.prog w = .ok (.bool (!deq f g)) w := by
  rw [run_neq_struct, equal_data]; rfl
end
section
variable {c : SC} {a : SA} {Z Z' : Nat → Prop} {g : SG} {k : Nat} {w w' : World}
theorem StK.lt (h : StK c a Z g k w) {i : Nat} (hi : Z i) : i < w.heap.size := by obtain ⟨_, _, _, _, h2⟩ := h; exact (h2 i hi).1
theorem StK.only (h : StK c a Z g k w) {Y : Nat → Prop} (ho : Only Y w w') (hY : ∀ i, Y i → Z i) : StK c a Z g k w' := by
  obtain ⟨ga, gc, G, h1, h2⟩ := h
  exact ⟨ga, gc, G, h1.keep ho (fun i hi hy => (h2 i (hY i hy)).2 hi), fun i hi => ⟨Nat.lt_of_lt_of_le (h2 i hi).1 ho.size, (h2 i hi).2⟩⟩
end
section
variable {c : SC} {a : SA} {W : World} {Z : Nat → Prop} {F : World → Prop} {g : SG} {k : Nat} {wr w' : World}
theorem StS.row (h : StS c a W Z F g k wr) (t : TypeId) (f : Nat → Value) (o : Obj) {b n : Nat} (hb : wr.heap.size = b) (hr : (wr.alloc o).rowIs b t n f) :
    StS c a W (fun i => Z i ∨ i = b) (fun u => F u ∧ u.rowIs b t n f) g k (wr.alloc o) :=
  (h.grow o hb).also hr (fun _ _ _ hk g => hk.row g (.inr rfl))
theorem StS.put {Y : Nat → Prop} {G : World → Prop} (h : StS c a W Z F g k wr) (ho : Only Y wr w') (hY : ∀ i, Y i → Z i ∧ W.heap.size ≤ i) (hG : G w') (st : ∀ u u', W.heap.size ≤ u.heap.size → Kept Z u u' → G u → G u') : StS c a W Z G g k w' :=
  ⟨h.sk.only ho (fun i hi => (hY i hi).1), h.hz, hG, st, below_only h.kp ho h.kp.size (fun i hi e => by have := (hY i e).2; omega)⟩
theorem StS.back {Z0 : Nat → Prop} {G : World → Prop} (h : StS c a W Z (fun u => F u ∧ G u) g k wr) (h0 : ∀ i, Z0 i → Z i) (hz0 : ∀ i, i < W.heap.size → Z0 i) (stF : ∀ u u', W.heap.size ≤ u.heap.size → Kept Z0 u u' → F u → F u') : StS c a W Z0 F g k wr :=
  ⟨h.sk.weak h0, hz0, h.hF.1, stF, h.kp⟩
end
end Go.Proofs.YtloibfdcahmhjaaGreat
