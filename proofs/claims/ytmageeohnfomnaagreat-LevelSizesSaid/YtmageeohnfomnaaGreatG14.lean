/- Texts of ours put together: Wd. -/
import Derived.Below
import Derived.ChangeSlices
import Derived.Deep.Draws
import Derived.Deep.MidRow
import Derived.Deep.OwnRows
import Derived.Deep.RegionHeld
import Derived.Deep.RegionHeld3
import Derived.Lib.Hide
import Derived.OpenShut
import Derived.ProofKit
import Derived.RowKit3
import Derived.SizedLaws
import Derived.WalkKit
import Derived.Test.YtmageeohnfomnaaGreatProg
import Derived.Test.YtmageeohnfomnaaGreatG0
import Derived.Test.YtmageeohnfomnaaGreatG2
namespace Go.Proofs.YtmageeohnfomnaaGreat
set_option maxRecDepth 100000
open Go.RowKit

theorem infoCellL (f : Nat → Int) : (Tryz.prog.info? 103).map (·.size) = some (CA f).toList.length := by kernel_rfl
def Wd (f : Nat → Int) : Prop := ∀ j, 0 ≤ f j ∧ f j ≤ 18446744073709551615
theorem there_new (w : World) (f : Nat → Int) (t : TypeId) (b : Nat) (h : b = w.heap.size) : (w.alloc (.cells (CA f) t)).there b 0 12 := by
  intro j hj
  have r := rg_new w f t b h j (.int .u64 (f j)) (by rw [Array.getElem?_toList, CA_at f j hj])
  refine ⟨by rw [r]; rfl, ?_⟩
  subst h
  exact (Box.new w t (CA f)).frozen _
theorem Ext.there {w w' : World} (h : Ext w w') {b o n : Nat} (hb : b < w.heap.size) (ht : w.there b o n) : w'.there b o n := fun j hj => by
  obtain ⟨h1, h2⟩ := ht j hj
  exact ⟨by rw [h.cell b _ hb]; exact h1, by rw [h.froze]; exact h2⟩
theorem Ext.setCells {a : World} {b : Nat} : ∀ {w : World} (_ : Ext a w) (_ : a.heap.size ≤ b) (o : Nat) (vs : List Value), Ext a (w.setCells b o vs)
  | _, h, _, _, [] => h
  | _, h, hb, o, v :: vs => Ext.setCells (h.setCell (p := ⟨b, o, none⟩) hb v) hb (o + 1) vs
theorem CA_ones (f : Nat → Int) : (CA f).all (·.oneCell') = true := by simp [CA, Value.oneCell']
theorem step_store_cell {ops : Array Oper} {o : Oper} {a : Act} {w : World} {K : Act → World → Prop} {Q : Exit → Act → World → Prop} {E : Prop} (hgd : o.guard = none) (x y : Operand) (ho : o.op = .store 103 x y)
    (b i : Nat) (hx : a.eval x = .pointer (some ⟨b, i, none⟩)) (f : Nat → Int) (hy : a.eval y = .agg (CA f)) (ht : w.there b i 12)
    (h : K (a.put o.dst undef) (w.setCells b i (CA f).toList)) : if Region.wanted o (yielded ops a.tmps) = true then Oper.wp Tryz.prog o a w K Q else E := by
  have hw : Region.wanted o (yielded ops a.tmps) = true := by simp [Region.wanted, hgd]
  rw [if_pos hw]
  exact wp_store_mid 103 x y ho b i (CA f) hx hy ht (infoCellL f) (CA_ones f) h
theorem held_S {P : Program} {ops : Array Oper} {Q : Exit → Act → World → Prop} {S : World → Prop} {id : Nat} {a : Act} {w : World} (k : Nat) (hk : ops.size = k) (hm : P.follows .mixedOrders = true) (hS : S w.drew)
    (h : S w.drew → wpAnyH P .any ops Q S k (Array.replicate k false) a w.drew) : (Code.region id ops true).wp P Q a w := by
  subst hk
  exact wp_region_held_drew hm hS h
theorem results_two {fn : Func} {p q : Tmp} {ty : TypeId} (h : fn.results = #[.cell p ty, .cell q ty]) {tmps : Array Value} {P : Program} {w : World} {ad ad' : Addr} {v v' : Value} (hp : tmps.getD p undef = .pointer (some ad)) (hq : tmps.getD q undef = .pointer (some ad'))
    (hl : (loadVar ty ad).run P w = .ok v w) (hl' : (loadVar ty ad').run P w = .ok v' w) : (results fn tmps).run P w = .ok (.tuple #[v, v']) w := by
  have hp' : tmps[p]?.getD undef = .pointer (some ad) := by simpa using hp
  have hq' : tmps[q]?.getD undef = .pointer (some ad') := by simpa using hq
  simp only [results, h]
  simp [asAddr, hp', hq', hl, hl']
theorem load_two {w : World} {b c : Nat} {t : TypeId} {F1 F2 : Nat → Int} (h1 : w.there b 0 12) (h2 : w.there c 0 12) (hne : b ≠ c) (ht : t = 103 := by rfl) :
    (loadVar t ⟨b, 0, none⟩).run Tryz.prog ((w.setCells b 0 (CA F1).toList).setCells c 0 (CA F2).toList) = .ok (.agg (CA F1)) ((w.setCells b 0 (CA F1).toList).setCells c 0 (CA F2).toList) ∧
    (loadVar t ⟨c, 0, none⟩).run Tryz.prog ((w.setCells b 0 (CA F1).toList).setCells c 0 (CA F2).toList) = .ok (.agg (CA F2)) ((w.setCells b 0 (CA F1).toList).setCells c 0 (CA F2).toList) := by
  subst ht
  have r1 : (w.setCells b 0 (CA F1).toList).rangeAt b 0 (CA F1).toList := World.rangeAt_setCells_same w b 0 _ h1
  have r2 := World.rangeAt_setCells_apart r1 c 0 (CA F2).toList (.inl hne)
  have r3 : ((w.setCells b 0 (CA F1).toList).setCells c 0 (CA F2).toList).rangeAt c 0 (CA F2).toList := World.rangeAt_setCells_same _ c 0 _ (World.there_setCells h2 _ _ _)
  exact ⟨run_loadVar_mid _ b 0 103 (CA F1).toList _ r2 Tryz.underlying103 rfl (infoCellL F1), run_loadVar_mid _ c 0 103 (CA F2).toList _ r3 Tryz.underlying103 rfl (infoCellL F2)⟩
end Go.Proofs.YtmageeohnfomnaaGreat

