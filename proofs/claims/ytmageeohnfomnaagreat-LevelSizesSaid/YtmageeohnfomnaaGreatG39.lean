/- Texts of ours put together: Var. -/
import Derived.Below
import Derived.BigQuiet
import Derived.BigRegion
import Derived.ChangeKeysEq
import Derived.ChangeSlices
import Derived.Deep.Draws
import Derived.Deep.MidRow
import Derived.Deep.OwnRows
import Derived.Deep.Quiet
import Derived.Deep.QuietTactic
import Derived.Deep.RegionHeld
import Derived.Deep.RegionHeld3
import Derived.Deep.WholeRow
import Derived.Laws.AppendOwn
import Derived.Laws.BitsAllLaws
import Derived.Laws.StructEq
import Derived.Lib.BitFns
import Derived.Lib.Hide
import Derived.OpenShut
import Derived.OwnWalk
import Derived.ProofKit
import Derived.RegionTactic
import Derived.RowKit3
import Derived.SizedLaws
import Derived.StillTailTactics
import Derived.WalkKit
import Derived.Test.YtmageeohnfomnaaGreatProg
import Derived.Test.YtmageeohnfomnaaGreatG0
import Derived.Test.YtmageeohnfomnaaGreatG21
import Derived.Test.YtmageeohnfomnaaGreatG5
import Derived.Test.YtmageeohnfomnaaGreatG2
import Derived.Test.YtmageeohnfomnaaGreatG9
import Derived.Test.YtmageeohnfomnaaGreatG10
import Derived.Test.YtmageeohnfomnaaGreatG24
import Derived.Test.YtmageeohnfomnaaGreatG23
import Derived.Test.YtmageeohnfomnaaGreatG38
import Derived.Test.YtmageeohnfomnaaGreatG14
namespace Go.Proofs.YtmageeohnfomnaaGreat
set_option maxRecDepth 100000
open Go.RowKit Go.ChangeShapes Go.WideShapes Go.ChangeAt

def msk (b : Bool) : Int := if b = true then 18446744073709551615 else 0
theorem me_mk (a b : Int) : me a b = msk (decide (a = b)) := by
  unfold me msk
  by_cases h : a = b
  · rw [if_pos h, if_pos (decide_eq_true h)]
  · rw [if_neg h, if_neg (by simp [h])]
theorem and_mk (a b : Bool) : bits .and .u64 (msk a) (msk b) = msk (a && b) := by cases a <;> cases b <;> decide
theorem pk_mk (b : Bool) (x y : Int) (h0 : 0 ≤ x) (h1 : x ≤ 18446744073709551615) (k0 : 0 ≤ y) (k1 : y ≤ 18446744073709551615) : pk (msk b) x y = if b = true then x else y := by
  cases b
  · exact pk_none x y k0 k1
  · exact pk_all x y h0 h1
theorem pickCell_mask (b : Bool) (f g : Nat → Int) (w : World) (hf : Wd f) (hg : Wd g) :
    Calls Tryz.prog 52 #[.int .u64 (msk b), .agg (CA f), .agg (CA g)] w fun e w' => e = .returned (.agg (CA (if b = true then f else g))) ∧ Ext w w' :=
  (pickCell_any (msk b) f g w).mono fun e w' ⟨he, n, hw⟩ => ⟨he.trans (by
    rw [CA_ext (fun j => pk (msk b) (f j) (g j)) (if b = true then f else g) (fun j _ => by rw [pk_mk b (f j) (g j) (hf j).1 (hf j).2 (hg j).1 (hg j).2]; cases b <;> rfl)]), by
    rw [hw]; exact (((((Ext.refl w).alloc _ _).alloc _ _).alloc _ _).alloc _ _).drewN n⟩

structure Var (w : World) (b : Nat) (f : Nat → Int) : Prop where
  rng : w.rangeAt b 0 (CA f).toList
  there : w.there b 0 12
section
variable {w w' : World} {b : Nat} {f : Nat → Int} {X S : Nat → Prop}
theorem Var.lt (h : Var w b f) : b < w.heap.size := World.block_lt_of_cell? w ⟨b, 0, none⟩ (cell_in_range h.rng (by decide : 0 < 12))
theorem Var.new (w : World) (f : Nat → Int) (t : TypeId) : Var (w.alloc (.cells (CA f) t)) w.heap.size f := ⟨range_alloc_new w f t, there_new w f t _ rfl⟩
theorem Var.of_block (h : Var w b f) (e : w'.heap[b]? = w.heap[b]?) : Var w' b f :=
  ⟨fun j v hv => (World.cell?_of_block (w := w) e).trans (h.rng j v hv), fun j hj => by
    obtain ⟨h1, h2⟩ := h.there j hj
    exact ⟨by rw [World.cell?_of_block (w := w) e]; exact h1, by rw [World.frozen?_of_block e]; exact h2⟩⟩
theorem Var.only (h : Var w b f) (ho : Only S w w') (hs : ¬ S b) : Var w' b f := h.of_block (ho.block b h.lt hs)
theorem Var.kept (h : Var w b f) (hk : Kept X w w') (hx : X b) : Var w' b f := h.only hk (fun k => k hx)
theorem Var.nob (h : Var w b f) (ho : Only nobody w w') : Var w' b f := h.only ho (not_nobody _)
theorem Var.ext (h : Var w b f) (hx : Ext w w') : Var w' b f := h.nob (none_of_ext hx)
theorem Var.alloc (h : Var w b f) (o : Obj) : Var (w.alloc o) b f := h.nob ((Only.refl _ w).alloc o)
theorem Var.drewN (h : Var w b f) (n : Nat) : Var (w.drewN n) b f := h.nob ((Only.refl _ w).drewN n)
theorem Var.drew (h : Var w b f) : Var w.drew b f := h.drewN 1
theorem Var.set (h : Var w b f) (g : Nat → Int) : Var (w.setCells b 0 (CA g).toList) b g := ⟨World.rangeAt_setCells_same w b 0 _ h.there, World.there_setCells h.there _ _ _⟩
theorem Var.far (h : Var w b f) {c : Nat} (hne : b ≠ c) (vs : List Value) : Var (w.setCells c 0 vs) b f := h.only (only_setCells (S := just c) vs 0 w (Only.refl _ _) (.inl (just_self c))) hne
theorem Var.load (h : Var w b f) : (loadVar 103 ⟨b, 0, none⟩).run Tryz.prog w = .ok (.agg (CA f)) w :=
  run_loadVar_mid _ b 0 103 (CA f).toList _ h.rng Tryz.underlying103 rfl (infoCellL f)
theorem Var.cell (h : Var w b f) {κ : Nat} (hκ : κ < 12) : w.cell? ⟨b, κ, none⟩ = some (.int .u64 (f κ)) := cell_in_range h.rng hκ
end
theorem step_load_cell {ops : Array Oper} {o : Oper} {a : Act} {w : World} {K : Act → World → Prop} {Q : Exit → Act → World → Prop} {E : Prop} (hgd : o.guard = none) (x : Operand) (ho : o.op = .load 103 x)
    (b i : Nat) (hx : a.eval x = .pointer (some ⟨b, i, none⟩)) (f : Nat → Int) (hr : w.rangeAt b i (CA f).toList)
    (h : K (a.put o.dst (.agg (CA f))) w) : if Region.wanted o (yielded ops a.tmps) = true then Oper.wp Tryz.prog o a w K Q else E := by
  have hw : Region.wanted o (yielded ops a.tmps) = true := by simp [Region.wanted, hgd]
  rw [if_pos hw]
  exact wp_load_mid 103 x ho b i hx (CA f).toList _ hr Tryz.underlying103 rfl (infoCellL f) h
def plus1 (X : Nat → Prop) (n : Nat) : Nat → Prop := fun i => X i ∨ i = n
theorem Own.one {w : World} {X : Nat → Prop} {p : Nat} {M : MS} (h : Own w X p M) (o : Obj) : Own (w.alloc o) (plus1 X w.heap.size) p M := h.alloc o
end Go.Proofs.YtmageeohnfomnaaGreat

