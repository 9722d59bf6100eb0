/- Texts of ours put together: DataV. -/
import Derived.Below
import Derived.ChangeKeysEq
import Derived.ChangeSlices
import Derived.Deep.Draws
import Derived.Deep.MidRow
import Derived.Deep.OwnRows
import Derived.Deep.WholeRow
import Derived.Laws.StructEq
import Derived.Lib.Hide
import Derived.OpenShut
import Derived.ProofKit
import Derived.RowKit3
import Derived.SizedLaws
import Derived.WalkKit
import Derived.Test.YtmageeohnfomnaaGreatProg
import Derived.Test.YtmageeohnfomnaaGreatG6
import Derived.Test.YtmageeohnfomnaaGreatG2
import Derived.Test.YtmageeohnfomnaaGreatG11
namespace Go.Proofs.YtmageeohnfomnaaGreat
set_option maxRecDepth 100000
open Go.RowKit Go.ChangeShapes Go.WideShapes Go.ChangeAt

def DA (d : Nat → Int) : Array Value := #[.int .u64 (d 0), .int .u64 (d 1), .int .u64 (d 2), .int .u64 (d 3), .int .u64 (d 4), .int .u64 (d 5), .int .u64 (d 6), .int .u64 (d 7)]
theorem DA_one (d : Nat → Int) : ∀ v ∈ (DA d).toList, v.oneCell' = true := by simp [DA, Value.oneCell']
theorem DA_at (d : Nat → Int) (j : Nat) (h : j < 8) : (DA d)[j]? = some (.int .u64 (d j)) := by
  have : j = 0 ∨ j = 1 ∨ j = 2 ∨ j = 3 ∨ j = 4 ∨ j = 5 ∨ j = 6 ∨ j = 7 := by omega
  rcases this with rfl | rfl | rfl | rfl | rfl | rfl | rfl | rfl <;> rfl
theorem infoData (d : Nat → Int) : (Tryz.prog.info? 56).map (·.size) = some (DA d).toList.length := by kernel_rfl
theorem infoData8 (d : Nat → Int) : (Tryz.prog.info? 56).map (·.size) = some (DA d).size := by kernel_rfl
theorem DA_ones (d : Nat → Int) : (DA d).all (·.oneCell') = true := by simp [DA, Value.oneCell']
theorem wpList_load_data {ops : Array Oper} {rest : List Oper} {op : Oper} {a : Act} {w : World} {Q : Exit → Act → World → Prop} (hgd : op.guard = none) (x : Operand) (ho : op.op = .load 56 x)
    (b o : Nat) (hx : a.eval x = .pointer (some ⟨b, o, none⟩)) (d : Nat → Int) (hc : w.rangeAt b o (DA d).toList)
    (h : wpList Tryz.prog ops Q rest (a.put op.dst (.agg (DA d))) w) : wpList Tryz.prog ops Q (op :: rest) a w :=
  wpList_load_mid hgd 56 x ho b o hx (DA d).toList _ hc Tryz.underlying56 rfl (infoData d) h
theorem wpList_store_data {ops : Array Oper} {rest : List Oper} {op : Oper} {a : Act} {w : World} {Q : Exit → Act → World → Prop} (hgd : op.guard = none) (x y : Operand) (ho : op.op = .store 56 x y)
    (b o : Nat) (hx : a.eval x = .pointer (some ⟨b, o, none⟩)) (d : Nat → Int) (hy : a.eval y = .agg (DA d)) (ht : w.there b o 8)
    (h : wpList Tryz.prog ops Q rest (a.put op.dst undef) (w.setCells b o (DA d).toList)) : wpList Tryz.prog ops Q (op :: rest) a w :=
  wpList_store_mid hgd 56 x y ho b o (DA d) hx hy ht (infoData d) (DA_ones d) h
theorem Box.there {w : World} {b : Nat} {t : TypeId} {cs : Array Value} (h : Box w b t cs) (n : Nat) (hn : n ≤ cs.size) : w.there b 0 n := fun j hj => by
  refine ⟨?_, h.frozen _⟩
  rw [h.cell (0 + j), Array.getElem?_eq_getElem (by omega)]
  rfl
theorem load_range {w : World} {b : Nat} {ty : TypeId} {cs : List Value} (h : w.rangeAt b 0 cs) {u : TypeDesc} (hu : Tryz.prog.underlying ty = some u) (ha : u.isRow = true) (hi : (Tryz.prog.info? ty).map (·.size) = some cs.length) :
    (loadVar ty ⟨b, 0, none⟩).run Tryz.prog w = .ok (.agg cs.toArray) w := run_loadVar_mid w b 0 ty cs _ h hu ha hi
theorem wpList_store_newD {ops : Array Oper} {rest : List Oper} {op : Oper} {a : Act} {w : World} {Q : Exit → Act → World → Prop} (hgd : op.guard = none) (x y : Operand) (ho : op.op = .store 56 x y)
    (hx : a.eval x = .pointer (some ⟨w.heap.size, 0, none⟩)) (f : Nat → Int) (hy : a.eval y = .agg (DA f)) {c : Array Value} (hc : c.size = 8)
    (h : wpList Tryz.prog ops Q rest (a.put op.dst undef) (w.alloc (.cells (DA f) 56))) : wpList Tryz.prog ops Q (op :: rest) a (w.alloc (.cells c 56)) := by
  refine wpList_plain hgd fun K hK => ?_
  have hr := run_storeAt_new (P := Tryz.prog) w 56 c (DA f) (infoData8 f) (by rw [hc]; rfl) (DA_ones f)
  unfold Oper.wp execOp
  simp only [ho, hx, hy, Sem.run_bind, Result.andThen_ok, hr, Sem.run_pure]
  exact hK _ _ h
theorem part_data (f : Nat → Int) (i : Nat) (h : i < 8) (w : World) : (Go.part 54 (DA f) (i * 1)).run Tryz.prog w = .ok (.int .u64 (f i)) w := by
  have e := DA_at f i h
  simp [Go.part, isAgg, run_underlying Tryz.underlying54, e]
theorem eqItems_words8 (f g : Nat → Int) (w : World) : ∀ is : List Nat, (∀ i ∈ is, i < 8) →
    (Op.eqItems 9999 54 1 (DA f) (DA g) is).run Tryz.prog w = .ok (is.all fun i => f i == g i) w
  | [], _ => by simp [Op.eqItems]
  | i :: is, h => by
    have ih := eqItems_words8 f g w is (fun j hj => h j (by simp [hj]))
    have hi : i < 8 := h i (by simp)
    simp only [Op.eqItems, Sem.run_bind, part_data f i hi, part_data g i hi, Result.andThen_ok, run_equalIn_int w 9998 54 .u64 .u64 (f i) (g i) Tryz.underlying54, List.all_cons]
    cases hb : (f i == g i)
    · simp
    · simpa using ih
def deq (f g : Nat → Int) : Bool := (List.range 8).all fun i => f i == g i
theorem deq_of (f g : Nat → Int) (h : ∀ i, i < 8 → f i = g i) : deq f g = true := by
  unfold deq; rw [List.all_eq_true]; intro i hi; rw [h i (by simpa using hi)]; simp
theorem deq_self (f : Nat → Int) : deq f f = true := deq_of f f fun _ _ => rfl
theorem equal_data (f g : Nat → Int) (w : World) : (Op.equalIn 10000 56 (.agg (DA f)) (.agg (DA g))).run Tryz.prog w = .ok (deq f g) w := by
  have hi : ∃ i, Tryz.prog.info? 54 = some i := Option.isSome_iff_exists.1 (by kernel_rfl)
  obtain ⟨i, hi⟩ := hi
  rw [run_equalIn_array w 9999 (DA f) (DA g) Tryz.underlying56 hi, cellsWord]
  exact eqItems_words8 f g w _ (fun i hi => by simpa using hi)
theorem eql_data (f g : Nat → Int) (w : World) : (binOp .eql 56 (.agg (DA f)) (.agg (DA g))).run Tryz.prog w = .ok (.bool (deq f g)) w := by
  rw [run_eql_struct, equal_data]; rfl
end Go.Proofs.YtmageeohnfomnaaGreat

