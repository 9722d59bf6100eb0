/- How the model compares two cells: word by word. -/
import Derived.Test.YtciialffbbhapaaCellCalls
import Derived.ChangeKeysEq
import Derived.Laws.StructEq
namespace Go.Proofs.Ytciialffbbhapaa

theorem cellsWord : Try.prog.cellsOf 22 = 1 := by kernel_rfl
theorem part_word (f : Nat → Int) (i : Nat) (h : i < 12) (w : World) : (Go.part 22 (CA f) (i * 1)).run Try.prog w = .ok (.int .u64 (f i)) w := by
  have e := CA_at f i h
  simp [Go.part, isAgg, run_underlying Try.underlying22, e]
theorem eqItems_words (f g : Nat → Int) (w : World) : ∀ is : List Nat, (∀ i ∈ is, i < 12) →
    (Op.eqItems 9999 22 1 (CA f) (CA g) is).run Try.prog w = .ok (is.all fun i => f i == g i) w
  | [], _ => by simp [Op.eqItems]
  | i :: is, h => by
    have ih := eqItems_words f g w is (fun j hj => h j (by simp [hj]))
    have hi : i < 12 := h i (by simp)
    simp only [Op.eqItems, Sem.run_bind, part_word f i hi, part_word g i hi, Result.andThen_ok, run_equalIn_int w 9998 22 .u64 .u64 (f i) (g i) Try.underlying22, List.all_cons]
    cases hb : (f i == g i)
    · simp
    · simpa using ih
/-- Are two cells equal? -/
def ceq (f g : Nat → Int) : Bool := (List.range 12).all fun i => f i == g i
theorem ceq_of (f g : Nat → Int) (h : ∀ i, i < 12 → f i = g i) : ceq f g = true := by
  unfold ceq; rw [List.all_eq_true]; intro i hi; rw [h i (by simpa using hi)]; simp
theorem ceq_self (f : Nat → Int) : ceq f f = true := ceq_of f f fun _ _ => rfl
theorem equal_cell (f g : Nat → Int) (w : World) : (Op.equalIn 10000 30 (.agg (CA f)) (.agg (CA g))).run Try.prog w = .ok (ceq f g) w := by
  have hi : ∃ i, Try.prog.info? 22 = some i := Option.isSome_iff_exists.1 (by kernel_rfl)
  obtain ⟨i, hi⟩ := hi
  rw [run_equalIn_array w 9999 (CA f) (CA g) Try.underlying30 hi, cellsWord]
  exact eqItems_words f g w _ (fun i hi => by simpa using hi)
theorem eql_cell (f g : Nat → Int) (w : World) : (binOp .eql 30 (.agg (CA f)) (.agg (CA g))).run Try.prog w = .ok (.bool (ceq f g)) w := by
  rw [run_eql_struct, equal_cell]; rfl
theorem neq_cell (f g : Nat → Int) (w : World) : (binOp .neq 30 (.agg (CA f)) (.agg (CA g))).run Try.prog w = .ok (.bool (!ceq f g)) w := by
  rw [run_neq_struct, equal_cell]; rfl
end Go.Proofs.Ytciialffbbhapaa
