/- Slices of events as they can be read, and how the model compares events and cells. -/
import Derived.Test.YtgppediikggogaaMemSince
import Derived.ChangeKeysEq
import Derived.Laws.StructEq
namespace Go.Proofs.Ytgppediikggogaa
open Go.RowKit Go.ChangeShapes Go.WideShapes Go.ChangeAt

/-- A slice of events, as it can be read. -/
def View (w : World) (A : Option Addr) (l : List Ev) : Prop := l ≠ [] → ∃ b off, A = some ⟨b, off, none⟩ ∧ w.rangeAt b off (evs l)
theorem View.drewN {w : World} {A : Option Addr} {l : List Ev} (h : View w A l) (n : Nat) : View (w.drewN n) A l := h
theorem Told.view {w : World} {B : Nat} {A : Option Addr} {cap : Nat} {l : List Ev} (h : Told w B A cap l) : View w A l := by
  intro hl
  have ho := h hl
  rcases ho.2 with ⟨_, h0⟩ | ⟨g, cap', cur, e, _⟩
  · exact absurd (List.eq_nil_of_length_eq_zero h0) hl
  · injection e with e
    subst e
    refine ⟨g, 0, rfl, fun j v hv => ?_⟩
    have := ho.cells (g := g) rfl j v hv
    rwa [add_plain] at this
theorem View.at {w : World} {A : Option Addr} {l : List Ev} (h : View w A l) {k : Nat} (hk : k < l.length) : ∃ b off, A = some ⟨b, off, none⟩ ∧ w.cell? ⟨b, off + k * 3, none⟩ = some (.int .i64 (l[k].1 : Nat)) ∧ w.cell? ⟨b, off + k * 3 + 1, none⟩ = some (.int .i64 (l[k].2.1 : Nat)) ∧ w.cell? ⟨b, off + k * 3 + 2, none⟩ = some (.bool l[k].2.2) := by
  obtain ⟨b, off, e, hr⟩ := h (by rintro rfl; simp at hk)
  obtain ⟨h0, h1, h2⟩ := evs_at l k hk
  rw [Nat.mul_comm 3 k] at h0 h1 h2
  exact ⟨b, off, e, hr _ _ h0, hr _ _ h1, hr _ _ h2⟩

theorem View.only {w w' : World} {A : Option Addr} {l : List Ev} (h : View w A l) (ho : Only nobody w w') : View w' A l := fun hl => by
  obtain ⟨b, off, e, hr⟩ := h hl
  exact ⟨b, off, e, fun j v hv => (World.cell?_of_block (w := w) (ho.block b (World.block_lt_of_cell? w ⟨b, off + j, none⟩ (hr j v hv)) (not_nobody _))).trans (hr j v hv)⟩
theorem View.alloc {w : World} {A : Option Addr} {l : List Ev} (h : View w A l) (o : Obj) : View (w.alloc o) A l := h.only ((Only.refl _ w).alloc o)

/-- How the model compares two events. -/
theorem equal_event (e f : Ev) (w : World) : (Op.equalIn 10000 54 (.agg #[.int .i64 (e.1 : Nat), .int .i64 (e.2.1 : Nat), .bool e.2.2]) (.agg #[.int .i64 (f.1 : Nat), .int .i64 (f.2.1 : Nat), .bool f.2.2])).run Try.prog w = .ok (decide (e = f)) w := by
  obtain ⟨e0, e1, e2⟩ := e
  obtain ⟨f0, f1, f2⟩ := f
  rw [run_equalIn_struct w 9999 54 _ _ (by kernel_rfl) (by kernel_rfl)]
  simp [Program.fieldsOf, Try.underlying54, Op.eqFields, Go.part, isAgg, run_underlying Try.underlying3, run_underlying Try.underlying4, run_equalIn_int w 9998 3 .i64 .i64 _ _ Try.underlying3, run_equalIn_bool' w 9998 4 _ _ Try.underlying4]
  by_cases h0 : e0 = f0 <;> by_cases h1 : e1 = f1 <;> by_cases h2 : e2 = f2 <;> simp [h0, h1, h2, Int.ofNat_inj]
theorem neq_event (e0 e1 f0 f1 : Nat) (e2 f2 : Bool) (b : Bool) (h : decide (((e0, e1, e2) : Ev) = (f0, f1, f2)) = b) (w : World) : (binOp .neq 54 (.agg #[.int .i64 (e0 : Int), .int .i64 (e1 : Int), .bool e2]) (.agg #[.int .i64 (f0 : Int), .int .i64 (f1 : Int), .bool f2])).run Try.prog w = .ok (.bool (!b)) w := by
  rw [run_neq_struct, equal_event (e0, e1, e2) (f0, f1, f2), h]; rfl

theorem cellsWord : Try.prog.cellsOf 23 = 1 := by kernel_rfl
theorem part_word (f : Nat → Int) (i : Nat) (h : i < 12) (w : World) : (Go.part 23 (CA f) (i * 1)).run Try.prog w = .ok (.int .u64 (f i)) w := by
  have e := CA_at f i h
  simp [Go.part, isAgg, run_underlying Try.underlying23, e]
theorem eqItems_words (f g : Nat → Int) (w : World) : ∀ is : List Nat, (∀ i ∈ is, i < 12) →
    (Op.eqItems 9999 23 1 (CA f) (CA g) is).run Try.prog w = .ok (is.all fun i => f i == g i) w
  | [], _ => by simp [Op.eqItems]
  | i :: is, h => by
    have ih := eqItems_words f g w is (fun j hj => h j (by simp [hj]))
    have hi : i < 12 := h i (by simp)
    simp only [Op.eqItems, Sem.run_bind, part_word f i hi, part_word g i hi, Result.andThen_ok, run_equalIn_int w 9998 23 .u64 .u64 (f i) (g i) Try.underlying23, List.all_cons]
    cases hb : (f i == g i)
    · simp
    · simpa using ih
/-- Are two cells equal? -/
def ceq (f g : Nat → Int) : Bool := (List.range 12).all fun i => f i == g i
theorem ceq_of (f g : Nat → Int) (h : ∀ i, i < 12 → f i = g i) : ceq f g = true := by
  unfold ceq; rw [List.all_eq_true]; intro i hi; rw [h i (by simpa using hi)]; simp
theorem ceq_self (f : Nat → Int) : ceq f f = true := ceq_of f f fun _ _ => rfl
theorem equal_cell (f g : Nat → Int) (w : World) : (Op.equalIn 10000 30 (.agg (CA f)) (.agg (CA g))).run Try.prog w = .ok (ceq f g) w := by
  have hi : ∃ i, Try.prog.info? 23 = some i := Option.isSome_iff_exists.1 (by kernel_rfl)
  obtain ⟨i, hi⟩ := hi
  rw [run_equalIn_array w 9999 (CA f) (CA g) Try.underlying30 hi, cellsWord]
  exact eqItems_words f g w _ (fun i hi => by simpa using hi)
theorem eql_cell (f g : Nat → Int) (w : World) : (binOp .eql 30 (.agg (CA f)) (.agg (CA g))).run Try.prog w = .ok (.bool (ceq f g)) w := by
  rw [run_eql_struct, equal_cell]; rfl
theorem neq_cell (f g : Nat → Int) (w : World) : (binOp .neq 30 (.agg (CA f)) (.agg (CA g))).run Try.prog w = .ok (.bool (!ceq f g)) w := by
  rw [run_neq_struct, equal_cell]; rfl
end Go.Proofs.Ytgppediikggogaa
