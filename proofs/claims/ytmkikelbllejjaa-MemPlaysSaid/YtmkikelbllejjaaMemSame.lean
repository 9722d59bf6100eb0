/- Contracts of the law texts' own helpers: a cell of a number, and whether events are others. -/
import Derived.Test.YtmkikelbllejjaaMemSince
import Derived.ChangeKeysEq
import Derived.Laws.StructEq
namespace Go.Proofs.Ytmkikelbllejjaa
open Go.RowKit Go.ChangeShapes Go.WideShapes Go.ChangeAt

/-- The words of a law's cell. -/
def cw (n : Int) (j : Nat) : Int := IntKind.u64.wrap (IntKind.u64.wrap (n * (2 * (j : Int) + 1)) + j)
section
attribute [local go_sem] CA_at
set_option maxHeartbeats 1000000 in
theorem cell_any (n : Int) (w : World) :
    Calls Try.prog 12 #[.int .u64 n] w fun e w' => e = .returned (.agg (CA (cw n))) ∧ w' = (w.alloc (.cells (CA (cw n)) 37)).alloc (.cells (CA (cw n)) 37) := by
  go_enter Try.func12, Try.ntmps12
  go_wp2
  go_loopw [4] (fun i wr => ∃ k : Nat, k ≤ 12 ∧ i = .int .i64 k ∧ wr = (w.alloc (.cells (CA fun _ => 0) 37)).alloc (.cells (CA (upto k (cw n) fun _ => 0)) 37)) (fun i _ => 12 - (intOf i).toNat)
  case atStart => exact ⟨0, by decide, rfl, rfl⟩
  case round =>
    obtain ⟨k, hk, rfl, rfl⟩ := hrel
    by_cases hlt : k < 12
    · go_wp2
      go_roundw
      case rel => exact ⟨k + 1, by omega, by go_num, by rw [← CA_step k hlt]; rfl⟩
      case measure => simp [intOf]; omega
    · obtain rfl : k = 12 := by omega
      rw [CA_done]
      go_wp2
      rw [CA_over]
      exact bodyPost_ret (v := .agg (CA (cw n))) (by simp [results, Try.results12, go_sem]; rfl) rfl ⟨rfl, rfl⟩
end

/-- A slice of events, as it can be read. -/
def View (w : World) (A : Option Addr) (l : List Ev) : Prop := l ≠ [] → ∃ b off, A = some ⟨b, off, none⟩ ∧ w.rangeAt b off (evs l)
theorem View.drewN {w : World} {A : Option Addr} {l : List Ev} (h : View w A l) (n : Nat) : View (w.drewN n) A l := h
theorem Told.view {w : World} {B : Nat} {A : Option Addr} {cap : Nat} {l : List Ev} (h : Told w B A cap l) : View w A l := by
  intro hl
  have ho := h hl
  rcases ho.2 with ⟨_, h0⟩ | ⟨g, cap', cur, e, _⟩
  · exact absurd (List.eq_nil_of_length_eq_zero h0) hl
  · injection e with e
    subst e
    refine ⟨g, 0, rfl, fun j v hv => ?_⟩
    have := ho.cells (g := g) rfl j v hv
    rwa [add_plain] at this
theorem View.at {w : World} {A : Option Addr} {l : List Ev} (h : View w A l) {k : Nat} (hk : k < l.length) : ∃ b off, A = some ⟨b, off, none⟩ ∧ w.cell? ⟨b, off + k * 3, none⟩ = some (.int .i64 (l[k].1 : Nat)) ∧ w.cell? ⟨b, off + k * 3 + 1, none⟩ = some (.int .i64 (l[k].2.1 : Nat)) ∧ w.cell? ⟨b, off + k * 3 + 2, none⟩ = some (.bool l[k].2.2) := by
  obtain ⟨b, off, e, hr⟩ := h (by rintro rfl; simp at hk)
  obtain ⟨h0, h1, h2⟩ := evs_at l k hk
  rw [Nat.mul_comm 3 k] at h0 h1 h2
  exact ⟨b, off, e, hr _ _ h0, hr _ _ h1, hr _ _ h2⟩

/-- How the model compares two events. -/
theorem equal_event (e f : Ev) (w : World) : (Op.equalIn 10000 53 (.agg #[.int .i64 (e.1 : Nat), .int .i64 (e.2.1 : Nat), .bool e.2.2]) (.agg #[.int .i64 (f.1 : Nat), .int .i64 (f.2.1 : Nat), .bool f.2.2])).run Try.prog w = .ok (decide (e = f)) w := by
  obtain ⟨e0, e1, e2⟩ := e
  obtain ⟨f0, f1, f2⟩ := f
  rw [run_equalIn_struct w 9999 53 _ _ (by kernel_rfl) (by kernel_rfl)]
  simp [Program.fieldsOf, Try.underlying53, Op.eqFields, Go.part, isAgg, run_underlying Try.underlying3, run_underlying Try.underlying4, run_equalIn_int w 9998 3 .i64 .i64 _ _ Try.underlying3, run_equalIn_bool' w 9998 4 _ _ Try.underlying4]
  by_cases h0 : e0 = f0 <;> by_cases h1 : e1 = f1 <;> by_cases h2 : e2 = f2 <;> simp [h0, h1, h2, Int.ofNat_inj]
theorem neq_event (e0 e1 f0 f1 : Nat) (e2 f2 : Bool) (b : Bool) (h : decide (((e0, e1, e2) : Ev) = (f0, f1, f2)) = b) (w : World) : (binOp .neq 53 (.agg #[.int .i64 (e0 : Int), .int .i64 (e1 : Int), .bool e2]) (.agg #[.int .i64 (f0 : Int), .int .i64 (f1 : Int), .bool f2])).run Try.prog w = .ok (.bool (!b)) w := by
  rw [run_neq_struct, equal_event (e0, e1, e2) (f0, f1, f2), h]; rfl

set_option maxHeartbeats 1000000 in
theorem same_any (A A' : Option Addr) (cap cap' : Nat) (l l' : List Ev) (w : World) (h : View w A l) (h' : View w A' l') (hn : l.length ≤ 1000000000) :
    Calls Try.prog 20 #[.slice A l.length cap, .slice A' l'.length cap'] w fun e w' => e = .returned (.bool (decide (l = l'))) ∧ ∃ n, w' = w.drewN n := by
  have HV := Lib.hid h
  have HV' := Lib.hid h'
  clear h h'
  obtain ⟨n, hl⟩ : ∃ n, l.length = n := ⟨_, rfl⟩
  have HL := Lib.hid hl
  obtain ⟨B, hB⟩ : ∃ B, decide (l = l') = B := ⟨_, rfl⟩
  have HB := Lib.hid hB
  rw [hB]
  clear hB
  by_cases hlen : l.length = l'.length
  · have HL' := Lib.hid hlen
    rw [← hlen, hl]
    rw [hl] at hn
    clear hl hlen
    go_enter Try.func20, Try.ntmps20
    go_wp2
    go_loopw [5] (fun i wr => ∃ k m : Nat, i = .int .i64 k ∧ k ≤ n ∧ wr = w.drewN m ∧ Hid (∀ j, j < k → l[j]? = l'[j]?)) (fun i _ => n - (intOf i).toNat)
    case atStart => exact ⟨0, 0, rfl, Nat.zero_le _, rfl, fun j hj => absurd hj (by omega)⟩
    case round =>
      obtain ⟨k, m, rfl, hk, rfl, HJ⟩ := hrel
      by_cases hlt : k < n
      · have q1 : k < l.length := by rw [HL.out]; exact hlt
        have q2 : k < l'.length := by rw [← HL'.out]; exact q1
        obtain ⟨b, off, rfl, x0, x1, x2⟩ := HV.out.at q1
        obtain ⟨b', off', rfl, y0, y1, y2⟩ := HV'.out.at q2
        obtain ⟨⟨e0, e1, e2⟩, he⟩ : ∃ e, l[k] = e := ⟨_, rfl⟩
        obtain ⟨⟨f0, f1, f2⟩, hf⟩ : ∃ e, l'[k] = e := ⟨_, rfl⟩
        rw [he] at x0 x1 x2
        rw [hf] at y0 y1 y2
        have HE := Lib.hid (List.getElem?_eq_some_iff.2 ⟨q1, he⟩)
        have HF := Lib.hid (List.getElem?_eq_some_iff.2 ⟨q2, hf⟩)
        clear he hf
        have HQ1 := Lib.hid q1
        clear q1 q2
        cases hd : decide (((e0, e1, e2) : Ev) = (f0, f1, f2))
        · have hq := neq_event e0 e1 f0 f1 e2 f2 false hd
          rw [Bool.not_false] at hq
          have hB : B = false := by
            rw [← HB.out]
            refine decide_eq_false (fun e => ?_)
            have := HE.out
            rw [e, HF.out] at this
            injection this with this
            exact absurd this.symm (of_decide_eq_false hd)
          have HBF := Lib.hid hB
          clear hd hB
          go_wp2
          go_quiet (fail)
          go_wp2
          go_ret
          exact ⟨by rw [HBF.out]; rfl, _, World.drewN_drewN ..⟩
        · have hq := neq_event e0 e1 f0 f1 e2 f2 true hd
          rw [Bool.not_true] at hq
          have HD := Lib.hid hd
          clear hd
          go_wp2
          go_quiet (fail)
          go_wp2
          go_roundw
          case rel =>
            refine ⟨k + 1, _, by go_num, by omega, rfl, fun j hj => ?_⟩
            by_cases e : j = k
            · subst e
              rw [HE.out, HF.out, of_decide_eq_true HD.out]
            · exact HJ.out j (by omega)
          case measure => simp [intOf]; omega
      · have hB : B = true := by
          rw [← HB.out]
          refine decide_eq_true (List.ext_getElem? (fun j => ?_))
          by_cases hj : j < k
          · exact HJ.out j hj
          · rw [List.getElem?_eq_none (by rw [HL.out]; omega), List.getElem?_eq_none (by rw [← HL'.out, HL.out]; omega)]
        have HBF := Lib.hid hB
        clear hB
        go_wp2
        go_ret
        exact ⟨by rw [HBF.out]; rfl, _, rfl⟩
  · obtain ⟨n', hl'⟩ : ∃ n, l'.length = n := ⟨_, rfl⟩
    have HBF : Hid (B = false) := by
      have := HB.out
      rw [← this]
      exact decide_eq_false (fun e => hlen (by rw [e]))
    rw [hl, hl'] at hlen ⊢
    rw [hl] at hn
    clear hl hl'
    go_enter Try.func20, Try.ntmps20
    go_wp2
    go_ret
    exact ⟨by rw [HBF.out]; rfl, 0, rfl⟩

theorem cellsWord : Try.prog.cellsOf 32 = 1 := by kernel_rfl
theorem part_word (f : Nat → Int) (i : Nat) (h : i < 12) (w : World) : (Go.part 32 (CA f) (i * 1)).run Try.prog w = .ok (.int .u64 (f i)) w := by
  have e := CA_at f i h
  simp [Go.part, isAgg, run_underlying Try.underlying32, e]
theorem eqItems_words (f g : Nat → Int) (w : World) : ∀ is : List Nat, (∀ i ∈ is, i < 12) →
    (Op.eqItems 9999 32 1 (CA f) (CA g) is).run Try.prog w = .ok (is.all fun i => f i == g i) w
  | [], _ => by simp [Op.eqItems]
  | i :: is, h => by
    have ih := eqItems_words f g w is (fun j hj => h j (by simp [hj]))
    have hi : i < 12 := h i (by simp)
    simp only [Op.eqItems, Sem.run_bind, part_word f i hi, part_word g i hi, Result.andThen_ok, run_equalIn_int w 9998 32 .u64 .u64 (f i) (g i) Try.underlying32, List.all_cons]
    cases hb : (f i == g i)
    · simp
    · simpa using ih
/-- Are two cells equal? -/
def ceq (f g : Nat → Int) : Bool := (List.range 12).all fun i => f i == g i
theorem ceq_of (f g : Nat → Int) (h : ∀ i, i < 12 → f i = g i) : ceq f g = true := by
  unfold ceq; rw [List.all_eq_true]; intro i hi; rw [h i (by simpa using hi)]; simp
theorem ceq_self (f : Nat → Int) : ceq f f = true := ceq_of f f fun _ _ => rfl
theorem equal_cell (f g : Nat → Int) (w : World) : (Op.equalIn 10000 37 (.agg (CA f)) (.agg (CA g))).run Try.prog w = .ok (ceq f g) w := by
  have hi : ∃ i, Try.prog.info? 32 = some i := Option.isSome_iff_exists.1 (by kernel_rfl)
  obtain ⟨i, hi⟩ := hi
  rw [run_equalIn_array w 9999 (CA f) (CA g) Try.underlying37 hi, cellsWord]
  exact eqItems_words f g w _ (fun i hi => by simpa using hi)
theorem eql_cell (f g : Nat → Int) (w : World) : (binOp .eql 37 (.agg (CA f)) (.agg (CA g))).run Try.prog w = .ok (.bool (ceq f g)) w := by
  rw [run_eql_struct, equal_cell]; rfl
theorem neq_cell (f g : Nat → Int) (w : World) : (binOp .neq 37 (.agg (CA f)) (.agg (CA g))).run Try.prog w = .ok (.bool (!ceq f g)) w := by
  rw [run_neq_struct, equal_cell]; rfl
end Go.Proofs.Ytmkikelbllejjaa
