/- The laws' helper shown; how the model compares two hashes. -/
import Derived.Test.YtdfnnljfihlniaaHash
import Derived.Test.YtdfnnljfihlniaaGrow
import Derived.ChangeKeysEq
import Derived.Laws.StructEq
namespace Go.Proofs.Ytdfnnljfihlniaa
open Go.RowKit Go.Shelf Go.ChangeShapes Go.WideShapes Go.ChangeAt

theorem at_blw (f : Nat → Int) (t k s : Int) (w : World) (h0 : -9223372036854775808 ≤ s) (h1 : s ≤ 9223372036854775807) :
    Calls Try.prog 14 #[.agg (H4 f), .int .i64 t, .int .u64 k, .int .i64 s] w fun e w' => e = .returned (.int .i64 (atI f t k s)) ∧ Below w.heap.size w w' :=
  (at_any f t k s w h0 h1).mono fun e w' ⟨he, hw⟩ => ⟨he, by rw [hw]; exact (Below.refl _ w).alloc (Nat.le_refl _) _⟩
theorem rat_blw (f : Nat → Int) (t k s : Int) (w : World) :
    Calls Try.prog 15 #[.agg (H4 f), .int .i64 t, .int .u64 k, .int .i64 s] w fun e w' => e = .returned (.int .i64 (atI f t k s)) ∧ Below w.heap.size w w' :=
  (rat_any f t k s w).mono fun e w' ⟨he, hw⟩ => ⟨he, by rw [hw]; exact (Below.refl _ w).alloc (Nat.le_refl _) _⟩
/-- Four words by name. -/
def h4 (a b c d : Int) (j : Nat) : Int := if j = 0 then a else if j = 1 then b else if j = 2 then c else d
theorem at_0 (x y z u k : Int) (n : Nat) (w : World) (hn : n ≤ 1024) (ht : isTree (n : Int) = true) :
    Calls Try.prog 14 #[.agg #[.int .u64 x, .int .u64 y, .int .u64 z, .int .u64 u], .int .i64 0, .int .u64 k, .int .i64 (n : Int)] w fun e w' => e = .returned (.int .i64 (plc x y k n)) ∧ Below w.heap.size w w' := by
  have := at_blw (h4 x y z u) 0 k (n : Int) w (by omega) (by omega)
  rw [atI_0 _ _ ht] at this
  exact this
theorem at_1 (x y z u k : Int) (n : Nat) (w : World) (hn : n ≤ 1024) (ht : isTree (n : Int) = true) :
    Calls Try.prog 14 #[.agg #[.int .u64 x, .int .u64 y, .int .u64 z, .int .u64 u], .int .i64 1, .int .u64 k, .int .i64 (n : Int)] w fun e w' => e = .returned (.int .i64 (plc z u k n)) ∧ Below w.heap.size w w' := by
  have := at_blw (h4 x y z u) 1 k (n : Int) w (by omega) (by omega)
  rw [atI_1 _ _ ht] at this
  exact this
/-- A callee that makes new blocks alone, told by Below. -/
theorem Gr.hblw {P : Program} {f : FuncId} {args : Array Value} {w : World} {g : Gr w} {v : Value} (h : Calls P f args g.w' fun e w1 => e = .returned v ∧ Below g.w'.heap.size g.w' w1) :
    Calls P f args g.w' fun e w2 => e = .returned v ∧ ∃ g' : Gr w, w2 = g'.w' := Gr.calls (h.mono fun _ _ ⟨he, hb⟩ => ⟨he, Only.of_below hb⟩)
theorem Gr.hsame {P : Program} {f : FuncId} {args : Array Value} {w : World} {g : Gr w} {v : Value} (h : Calls P f args g.w' fun e w1 => e = .returned v ∧ w1 = g.w') :
    Calls P f args g.w' fun e w2 => e = .returned v ∧ ∃ g' : Gr w, w2 = g'.w' := Gr.calls (h.mono fun _ w1 ⟨he, ho⟩ => ⟨he, by rw [ho]; exact Only.refl _ _⟩)
theorem eql_hash (f : Nat → Int) (w : World) : (binOp .eql 26 (.agg #[.int .u64 (f 0), .int .u64 (f 1), .int .u64 (f 2), .int .u64 (f 3)]) (.agg #[.int .u64 (f 0), .int .u64 (f 1), .int .u64 (f 2), .int .u64 (f 3)])).run Try.prog w = .ok (.bool true) w := by
  have h : (Op.equalIn 10000 26 (.agg #[.int .u64 (f 0), .int .u64 (f 1), .int .u64 (f 2), .int .u64 (f 3)]) (.agg #[.int .u64 (f 0), .int .u64 (f 1), .int .u64 (f 2), .int .u64 (f 3)])).run Try.prog w = .ok true w := by
    rw [run_equalIn_struct w 9999 26 _ _ (by kernel_rfl) (by kernel_rfl)]
    simp [Program.fieldsOf, Try.underlying26, Op.eqFields, Go.part, isAgg, run_underlying Try.underlying23, run_equalIn_int w 9998 23 .u64 .u64 _ _ Try.underlying23]
  rw [run_eql_struct, h]; rfl
theorem eql_rhash (f : Nat → Int) (w : World) : (binOp .eql 28 (.agg #[.int .u64 (f 0), .int .u64 (f 1), .int .u64 (f 2), .int .u64 (f 3)]) (.agg #[.int .u64 (f 0), .int .u64 (f 1), .int .u64 (f 2), .int .u64 (f 3)])).run Try.prog w = .ok (.bool true) w := by
  have h : (Op.equalIn 10000 28 (.agg #[.int .u64 (f 0), .int .u64 (f 1), .int .u64 (f 2), .int .u64 (f 3)]) (.agg #[.int .u64 (f 0), .int .u64 (f 1), .int .u64 (f 2), .int .u64 (f 3)])).run Try.prog w = .ok true w := by
    rw [run_equalIn_struct w 9999 28 _ _ (by kernel_rfl) (by kernel_rfl)]
    simp [Program.fieldsOf, Try.underlying28, Op.eqFields, Go.part, isAgg, run_underlying Try.underlying23, run_equalIn_int w 9998 23 .u64 .u64 _ _ Try.underlying23]
  rw [run_eql_struct, h]; rfl
/-- The same, a hash's four words written out. -/
theorem as_lit (f : Nat → Int) (w : World) : Calls Try.prog 10 #[.agg #[.int .u64 (f 0), .int .u64 (f 1), .int .u64 (f 2), .int .u64 (f 3)]] w fun e w' => e = .returned (.agg #[.int .u64 (f 0), .int .u64 (f 1), .int .u64 (f 2), .int .u64 (f 3)]) ∧ Below w.heap.size w w' := as_any f w
theorem of_lit (A : Option Addr) (n cap : Nat) (z f : Nat → Int) (w : World) (hn : n ≤ 9223372036854775807) (hf : H4 (hW n z) = H4 f) (hz : Nums .u64 w w.heap.size A n z) :
    Calls Try.prog 9 #[.slice A n cap] w fun e w' => e = .returned (.agg #[.int .u64 (f 0), .int .u64 (f 1), .int .u64 (f 2), .int .u64 (f 3)]) ∧ Below w.heap.size w w' := by
  have := of_any A n cap z w hn hz
  rw [hf] at this
  exact this
theorem rof_lit (A : Option Addr) (n cap : Nat) (z f : Nat → Int) (w : World) (hf : hW n z = f) (hz : Nums .u64 w w.heap.size A n z) :
    Calls Try.prog 11 #[.slice A n cap] w fun e w' => e = .returned (.agg #[.int .u64 (f 0), .int .u64 (f 1), .int .u64 (f 2), .int .u64 (f 3)]) ∧ Below w.heap.size w w' := by
  have := rof_any A n cap z w hz
  rw [hf] at this
  exact this
theorem at_lit (f : Nat → Int) (t k s : Int) (w : World) (h0 : -9223372036854775808 ≤ s) (h1 : s ≤ 9223372036854775807) :
    Calls Try.prog 14 #[.agg #[.int .u64 (f 0), .int .u64 (f 1), .int .u64 (f 2), .int .u64 (f 3)], .int .i64 t, .int .u64 k, .int .i64 s] w fun e w' => e = .returned (.int .i64 (atI f t k s)) ∧ Below w.heap.size w w' := at_blw f t k s w h0 h1
theorem rat_lit (f : Nat → Int) (t k s : Int) (w : World) :
    Calls Try.prog 15 #[.agg #[.int .u64 (f 0), .int .u64 (f 1), .int .u64 (f 2), .int .u64 (f 3)], .int .i64 t, .int .u64 k, .int .i64 s] w fun e w' => e = .returned (.int .i64 (atI f t k s)) ∧ Below w.heap.size w w' := rat_blw f t k s w
theorem at_2 (f : Nat → Int) (k s : Int) (w : World) (h0 : -9223372036854775808 ≤ s) (h1 : s ≤ 9223372036854775807) :
    Calls Try.prog 14 #[.agg #[.int .u64 (f 0), .int .u64 (f 1), .int .u64 (f 2), .int .u64 (f 3)], .int .i64 2, .int .u64 k, .int .i64 s] w fun e w' => e = .returned (.int .i64 0) ∧ Below w.heap.size w w' := by
  have := at_lit f 2 k s w h0 h1
  rwa [atI_off f 2 k s (by decide) (by decide)] at this
theorem at_z (f : Nat → Int) (k : Int) (w : World) :
    Calls Try.prog 14 #[.agg #[.int .u64 (f 0), .int .u64 (f 1), .int .u64 (f 2), .int .u64 (f 3)], .int .i64 0, .int .u64 k, .int .i64 0] w fun e w' => e = .returned (.int .i64 0) ∧ Below w.heap.size w w' := by
  have := at_lit f 0 k 0 w (by decide) (by decide)
  rwa [atI_no f 0 k (by decide)] at this
theorem Gr.nums {w : World} {A : Option Addr} {n : Nat} {z : Nat → Int} (h : Nums .u64 w w.heap.size A n z) (g : Gr w) : Nums .u64 g.w' g.w'.heap.size A n z := (h.below g.ok.none).more g.ok.size
theorem nums_none (w : World) : Nums .u64 w w.heap.size none 0 (fun _ => 0) := fun h => absurd h (by decide)
theorem hW_none (z : Nat → Int) (j : Nat) : hW 0 z j = 0 := rfl
theorem at_none (z : Nat → Int) : atI (hW 0 z) 0 0 8 = 0 := by
  rw [atI_0 _ _ (by decide), hW_none, hW_none]
  decide +kernel
theorem shown_any (w : World) : Calls Try.prog 8 #[] w fun e w' => e = .returned (.bool true) ∧ Below w.heap.size w w' := by
  have e0 : mx 0 = 0 := by decide +kernel
  have e1 : mx 1 = 11400714820970677676 := by decide +kernel
  have E0 := Lib.hid e0
  have E1 := Lib.hid e1
  clear e0 e1
  go_enter Try.func8, Try.ntmps8
  go_wp2_with fail
  refine (of_any none 0 0 (fun _ => 0) _ (by decide) (nums_none _)).mono ?_
  rintro e w1 ⟨rfl, hb1⟩
  have HB1 := Lib.hid hb1
  clear hb1
  go_wp2_with fail
  refine (at_blw (hW 0 fun _ => 0) 0 0 8 _ (by decide) (by decide)).mono ?_
  rintro e w2 ⟨rfl, hb2⟩
  have HB2 := Lib.hid (HB1.out.trans (hb2.mono HB1.out.size))
  clear hb2
  rw [at_none]
  go_wp2_with fail
  refine (mix_any 0 _).mono ?_
  rintro e w3 ⟨rfl, rfl⟩
  rw [E0.out]
  go_wp2_with fail
  refine (mix_any 1 _).mono ?_
  rintro e w3 ⟨rfl, rfl⟩
  rw [E1.out]
  go_wp2_with fail
  go_ret
  exact ⟨rfl, HB2.out⟩
end Go.Proofs.Ytdfnnljfihlniaa
