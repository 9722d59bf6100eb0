/- An entry as a value: whether it is right, its block, a block's entry, whether its time is over, and its ranks, as plain numbers; how the model compares two. Conditions: words are of 64 bits, Next is an int. -/
import Derived.Below
import Derived.ChangeKeysEq
import Derived.ChangeSlices
import Derived.Deep.Draws
import Derived.Deep.MidRow
import Derived.Deep.OwnRows
import Derived.Deep.WholeRow
import Derived.Laws.StructEq
import Derived.Lib.Hide
import Derived.OpenShut
import Derived.ProofKit
import Derived.RowKit3
import Derived.SizedLaws
import Derived.WalkKit
import Derived.Test.YtjamfcjglodfeaaProg
import Derived.Test.YtjamfcjglodfeaaDataV
import Derived.Test.YtjamfcjglodfeaaHeap
import Derived.Test.YtjamfcjglodfeaaPackMath
namespace Go.Proofs.Ytjamfcjglodfeaa
open Go.RowKit Go.ChangeShapes Go.WideShapes Go.ChangeAt

/-- An entry. -/
structure Sl where
  u : Bool
  k : Int
  v : Int
  t : Int
  r : Int
  n : Int
  x : Int
/-- An entry, as it lies in memory. -/
def Sl.a : Sl → Array Value
  | ⟨u, k, v, t, r, n, x⟩ => #[.bool u, .int .u64 k, .int .u64 v, .int .u64 t, .int .u64 r, .int .u64 n, .int .i64 x]
def U64 (a : Int) : Prop := 0 ≤ a ∧ a ≤ 18446744073709551615
def I64 (a : Int) : Prop := -9223372036854775808 ≤ a ∧ a ≤ 9223372036854775807
structure Sl.Ok (s : Sl) : Prop where
  k : U64 s.k
  v : U64 s.v
  t : U64 s.t
  r : U64 s.r
  n : U64 s.n
  x : I64 s.x
/-- Are two the same? -/
def sleq (a b : Sl) : Bool := a.u == b.u && a.k == b.k && a.v == b.v && a.t == b.t && a.r == b.r && a.n == b.n && a.x == b.x
theorem sleq_iff (a b : Sl) : sleq a b = true ↔ a = b := by
  obtain ⟨u, k, v, t, r, n, x⟩ := a
  obtain ⟨u', k', v', t', r', n', x'⟩ := b
  simp only [sleq, Bool.and_eq_true, beq_iff_eq, Sl.mk.injEq]
  constructor
  · rintro ⟨⟨⟨⟨⟨⟨h1, h2⟩, h3⟩, h4⟩, h5⟩, h6⟩, h7⟩; exact ⟨h1, h2, h3, h4, h5, h6, h7⟩
  · rintro ⟨h1, h2, h3, h4, h5, h6, h7⟩; exact ⟨⟨⟨⟨⟨⟨h1, h2⟩, h3⟩, h4⟩, h5⟩, h6⟩, h7⟩
theorem sleq_self (a : Sl) : sleq a a = true := (sleq_iff a a).2 rfl
/-- A word of a text? -/
def pk (k : Int) : Bool := rt k.toNat
/-- Is it right? -/
def rtS (u : Bool) (k v t r n x : Int) : Bool := if u then pk k && pk v && (x == 0) else (k == 0 && v == 0 && t == 0 && r == 0 && n == 0) && decide (0 ≤ x) && decide (x ≤ 2147483648)
def Sl.right (s : Sl) : Bool := rtS s.u s.k s.v s.t s.r s.n s.x
/-- Its block's words. -/
def dtS (u : Bool) (k v t r n x : Int) (i : Nat) : Int := if rtS u k v t r n x then (match i with | 0 => if u then 1 else 0 | 1 => k | 2 => v | 3 => t | 4 => r | 5 => n | 6 => IntKind.u64.wrap x | _ => 0) else 0
def Sl.dat (s : Sl) : Nat → Int := dtS s.u s.k s.v s.t s.r s.n s.x
theorem dtS_no {u : Bool} {k v t r n x : Int} (h : rtS u k v t r n x = false) (i : Nat) : dtS u k v t r n x i = 0 := by unfold dtS; rw [h]; rfl
theorem dtS_fun {u : Bool} {k v t r n x : Int} (h : rtS u k v t r n x = false) : dtS u k v t r n x = fun _ => 0 := funext (dtS_no h)
/-- What a block's words are read as, and whether there is such an entry. -/
def rdS (d : Nat → Int) : Sl := ⟨d 0 == 1, d 1, d 2, d 3, d 4, d 5, IntKind.i64.wrap (d 6)⟩
def isS (d : Nat → Int) : Bool := !(decide (1 < d 0) || decide (2147483648 < d 6) || d 7 != 0) && (rdS d).right
def noS : Sl := ⟨false, 0, 0, 0, 0, 0, 0⟩
def reS (d : Nat → Int) : Sl := if isS d then rdS d else noS
def reE (d : Nat → Int) : Int := if isS d then 0 else 3
theorem deq_iff (f g : Nat → Int) : deq f g = true ↔ ∀ i, i < 8 → f i = g i := by
  unfold deq; rw [List.all_eq_true]
  constructor
  · intro h i hi; simpa using h i (by simpa using hi)
  · intro h i hi; rw [h i (by simpa using hi)]; simp
theorem rdS_ok {d : Nat → Int} (hd : ∀ i, i < 8 → U64 (d i)) : (rdS d).Ok :=
  ⟨hd 1 (by decide), hd 2 (by decide), hd 3 (by decide), hd 4 (by decide), hd 5 (by decide), by
    have := hd 6 (by decide)
    unfold U64 at this
    unfold I64
    show _ ≤ IntKind.i64.wrap (d 6) ∧ IntKind.i64.wrap (d 6) ≤ _
    rw [IntKind.wrap_i64]; omega⟩
/-- A block is read just where the entry has it. -/
theorem dat_read (d : Nat → Int) (hd : ∀ i, i < 8 → U64 (d i)) : deq (rdS d).dat d = isS d := by
  have h0 := hd 0 (by decide)
  have h6 := hd 6 (by decide)
  have h7 := hd 7 (by decide)
  unfold U64 at h0 h6 h7
  rw [Bool.eq_iff_iff, deq_iff]
  by_cases hr : (rdS d).right = true
  · have hr' : rtS (d 0 == 1) (d 1) (d 2) (d 3) (d 4) (d 5) (IntKind.i64.wrap (d 6)) = true := hr
    have e : ∀ i, (rdS d).dat i = (match i with | 0 => if (d 0 == 1) = true then 1 else 0 | 1 => d 1 | 2 => d 2 | 3 => d 3 | 4 => d 4 | 5 => d 5 | 6 => IntKind.u64.wrap (IntKind.i64.wrap (d 6)) | _ => 0) := by
      intro i
      show dtS (d 0 == 1) (d 1) (d 2) (d 3) (d 4) (d 5) (IntKind.i64.wrap (d 6)) i = _
      unfold dtS
      rw [if_pos hr']
    have w6 : IntKind.u64.wrap (IntKind.i64.wrap (d 6)) = d 6 := by rw [IntKind.wrap_i64, IntKind.wrap_u64]; omega
    have hx : (d 0 == 1) = true ∧ d 6 = 0 ∨ (d 0 == 1) = false ∧ d 6 ≤ 2147483648 := by
      unfold rtS at hr'
      cases hu : (d 0 == 1)
      · rw [hu] at hr'
        simp only [Bool.false_eq_true, if_false, Bool.and_eq_true, decide_eq_true_eq] at hr'
        have := hr'.1.2; have := hr'.2
        rw [IntKind.wrap_i64] at *
        exact .inr ⟨rfl, by omega⟩
      · rw [hu] at hr'
        simp only [if_true, Bool.and_eq_true, beq_iff_eq] at hr'
        have := hr'.2
        rw [IntKind.wrap_i64] at this
        exact .inl ⟨rfl, by omega⟩
    unfold isS
    rw [hr, Bool.and_true]
    constructor
    · intro h
      have g0 := h 0 (by decide)
      have g7 := h 7 (by decide)
      rw [e] at g0 g7
      simp only at g0 g7
      have : ¬ 1 < d 0 := by
        intro hc
        have hn : (d 0 == 1) = false := by simp; omega
        rw [hn] at g0
        simp at g0
        omega
      have h6' : ¬ 2147483648 < d 6 := by rcases hx with ⟨_, h⟩ | ⟨_, h⟩ <;> omega
      simp [this, h6', g7.symm]
    · intro h i hi
      simp only [Bool.not_eq_true', Bool.or_eq_false_iff, decide_eq_false_iff_not, bne_eq_false_iff_eq] at h
      obtain ⟨⟨h1, h2⟩, h3⟩ := h
      rw [e]
      match i, hi with
      | 0, _ =>
        show (if (d 0 == 1) = true then (1 : Int) else 0) = d 0
        by_cases hc : d 0 = 1
        · rw [if_pos (by simp [hc])]; exact hc.symm
        · rw [if_neg (by simp [hc])]; omega
      | 1, _ => rfl
      | 2, _ => rfl
      | 3, _ => rfl
      | 4, _ => rfl
      | 5, _ => rfl
      | 6, _ => exact w6
      | 7, _ => exact h3.symm
  · have hr1 : (rdS d).right = false := by simpa using hr
    have hr' : rtS (d 0 == 1) (d 1) (d 2) (d 3) (d 4) (d 5) (IntKind.i64.wrap (d 6)) = false := hr1
    unfold isS
    rw [hr1, Bool.and_false]
    constructor
    · intro h
      exfalso
      have z : ∀ i, i < 8 → d i = 0 := fun i hi => by
        have := h i hi
        rw [show (rdS d).dat i = 0 from dtS_no hr' i] at this
        exact this.symm
      rw [z 0 (by decide), z 1 (by decide), z 2 (by decide), z 3 (by decide), z 4 (by decide), z 5 (by decide), z 6 (by decide)] at hr'
      revert hr'
      decide
    · intro h; cases h
/-- What is read is right, and has that block. -/
theorem read_right {d : Nat → Int} (hd : ∀ i, i < 8 → U64 (d i)) (h : isS d = true) : (rdS d).right = true ∧ ∀ i, i < 8 → (rdS d).dat i = d i := by
  have h2 := dat_read d hd
  rw [h] at h2
  refine ⟨?_, (deq_iff _ _).1 h2⟩
  unfold isS at h
  simp only [Bool.and_eq_true] at h
  exact h.2
/-- A right entry's block is read as that entry. -/
theorem read_dat (s : Sl) (hs : s.Ok) (h : s.right = true) : isS s.dat = true ∧ rdS s.dat = s := by
  obtain ⟨u, k, v, t, r, n, x⟩ := s
  have h' : rtS u k v t r n x = true := h
  have hx := hs.x
  unfold I64 at hx
  simp only at hx
  have e : ∀ i, dtS u k v t r n x i = (match i with | 0 => if u = true then 1 else 0 | 1 => k | 2 => v | 3 => t | 4 => r | 5 => n | 6 => IntKind.u64.wrap x | _ => 0) := by
    intro i; unfold dtS; rw [if_pos h']
  have w6 : IntKind.i64.wrap (IntKind.u64.wrap x) = x := by rw [IntKind.wrap_i64, IntKind.wrap_u64]; omega
  have hxx : 0 ≤ x ∧ x ≤ 2147483648 := by
    unfold rtS at h'
    cases u
    · simp only [Bool.false_eq_true, if_false, Bool.and_eq_true, decide_eq_true_eq] at h'
      exact ⟨h'.1.2, h'.2⟩
    · simp only [if_true, Bool.and_eq_true, beq_iff_eq] at h'
      have := h'.2
      omega
  have wx : IntKind.u64.wrap x = x := by rw [IntKind.wrap_u64]; omega
  have er : rdS (dtS u k v t r n x) = ⟨u, k, v, t, r, n, x⟩ := by
    unfold rdS
    rw [e 0, e 1, e 2, e 3, e 4, e 5, e 6]
    simp only [w6]
    cases u <;> simp
  refine ⟨?_, er⟩
  show isS (dtS u k v t r n x) = true
  unfold isS
  rw [er, e 0, e 6, e 7, h]
  simp only [wx]
  have : ¬ (2147483648 < x) := by omega
  cases u <;> simp [this]
theorem dat_u (s : Sl) (hs : s.Ok) : ∀ i, i < 8 → U64 (s.dat i) := by
  obtain ⟨u, k, v, t, r, n, x⟩ := s
  intro i hi
  show U64 (dtS u k v t r n x i)
  have z : U64 0 := by unfold U64; omega
  unfold dtS
  by_cases h : rtS u k v t r n x = true
  · rw [if_pos h]
    match i, hi with
    | 0, _ =>
      show U64 (if u = true then 1 else 0)
      split
      · unfold U64; omega
      · exact z
    | 1, _ => exact hs.k
    | 2, _ => exact hs.v
    | 3, _ => exact hs.t
    | 4, _ => exact hs.r
    | 5, _ => exact hs.n
    | 6, _ => show U64 (IntKind.u64.wrap x); unfold U64; rw [IntKind.wrap_u64]; omega
    | 7, _ => exact z
  · rw [if_neg h]; exact z
/-- Is its time over? -/
def exS (u : Bool) (t now : Int) : Bool := u && t != 0 && decide (t ≤ now)
def Sl.ex (s : Sl) (now : Int) : Bool := exS s.u s.t now
/-- The rank, and the uses, of what is entered, and of what is used. -/
def enR (p now : Int) : Int := if p = 2 then IntKind.u64.wrap (4294967296 + now) else if p = 0 ∨ p = 1 then now else 0
def enU (p : Int) : Int := if p = 0 ∨ p = 1 ∨ p = 2 then 1 else 0
def usR (p r n now : Int) : Int := if p = 2 then IntKind.u64.wrap (IntKind.u64.wrap (4294967296 * IntKind.u64.wrap (n + 1)) + now) else if p = 0 then now else r
def usU (p n : Int) : Int := if p = 0 ∨ p = 1 ∨ p = 2 then IntKind.u64.wrap (n + 1) else n

theorem equal_slot (a b : Sl) (w : World) : (Op.equalIn 10000 24 (.agg a.a) (.agg b.a)).run Try.prog w = .ok (sleq a b) w := by
  obtain ⟨u, k, v, t, r, n, x⟩ := a
  obtain ⟨u', k', v', t', r', n', x'⟩ := b
  unfold Sl.a
  rw [run_equalIn_struct w 9999 24 _ _ (by kernel_rfl) (by kernel_rfl)]
  simp [sleq, Program.fieldsOf, Try.underlying24, Op.eqFields, Go.part, isAgg, run_underlying Try.underlying3, run_underlying Try.underlying4, run_underlying Try.underlying22, run_equalIn_int w 9998 3 .i64 .i64 _ _ Try.underlying3, run_equalIn_int w 9998 22 .u64 .u64 _ _ Try.underlying22, run_equalIn_bool' w 9998 4 _ _ Try.underlying4]
  by_cases h0 : u = u' <;> by_cases h1 : k = k' <;> by_cases h2 : v = v' <;> by_cases h3 : t = t' <;> by_cases h4 : r = r' <;> by_cases h5 : n = n' <;> by_cases h6 : x = x' <;> simp [h0, h1, h2, h3, h4, h5, h6]
theorem eql_slot (a b : Sl) (w : World) : (binOp .eql 24 (.agg a.a) (.agg b.a)).run Try.prog w = .ok (.bool (sleq a b)) w := by
  rw [run_eql_struct, equal_slot]; rfl
theorem neq_slot (a b : Sl) (w : World) : (binOp .neq 24 (.agg a.a) (.agg b.a)).run Try.prog w = .ok (.bool (!sleq a b)) w := by
  rw [run_neq_struct, equal_slot]; rfl
theorem equal_rslot (a b : Sl) (w : World) : (Op.equalIn 10000 31 (.agg a.a) (.agg b.a)).run Try.prog w = .ok (sleq a b) w := by
  obtain ⟨u, k, v, t, r, n, x⟩ := a
  obtain ⟨u', k', v', t', r', n', x'⟩ := b
  unfold Sl.a
  rw [run_equalIn_struct w 9999 31 _ _ (by kernel_rfl) (by kernel_rfl)]
  simp [sleq, Program.fieldsOf, Try.underlying31, Op.eqFields, Go.part, isAgg, run_underlying Try.underlying3, run_underlying Try.underlying4, run_underlying Try.underlying22, run_equalIn_int w 9998 3 .i64 .i64 _ _ Try.underlying3, run_equalIn_int w 9998 22 .u64 .u64 _ _ Try.underlying22, run_equalIn_bool' w 9998 4 _ _ Try.underlying4]
  by_cases h0 : u = u' <;> by_cases h1 : k = k' <;> by_cases h2 : v = v' <;> by_cases h3 : t = t' <;> by_cases h4 : r = r' <;> by_cases h5 : n = n' <;> by_cases h6 : x = x' <;> simp [h0, h1, h2, h3, h4, h5, h6]
theorem eql_rslot (a b : Sl) (w : World) : (binOp .eql 31 (.agg a.a) (.agg b.a)).run Try.prog w = .ok (.bool (sleq a b)) w := by
  rw [run_eql_struct, equal_rslot]; rfl
theorem neq_rslot (a b : Sl) (w : World) : (binOp .neq 31 (.agg a.a) (.agg b.a)).run Try.prog w = .ok (.bool (!sleq a b)) w := by
  rw [run_neq_struct, equal_rslot]; rfl
theorem Sl.ones (s : Sl) : s.a.all (·.oneCell') = true := by
  obtain ⟨u, k, v, t, r, n, x⟩ := s
  simp [Sl.a, Value.oneCell']
theorem Sl.size (s : Sl) : s.a.size = 7 := by
  obtain ⟨u, k, v, t, r, n, x⟩ := s
  rfl
theorem Box.put_all {w : World} {p : Nat} {t : TypeId} {cs ds : Array Value} (h : Box w p t cs) (hs : ds.size = cs.size) : Box (w.setCells p 0 ds.toList) p t ds := by
  have key : ∀ (l : List Value) (o : Nat) (w : World) (cs : Array Value), Box w p t cs → o + l.length ≤ cs.size →
      Box (w.setCells p o l) p t ((cs.toList.take o ++ l ++ cs.toList.drop (o + l.length)).toArray) := by
    intro l
    induction l with
    | nil => intro o w cs h _; simp only [World.setCells, List.append_nil, List.length_nil, Nat.add_zero, List.take_append_drop, Array.toArray_toList]; exact h
    | cons v l ih =>
      intro o w cs h hl
      simp only [List.length_cons] at hl
      have := ih (o + 1) _ _ (h.put o v) (by simp; omega)
      simp only [World.setCells]
      refine cast (congrArg (Box _ p t) ?_) this
      congr 1
      simp only [Array.toList_setIfInBounds, List.length_cons]
      have e1 : (cs.toList.set o v).take (o + 1) = cs.toList.take o ++ [v] := by
        rw [List.take_set, List.take_add_one, List.set_append, List.length_take, Array.length_toList]
        have : min o cs.size = o := by omega
        rw [this, if_neg (by omega), Nat.sub_self, List.getElem?_eq_getElem (by rw [Array.length_toList]; omega)]
        rfl
      have e2 : (cs.toList.set o v).drop (o + 1 + l.length) = cs.toList.drop (o + (l.length + 1)) := by
        rw [List.drop_set_of_lt (by omega)]
        congr 1
        omega
      rw [e1, e2]
      simp
  have := key ds.toList 0 w cs h (by simp [hs])
  refine cast (congrArg (Box _ p t) ?_) this
  have e : cs.toList.drop (0 + ds.toList.length) = [] := List.drop_eq_nil_of_le (by simp [hs])
  rw [e]
  simp
theorem infoslot (s : Sl) : (Try.prog.info? 24).map (·.size) = some s.a.toList.length := by
  obtain ⟨u, k, v, t, r, n, x⟩ := s
  have h : (Try.prog.info? 24).map (·.size) = some 7 := by kernel_rfl
  exact h
theorem wpList_load_slot {ops : Array Oper} {rest : List Oper} {op : Oper} {a : Act} {w : World} {Q : Exit → Act → World → Prop} (hgd : op.guard = none) (x : Operand) (ho : op.op = .load 24 x)
    (b o : Nat) (hx : a.eval x = .pointer (some ⟨b, o, none⟩)) (s : Sl) (hc : w.rangeAt b o s.a.toList)
    (h : wpList Try.prog ops Q rest (a.put op.dst (.agg s.a)) w) : wpList Try.prog ops Q (op :: rest) a w :=
  wpList_load_mid hgd 24 x ho b o hx s.a.toList _ hc Try.underlying24 rfl (infoslot s) h
theorem wpList_store_slot {ops : Array Oper} {rest : List Oper} {op : Oper} {a : Act} {w : World} {Q : Exit → Act → World → Prop} (hgd : op.guard = none) (x y : Operand) (ho : op.op = .store 24 x y)
    (b o : Nat) (hx : a.eval x = .pointer (some ⟨b, o, none⟩)) (s : Sl) (hy : a.eval y = .agg s.a) (ht : w.there b o s.a.size)
    (h : wpList Try.prog ops Q rest (a.put op.dst undef) (w.setCells b o s.a.toList)) : wpList Try.prog ops Q (op :: rest) a w :=
  wpList_store_mid hgd 24 x y ho b o s.a hx hy ht (infoslot s) (Sl.ones s) h
theorem inforslot (s : Sl) : (Try.prog.info? 31).map (·.size) = some s.a.toList.length := by
  obtain ⟨u, k, v, t, r, n, x⟩ := s
  have h : (Try.prog.info? 31).map (·.size) = some 7 := by kernel_rfl
  exact h
theorem wpList_load_rslot {ops : Array Oper} {rest : List Oper} {op : Oper} {a : Act} {w : World} {Q : Exit → Act → World → Prop} (hgd : op.guard = none) (x : Operand) (ho : op.op = .load 31 x)
    (b o : Nat) (hx : a.eval x = .pointer (some ⟨b, o, none⟩)) (s : Sl) (hc : w.rangeAt b o s.a.toList)
    (h : wpList Try.prog ops Q rest (a.put op.dst (.agg s.a)) w) : wpList Try.prog ops Q (op :: rest) a w :=
  wpList_load_mid hgd 31 x ho b o hx s.a.toList _ hc Try.underlying31 rfl (inforslot s) h
theorem wpList_store_rslot {ops : Array Oper} {rest : List Oper} {op : Oper} {a : Act} {w : World} {Q : Exit → Act → World → Prop} (hgd : op.guard = none) (x y : Operand) (ho : op.op = .store 31 x y)
    (b o : Nat) (hx : a.eval x = .pointer (some ⟨b, o, none⟩)) (s : Sl) (hy : a.eval y = .agg s.a) (ht : w.there b o s.a.size)
    (h : wpList Try.prog ops Q rest (a.put op.dst undef) (w.setCells b o s.a.toList)) : wpList Try.prog ops Q (op :: rest) a w :=
  wpList_store_mid hgd 31 x y ho b o s.a hx hy ht (inforslot s) (Sl.ones s) h
end Go.Proofs.Ytjamfcjglodfeaa
