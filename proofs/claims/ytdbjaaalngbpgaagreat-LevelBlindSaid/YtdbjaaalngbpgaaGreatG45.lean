/- Texts of ours put together: Var. -/
import Derived.Test.YtdbjaaalngbpgaaGreatG21
import Derived.Test.YtdbjaaalngbpgaaGreatG22
/- Cells of a call's own while a memory is looked at; masks, and what is picked by them. -/
namespace Go.Proofs.YtdbjaaalngbpgaaGreat
set_option maxRecDepth 100000
open Go.RowKit Go.ChangeShapes Go.WideShapes Go.ChangeAt

/-- A mask: all bits, or none. -/
def msk (b : Bool) : Int := if b = true then 18446744073709551615 else 0
theorem mk_lo (b : Bool) : 0 ≤ msk b := by cases b <;> decide
theorem mk_hi (b : Bool) : msk b ≤ 18446744073709551615 := by cases b <;> decide
theorem me_mk (a b : Int) : me a b = msk (decide (a = b)) := by
  unfold me msk
  by_cases h : a = b
  · rw [if_pos h, if_pos (decide_eq_true h)]
  · rw [if_neg h, if_neg (by simp [h])]
theorem and_mk (a b : Bool) : bits .and .u64 (msk a) (msk b) = msk (a && b) := by cases a <;> cases b <;> decide
theorem or_mk (a b : Bool) : bits .or .u64 (msk a) (msk b) = msk (a || b) := by cases a <;> cases b <;> decide
theorem andNot_mk (a b : Bool) : bits .andNot .u64 (msk a) (msk b) = msk (a && !b) := by cases a <;> cases b <;> decide
theorem one_mk (a : Bool) : bits .and .u64 (msk a) 1 = if a = true then 1 else 0 := by cases a <;> decide
theorem pk_mk (b : Bool) (x y : Int) (h0 : 0 ≤ x) (h1 : x ≤ 18446744073709551615) (k0 : 0 ≤ y) (k1 : y ≤ 18446744073709551615) : pk (msk b) x y = if b = true then x else y := by
  cases b
  · exact pk_none x y k0 k1
  · exact pk_all x y h0 h1
theorem ite_wd {b : Bool} {f g : Nat → Int} (hf : Wd f) (hg : Wd g) : Wd (if b = true then f else g) := by split; exact hf; exact hg
/-- PickCell by a mask. -/
theorem pickCell_mask (b : Bool) (f g : Nat → Int) (w : World) (hf : Wd f) (hg : Wd g) :
    Calls Tryz.prog 48 #[.int .u64 (msk b), .agg (CA f), .agg (CA g)] w fun e w' => e = .returned (.agg (CA (if b = true then f else g))) ∧ Ext w w' :=
  (pickCell_any (msk b) f g w).mono fun e w' ⟨he, n, hw⟩ => ⟨he.trans (by
    rw [CA_ext (fun j => pk (msk b) (f j) (g j)) (if b = true then f else g) (fun j _ => by rw [pk_mk b (f j) (g j) (hf j).1 (hf j).2 (hg j).1 (hg j).2]; cases b <;> rfl)]), by
    rw [hw]; exact (((((Ext.refl w).alloc _ _).alloc _ _).alloc _ _).alloc _ _).drewN n⟩

/-- A cell of the call's own: it lies whole, and can be written. -/
structure Var (w : World) (b : Nat) (f : Nat → Int) : Prop where
  rng : w.rangeAt b 0 (CA f).toList
  there : w.there b 0 12
section
variable {w w' : World} {b : Nat} {f : Nat → Int} {X S : Nat → Prop}
theorem Var.lt (h : Var w b f) : b < w.heap.size := World.block_lt_of_cell? w ⟨b, 0, none⟩ (cell_in_range h.rng (by decide : 0 < 12))
theorem Var.new (w : World) (f : Nat → Int) (t : TypeId) : Var (w.alloc (.cells (CA f) t)) w.heap.size f := ⟨range_alloc_new w f t, there_new w f t _ rfl⟩
theorem Var.of_block (h : Var w b f) (e : w'.heap[b]? = w.heap[b]?) : Var w' b f :=
  ⟨fun j v hv => (World.cell?_of_block (w := w) e).trans (h.rng j v hv), fun j hj => by
    obtain ⟨h1, h2⟩ := h.there j hj
    exact ⟨by rw [World.cell?_of_block (w := w) e]; exact h1, by rw [World.frozen?_of_block e]; exact h2⟩⟩
theorem Var.only (h : Var w b f) (ho : Only S w w') (hs : ¬ S b) : Var w' b f := h.of_block (ho.block b h.lt hs)
theorem Var.kept (h : Var w b f) (hk : Kept X w w') (hx : X b) : Var w' b f := h.only hk (fun k => k hx)
theorem Var.nob (h : Var w b f) (ho : Only nobody w w') : Var w' b f := h.only ho (not_nobody _)
theorem Var.ext (h : Var w b f) (hx : Ext w w') : Var w' b f := h.nob (none_of_ext hx)
theorem Var.alloc (h : Var w b f) (o : Obj) : Var (w.alloc o) b f := h.nob ((Only.refl _ w).alloc o)
theorem Var.drewN (h : Var w b f) (n : Nat) : Var (w.drewN n) b f := h.nob ((Only.refl _ w).drewN n)
theorem Var.drew (h : Var w b f) : Var w.drew b f := h.drewN 1
theorem Var.set (h : Var w b f) (g : Nat → Int) : Var (w.setCells b 0 (CA g).toList) b g := ⟨World.rangeAt_setCells_same w b 0 _ h.there, World.there_setCells h.there _ _ _⟩
theorem Var.far (h : Var w b f) {c : Nat} (hne : b ≠ c) (vs : List Value) : Var (w.setCells c 0 vs) b f := h.only (only_setCells (S := just c) vs 0 w (Only.refl _ _) (.inl (just_self c))) hne
theorem Var.load (h : Var w b f) : (loadVar 64 ⟨b, 0, none⟩).run Tryz.prog w = .ok (.agg (CA f)) w :=
  run_loadVar_mid _ b 0 64 (CA f).toList _ h.rng Tryz.underlying64 rfl (infoCellL f)
theorem Var.cell (h : Var w b f) {κ : Nat} (hκ : κ < 12) : w.cell? ⟨b, κ, none⟩ = some (.int .u64 (f κ)) := cell_in_range h.rng hκ
end
/-- Three results, the second one in memory. -/
theorem results_three {fn : Func} {p q s : Tmp} {ty : TypeId} (h : fn.results = #[.tmp p, .cell q ty, .tmp s]) {tmps : Array Value} {P : Program} {w : World} {ad : Addr} {u v x : Value} (hp : tmps.getD p undef = u) (hq : tmps.getD q undef = .pointer (some ad)) (hs : tmps.getD s undef = x)
    (hl : (loadVar ty ad).run P w = .ok v w) : (results fn tmps).run P w = .ok (.tuple #[u, v, x]) w := by
  have hp' : tmps[p]?.getD undef = u := by simpa using hp
  have hq' : tmps[q]?.getD undef = .pointer (some ad) := by simpa using hq
  have hs' : tmps[s]?.getD undef = x := by simpa using hs
  simp only [results, h]
  simp [asAddr, hp', hq', hs', hl]
/-- By way of R: what two ways both come to. -/
theorem via {G : Prop} (R : Prop) (h : Hid R → G) (hr : R) : G := h (Lib.hid hr)
/-- A load of a whole cell in a region that draws. -/
theorem step_load_cell {ops : Array Oper} {o : Oper} {a : Act} {w : World} {K : Act → World → Prop} {Q : Exit → Act → World → Prop} {E : Prop} (hgd : o.guard = none) (x : Operand) (ho : o.op = .load 64 x)
    (b i : Nat) (hx : a.eval x = .pointer (some ⟨b, i, none⟩)) (f : Nat → Int) (hr : w.rangeAt b i (CA f).toList)
    (h : K (a.put o.dst (.agg (CA f))) w) : if Region.wanted o (yielded ops a.tmps) = true then Oper.wp Tryz.prog o a w K Q else E := by
  have hw : Region.wanted o (yielded ops a.tmps) = true := by simp [Region.wanted, hgd]
  rw [if_pos hw]
  exact wp_load_mid 64 x ho b i hx (CA f).toList _ hr Tryz.underlying64 rfl (infoCellL f) h
/-- The blocks of the caller, and one of the call's own; two. -/
def plus1 (X : Nat → Prop) (n : Nat) : Nat → Prop := fun i => X i ∨ i = n
def plus2 (X : Nat → Prop) (n : Nat) : Nat → Prop := fun i => X i ∨ i = n ∨ i = n + 1
theorem Own.one {w : World} {X : Nat → Prop} {p : Nat} {M : MS} (h : Own w X p M) (o : Obj) : Own (w.alloc o) (plus1 X w.heap.size) p M := h.alloc o
theorem Own.two {w : World} {X : Nat → Prop} {p : Nat} {M : MS} (h : Own w X p M) (o o' : Obj) : Own ((w.alloc o).alloc o') (plus2 X w.heap.size) p M :=
  ((h.alloc o).alloc o').weak (by
    rintro i (k | k | k)
    · exact .inl (.inl k)
    · exact .inl (.inr k)
    · exact .inr (by rw [k]; simp))
/-- A region that there is. -/
theorem MS.size_pos {M : MS} {r : Int} (h : 0 < M.size r) : ∃ q : Nat, r = q ∧ q < M.k ∧ M.size r = M.sz q := by
  unfold MS.size at h ⊢
  by_cases hc : 0 ≤ r ∧ r < M.k
  · rw [if_pos hc]
    exact ⟨r.toNat, by omega, by omega, rfl⟩
  · rw [if_neg hc] at h; omega
/-- What was got among the first i cells. -/
def gotC (a : Int) (C : Nat → Nat → Int) (i : Nat) : Nat → Int := if a < i then C a.toNat else fun _ => 0
theorem gotC_zero (a : Int) (C : Nat → Nat → Int) (h : 0 ≤ a) : gotC a C 0 = fun _ => 0 := if_neg (by omega)
theorem gotC_step (a : Int) (C : Nat → Nat → Int) (i : Nat) : (if decide ((i : Int) = a) = true then C i else gotC a C i) = gotC a C (i + 1) := by
  unfold gotC
  by_cases h : (i : Int) = a
  · rw [if_pos (decide_eq_true h), if_pos (by omega)]; subst h; simp
  · rw [if_neg (by simp [h])]
    by_cases h2 : a < (i : Int)
    · rw [if_pos h2, if_pos (by omega)]
    · rw [if_neg h2, if_neg (by omega)]
theorem gotC_wd {a : Int} {C : Nat → Nat → Int} {i : Nat} (h : ∀ j, Wd (C j)) : Wd (gotC a C i) := by
  unfold gotC; split; exact h _; exact wd_zero
/-- Is a cell's word n? -/
def hasW (key n : Int) (f : Nat → Int) (k : Nat) : Bool := decide (0 ≤ key ∧ key < k ∧ f key.toNat = n)
theorem hasW_step (key n : Int) (f : Nat → Int) (k : Nat) (hk : k < 12) (x : Int) (hx : x = IntKind.u64.wrap key) (h1 : -9223372036854775808 ≤ key) (h2 : key ≤ 9223372036854775807) :
    (hasW key n f k || (decide ((k : Int) = x) && decide (f k = n))) = hasW key n f (k + 1) := by
  rw [IntKind.wrap_u64] at hx
  unfold hasW
  by_cases e : key = (k : Int)
  · subst e
    have : ((k : Int) = x) := by omega
    simp [this.symm]
    omega
  · have : ¬ ((k : Int) = x) := by omega
    simp only [this, decide_false, Bool.false_and, Bool.or_false]
    congr 1
    apply propext
    constructor
    · rintro ⟨a, b, c⟩; exact ⟨a, by omega, c⟩
    · rintro ⟨a, b, c⟩; exact ⟨a, by omega, c⟩
theorem hasW_zero (key n : Int) (f : Nat → Int) : hasW key n f 0 = false := decide_eq_false (fun h => by omega)
end Go.Proofs.YtdbjaaalngbpgaaGreat
