/- Texts of ours put together: LawCell, MemMore, EvRow, SameEv. -/
import Derived.Below
import Derived.BigQuiet
import Derived.BigRegion
import Derived.ChangeKeysEq
import Derived.ChangeSlices
import Derived.Deep.Draws
import Derived.Deep.MidRow
import Derived.Deep.OwnRows
import Derived.Deep.Quiet
import Derived.Deep.QuietTactic
import Derived.Deep.RegionHeld
import Derived.Deep.RegionHeld3
import Derived.Deep.WholeRow
import Derived.Laws.AppendOwn
import Derived.Laws.StructEq
import Derived.Lib.Hide
import Derived.OpenShut
import Derived.OwnWalk
import Derived.ProofKit
import Derived.RegionTactic
import Derived.RowKit3
import Derived.SizedLaws
import Derived.StillTailTactics
import Derived.WalkKit
import Derived.Test.YtmageeohnfomnaaGreatProg
import Derived.Test.YtmageeohnfomnaaGreatG0
import Derived.Test.YtmageeohnfomnaaGreatG21
import Derived.Test.YtmageeohnfomnaaGreatG5
import Derived.Test.YtmageeohnfomnaaGreatG2
import Derived.Test.YtmageeohnfomnaaGreatG10
import Derived.Test.YtmageeohnfomnaaGreatG23
import Derived.Test.YtmageeohnfomnaaGreatG11
import Derived.Test.YtmageeohnfomnaaGreatG14
namespace Go.Proofs.YtmageeohnfomnaaGreat
set_option maxRecDepth 100000
open Go.RowKit Go.ChangeShapes Go.WideShapes Go.ChangeAt

def cw (n : Int) (j : Nat) : Int := IntKind.u64.wrap (IntKind.u64.wrap (n * (2 * (j : Int) + 1)) + j)
abbrev IEv := Int × Int × Bool
def ievc (e : IEv) : List Value := [.int .i64 e.1, .int .i64 e.2.1, .bool e.2.2]
def ievs (l : List IEv) : List Value := l.flatMap ievc
theorem ievs_len (l : List IEv) : (ievs l).length = l.length * 3 := by
  induction l with
  | nil => rfl
  | cons e l ih => rw [ievs, List.flatMap_cons, List.length_append, ← ievs, ih]; simp [ievc]; omega
theorem ievs_append (l m : List IEv) : ievs (l ++ m) = ievs l ++ ievs m := by simp [ievs]
theorem ievs_at : ∀ (l : List IEv) (i : Nat) (h : i < l.length), (ievs l)[i * 3]? = some (.int .i64 l[i].1) ∧ (ievs l)[i * 3 + 1]? = some (.int .i64 l[i].2.1) ∧ (ievs l)[i * 3 + 2]? = some (.bool l[i].2.2)
  | [], i, h => by simp at h
  | e :: l, 0, _ => by simp [ievs, ievc]
  | e :: l, i + 1, h => by
    have ih := ievs_at l i (by simpa using h)
    have q : ∀ k, (ievs (e :: l))[(i + 1) * 3 + k]? = (ievs l)[i * 3 + k]? := fun k => by
      rw [show ievs (e :: l) = ievc e ++ ievs l by simp [ievs], List.getElem?_append_right (by simp [ievc]; omega)]
      congr 1
      simp [ievc]; omega
    exact ⟨(q 0).trans ih.1, (q 1).trans ih.2.1, (q 2).trans ih.2.2⟩
def IView (w : World) (A : Option Addr) (l : List IEv) : Prop := l ≠ [] → ∃ b off, A = some ⟨b, off, none⟩ ∧ w.rangeAt b off (ievs l)
theorem IView.at {w : World} {A : Option Addr} {l : List IEv} (h : IView w A l) {k : Nat} (hk : k < l.length) : ∃ b off, A = some ⟨b, off, none⟩ ∧ w.cell? ⟨b, off + k * 3, none⟩ = some (.int .i64 l[k].1) ∧ w.cell? ⟨b, off + k * 3 + 1, none⟩ = some (.int .i64 l[k].2.1) ∧ w.cell? ⟨b, off + k * 3 + 2, none⟩ = some (.bool l[k].2.2) := by
  obtain ⟨b, off, e, hr⟩ := h (by rintro rfl; simp at hk)
  obtain ⟨h0, h1, h2⟩ := ievs_at l k hk
  exact ⟨b, off, e, hr _ _ h0, hr _ _ h1, hr _ _ h2⟩
theorem IView.only {w w' : World} {A : Option Addr} {l : List IEv} (h : IView w A l) (ho : Only nobody w w') : IView w' A l := fun hl => by
  obtain ⟨b, off, e, hr⟩ := h hl
  exact ⟨b, off, e, fun j v hv => (World.cell?_of_block (w := w) (ho.block b (World.block_lt_of_cell? w ⟨b, off + j, none⟩ (hr j v hv)) (not_nobody _))).trans (hr j v hv)⟩
theorem iequal_event (e f : IEv) (w : World) : (Op.equalIn 10000 87 (.agg #[.int .i64 e.1, .int .i64 e.2.1, .bool e.2.2]) (.agg #[.int .i64 f.1, .int .i64 f.2.1, .bool f.2.2])).run Tryz.prog w = .ok (decide (e = f)) w := by
  obtain ⟨e0, e1, e2⟩ := e
  obtain ⟨f0, f1, f2⟩ := f
  rw [run_equalIn_struct w 9999 87 _ _ (by kernel_rfl) (by kernel_rfl)]
  simp [Program.fieldsOf, Tryz.underlying87, Op.eqFields, Go.part, isAgg, run_underlying Tryz.underlying3, run_underlying Tryz.underlying4, run_equalIn_int w 9998 3 .i64 .i64 _ _ Tryz.underlying3, run_equalIn_bool' w 9998 4 _ _ Tryz.underlying4]
  by_cases h0 : e0 = f0 <;> by_cases h1 : e1 = f1 <;> by_cases h2 : e2 = f2 <;> simp [h0, h1, h2]
theorem ineq_event (e0 e1 f0 f1 : Int) (e2 f2 : Bool) (b : Bool) (h : decide (((e0, e1, e2) : IEv) = (f0, f1, f2)) = b) (w : World) : (binOp .neq 87 (.agg #[.int .i64 e0, .int .i64 e1, .bool e2]) (.agg #[.int .i64 f0, .int .i64 f1, .bool f2])).run Tryz.prog w = .ok (.bool (!b)) w := by
  rw [run_neq_struct, iequal_event (e0, e1, e2) (f0, f1, f2), h]; rfl
end Go.Proofs.YtmageeohnfomnaaGreat


namespace Go.Proofs.YtmageeohnfomnaaGreat
set_option maxRecDepth 100000
open Go.RowKit Go.ChangeShapes Go.WideShapes Go.ChangeAt

def MS.wd (M : MS) : Prop := ∀ r a, Wd (M.c r a)
theorem wd_zero : Wd (fun _ => 0) := fun _ => ⟨Int.le_refl 0, by show (0 : Int) ≤ 18446744073709551615; omega⟩
theorem wd_cell {M : MS} (h : M.wd) (r a : Int) : Wd (M.cell r a) := by
  unfold MS.cell
  split
  · exact h _ _
  · exact wd_zero
theorem wd_read {M : MS} (h : M.wd) (r a : Int) : (M.read r a).wd := by
  unfold MS.read
  split
  · exact h
  · exact h
theorem take_snoc {α : Type} (l : List α) (i : Nat) (hi : i < l.length) : l.take (i + 1) = l.take i ++ [l[i]] := by
  rw [List.take_add_one, List.getElem?_eq_getElem hi]; rfl
theorem range_alloc_new (w : World) (f : Nat → Int) (t : TypeId) : (w.alloc (.cells (CA f) t)).rangeAt w.heap.size 0 (CA f).toList := rg_new w f t _ rfl
theorem none_of_ext {w w' : World} (h : Ext w w') : Only nobody w w' := Only.of_below h.below
theorem Kept.setCells {X : Nat → Prop} {w w' : World} (h : Kept X w w') (b : Nat) (vs : List Value) (hb : w.heap.size ≤ b) : Kept X w (w'.setCells b 0 vs) := only_setCells vs 0 w' h (.inr hb)
theorem Own.setCells {X : Nat → Prop} {w : World} {p : Nat} {M : MS} (h : Own w X p M) (b : Nat) (vs : List Value) (hb : X b) : Own (w.setCells b 0 vs) X p M :=
  h.only (only_setCells (S := just b) vs 0 w (Only.refl _ _) (.inl (just_self b))) (fun i hi => by rw [hi]; exact hb)
theorem Kept.there {X : Nat → Prop} {w w' : World} (h : Kept X w w') {b : Nat} {n : Nat} (ht : w.there b 0 n) (hb : X b) (hlt : b < w.heap.size) : w'.there b 0 n := fun j hj => by
  have e := h.block b hlt (fun k => k hb)
  obtain ⟨h1, h2⟩ := ht j hj
  exact ⟨by rw [World.cell?_of_block (w := w) e]; exact h1, by rw [World.frozen?_of_block e]; exact h2⟩
theorem Box.alloc_lt {w : World} {p : Nat} {t : TypeId} {cs cs' : Array Value} {t' : TypeId} (h : Box (w.alloc (.cells cs' t')) p t cs) (hne : t ≠ t' := by decide) : p < w.heap.size := by
  have h1 := h.lt
  have h2 : p ≠ w.heap.size := Box.ne h (Box.new w t' cs') hne
  simp at h1
  omega
theorem Own.grow_only {w w' : World} {X S : Nat → Prop} {p : Nat} {M : MS} (h : Own w X p M) (ho : Only S w w') (hs : ∀ i, S i → X i) : Own w' (fun i => X i ∨ (w.heap.size ≤ i ∧ i < w'.heap.size)) p M := by
  obtain ⟨F, hm, hF, hX⟩ := h
  refine ⟨F, hm.only ho (fun i hi k => hF i hi (hs i k)), fun i hi k => ?_, fun i hi => ?_⟩
  · rcases k with k | k
    · exact hF i hi k
    · have := hm.lt i hi; omega
  · rcases hi with hi | hi
    · exact Nat.lt_of_lt_of_le (hX i hi) ho.size
    · exact hi.2
theorem cell_in_range {w : World} {b κ : Nat} {f : Nat → Int} (h : w.rangeAt b 0 (CA f).toList) (hκ : κ < 12) : w.cell? ⟨b, κ, none⟩ = some (.int .u64 (f κ)) := by
  have := h κ (.int .u64 (f κ)) (by rw [Array.getElem?_toList, CA_at f κ hκ]); rwa [Nat.zero_add] at this
end Go.Proofs.YtmageeohnfomnaaGreat


namespace Go.Proofs.YtmageeohnfomnaaGreat
set_option maxRecDepth 100000
open Go.RowKit Go.ChangeShapes Go.WideShapes Go.ChangeAt

theorem ievs_one (l : List IEv) : ∀ u ∈ ievs l, u.oneCell' = true := by
  intro u hu
  obtain ⟨e, _, he⟩ := List.mem_flatMap.1 hu
  simp only [ievc, List.mem_cons, List.not_mem_nil, or_false] at he
  rcases he with rfl | rfl | rfl <;> rfl
theorem ievs_new (W : World) (t : TypeId) (l : List IEv) {b : Nat} (hb : b = W.heap.size) : ∀ j u, (ievs l)[j]? = some u → (W.alloc (.cells (ievs l).toArray t)).cell? ((⟨b, 0, none⟩ : Addr).add j) = some u := by
  subst hb
  intro j u h
  have hb := Box.new W t (ievs l).toArray
  have := hb.cell j
  rw [add_plain, Nat.zero_add, this, List.getElem?_toArray]
  exact h
structure EvAt (w1 : World) (v : Value) (l : List IEv) (wr : World) : Prop where
  own : wr.ownsRow w1.heap.size 87 3 v l.length (ievs l)
  below : Below w1.heap.size w1 wr
theorem EvAt.nil (w : World) : EvAt w (.slice none 0 0) [] w := ⟨World.ownsRow_nil _ _ _ _, Below.refl _ _⟩
theorem EvAt.next {w1 : World} {v : Value} {l m : List IEv} {A : Option Addr} {cap : Nat} {t : TypeId} {wr wx w7 : World} (h : EvAt w1 v l wr) (hx : Below wr.heap.size wr wx)
    (ho : w7.ownsRow w1.heap.size 87 3 (.slice A (l.length + m.length) cap) (l.length + m.length) (ievs l ++ ievs m)) (hg : (wx.alloc (.cells (ievs m).toArray t)).grownBy w7 v.ownBlock) :
    EvAt w1 (.slice A (l.length + m.length) cap) (l ++ m) w7 := by
  constructor
  · rw [List.length_append, ievs_append]
    exact ho
  · have hb : Below w1.heap.size w1 wx := h.below.trans (hx.mono h.below.size)
    refine (hb.alloc hb.size _).grown hg (by have := hb.size; simp; omega) (fun b e => ?_)
    rcases h.own.2 with ⟨rfl, _⟩ | ⟨g, cap, cur, rfl, hb, _⟩
    · simp [Value.ownBlock] at e
    · obtain rfl : g = b := by simpa [Value.ownBlock] using e
      exact hb
def EvPost (w : World) (l : List IEv) (e : Ending) (w' : World) : Prop := ∃ A cap, e = .returned (.slice A l.length cap) ∧ IView w' A l ∧ Only nobody w w'
theorem ev_done {w w1 wr : World} {v : Value} {l : List IEv} (h : EvAt w1 v l wr) (hb : Below w.heap.size w w1) : EvPost w l (.returned v) wr := by
  have ho : Only nobody w wr := Only.of_below (hb.trans (h.below.mono hb.size))
  have h' := h.own
  rcases h.own.2 with ⟨rfl, h0⟩ | ⟨g, cap, cur, rfl, _, hg, _⟩
  · exact ⟨none, 0, by rw [h0], fun hl => absurd (List.eq_nil_of_length_eq_zero h0) hl, ho⟩
  · refine ⟨_, cap, rfl, fun _ => ⟨g, 0, rfl, fun j u hu => ?_⟩, ho⟩
    have := h'.cells (g := g) rfl j u hu
    rwa [add_plain] at this
end Go.Proofs.YtmageeohnfomnaaGreat


namespace Go.Proofs.YtmageeohnfomnaaGreat
set_option maxRecDepth 100000
open Go.RowKit Go.ChangeShapes Go.WideShapes Go.ChangeAt

set_option maxHeartbeats 1000000 in
theorem isame_any (A A' : Option Addr) (cap cap' : Nat) (l l' : List IEv) (w : World) (h : IView w A l) (h' : IView w A' l') (hn : l.length ≤ 1000000000) :
    Calls Tryz.prog 15 #[.slice A l.length cap, .slice A' l'.length cap'] w fun e w' => e = .returned (.bool (decide (l = l'))) ∧ ∃ n, w' = w.drewN n := by
  have HV := Lib.hid h
  have HV' := Lib.hid h'
  clear h h'
  obtain ⟨n, hl⟩ : ∃ n, l.length = n := ⟨_, rfl⟩
  have HL := Lib.hid hl
  obtain ⟨B, hB⟩ : ∃ B, decide (l = l') = B := ⟨_, rfl⟩
  have HB := Lib.hid hB
  rw [hB]
  clear hB
  by_cases hlen : l.length = l'.length
  · have HL' := Lib.hid hlen
    rw [← hlen, hl]
    rw [hl] at hn
    clear hl hlen
    go_enter Tryz.func15, Tryz.ntmps15
    go_wp2
    go_loopw [5] (fun i wr => ∃ k m : Nat, i = .int .i64 k ∧ k ≤ n ∧ wr = w.drewN m ∧ Hid (∀ j, j < k → l[j]? = l'[j]?)) (fun i _ => n - (intOf i).toNat)
    case atStart => exact ⟨0, 0, rfl, Nat.zero_le _, rfl, fun j hj => absurd hj (by omega)⟩
    case round =>
      obtain ⟨k, m, rfl, hk, rfl, HJ⟩ := hrel
      by_cases hlt : k < n
      · have q1 : k < l.length := by rw [HL.out]; exact hlt
        have q2 : k < l'.length := by rw [← HL'.out]; exact q1
        obtain ⟨b, off, rfl, x0, x1, x2⟩ := HV.out.at q1
        obtain ⟨b', off', rfl, y0, y1, y2⟩ := HV'.out.at q2
        obtain ⟨⟨e0, e1, e2⟩, he⟩ : ∃ e, l[k] = e := ⟨_, rfl⟩
        obtain ⟨⟨f0, f1, f2⟩, hf⟩ : ∃ e, l'[k] = e := ⟨_, rfl⟩
        rw [he] at x0 x1 x2
        rw [hf] at y0 y1 y2
        have HE := Lib.hid (List.getElem?_eq_some_iff.2 ⟨q1, he⟩)
        have HF := Lib.hid (List.getElem?_eq_some_iff.2 ⟨q2, hf⟩)
        clear he hf
        have HQ1 := Lib.hid q1
        clear q1 q2
        cases hd : decide (((e0, e1, e2) : IEv) = (f0, f1, f2))
        · have hq := ineq_event e0 e1 f0 f1 e2 f2 false hd
          rw [Bool.not_false] at hq
          have hB : B = false := by
            rw [← HB.out]
            refine decide_eq_false (fun e => ?_)
            have := HE.out
            rw [e, HF.out] at this
            injection this with this
            exact absurd this.symm (of_decide_eq_false hd)
          have HBF := Lib.hid hB
          clear hd hB
          go_wp2
          go_quiet (fail)
          go_wp2
          go_ret
          exact ⟨by rw [HBF.out]; rfl, _, World.drewN_drewN ..⟩
        · have hq := ineq_event e0 e1 f0 f1 e2 f2 true hd
          rw [Bool.not_true] at hq
          have HD := Lib.hid hd
          clear hd
          go_wp2
          go_quiet (fail)
          go_wp2
          go_roundw
          case rel =>
            refine ⟨k + 1, _, by go_num, by omega, rfl, fun j hj => ?_⟩
            by_cases e : j = k
            · subst e
              rw [HE.out, HF.out, of_decide_eq_true HD.out]
            · exact HJ.out j (by omega)
          case measure => simp [intOf]; omega
      · have hB : B = true := by
          rw [← HB.out]
          refine decide_eq_true (List.ext_getElem? (fun j => ?_))
          by_cases hj : j < k
          · exact HJ.out j hj
          · rw [List.getElem?_eq_none (by rw [HL.out]; omega), List.getElem?_eq_none (by rw [← HL'.out, HL.out]; omega)]
        have HBF := Lib.hid hB
        clear hB
        go_wp2
        go_ret
        exact ⟨by rw [HBF.out]; rfl, _, rfl⟩
  · obtain ⟨n', hl'⟩ : ∃ n, l'.length = n := ⟨_, rfl⟩
    have HBF : Hid (B = false) := by
      have := HB.out
      rw [← this]
      exact decide_eq_false (fun e => hlen (by rw [e]))
    rw [hl, hl'] at hlen ⊢
    rw [hl] at hn
    clear hl hl'
    go_enter Tryz.func15, Tryz.ntmps15
    go_wp2
    go_ret
    exact ⟨by rw [HBF.out]; rfl, 0, rfl⟩

theorem isame_len (A A' : Option Addr) (n n' cap cap' : Nat) (l l' : List IEv) (w : World) (e : l.length = n) (e' : l'.length = n') (h : IView w A l) (h' : IView w A' l') (hn : n ≤ 1000000000) :
    Calls Tryz.prog 15 #[.slice A n cap, .slice A' n' cap'] w fun e w' => e = .returned (.bool (decide (l = l'))) ∧ ∃ n, w' = w.drewN n := by
  subst e e'
  exact isame_any A A' cap cap' l l' w h h' hn
theorem same_told (A A' : Option Addr) (n cap cap' : Nat) (l l' : List IEv) (w : World) (e : l.length = n) (hl : l = l') (h : IView w A l) (h' : IView w A' l') (hn : n ≤ 1000000000) :
    Calls Tryz.prog 15 #[.slice A n cap, .slice A' n cap'] w fun e w' => e = .returned (.bool true) ∧ Only nobody w w' := by
  subst hl
  have := isame_len A A' n n cap cap' l l w e e h h' hn
  rw [decide_eq_true rfl] at this
  refine this.mono ?_
  rintro e w' ⟨rfl, k, rfl⟩
  exact ⟨rfl, (Only.refl nobody w).drewN k⟩
end Go.Proofs.YtmageeohnfomnaaGreat

