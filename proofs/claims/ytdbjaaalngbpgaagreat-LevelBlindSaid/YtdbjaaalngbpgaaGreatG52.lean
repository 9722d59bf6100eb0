/- Texts of ours put together: LawCell, EvRow. -/
import Derived.Test.YtdbjaaalngbpgaaGreatG21
import Derived.Test.YtdbjaaalngbpgaaGreatG8
/- Contracts of the law texts' own helpers: a cell of a number, whether events are others, whether a word is twice in a row. -/
namespace Go.Proofs.YtdbjaaalngbpgaaGreat
set_option maxRecDepth 100000
open Go.RowKit Go.ChangeShapes Go.WideShapes Go.ChangeAt

/-- The words of a law's cell. -/
def cw (n : Int) (j : Nat) : Int := IntKind.u64.wrap (IntKind.u64.wrap (n * (2 * (j : Int) + 1)) + j)
theorem cw_rng (n : Int) (j : Nat) : 0 ≤ cw n j ∧ cw n j ≤ 18446744073709551615 := by
  unfold cw; rw [IntKind.wrap_u64]; omega
theorem cw_zero (n : Int) (h0 : 0 ≤ n) (h1 : n ≤ 18446744073709551615) : cw n 0 = n := by
  unfold cw
  simp only [IntKind.wrap_u64]
  omega

/-- An event whose numbers may be any. -/
abbrev IEv := Int × Int × Bool
def ievc (e : IEv) : List Value := [.int .i64 e.1, .int .i64 e.2.1, .bool e.2.2]
def ievs (l : List IEv) : List Value := l.flatMap ievc
def evI (e : Ev) : IEv := ((e.1 : Int), (e.2.1 : Int), e.2.2)
theorem ievs_len (l : List IEv) : (ievs l).length = l.length * 3 := by
  induction l with
  | nil => rfl
  | cons e l ih => rw [ievs, List.flatMap_cons, List.length_append, ← ievs, ih]; simp [ievc]; omega
theorem ievs_append (l m : List IEv) : ievs (l ++ m) = ievs l ++ ievs m := by simp [ievs]
theorem evs_map : ∀ l : List Ev, evs l = ievs (l.map evI)
  | [] => rfl
  | e :: l => by rw [evs, evs_map l, List.map_cons, ievs, ievs, List.flatMap_cons]; rfl
theorem ievs_at : ∀ (l : List IEv) (i : Nat) (h : i < l.length), (ievs l)[i * 3]? = some (.int .i64 l[i].1) ∧ (ievs l)[i * 3 + 1]? = some (.int .i64 l[i].2.1) ∧ (ievs l)[i * 3 + 2]? = some (.bool l[i].2.2)
  | [], i, h => by simp at h
  | e :: l, 0, _ => by simp [ievs, ievc]
  | e :: l, i + 1, h => by
    have ih := ievs_at l i (by simpa using h)
    have q : ∀ k, (ievs (e :: l))[(i + 1) * 3 + k]? = (ievs l)[i * 3 + k]? := fun k => by
      rw [show ievs (e :: l) = ievc e ++ ievs l by simp [ievs], List.getElem?_append_right (by simp [ievc]; omega)]
      congr 1
      simp [ievc]; omega
    exact ⟨(q 0).trans ih.1, (q 1).trans ih.2.1, (q 2).trans ih.2.2⟩
theorem evI_inj {l m : List Ev} (h : l.map evI = m.map evI) : l = m := by
  refine List.map_inj_right (f := evI) (fun a b hab => ?_) |>.1 h
  obtain ⟨a0, a1, a2⟩ := a
  obtain ⟨b0, b1, b2⟩ := b
  simp only [evI, Prod.mk.injEq] at hab
  obtain ⟨h1, h2, h3⟩ := hab
  have e1 : a0 = b0 := by omega
  have e2 : a1 = b1 := by omega
  rw [e1, e2, h3]
/-- A slice of such events, as it can be read. -/
def IView (w : World) (A : Option Addr) (l : List IEv) : Prop := l ≠ [] → ∃ b off, A = some ⟨b, off, none⟩ ∧ w.rangeAt b off (ievs l)
theorem View.i {w : World} {A : Option Addr} {l : List Ev} (h : View w A l) : IView w A (l.map evI) := fun hl => by
  obtain ⟨b, off, e, hr⟩ := h (by rintro rfl; exact hl rfl)
  exact ⟨b, off, e, by rw [← evs_map]; exact hr⟩
theorem IView.at {w : World} {A : Option Addr} {l : List IEv} (h : IView w A l) {k : Nat} (hk : k < l.length) : ∃ b off, A = some ⟨b, off, none⟩ ∧ w.cell? ⟨b, off + k * 3, none⟩ = some (.int .i64 l[k].1) ∧ w.cell? ⟨b, off + k * 3 + 1, none⟩ = some (.int .i64 l[k].2.1) ∧ w.cell? ⟨b, off + k * 3 + 2, none⟩ = some (.bool l[k].2.2) := by
  obtain ⟨b, off, e, hr⟩ := h (by rintro rfl; simp at hk)
  obtain ⟨h0, h1, h2⟩ := ievs_at l k hk
  exact ⟨b, off, e, hr _ _ h0, hr _ _ h1, hr _ _ h2⟩
theorem ivw_at {w : World} {A : Option Addr} {l : List IEv} (h : IView w A l) {k : Nat} {e : IEv} (he : l[k]? = some e) : ∃ b off, A = some ⟨b, off, none⟩ ∧ w.cell? ⟨b, off + k * 3, none⟩ = some (.int .i64 e.1) ∧ w.cell? ⟨b, off + k * 3 + 1, none⟩ = some (.int .i64 e.2.1) ∧ w.cell? ⟨b, off + k * 3 + 2, none⟩ = some (.bool e.2.2) := by
  obtain ⟨hk, rfl⟩ := List.getElem?_eq_some_iff.1 he
  exact h.at hk
theorem IView.only {w w' : World} {A : Option Addr} {l : List IEv} (h : IView w A l) (ho : Only nobody w w') : IView w' A l := fun hl => by
  obtain ⟨b, off, e, hr⟩ := h hl
  exact ⟨b, off, e, fun j v hv => (World.cell?_of_block (w := w) (ho.block b (World.block_lt_of_cell? w ⟨b, off + j, none⟩ (hr j v hv)) (not_nobody _))).trans (hr j v hv)⟩
theorem iequal_event (e f : IEv) (w : World) : (Op.equalIn 10000 120 (.agg #[.int .i64 e.1, .int .i64 e.2.1, .bool e.2.2]) (.agg #[.int .i64 f.1, .int .i64 f.2.1, .bool f.2.2])).run Tryz.prog w = .ok (decide (e = f)) w := by
  obtain ⟨e0, e1, e2⟩ := e
  obtain ⟨f0, f1, f2⟩ := f
  rw [run_equalIn_struct w 9999 120 _ _ (by kernel_rfl) (by kernel_rfl)]
  simp [Program.fieldsOf, Tryz.underlying120, Op.eqFields, Go.part, isAgg, run_underlying Tryz.underlying3, run_underlying Tryz.underlying4, run_equalIn_int w 9998 3 .i64 .i64 _ _ Tryz.underlying3, run_equalIn_bool' w 9998 4 _ _ Tryz.underlying4]
  by_cases h0 : e0 = f0 <;> by_cases h1 : e1 = f1 <;> by_cases h2 : e2 = f2 <;> simp [h0, h1, h2]
theorem ineq_event (e0 e1 f0 f1 : Int) (e2 f2 : Bool) (b : Bool) (h : decide (((e0, e1, e2) : IEv) = (f0, f1, f2)) = b) (w : World) : (binOp .neq 120 (.agg #[.int .i64 e0, .int .i64 e1, .bool e2]) (.agg #[.int .i64 f0, .int .i64 f1, .bool f2])).run Tryz.prog w = .ok (.bool (!b)) w := by
  rw [run_neq_struct, iequal_event (e0, e1, e2) (f0, f1, f2), h]; rfl
set_option maxHeartbeats 1000000 in
theorem isame_any (A A' : Option Addr) (cap cap' : Nat) (l l' : List IEv) (w : World) (h : IView w A l) (h' : IView w A' l') (hn : l.length ≤ 1000000000) :
    Calls Tryz.prog 25 #[.slice A l.length cap, .slice A' l'.length cap'] w fun e w' => e = .returned (.bool (decide (l = l'))) ∧ ∃ n, w' = w.drewN n := by
  have HV := Lib.hid h
  have HV' := Lib.hid h'
  clear h h'
  obtain ⟨n, hl⟩ : ∃ n, l.length = n := ⟨_, rfl⟩
  have HL := Lib.hid hl
  obtain ⟨B, hB⟩ : ∃ B, decide (l = l') = B := ⟨_, rfl⟩
  have HB := Lib.hid hB
  rw [hB]
  clear hB
  by_cases hlen : l.length = l'.length
  · have HL' := Lib.hid hlen
    rw [← hlen, hl]
    rw [hl] at hn
    clear hl hlen
    go_enter Tryz.func25, Tryz.ntmps25
    go_wp2
    go_loopw [5] (fun i wr => ∃ k m : Nat, i = .int .i64 k ∧ k ≤ n ∧ wr = w.drewN m ∧ Hid (∀ j, j < k → l[j]? = l'[j]?)) (fun i _ => n - (intOf i).toNat)
    case atStart => exact ⟨0, 0, rfl, Nat.zero_le _, rfl, fun j hj => absurd hj (by omega)⟩
    case round =>
      obtain ⟨k, m, rfl, hk, rfl, HJ⟩ := hrel
      by_cases hlt : k < n
      · have q1 : k < l.length := by rw [HL.out]; exact hlt
        have q2 : k < l'.length := by rw [← HL'.out]; exact q1
        obtain ⟨b, off, rfl, x0, x1, x2⟩ := HV.out.at q1
        obtain ⟨b', off', rfl, y0, y1, y2⟩ := HV'.out.at q2
        obtain ⟨⟨e0, e1, e2⟩, he⟩ : ∃ e, l[k] = e := ⟨_, rfl⟩
        obtain ⟨⟨f0, f1, f2⟩, hf⟩ : ∃ e, l'[k] = e := ⟨_, rfl⟩
        rw [he] at x0 x1 x2
        rw [hf] at y0 y1 y2
        have HE := Lib.hid (List.getElem?_eq_some_iff.2 ⟨q1, he⟩)
        have HF := Lib.hid (List.getElem?_eq_some_iff.2 ⟨q2, hf⟩)
        clear he hf
        have HQ1 := Lib.hid q1
        clear q1 q2
        cases hd : decide (((e0, e1, e2) : IEv) = (f0, f1, f2))
        · have hq := ineq_event e0 e1 f0 f1 e2 f2 false hd
          rw [Bool.not_false] at hq
          have hB : B = false := by
            rw [← HB.out]
            refine decide_eq_false (fun e => ?_)
            have := HE.out
            rw [e, HF.out] at this
            injection this with this
            exact absurd this.symm (of_decide_eq_false hd)
          have HBF := Lib.hid hB
          clear hd hB
          go_wp2
          go_quiet (fail)
          go_wp2
          go_ret
          exact ⟨by rw [HBF.out]; rfl, _, World.drewN_drewN ..⟩
        · have hq := ineq_event e0 e1 f0 f1 e2 f2 true hd
          rw [Bool.not_true] at hq
          have HD := Lib.hid hd
          clear hd
          go_wp2
          go_quiet (fail)
          go_wp2
          go_roundw
          case rel =>
            refine ⟨k + 1, _, by go_num, by omega, rfl, fun j hj => ?_⟩
            by_cases e : j = k
            · subst e
              rw [HE.out, HF.out, of_decide_eq_true HD.out]
            · exact HJ.out j (by omega)
          case measure => simp [intOf]; omega
      · have hB : B = true := by
          rw [← HB.out]
          refine decide_eq_true (List.ext_getElem? (fun j => ?_))
          by_cases hj : j < k
          · exact HJ.out j hj
          · rw [List.getElem?_eq_none (by rw [HL.out]; omega), List.getElem?_eq_none (by rw [← HL'.out, HL.out]; omega)]
        have HBF := Lib.hid hB
        clear hB
        go_wp2
        go_ret
        exact ⟨by rw [HBF.out]; rfl, _, rfl⟩
  · obtain ⟨n', hl'⟩ : ∃ n, l'.length = n := ⟨_, rfl⟩
    have HBF : Hid (B = false) := by
      have := HB.out
      rw [← this]
      exact decide_eq_false (fun e => hlen (by rw [e]))
    rw [hl, hl'] at hlen ⊢
    rw [hl] at hn
    clear hl hl'
    go_enter Tryz.func25, Tryz.ntmps25
    go_wp2
    go_ret
    exact ⟨by rw [HBF.out]; rfl, 0, rfl⟩

theorem isame_len (A A' : Option Addr) (n n' cap cap' : Nat) (l l' : List IEv) (w : World) (e : l.length = n) (e' : l'.length = n') (h : IView w A l) (h' : IView w A' l') (hn : n ≤ 1000000000) :
    Calls Tryz.prog 25 #[.slice A n cap, .slice A' n' cap'] w fun e w' => e = .returned (.bool (decide (l = l'))) ∧ ∃ n, w' = w.drewN n := by
  subst e e'
  exact isame_any A A' cap cap' l l' w h h' hn
theorem shl_one (L n : Nat) (hn : 2 ^ L = n) (h1 : n ≤ 1024) : wrap64 ((2 : Int) ^ L) = (n : Int) := by
  have e : ((2 : Int) ^ L) = (n : Int) := by rw [← hn]; simp
  rw [e]; unfold wrap64; omega
theorem cut_nat (n k : Nat) (h : k ≤ n) : cut n (k : Int) = k := by unfold cut; split <;> (try split) <;> omega
/-- Two slices of the same events. -/
theorem same_told (A A' : Option Addr) (n cap cap' : Nat) (l l' : List IEv) (w : World) (e : l.length = n) (hl : l = l') (h : IView w A l) (h' : IView w A' l') (hn : n ≤ 1000000000) :
    Calls Tryz.prog 25 #[.slice A n cap, .slice A' n cap'] w fun e w' => e = .returned (.bool true) ∧ Only nobody w w' := by
  subst hl
  have := isame_len A A' n n cap cap' l l w e e h h' hn
  rw [decide_eq_true rfl] at this
  refine this.mono ?_
  rintro e w' ⟨rfl, k, rfl⟩
  exact ⟨rfl, (Only.refl nobody w).drewN k⟩
/-- Since, where nothing was looked at. -/
theorem since_none (X : Nat → Prop) (p : Nat) (M : MS) (lm : Nat) (w : World) (h : Own w X p M) (hm : M.es.length = lm) (hl : lm < 1000000000) :
    Calls Tryz.prog 22 #[.pointer (some ⟨p, 0, none⟩), .int .i64 (lm : Int)] w fun e w' => ∃ A cap, e = .returned (.slice A 0 cap) ∧ Only nobody w w' := by
  subst hm
  refine (own_since X p _ w (M.es.length : Int) h hl).mono ?_
  rw [cut_nat _ _ (Nat.le_refl _), List.drop_length]
  rintro e w' ⟨A, cap, rfl, ht, ho, _⟩
  exact ⟨A, cap, rfl, ho⟩
/-- A cell that is a number's, or none. -/
def Good (c : Nat → Int) : Prop := c = (fun _ => 0) ∨ c = cw (c 0)
theorem good_cw (x : Int) (h0 : 0 ≤ x) (h1 : x ≤ 18446744073709551615) : Good (cw x) := .inr (by rw [cw_zero x h0 h1])
theorem Good.eq {c : Nat → Int} (h : Good c) (hn : ceq c (fun _ => 0) = false) : ceq c (cw (c 0)) = true := by
  rcases h with h | h
  · rw [h, ceq_self] at hn; cases hn
  · exact ceq_of _ _ (fun i _ => congrFun h i)
end Go.Proofs.YtdbjaaalngbpgaaGreat

/- A row of events of the call's own that grows: told whole. -/
namespace Go.Proofs.YtdbjaaalngbpgaaGreat
set_option maxRecDepth 100000
open Go.RowKit Go.ChangeShapes Go.WideShapes Go.ChangeAt

theorem ievs_one (l : List IEv) : ∀ u ∈ ievs l, u.oneCell' = true := by
  intro u hu
  obtain ⟨e, _, he⟩ := List.mem_flatMap.1 hu
  simp only [ievc, List.mem_cons, List.not_mem_nil, or_false] at he
  rcases he with rfl | rfl | rfl <;> rfl
theorem ievs_new (W : World) (t : TypeId) (l : List IEv) {b : Nat} (hb : b = W.heap.size) : ∀ j u, (ievs l)[j]? = some u → (W.alloc (.cells (ievs l).toArray t)).cell? ((⟨b, 0, none⟩ : Addr).add j) = some u := by
  subst hb
  intro j u h
  have hb := Box.new W t (ievs l).toArray
  have := hb.cell j
  rw [add_plain, Nat.zero_add, this, List.getElem?_toArray]
  exact h
/-- The events so far lie in a row of the call's own. -/
structure EvAt (w1 : World) (v : Value) (l : List IEv) (wr : World) : Prop where
  own : wr.ownsRow w1.heap.size 120 3 v l.length (ievs l)
  below : Below w1.heap.size w1 wr
theorem EvAt.nil (w : World) : EvAt w (.slice none 0 0) [] w := ⟨World.ownsRow_nil _ _ _ _, Below.refl _ _⟩
theorem EvAt.next {w1 : World} {v : Value} {l m : List IEv} {A : Option Addr} {cap : Nat} {t : TypeId} {wr wx w7 : World} (h : EvAt w1 v l wr) (hx : Below wr.heap.size wr wx)
    (ho : w7.ownsRow w1.heap.size 120 3 (.slice A (l.length + m.length) cap) (l.length + m.length) (ievs l ++ ievs m)) (hg : (wx.alloc (.cells (ievs m).toArray t)).grownBy w7 v.ownBlock) :
    EvAt w1 (.slice A (l.length + m.length) cap) (l ++ m) w7 := by
  constructor
  · rw [List.length_append, ievs_append]
    exact ho
  · have hb : Below w1.heap.size w1 wx := h.below.trans (hx.mono h.below.size)
    refine (hb.alloc hb.size _).grown hg (by have := hb.size; simp; omega) (fun b e => ?_)
    rcases h.own.2 with ⟨rfl, _⟩ | ⟨g, cap, cur, rfl, hb, _⟩
    · simp [Value.ownBlock] at e
    · obtain rfl : g = b := by simpa [Value.ownBlock] using e
      exact hb
/-- Behind a function that tells events. -/
def EvPost (w : World) (l : List IEv) (e : Ending) (w' : World) : Prop := ∃ A cap, e = .returned (.slice A l.length cap) ∧ IView w' A l ∧ Only nobody w w'
theorem ev_done {w w1 wr : World} {v : Value} {l : List IEv} (h : EvAt w1 v l wr) (hb : Below w.heap.size w w1) : EvPost w l (.returned v) wr := by
  have ho : Only nobody w wr := Only.of_below (hb.trans (h.below.mono hb.size))
  have h' := h.own
  rcases h.own.2 with ⟨rfl, h0⟩ | ⟨g, cap, cur, rfl, _, hg, _⟩
  · exact ⟨none, 0, by rw [h0], fun hl => absurd (List.eq_nil_of_length_eq_zero h0) hl, ho⟩
  · refine ⟨_, cap, rfl, fun _ => ⟨g, 0, rfl, fun j u hu => ?_⟩, ho⟩
    have := h'.cells (g := g) rfl j u hu
    rwa [add_plain] at this
end Go.Proofs.YtdbjaaalngbpgaaGreat
