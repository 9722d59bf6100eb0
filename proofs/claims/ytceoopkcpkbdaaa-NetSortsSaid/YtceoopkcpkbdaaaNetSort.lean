/- Sort: the words in the order that the network makes of them, in a new slice; of what was in memory nothing changes. Conditions: each word is one of 64 bits. -/
import Derived.Lib.SliceRun
import Derived.Test.YtceoopkcpkbdaaaNetList
import Derived.Test.YtceoopkcpkbdaaaNetWord
import Derived.Test.YtceoopkcpkbdaaaAppend
import Derived.Test.YtceoopkcpkbdaaaRound
namespace Go.Proofs.Ytceoopkcpkbdaaa
open Go.RowKit Go.Shelf Go.ChangeShapes Go.WideShapes Go.ChangeAt
attribute [local go_sem] Oper.semAt_some

/-- Words at a block's beginning. -/
def Num (w : World) (g n : Nat) (f : Nat → Int) : Prop := ∃ cs : Array Value, Box w g 39 cs ∧ n ≤ cs.size ∧ ∀ i, i < n → cs[i]? = some (.int .u64 (f i))
section
variable {w w' : World} {g n : Nat} {f : Nat → Int}
theorem Num.cell (h : Num w g n f) {i : Nat} (hi : i < n) : w.cell? ⟨g, i, none⟩ = some (.int .u64 (f i)) := by
  obtain ⟨cs, hb, _, hc⟩ := h
  rw [hb.cell, hc i hi]
theorem Num.frozen (h : Num w g n f) (i : Nat) : w.frozen? ⟨g, i, none⟩ = false := by
  obtain ⟨cs, hb, _, _⟩ := h
  exact hb.frozen i
theorem Num.lt (h : Num w g n f) : g < w.heap.size := by
  obtain ⟨cs, hb, _, _⟩ := h
  exact hb.lt
theorem Num.of (h : Num w g n f) (e : w'.heap[g]? = w.heap[g]?) : Num w' g n f := by
  obtain ⟨cs, hb, hn, hc⟩ := h
  exact ⟨cs, hb.of e, hn, hc⟩
theorem Num.alloc (h : Num w g n f) (o : Obj) : Num (w.alloc o) g n f := h.of (Below.heap_alloc w o g h.lt)
theorem Num.far (h : Num w g n f) {a : Addr} (ha : g ≠ a.block) (v : Value) : Num (w.setCell a v) g n f := h.of (Below.heap_setCell w a v g ha)
theorem Num.put (h : Num w g n f) {i : Nat} (hi : i < n) (v : Int) : Num (w.setCell ⟨g, i, none⟩ (.int .u64 v)) g n (fun j => if j = i then v else f j) := by
  obtain ⟨cs, hb, hn, hc⟩ := h
  refine ⟨_, hb.put i _, by simpa using hn, fun j hj => ?_⟩
  rw [Array.getElem?_setIfInBounds]
  by_cases hij : i = j
  · subst hij; simp; omega
  · rw [if_neg hij, hc j hj]; simp [Ne.symm hij]
theorem Num.congr {f' : Nat → Int} (h : Num w g n f) (e : ∀ i, i < n → f i = f' i) : Num w g n f' := by
  obtain ⟨cs, hb, hn, hc⟩ := h
  exact ⟨cs, hb, hn, fun i hi => by rw [hc i hi, e i hi]⟩
theorem Num.box_ne {b : Nat} {t : TypeId} {cs : Array Value} (h : Num w g n f) (hb : Box w b t cs) (ht : t ≠ 39) : b ≠ g := by
  obtain ⟨cs', hb', _, _⟩ := h
  exact hb.ne hb' ht
theorem Num.kept {X Y : World} {row : Option Nat} (h : Num X g n f) (hg : X.grownBy Y row) (hr : ∀ r, row = some r → ∃ o : Obj, X.heap[r]? = some o ∧ o.isCells = false) : Num Y g n f := by
  obtain ⟨cs, hb, hn, hc⟩ := h
  exact ⟨cs, hb.kept hg hr, hn, hc⟩
theorem Num.nums (h : Num w g n f) {B : Nat} (hB : g < B) : Nums .u64 w B (some ⟨g, 0, none⟩) n f := fun _ => ⟨g, 0, rfl, hB, fun j hj => by rw [Nat.zero_add]; exact h.cell hj⟩
end
def lits64 (n : Nat) (z : Nat → Int) : List Value := (List.range n).map fun i => .int .u64 (z i)
theorem num_of_owns {w : World} {base g n cap : Nat} {z : Nat → Int} (h : w.ownsRow base 39 1 (.slice (some ⟨g, 0, none⟩) n cap) n (lits64 n z)) : Num w g n z ∧ n ≤ cap ∧ base ≤ g := by
  obtain ⟨hl, h⟩ := h
  rcases h with ⟨h, _⟩ | ⟨g', cap', cur, e, hb, hg, hnc, hcm, hcs, ht⟩
  · cases h
  · cases e
    refine ⟨⟨cur, hg, by omega, fun i hi => ?_⟩, hnc, hb⟩
    have := congrArg (fun l => l[i]?) ht
    simp only [List.getElem?_take] at this
    rw [if_pos (by omega)] at this
    rw [← Array.getElem?_toList, this]
    simp [lits64, hi]
theorem infoU64 : (Try.prog.info? 39).map (fun i => (i.zero, i.size, i.bytes)) = some (some (.int .u64 0), 1, 8) := by kernel_rfl
set_option maxHeartbeats 1000000 in
theorem clone_any (b off n cap : Nat) (z : Nat → Int) (w : World) (hn : 0 < n) (hn2 : n ≤ 1024) (hc : ∀ j, j < n → w.cell? ⟨b, off + j, none⟩ = some (.int .u64 (z j))) :
    Calls Try.prog 20 #[.slice (some ⟨b, off, none⟩) n cap] w fun e w' => ∃ g c, e = .returned (.slice (some ⟨g, 0, none⟩) n c) ∧ w.heap.size ≤ g ∧ n ≤ c ∧ Num w' g n z ∧ Below w.heap.size w w' := by
  have hnil : (binOp .eql 32 (.slice (some ⟨b, off, none⟩) n cap) (.slice none 0 0)).run Try.prog w = .ok (.bool false) w := Lib.run_eql_slice_nil w _ _ _ n cap 0 0 Try.underlying32
  go_enter Try.func20, Try.ntmps20
  have hnew : ∀ j u, (lits64 n z)[j]? = some u → (w.alloc (.cells #[] 39)).cell? ((⟨b, off, none⟩ : Addr).add j) = some u := by
    intro j u hu
    have hj : j < n := by
      have := (List.getElem?_eq_some_iff.1 hu).1; simpa [lits64] using this
    rw [add_plain, World.cell?_alloc_past _ _ _ (World.block_lt_of_cell? w ⟨b, off + j, none⟩ (hc j hj)), hc j hj]
    simpa [lits64, hj] using hu
  go_wp2_with (with_reducible refine wpList_append_fresh _ rfl (.tmp 5) (.tmp 6) 32 rfl 39 (.int .u64 0) 1 8 Try.underlying32 infoU64 rfl ⟨w.heap.size, 0, none⟩ rfl ⟨b, off, none⟩ n cap (lits64 n z) rfl ?c1 hnew ?c2 ?c3 ?c4 ?_)
  case c1 => simp [lits64]
  case c2 => simp only [maxLen]; omega
  case c3 => omega
  case c4 => intro h; omega
  intro c w1 ho hg
  go_wp2
  go_ret
  obtain ⟨h1, h2, h3⟩ := num_of_owns ho
  exact ⟨_, c, rfl, by omega, h2, h1, ((Below.refl _ w).alloc (Nat.le_refl _) _).grown hg (by simp) (fun k e => by cases e)⟩
/-- Words stay words through a network. -/
theorem exch_rng {x : Nat → Int} {A B : Int} (h : ∀ i, A ≤ x i ∧ x i ≤ B) (p : Pr) : ∀ i, A ≤ exch x p i ∧ exch x p i ≤ B := by
  intro i
  have h1 := h p.1
  have h2 := h p.2.1
  have h3 := h i
  unfold exch
  split
  · split <;> omega
  · split
    · split <;> omega
    · exact h3
theorem run_rng {A B : Int} : ∀ (ps : List Pr) (x : Nat → Int), (∀ i, A ≤ x i ∧ x i ≤ B) → ∀ i, A ≤ run ps x i ∧ run ps x i ≤ B
  | [], _, h => h
  | p :: ps, _, h => run_rng ps _ (exch_rng h p)
theorem run_snoc (ps : List Pr) (p : Pr) (x : Nat → Int) : run (ps ++ [p]) x = exch (run ps x) p := by rw [run_append]; rfl
theorem exch_two (f : Nat → Int) (p : Pr) (h : p.1 ≠ p.2.1) (k : Nat) : (if k = p.2.1 then hi2 p.2.2 (f p.1) (f p.2.1) else if k = p.1 then lo2 p.2.2 (f p.1) (f p.2.1) else f k) = exch f p k := by
  unfold exch lo2 hi2
  by_cases h1 : k = p.1
  · rw [if_neg (by omega), if_pos h1, if_pos h1]
  · by_cases h2 : k = p.2.1
    · rw [if_pos h2, if_neg h1, if_pos h2]
    · rw [if_neg h2, if_neg h1, if_neg h1, if_neg h2]
theorem far_cell {w : World} {b o g i : Nat} {u v : Value} (h : b ≠ g) (hc : w.cell? ⟨b, o, none⟩ = some u) : (w.setCell ⟨g, i, none⟩ v).cell? ⟨b, o, none⟩ = some u :=
  (World.cell?_setCell_far w _ _ v (fun e => h e.symm)).trans hc
/-- What lies between two pairs. -/
def SortAt (w : World) (g n c : Nat) (z : Nat → Int) (B : Nat) (ps : List Pr) (W : World) : Prop :=
  Boxed W B 32 (.slice (some ⟨g, 0, none⟩) n c) ∧ Num W g n (run ps z) ∧ Below w.heap.size w W
theorem sort_wrong (a : Option Addr) (n cap : Nat) (w : World) (hR : isNet (n : Int) = false) :
    Calls Try.prog 16 #[.slice a n cap] w fun e W' => e = .returned (.tuple #[.slice none 0 0, .int .i64 1]) ∧ Below w.heap.size w W' := by
  refine (callsIn_wide (n := 9)).1 ?_
  refine callsIn_of_wp_marks Try.func16 rfl trivial ?_ rfl
  simp only [Try.ntmps16, List.size_toArray, List.length_cons, List.length_nil, Nat.reduceAdd, Nat.reduceSub, Array.replicate_succ, Array.replicate_zero, List.push_toArray, List.append_toArray, List.nil_append, List.cons_append]
  gi_wp2_with (refine ⟨trivial, ?_⟩; gi_at_call 13; refine (callsIn_wide.2 (right_any (n : Int) _)).mono ?_; rintro e w1 ⟨rfl, rfl⟩; rw [hR])
  exact ⟨.tuple #[.slice none 0 0, .int .i64 1], by simp [results, Try.results16, go_sem], rfl, Below.refl _ _⟩
set_option linter.unusedSimpArgs false in
set_option maxRecDepth 100000 in
set_option maxHeartbeats 2000000 in
theorem sort_right (P b off n cap : Nat) (z : Nat → Int) (w : World) (hP : P ≤ 10) (hn : 2 ^ P = n) (hc : ∀ j, j < n → w.cell? ⟨b, off + j, none⟩ = some (.int .u64 (z j))) (hz : ∀ i, 0 ≤ z i ∧ z i ≤ 18446744073709551615) :
    Calls Try.prog 16 #[.slice (some ⟨b, off, none⟩) n cap] w fun e W' => ∃ g c, e = .returned (.tuple #[.slice (some ⟨g, 0, none⟩) n c, .int .i64 0]) ∧ w.heap.size ≤ g ∧ n ≤ c ∧ Num W' g n (run (netL P) z) ∧ Below w.heap.size w W' := by
  have hN : Net (n : Int) n (netL P) := ⟨.inl ⟨P, hP, by rw [hn], hn.symm, rfl⟩⟩
  have hRn : isNet (n : Int) = true := (isNet_iff _).2 ⟨P, hP, by rw [hn]⟩
  have hn1 : n ≤ 1024 := by rw [← hn]; exact two_le P hP
  have hn0 : 0 < n := by rw [← hn]; exact two_pos P
  refine (callsIn_wide (n := 9)).1 ?_
  refine callsIn_of_wp_marks Try.func16 rfl trivial ?_ rfl
  simp only [Try.ntmps16, List.size_toArray, List.length_cons, List.length_nil, Nat.reduceAdd, Nat.reduceSub, Array.replicate_succ, Array.replicate_zero, List.push_toArray, List.append_toArray, List.nil_append, List.cons_append]
  gi_wp2_with (first
    | (refine ⟨trivial, ?_⟩; gi_at_call 13; refine (callsIn_wide.2 (right_any (n : Int) _)).mono ?_; rintro e w1 ⟨rfl, rfl⟩; rw [hRn])
    | (refine ⟨trivial, ?_⟩; gi_at_call 20; refine (callsIn_wide.2 (clone_any b off n cap z _ hn0 hn1 hc)).mono ?_; rintro e w2 ⟨g, c, rfl, hg, hnc, hnum, hB⟩)
    | (refine ⟨trivial, ?_⟩; gi_at_call 19; refine (callsIn_wide.2 (network_any (n : Int) _)).mono ?_; rintro e w3 ⟨rfl, rfl⟩))
  have bM := Boxed.new w2 32 (.slice (some ⟨g, 0, none⟩) n c)
  have bN := Boxed.new (w2.alloc (.cells #[.slice (some ⟨g, 0, none⟩) n c] 32)) 3 (.int .i64 (n : Int))
  rw [World.size_alloc] at bN
  have hB0 : Below w1.heap.size w1 ((w2.alloc (.cells #[.slice (some ⟨g, 0, none⟩) n c] 32)).alloc (.cells #[.int .i64 (n : Int)] 3)) := (hB.alloc hB.size _).alloc (by have := hB.size; simp; omega) _
  refine wpIn_rangeFunc_ownH rfl (by decide) (gf := 23) (lb := #[.pointer (some ⟨w2.heap.size + 1, 0, none⟩)]) rfl trivial (enters_of Try.func23 (by kernel_rfl) rfl)
    (net_stops _ (w2.heap.size + 1) n n (netL P) hN _ bN) (fun h k => KB.trans h k) KB.book (Below.refl _ _) (fun _ => rfl)
    (fun pre W => SortAt w1 g n c z w2.heap.size (pre.map val) W)
    (fun _ _ _ => False)
    (OwnFrom.and (Own.from (boxed_own _ _ (fun _ => _)) _) (OwnFrom.and (fun pre X Y row hs hg hr => hs.kept hg (fun r e => (hr r e).2)) (ownFrom_below (Nat.le_refl _) (by have := hB.size; simp; omega))))
    (fun _ _ _ _ _ hs _ _ => hs)
    ⟨bM.alloc _, (hnum.alloc _).alloc _, hB0⟩
    (fun x a' W => ∃ Bx, Box W Bx 30 (cells3 (val x)).toArray ∧ a' = { tmps := #[.slice (some ⟨b, off, none⟩) n cap, undef, .slice none 0 0, .int .i64 0, .pointer (some ⟨w2.heap.size, 0, none⟩), .pointer (some ⟨Bx, 0, none⟩), .slice (some ⟨b, off, none⟩) n cap, .int .i64 (n : Int), .bool true, .bool false, .slice (some ⟨b, off, none⟩) n cap, .slice (some ⟨g, 0, none⟩) n c, .slice (some ⟨g, 0, none⟩) n c, .int .i64 (n : Int), .func (.func 23) #[] #[.pointer (some ⟨w2.heap.size + 1, 0, none⟩)], pairV (val x), undef, undef, undef, undef, undef, undef, undef, undef, undef, undef, undef, undef, undef, undef, undef, undef, undef, undef, undef, undef, undef, undef, undef, undef, undef], defers := [] })
    ?hAx ?assign ?body ?done ?stop
  case hAx =>
    rintro x a' _ X Y row ⟨Bx, hb, rfl⟩ hg hr
    exact ⟨Bx, hb.kept hg (fun r e => (hr r e).2), rfl⟩
  case assign =>
    rintro l pre x W K ⟨hv, hnm, hBW⟩ hK
    simp only [encP, zip_one, pairV, List.set_cons_zero, List.set_cons_succ]
    gi_wp2
    exact hK _ _ ((KeepsOthers.alloc _ _).from _) (fun hb => hb.alloc _) ⟨hv.alloc _, hnm.alloc _, hBW.alloc hBW.size _⟩ ⟨W.heap.size, Box.new W _ _, rfl⟩
  case body =>
    rintro l pre x a' W hl ⟨r, hr⟩ ⟨hv, hnm, hBW⟩ ⟨Bx, hbx, rfl⟩ hlt
    have hc0 := hv.cell
    have x0 := hbx.cell 0
    have x1 := hbx.cell 1
    have x2 := hbx.cell 2
    simp [cells3] at x0 x1 x2
    have hx : (val x).1 < (val x).2.1 ∧ (val x).2.1 < n := x.2
    have hi : (val x).1 < n := by omega
    have hj := hx.2
    have ri := hnm.cell hi
    have rj := hnm.cell hj
    have fi := hnm.frozen (val x).1
    have fj := hnm.frozen (val x).2.1
    have hrg := run_rng (pre.map val) z hz
    have dB : w2.heap.size ≠ g := hnm.box_ne (show Box W w2.heap.size 32 #[_] from hv) (by decide)
    have dX : Bx ≠ g := hnm.box_ne hbx (by decide)
    have hne : (val x).1 ≠ (val x).2.1 := by omega
    have hg1 := hg
    have fin : ∀ a : Act, Exit.inBlock 1 (ownPostG ((w2.alloc (.cells #[.slice (some ⟨g, 0, none⟩) n c] 32)).alloc (.cells #[.int .i64 (n : Int)] 3)).heap.size (KB (w2.heap.size + 1) n) (fun pre W => SortAt w1 g n c z w2.heap.size (pre.map val) W) (fun _ _ _ => False) (pre ++ [x]) W) .normal a
        ((W.setCell ⟨g, (val x).1, none⟩ (.int .u64 (lo2 (val x).2.2 (run (pre.map val) z (val x).1) (run (pre.map val) z (val x).2.1)))).setCell ⟨g, (val x).2.1, none⟩ (.int .u64 (hi2 (val x).2.2 (run (pre.map val) z (val x).1) (run (pre.map val) z (val x).2.1)))).drew := fun a => by
      refine ⟨(((KeepsOthers.setCell _ _ _).trans (KeepsOthers.setCell _ _ _)).trans (KeepsOthers.drew _)).from _, fun hb => ?_, ?_, ?_, ?_⟩
      · have hne := hnm.box_ne (show Box W _ 3 #[_] from hb) (by decide)
        exact ((show Box W _ 3 #[_] from hb).far (a := ⟨g, (val x).1, none⟩) hne _).far (a := ⟨g, (val x).2.1, none⟩) hne _
      · exact ((show Box W _ 32 #[_] from hv).far (a := ⟨g, (val x).1, none⟩) dB _).far (a := ⟨g, (val x).2.1, none⟩) dB _
      · have := ((hnm.put hi (lo2 (val x).2.2 (run (pre.map val) z (val x).1) (run (pre.map val) z (val x).2.1))).put hj (hi2 (val x).2.2 (run (pre.map val) z (val x).1) (run (pre.map val) z (val x).2.1))).congr (fun k _ => exch_two _ (val x) hne k)
        rw [List.map_append, List.map_cons, List.map_nil, run_snoc]
        exact this
      · exact ((hBW.setCell (p := ⟨g, (val x).1, none⟩) hg1 _).setCell (p := ⟨g, (val x).2.1, none⟩) hg1 _).drew
    gi_wp2
    refine round_held (S := fun w' => w'.cell? ⟨w2.heap.size, 0, none⟩ = some (.slice (some ⟨g, 0, none⟩) n c) ∧ w'.cell? ⟨Bx, 0, none⟩ = some (.int .i64 ((val x).1 : Nat)) ∧ w'.cell? ⟨Bx, 1, none⟩ = some (.int .i64 ((val x).2.1 : Nat)) ∧ w'.cell? ⟨Bx, 2, none⟩ = some (.bool (val x).2.2)) 26 rfl (by kernel_rfl) (by kernel_rfl) (by rintro ⟨_, _, h⟩; exact h) ⟨hc0, x0, x1, x2⟩ (fun hHeld => ?_)
    simp only [Array.replicate_succ, Array.replicate_zero, List.push_toArray, List.nil_append, List.cons_append]
    refine wpAnyH_take (i := 0) (oi := ⟨some 17, _, _, _, _, _⟩) (v := .slice (some ⟨g, 0, none⟩) n c) rfl (by kernel_rfl) (by kernel_rfl) (by kernel_rfl) (fun _ _ _ h => h) (Or.inl ⟨by rfl, fun w' hw => by obtain ⟨s1, s2, s3, s4⟩ := hw; go_simp⟩) hHeld ?_
    simp only [Act.put, List.setIfInBounds_toArray, List.set_cons_zero, List.set_cons_succ]
    refine wpAnyH_take (i := 1) (oi := ⟨some 18, _, _, _, _, _⟩) (v := .pointer (some ⟨Bx, 0, none⟩)) rfl (by kernel_rfl) (by kernel_rfl) (by kernel_rfl) (fun _ _ _ h => h) (Or.inl ⟨by rfl, fun w' hw => by obtain ⟨s1, s2, s3, s4⟩ := hw; go_simp⟩) hHeld ?_
    simp only [Act.put, List.setIfInBounds_toArray, List.set_cons_zero, List.set_cons_succ]
    refine wpAnyH_take (i := 2) (oi := ⟨some 19, _, _, _, _, _⟩) (v := .int .i64 ((val x).1 : Nat)) rfl (by kernel_rfl) (by kernel_rfl) (by kernel_rfl) (fun _ _ _ h => h) (Or.inl ⟨by rfl, fun w' hw => by obtain ⟨s1, s2, s3, s4⟩ := hw; go_simp⟩) hHeld ?_
    simp only [Act.put, List.setIfInBounds_toArray, List.set_cons_zero, List.set_cons_succ]
    refine wpAnyH_take (i := 3) (oi := ⟨some 20, _, _, _, _, _⟩) (v := .slice (some ⟨g, 0, none⟩) n c) rfl (by kernel_rfl) (by kernel_rfl) (by kernel_rfl) (fun _ _ _ h => h) (Or.inl ⟨by rfl, fun w' hw => by obtain ⟨s1, s2, s3, s4⟩ := hw; go_simp⟩) hHeld ?_
    simp only [Act.put, List.setIfInBounds_toArray, List.set_cons_zero, List.set_cons_succ]
    refine wpAnyH_take (i := 4) (oi := ⟨some 21, _, _, _, _, _⟩) (v := .pointer (some ⟨Bx, 1, none⟩)) rfl (by kernel_rfl) (by kernel_rfl) (by kernel_rfl) (fun _ _ _ h => h) (Or.inl ⟨by rfl, fun w' hw => by obtain ⟨s1, s2, s3, s4⟩ := hw; go_simp⟩) hHeld ?_
    simp only [Act.put, List.setIfInBounds_toArray, List.set_cons_zero, List.set_cons_succ]
    refine wpAnyH_take (i := 5) (oi := ⟨some 22, _, _, _, _, _⟩) (v := .int .i64 ((val x).2.1 : Nat)) rfl (by kernel_rfl) (by kernel_rfl) (by kernel_rfl) (fun _ _ _ h => h) (Or.inl ⟨by rfl, fun w' hw => by obtain ⟨s1, s2, s3, s4⟩ := hw; go_simp⟩) hHeld ?_
    simp only [Act.put, List.setIfInBounds_toArray, List.set_cons_zero, List.set_cons_succ]
    refine wpAnyH_take (i := 6) (oi := ⟨some 23, _, _, _, _, _⟩) (v := .pointer (some ⟨Bx, 2, none⟩)) rfl (by kernel_rfl) (by kernel_rfl) (by kernel_rfl) (fun _ _ _ h => h) (Or.inl ⟨by rfl, fun w' hw => by obtain ⟨s1, s2, s3, s4⟩ := hw; go_simp⟩) hHeld ?_
    simp only [Act.put, List.setIfInBounds_toArray, List.set_cons_zero, List.set_cons_succ]
    refine wpAnyH_take (i := 7) (oi := ⟨some 24, _, _, _, _, _⟩) (v := .bool (val x).2.2) rfl (by kernel_rfl) (by kernel_rfl) (by kernel_rfl) (fun _ _ _ h => h) (Or.inl ⟨by rfl, fun w' hw => by obtain ⟨s1, s2, s3, s4⟩ := hw; go_simp⟩) hHeld ?_
    simp only [Act.put, List.setIfInBounds_toArray, List.set_cons_zero, List.set_cons_succ]
    refine wpAnyH_take (i := 8) (oi := ⟨some 25, _, _, _, _, _⟩) (v := .slice (some ⟨g, 0, none⟩) n c) rfl (by kernel_rfl) (by kernel_rfl) (by kernel_rfl) (fun _ _ _ h => h) (Or.inl ⟨by rfl, fun w' hw => by obtain ⟨s1, s2, s3, s4⟩ := hw; go_simp⟩) hHeld ?_
    simp only [Act.put, List.setIfInBounds_toArray, List.set_cons_zero, List.set_cons_succ]
    refine wpAnyH_take (i := 9) (oi := ⟨some 26, _, _, _, _, _⟩) (v := .pointer (some ⟨Bx, 0, none⟩)) rfl (by kernel_rfl) (by kernel_rfl) (by kernel_rfl) (fun _ _ _ h => h) (Or.inl ⟨by rfl, fun w' hw => by obtain ⟨s1, s2, s3, s4⟩ := hw; go_simp⟩) hHeld ?_
    simp only [Act.put, List.setIfInBounds_toArray, List.set_cons_zero, List.set_cons_succ]
    refine wpAnyH_take (i := 10) (oi := ⟨some 27, _, _, _, _, _⟩) (v := .int .i64 ((val x).1 : Nat)) rfl (by kernel_rfl) (by kernel_rfl) (by kernel_rfl) (fun _ _ _ h => h) (Or.inl ⟨by rfl, fun w' hw => by obtain ⟨s1, s2, s3, s4⟩ := hw; go_simp⟩) hHeld ?_
    simp only [Act.put, List.setIfInBounds_toArray, List.set_cons_zero, List.set_cons_succ]
    refine wpAnyH_take (i := 11) (oi := ⟨some 28, _, _, _, _, _⟩) (v := .pointer (some ⟨g, (val x).1, none⟩)) rfl (by kernel_rfl) (by kernel_rfl) (by kernel_rfl) (fun _ _ _ h => h) (Or.inl ⟨by rfl, fun w' hw => by obtain ⟨s1, s2, s3, s4⟩ := hw; go_simp⟩) hHeld ?_
    simp only [Act.put, List.setIfInBounds_toArray, List.set_cons_zero, List.set_cons_succ]
    refine wpAnyH_take (i := 13) (oi := ⟨some 30, _, _, _, _, _⟩) (v := .slice (some ⟨g, 0, none⟩) n c) rfl (by kernel_rfl) (by kernel_rfl) (by kernel_rfl) (fun _ _ _ h => h) (Or.inl ⟨by rfl, fun w' hw => by obtain ⟨s1, s2, s3, s4⟩ := hw; go_simp⟩) hHeld ?_
    simp only [Act.put, List.setIfInBounds_toArray, List.set_cons_zero, List.set_cons_succ]
    refine wpAnyH_take (i := 14) (oi := ⟨some 31, _, _, _, _, _⟩) (v := .pointer (some ⟨Bx, 1, none⟩)) rfl (by kernel_rfl) (by kernel_rfl) (by kernel_rfl) (fun _ _ _ h => h) (Or.inl ⟨by rfl, fun w' hw => by obtain ⟨s1, s2, s3, s4⟩ := hw; go_simp⟩) hHeld ?_
    simp only [Act.put, List.setIfInBounds_toArray, List.set_cons_zero, List.set_cons_succ]
    refine wpAnyH_take (i := 15) (oi := ⟨some 32, _, _, _, _, _⟩) (v := .int .i64 ((val x).2.1 : Nat)) rfl (by kernel_rfl) (by kernel_rfl) (by kernel_rfl) (fun _ _ _ h => h) (Or.inl ⟨by rfl, fun w' hw => by obtain ⟨s1, s2, s3, s4⟩ := hw; go_simp⟩) hHeld ?_
    simp only [Act.put, List.setIfInBounds_toArray, List.set_cons_zero, List.set_cons_succ]
    refine wpAnyH_take (i := 16) (oi := ⟨some 33, _, _, _, _, _⟩) (v := .pointer (some ⟨g, (val x).2.1, none⟩)) rfl (by kernel_rfl) (by kernel_rfl) (by kernel_rfl) (fun _ _ _ h => h) (Or.inl ⟨by rfl, fun w' hw => by obtain ⟨s1, s2, s3, s4⟩ := hw; go_simp⟩) hHeld ?_
    simp only [Act.put, List.setIfInBounds_toArray, List.set_cons_zero, List.set_cons_succ]
    refine wpAnyH_ready (rs := [12, 17]) (by kernel_rfl) (by simp) (AllReadyH.cons rfl (fun K hK => ?_) (AllReadyH.cons rfl (fun K hK => ?_) AllReadyH.nil))
    · go_simp
      refine hK.out _ _ hHeld (fun hHeld => ?_)
      clear hK K
      simp only [Act.put, List.setIfInBounds_toArray, List.set_cons_zero, List.set_cons_succ]
      refine one_ready 17 rfl (by kernel_rfl) (fun K hK => ?_)
      go_simp
      refine hK.out _ _ hHeld (fun hHeld => ?_)
      clear hK K
      simp only [Act.put, List.setIfInBounds_toArray, List.set_cons_zero, List.set_cons_succ]
      refine one_ready 18 rfl (by kernel_rfl) (fun K hK => ?_)
      go_simp
      refine (order_any (val x).2.2 _ _ _ (hrg _).1 (hrg _).2 (hrg _).1 (hrg _).2).mono ?_
      rintro e w9 ⟨rfl, rfl⟩
      refine hK.out _ _ hHeld (fun hHeld => ?_)
      clear hK K
      simp only [Act.put, List.setIfInBounds_toArray, List.set_cons_zero, List.set_cons_succ]
      refine wpAnyH_take (i := 19) (oi := ⟨some 16, _, _, _, _, _⟩) (v := .tuple #[.int .u64 (lo2 (val x).2.2 (run (pre.map val) z (val x).1) (run (pre.map val) z (val x).2.1)), .int .u64 (hi2 (val x).2.2 (run (pre.map val) z (val x).1) (run (pre.map val) z (val x).2.1))]) rfl (by kernel_rfl) (by kernel_rfl) (by kernel_rfl) (fun _ _ _ h => h) (Or.inl ⟨by rfl, fun w' hw => by obtain ⟨s1, s2, s3, s4⟩ := hw; go_simp⟩) hHeld ?_
      simp only [Act.put, List.setIfInBounds_toArray, List.set_cons_zero, List.set_cons_succ]
      refine wpAnyH_take (i := 20) (oi := ⟨some 36, _, _, _, _, _⟩) (v := .int .u64 (lo2 (val x).2.2 (run (pre.map val) z (val x).1) (run (pre.map val) z (val x).2.1))) rfl (by kernel_rfl) (by kernel_rfl) (by kernel_rfl) (fun _ _ _ h => h) (Or.inl ⟨by rfl, fun w' hw => by obtain ⟨s1, s2, s3, s4⟩ := hw; go_simp⟩) hHeld ?_
      simp only [Act.put, List.setIfInBounds_toArray, List.set_cons_zero, List.set_cons_succ]
      refine wpAnyH_take (i := 21) (oi := ⟨some 37, _, _, _, _, _⟩) (v := .int .u64 (hi2 (val x).2.2 (run (pre.map val) z (val x).1) (run (pre.map val) z (val x).2.1))) rfl (by kernel_rfl) (by kernel_rfl) (by kernel_rfl) (fun _ _ _ h => h) (Or.inl ⟨by rfl, fun w' hw => by obtain ⟨s1, s2, s3, s4⟩ := hw; go_simp⟩) hHeld ?_
      simp only [Act.put, List.setIfInBounds_toArray, List.set_cons_zero, List.set_cons_succ]
      refine wpAnyH_take (i := 22) (oi := ⟨some 38, _, _, _, _, _⟩) (v := .pointer (some ⟨g, (val x).1, none⟩)) rfl (by kernel_rfl) (by kernel_rfl) (by kernel_rfl) (fun _ _ _ h => h) (Or.inl ⟨by rfl, fun w' hw => by obtain ⟨s1, s2, s3, s4⟩ := hw; go_simp⟩) hHeld ?_
      simp only [Act.put, List.setIfInBounds_toArray, List.set_cons_zero, List.set_cons_succ]
      refine one_ready 23 rfl (by kernel_rfl) (fun K hK => ?_)
      go_simp
      refine hK.out _ _ ⟨far_cell dB hc0, far_cell dX x0, far_cell dX x1, far_cell dX x2⟩ (fun hHeld => ?_)
      clear hK K
      simp only [Act.put, List.setIfInBounds_toArray, List.set_cons_zero, List.set_cons_succ]
      refine wpAnyH_take (i := 24) (oi := ⟨some 39, _, _, _, _, _⟩) (v := .pointer (some ⟨g, (val x).2.1, none⟩)) rfl (by kernel_rfl) (by kernel_rfl) (by kernel_rfl) (fun _ _ _ h => h) (Or.inl ⟨by rfl, fun w' hw => by obtain ⟨s1, s2, s3, s4⟩ := hw; go_simp⟩) hHeld ?_
      simp only [Act.put, List.setIfInBounds_toArray, List.set_cons_zero, List.set_cons_succ]
      refine one_ready 25 rfl (by kernel_rfl) (fun K hK => ?_)
      have n1 := hnm.put hi (lo2 (val x).2.2 (run (pre.map val) z (val x).1) (run (pre.map val) z (val x).2.1))
      have rj1 := n1.cell hj
      have fj1 := n1.frozen (val x).2.1
      go_simp
      refine hK.out _ _ ⟨far_cell dB (far_cell dB hc0), far_cell dX (far_cell dX x0), far_cell dX (far_cell dX x1), far_cell dX (far_cell dX x2)⟩ (fun hHeld => ?_)
      clear hK K
      refine wpAnyH_done (by kernel_rfl) ?_ _
      exact fin _
    · go_simp
      refine hK.out _ _ hHeld (fun hHeld => ?_)
      clear hK K
      simp only [Act.put, List.setIfInBounds_toArray, List.set_cons_zero, List.set_cons_succ]
      refine one_ready 12 rfl (by kernel_rfl) (fun K hK => ?_)
      go_simp
      refine hK.out _ _ hHeld (fun hHeld => ?_)
      clear hK K
      simp only [Act.put, List.setIfInBounds_toArray, List.set_cons_zero, List.set_cons_succ]
      refine one_ready 18 rfl (by kernel_rfl) (fun K hK => ?_)
      go_simp
      refine (order_any (val x).2.2 _ _ _ (hrg _).1 (hrg _).2 (hrg _).1 (hrg _).2).mono ?_
      rintro e w9 ⟨rfl, rfl⟩
      refine hK.out _ _ hHeld (fun hHeld => ?_)
      clear hK K
      simp only [Act.put, List.setIfInBounds_toArray, List.set_cons_zero, List.set_cons_succ]
      refine wpAnyH_take (i := 19) (oi := ⟨some 16, _, _, _, _, _⟩) (v := .tuple #[.int .u64 (lo2 (val x).2.2 (run (pre.map val) z (val x).1) (run (pre.map val) z (val x).2.1)), .int .u64 (hi2 (val x).2.2 (run (pre.map val) z (val x).1) (run (pre.map val) z (val x).2.1))]) rfl (by kernel_rfl) (by kernel_rfl) (by kernel_rfl) (fun _ _ _ h => h) (Or.inl ⟨by rfl, fun w' hw => by obtain ⟨s1, s2, s3, s4⟩ := hw; go_simp⟩) hHeld ?_
      simp only [Act.put, List.setIfInBounds_toArray, List.set_cons_zero, List.set_cons_succ]
      refine wpAnyH_take (i := 20) (oi := ⟨some 36, _, _, _, _, _⟩) (v := .int .u64 (lo2 (val x).2.2 (run (pre.map val) z (val x).1) (run (pre.map val) z (val x).2.1))) rfl (by kernel_rfl) (by kernel_rfl) (by kernel_rfl) (fun _ _ _ h => h) (Or.inl ⟨by rfl, fun w' hw => by obtain ⟨s1, s2, s3, s4⟩ := hw; go_simp⟩) hHeld ?_
      simp only [Act.put, List.setIfInBounds_toArray, List.set_cons_zero, List.set_cons_succ]
      refine wpAnyH_take (i := 21) (oi := ⟨some 37, _, _, _, _, _⟩) (v := .int .u64 (hi2 (val x).2.2 (run (pre.map val) z (val x).1) (run (pre.map val) z (val x).2.1))) rfl (by kernel_rfl) (by kernel_rfl) (by kernel_rfl) (fun _ _ _ h => h) (Or.inl ⟨by rfl, fun w' hw => by obtain ⟨s1, s2, s3, s4⟩ := hw; go_simp⟩) hHeld ?_
      simp only [Act.put, List.setIfInBounds_toArray, List.set_cons_zero, List.set_cons_succ]
      refine wpAnyH_take (i := 22) (oi := ⟨some 38, _, _, _, _, _⟩) (v := .pointer (some ⟨g, (val x).1, none⟩)) rfl (by kernel_rfl) (by kernel_rfl) (by kernel_rfl) (fun _ _ _ h => h) (Or.inl ⟨by rfl, fun w' hw => by obtain ⟨s1, s2, s3, s4⟩ := hw; go_simp⟩) hHeld ?_
      simp only [Act.put, List.setIfInBounds_toArray, List.set_cons_zero, List.set_cons_succ]
      refine one_ready 23 rfl (by kernel_rfl) (fun K hK => ?_)
      go_simp
      refine hK.out _ _ ⟨far_cell dB hc0, far_cell dX x0, far_cell dX x1, far_cell dX x2⟩ (fun hHeld => ?_)
      clear hK K
      simp only [Act.put, List.setIfInBounds_toArray, List.set_cons_zero, List.set_cons_succ]
      refine wpAnyH_take (i := 24) (oi := ⟨some 39, _, _, _, _, _⟩) (v := .pointer (some ⟨g, (val x).2.1, none⟩)) rfl (by kernel_rfl) (by kernel_rfl) (by kernel_rfl) (fun _ _ _ h => h) (Or.inl ⟨by rfl, fun w' hw => by obtain ⟨s1, s2, s3, s4⟩ := hw; go_simp⟩) hHeld ?_
      simp only [Act.put, List.setIfInBounds_toArray, List.set_cons_zero, List.set_cons_succ]
      refine one_ready 25 rfl (by kernel_rfl) (fun K hK => ?_)
      have n1 := hnm.put hi (lo2 (val x).2.2 (run (pre.map val) z (val x).1) (run (pre.map val) z (val x).2.1))
      have rj1 := n1.cell hj
      have fj1 := n1.frozen (val x).2.1
      go_simp
      refine hK.out _ _ ⟨far_cell dB (far_cell dB hc0), far_cell dX (far_cell dX x0), far_cell dX (far_cell dX x1), far_cell dX (far_cell dX x2)⟩ (fun hHeld => ?_)
      clear hK K
      refine wpAnyH_done (by kernel_rfl) ?_ _
      exact fin _
  case done =>
    rintro D ys W hD hS ⟨hv, hnm, hBW⟩ hK
    have hc0 := hv.cell
    gi_wp2
    refine ⟨by simp, .inl ⟨_, _, rfl, run_takeDeferred hK, ?_⟩⟩
    refine ⟨.tuple #[.slice (some ⟨g, 0, none⟩) n c, .int .i64 0], by simp [results, Try.results16, go_sem], g, c, rfl, hg, hnc, ?_, hBW.trans (belowK_b (w := w1) (Nat.le_refl _) W D _ _ (by have := hB.size; simp at hD; omega) hK rfl rfl)⟩
    have := hnm.kept (grownBy_putObj' W D (.deferred none)) (fun r e => by cases e; exact ⟨_, hK, rfl⟩)
    rw [hS] at this
    exact this
  case stop =>
    rintro D c pre W _ _ h _
    exact h.elim
end Go.Proofs.Ytceoopkcpkbdaaa
