/- Count: how many pairs there are; of what was in memory nothing changes. No conditions. -/
import Derived.Test.YtceoopkcpkbdaaaNetIter
namespace Go.Proofs.Ytceoopkcpkbdaaa
open Go.RowKit Go.Shelf
attribute [local go_sem] Oper.semAt_some

theorem zip_one (t : Tmp) (v : Value) (l : List Value) : ((#[t] : Array Tmp).zip #[v]).foldl (fun t (p, v) => t.setIfInBounds p v) l.toArray = (l.set t v).toArray := by
  simp
theorem Net.len {n : Int} {k : Nat} {ps : List Pr} (h : Net n k ps) : ps.length ≤ 28160 := by
  rcases h.is with ⟨P, hP, _, _, rfl⟩ | ⟨_, _, rfl⟩
  · have h1 := netL_len P
    have h2 := two_le P hP
    have h3 : P * (P + 1) ≤ 10 * 11 := Nat.mul_le_mul hP (by omega)
    have h4 : P * (P + 1) * 2 ^ P ≤ 10 * 11 * 1024 := Nat.mul_le_mul h3 h2
    omega
  · simp
theorem Net.of (n : Int) : ∃ k ps, Net n k ps := by
  cases h : isNet n
  · exact ⟨0, [], ⟨.inr ⟨h, rfl, rfl⟩⟩⟩
  · obtain ⟨p, hp, e⟩ := (isNet_iff n).1 h
    exact ⟨_, _, ⟨.inl ⟨p, hp, e, rfl, rfl⟩⟩⟩
set_option maxRecDepth 100000 in
set_option maxHeartbeats 2000000 in
theorem count_any (n : Int) (k : Nat) (ps : List Pr) (hN : Net n k ps) (w : World) :
    Calls Try.prog 15 #[.int .i64 n] w fun e W' => e = .returned (.int .i64 (ps.length : Nat)) ∧ Below w.heap.size w W' := by
  have hlen := hN.len
  refine (callsIn_wide (n := 9)).1 ?_
  refine callsIn_of_wp_marks Try.func15 rfl trivial ?_ rfl
  simp only [Try.ntmps15, List.size_toArray, List.length_cons, List.length_nil, Nat.reduceAdd, Nat.reduceSub, Array.replicate_succ, Array.replicate_zero, List.push_toArray, List.append_toArray, List.nil_append, List.cons_append]
  gi_wp2_with (refine ⟨trivial, ?_⟩; gi_at_call 19; refine (callsIn_wide.2 (network_any n _)).mono ?_; rintro e w1 ⟨rfl, rfl⟩)
  have bM := Boxed.new w 3 (.int .i64 0)
  have bN := Boxed.new (w.alloc (.cells #[.int .i64 0] 3)) 3 (.int .i64 n)
  rw [World.size_alloc] at bN
  have hB0 : Below w.heap.size w ((w.alloc (.cells #[.int .i64 0] 3)).alloc (.cells #[.int .i64 n] 3)) := ((Below.refl _ w).alloc (Nat.le_refl _) _).alloc (by simp) _
  refine wpIn_rangeFunc_ownG rfl (by decide) (gf := 23) (lb := #[.pointer (some ⟨w.heap.size + 1, 0, none⟩)]) rfl trivial (enters_of Try.func23 (by kernel_rfl) rfl)
    (net_stops _ (w.heap.size + 1) k n ps hN _ bN) (fun h k => KB.trans h k) KB.book (Below.refl _ _) (fun _ => rfl)
    (fun pre W => Boxed W w.heap.size 3 (.int .i64 (pre.length : Nat)) ∧ Below w.heap.size w W)
    (fun _ _ _ => False)
    (OwnFrom.and (Own.from (boxed_own _ _ _) _) (ownFrom_below (Nat.le_refl _) (by simp; omega)))
    (fun _ _ _ _ _ hs _ _ => hs)
    ⟨bM.alloc _, hB0⟩
    (fun x => { tmps := #[.int .i64 n, undef, .int .i64 0, .pointer (some ⟨w.heap.size, 0, none⟩), .int .i64 n, .func (.func 23) #[] #[.pointer (some ⟨w.heap.size + 1, 0, none⟩)], pairV (val x), undef, undef, undef], defers := [] }) ?assign ?body ?done ?stop
  case assign =>
    intro l x W K hK
    simp only [encP, zip_one, List.set_cons_zero, List.set_cons_succ]
    gi_wp2
    exact hK
  case body =>
    rintro l pre x W ⟨hv, hB⟩ hlt
    have hc := hv.cell
    have hf := hv.frozen
    gi_wp2
    refine ⟨(KeepsOthers.setCell _ _ _).from _, fun hb => hb.other (by omega) _, ?_, hB.setCell (p := ⟨w.heap.size, 0, none⟩) (Nat.le_refl _) _⟩
    have := hv.set (.int .i64 ((pre ++ [x]).length : Nat))
    simpa using this
  case done =>
    rintro D ys W hD hS ⟨hv, hB⟩ hK
    have hc := hv.cell
    gi_wp2
    refine ⟨by simp, .inl ⟨_, _, rfl, run_takeDeferred hK, ?_⟩⟩
    refine ⟨_, results_tmp rfl _ _ _, ?_, hB.trans (belowK_b (w := w) (Nat.le_refl _) W D _ _ (by simp at hD; omega) hK rfl rfl)⟩
    rw [← hS]; simp
  case stop =>
    rintro D c pre W _ _ h _
    exact h.elim
end Go.Proofs.Ytceoopkcpkbdaaa
