/- Rows of words: those of the call's own, and append of a slice of words that came in, nil or not. -/
import Derived.Test.YtdfnnljfihlniaaProg
import Derived.Test.YtdfnnljfihlniaaHeap
import Derived.Laws.CopyOwn
import Derived.Laws.AppendOwnNone
import Derived.OwnWalk
namespace Go.Proofs.Ytdfnnljfihlniaa
open Go.RowKit Go.ChangeShapes Go.WideShapes Go.ChangeAt

theorem infoWord : (Try.prog.info? 23).map (fun i => (i.zero, i.size, i.bytes)) = some (some (.int .u64 0), 1, 8) := by kernel_rfl
theorem sizeWord : (Try.prog.info? 23).map (·.size) = some 1 := by kernel_rfl

def wordsOf (n : Nat) (z : Nat → Int) : List Value := (List.range n).map fun i => .int .u64 (z i)
theorem wordsOf_len (n : Nat) (z : Nat → Int) : (wordsOf n z).length = n := by simp [wordsOf]
theorem wordsOf_at (n : Nat) (z : Nat → Int) (j : Nat) (h : j < n) : (wordsOf n z)[j]? = some (.int .u64 (z j)) := by simp [wordsOf, h]
theorem wordsOf_one (n : Nat) (z : Nat → Int) : ∀ v ∈ wordsOf n z, v.oneCell' = true := by
  intro v hv
  simp only [wordsOf, List.mem_map] at hv
  obtain ⟨i, _, rfl⟩ := hv; rfl

theorem wordsOf_ext (n : Nat) (z y : Nat → Int) (h : ∀ i, i < n → z i = y i) : wordsOf n z = wordsOf n y := by
  unfold wordsOf
  exact List.map_congr_left fun i hi => by rw [h i (by simpa using hi)]
theorem wordsOf_add (n m : Nat) (z : Nat → Int) : wordsOf n z ++ wordsOf m (fun i => z (n + i)) = wordsOf (n + m) z := by
  unfold wordsOf
  rw [List.range_add, List.map_append, List.map_map]
  rfl
/-- A row of words that lies whole is the call's own. -/
theorem own_of_row {w : World} {r base n : Nat} {t : TypeId} {z : Nat → Int} (h : w.rowIs r t n (fun i => .int .u64 (z i))) (hb : base ≤ r) (hn : n ≤ maxLen) : w.ownsRow base t 1 (.slice (some ⟨r, 0, none⟩) n n) n (wordsOf n z) := by
  obtain ⟨c, hc, hs, hi⟩ := h
  refine ⟨by rw [wordsOf_len, Nat.mul_one], .inr ⟨r, n, c, rfl, hb, hc, Nat.le_refl _, hn, by rw [hs, Nat.mul_one], ?_⟩⟩
  apply List.ext_getElem?
  intro j
  by_cases hj : j < n
  · rw [wordsOf_at n z j hj, List.getElem?_take_of_lt (by omega), Array.getElem?_toList]; exact hi j hj
  · rw [List.getElem?_eq_none (by rw [List.length_take]; omega), List.getElem?_eq_none (by rw [wordsOf_len]; omega)]
/-- What an own row of words gives where it is no nil. -/
theorem own_at {w : World} {base n : Nat} {t : TypeId} {z : Nat → Int} {v : Value} (h : w.ownsRow base t 1 v n (wordsOf n z)) (hv : v ≠ .slice none 0 0) :
    ∃ g cap cur, v = .slice (some ⟨g, 0, none⟩) n cap ∧ base ≤ g ∧ n ≤ cap ∧ Box w g t cur ∧ ∀ i, i < n → cur[i]? = some (.int .u64 (z i)) := by
  rcases h.2 with ⟨h0, _⟩ | ⟨g, cap, cur, rfl, hb, hg, hl, _, hs, ht⟩
  · exact absurd h0 hv
  · refine ⟨g, cap, cur, rfl, hb, hl, hg, fun i hi => ?_⟩
    have := wordsOf_at n z i hi
    rw [← ht, List.getElem?_take_of_lt (by omega), Array.getElem?_toList] at this
    exact this

/-- append of a slice that came in, nil or not, to a row of the call's own. -/
theorem wpList_append_nums {P : Program} {w : World} {ops : Array Oper} {rest : List Oper} {o : Oper} {a : Act} {Q : Exit → Act → World → Prop} (hgd : o.guard = none) (s x : Operand) (t : TypeId)
    (ho : o.op = .call { callee := .builtin .append, args := #[s, x], argTypes := #[t, t] })
    (base : Nat) (e : TypeId) (i : TypeInfo) (zv : Value) (bytes : Nat) (ht : P.underlying t = some (.slice e)) (hi : P.info? e = some i) (hz : i.zero = some zv)
    (hsize : i.size = 1) (hby : i.bytes = bytes) (hzs : zv.cells.size = 1)
    (v : Value) (n : Nat) (xs : List Value) (hs : a.eval s = v) (hown : w.ownsRow base e 1 v n xs)
    (A : Option Addr) (m c B : Nat) (z : Nat → Int) (hx : a.eval x = .slice A m c) (hr : Nums .u64 w B A m z) (hq : A = none → m = 0 ∧ c = 0)
    (h63 : n + m ≤ maxLen) (hbytes : (n + m) * bytes ≤ 140737488355328) (hbase : base ≤ w.heap.size)
    (h : ∀ v' w', w'.ownsRow base e 1 v' (n + m) (xs ++ wordsOf m z) → w.grownBy w' v.ownBlock → (v' = .slice none 0 0 → v = .slice none 0 0) → wpList P ops Q rest (a.put o.dst v') w') : wpList P ops Q (o :: rest) a w := by
  rcases A with _ | ad
  · obtain ⟨rfl, rfl⟩ := hq rfl
    exact wpList_append_own_none hgd s x t ho base e i 1 ht hi v n xs hs hown hx (h v w (by simpa [wordsOf] using hown) (World.grownBy.refl w _) id)
  · refine wpList_append_own w hgd s x t ho base e i zv 1 bytes ht hi hz hsize hby hzs (by decide) v n xs hs hown ad m c (wordsOf m z) hx (by rw [wordsOf_len, Nat.mul_one]) (fun j u hu => ?_) (wordsOf_one _ _) h63 hbytes hbase (fun v' w' h1 h2 h3 => h v' w' h1 h2 (fun e => (h3.1 e).1))
    have hj : j < m := by have := (List.getElem?_eq_some_iff.1 hu).1; rwa [wordsOf_len] at this
    rw [wordsOf_at m z j hj] at hu
    obtain ⟨b, off, e, _, hc⟩ := hr.at hj
    injection e with e
    subst e
    rw [add_plain]
    exact hc.trans hu

end Go.Proofs.Ytdfnnljfihlniaa
