/- What the laws of layer 7 share: what is told since a scan, the program's scans beside the document's memory, plain facts. -/
import Derived.Test.YtgppediikggogaaScanShown
import Derived.Test.YtgppediikggogaaReads
namespace Go.Proofs.Ytgppediikggogaa
open Go.RowKit Go.ChangeShapes Go.WideShapes Go.ChangeAt

theorem wd_looked {M : MS} (h : M.wd) (r i : Nat) : (M.looked r i).wd := h
theorem anew_c (M : MS) (r b : Nat) (f : Nat → Int) (on : Bool) (i r' a : Nat) : (M.anew r b f on i).c r' a = if r' = r ∧ a < i ∧ a = b ∧ on = true then f else M.c r' a := rfl
theorem anew_off (M : MS) (r b : Nat) (f : Nat → Int) (i : Nat) : (M.anew r b f false i).c = M.c := by
  funext r' a
  rw [anew_c, if_neg (fun h => by simp at h)]
theorem wd_anew {M : MS} (h : M.wd) {f : Nat → Int} (hf : Wd f) (r b : Nat) (on : Bool) (i : Nat) : (M.anew r b f on i).wd := by
  intro r' a
  rw [anew_c]
  split
  · exact hf
  · exact h _ _
theorem wd_cw (n : Int) : Wd (cw n) := cw_rng n
theorem gt_in (a : Nat) (C : Nat → Nat → Int) (i : Nat) (h : a < i) : gt (a : Int) C i = C a := by unfold gt; rw [if_pos (by omega)]; simp
theorem looked_since (M : MS) (r i : Nat) : (M.looked r i).es.drop M.es.length = (List.range i).map (fun a => (r, a, false)) := List.drop_left
theorem anew_since (M : MS) (r b : Nat) (f : Nat → Int) (on : Bool) (i : Nat) : (M.anew r b f on i).es.drop M.es.length = scanW r i := List.drop_left
theorem size_right (M : MS) (r : Int) : 0 < M.size r → r = (r.toNat : Int) := fun h => by
  obtain ⟨q, rfl, _, _⟩ := MS.size_pos h
  rfl
/-- Since, behind a scan that reads. -/
theorem since_reads (X : Nat → Prop) (p : Nat) (M : MS) (r : Int) (s lm : Nat) (w : World) (h : Own w X p (M.looked r.toNat s)) (hr : 0 < s → r = (r.toNat : Int)) (hm : M.es.length = lm) (hl : lm + s < 1000000000) :
    Calls Try.prog 28 #[.pointer (some ⟨p, 0, none⟩), .int .i64 (lm : Int)] w fun e w' => ∃ A cap, e = .returned (.slice A s cap) ∧ IView w' A (ireads r s) ∧ Only nobody w w' := by
  subst hm
  refine (own_since X p _ w (M.es.length : Int) h (by rw [looked_len]; omega)).mono ?_
  rw [cut_nat _ _ (by rw [looked_len]; omega), looked_since]
  rintro e w' ⟨A, cap, rfl, ht, ho, _⟩
  refine ⟨A, cap, by simp, ?_, ho⟩
  have hv := ht.view.i
  rw [← ireads_nat] at hv
  by_cases hs : 0 < s
  · rw [← hr hs] at hv; exact hv
  · obtain rfl : s = 0 := by omega
    exact fun k => absurd rfl k
/-- Since, behind a scan that writes. -/
theorem since_writes (X : Nat → Prop) (p : Nat) (M : MS) (r : Int) (b : Nat) (f : Nat → Int) (on : Bool) (s lm : Nat) (w : World) (h : Own w X p (M.anew r.toNat b f on s)) (hr : 0 < s → r = (r.toNat : Int)) (hm : M.es.length = lm) (hl : lm + s * 2 < 1000000000) :
    Calls Try.prog 28 #[.pointer (some ⟨p, 0, none⟩), .int .i64 (lm : Int)] w fun e w' => ∃ A cap, e = .returned (.slice A (s * 2) cap) ∧ IView w' A (iwrites r s) ∧ Only nobody w w' := by
  subst hm
  refine (own_since X p _ w (M.es.length : Int) h (by rw [anew_len]; omega)).mono ?_
  rw [cut_nat _ _ (by rw [anew_len]; omega), anew_since]
  rintro e w' ⟨A, cap, rfl, ht, ho, _⟩
  refine ⟨A, cap, by rw [scanW_len], ?_, ho⟩
  have hv := ht.view.i
  rw [← iwrites_nat] at hv
  by_cases hs : 0 < s
  · rw [← hr hs] at hv; exact hv
  · obtain rfl : s = 0 := by omega
    exact fun k => absurd rfl k
section
variable (X : Nat → Prop) (p q : Nat) (M N : MS) (w : World)
theorem mix_get (r a : Int) (h : Mix w X p M q N) (hwd : M.wd) (a0 : 0 ≤ a) (a1 : a ≤ 18446744073709551615) (hl : M.es.length + M.size r < 1000000000) :
    Calls Try.prog 10 #[.pointer (some ⟨p, 0, none⟩), .int .i64 r, .int .u64 a] w (MixPost w X p (M.looked r.toNat (M.size r)) q N (.agg (CA (gt a (M.c r.toNat) (M.size r))))) := by
  obtain ⟨G, ho, hn, hG⟩ := h
  exact (get_any _ p M r a w ho hwd a0 a1 hl).mono fun e w' h => mix_done hn hG h
theorem mix_put (r a : Int) (f : Nat → Int) (on : Bool) (h : Mix w X p M q N) (hwd : M.wd) (hf : Wd f) (a0 : 0 ≤ a) (a1 : a ≤ 18446744073709551615) (hl : M.es.length + M.size r * 2 < 1000000000) :
    Calls Try.prog 12 #[.pointer (some ⟨p, 0, none⟩), .int .i64 r, .int .u64 a, .agg (CA f), .int .u64 (msk on)] w (MixPost w X p (M.anew r.toNat a.toNat f on (M.size r)) q N (.tuple #[])) := by
  obtain ⟨G, ho, hn, hG⟩ := h
  exact (put_any _ p M r a f on w ho hwd hf a0 a1 hl).mono fun e w' h => mix_done hn hG h
theorem mix_find (r key n : Int) (h : Mix w X p M q N) (hwd : M.wd) (h1 : -9223372036854775808 ≤ key) (h2 : key ≤ 9223372036854775807) (n0 : 0 ≤ n) (n1 : n ≤ 18446744073709551615) (hl : M.es.length + M.size r < 1000000000) :
    Calls Try.prog 15 #[.pointer (some ⟨p, 0, none⟩), .int .i64 r, .int .i64 key, .int .u64 n] w (MixPost w X p (M.looked r.toNat (M.size r)) q N (fndV key n (M.c r.toNat) (M.size r))) := by
  obtain ⟨G, ho, hn, hG⟩ := h
  exact (find_any _ p M r key n w ho hwd h1 h2 n0 n1 hl).mono fun e w' h => mix_done hn hG h
theorem mix_count (r key n : Int) (h : Mix w X p M q N) (hwd : M.wd) (h1 : -9223372036854775808 ≤ key) (h2 : key ≤ 9223372036854775807) (n0 : 0 ≤ n) (n1 : n ≤ 18446744073709551615) (hl : M.es.length + M.size r < 1000000000) :
    Calls Try.prog 18 #[.pointer (some ⟨p, 0, none⟩), .int .i64 r, .int .i64 key, .int .u64 n] w (MixPost w X p (M.looked r.toNat (M.size r)) q N (.int .i64 (cnt (hs key n (M.c r.toNat)) (M.size r) : Int))) := by
  obtain ⟨G, ho, hn, hG⟩ := h
  exact (count_any _ p M r key n w ho hwd h1 h2 n0 n1 hl).mono fun e w' h => mix_done hn hG h
end
/-- A load of a whole cell whose guard says yes. -/
theorem wpList_load_want {ops : Array Oper} {rest : List Oper} {op : Oper} {a : Act} {w : World} {Q : Exit → Act → World → Prop} (hw : Region.wanted op (yielded ops a.tmps) = true) (x : Operand) (ho : op.op = .load 30 x)
    (b o : Nat) (hx : a.eval x = .pointer (some ⟨b, o, none⟩)) (f : Nat → Int) (hr : w.rangeAt b o (CA f).toList)
    (h : wpList Try.prog ops Q rest (a.put op.dst (.agg (CA f))) w) : wpList Try.prog ops Q (op :: rest) a w :=
  BigFrame.wpList_want hw fun _ hK => wp_load_mid 30 x ho b o hx (CA f).toList _ hr Try.underlying30 rfl (infoCellL f) (hK _ _ h)
/-- Is there one among the first? -/
def anyb (P : Nat → Bool) : Nat → Bool
  | 0 => false
  | j + 1 => anyb P j || P j
theorem anyb_succ (P : Nat → Bool) (j : Nat) : anyb P (j + 1) = (anyb P j || P j) := rfl
theorem anyb_false (P : Nat → Bool) : ∀ k, (∀ j, j < k → P j = false) → anyb P k = false
  | 0, _ => rfl
  | k + 1, h => by rw [anyb_succ, anyb_false P k (fun j hj => h j (by omega)), h k (by omega)]; rfl
theorem anyb_true (P : Nat → Bool) : ∀ k j, j < k → P j = true → anyb P k = true
  | 0, j, hj, _ => by omega
  | k + 1, j, hj, h => by
    rw [anyb_succ]
    by_cases e : j = k
    · subst e; rw [h, Bool.or_true]
    · rw [anyb_true P k j (by omega) h]; rfl
/-- Where one is, the first one is found, no later; it is that one just if there is none ahead. -/
theorem fnd_first (P : Nat → Bool) (C : Nat → Nat → Int) (s k : Nat) (hk : k < s) (h : P k = true) :
    (fnd P C s).2.2 = true ∧ (fnd P C s).1 ≤ k ∧ (fnd P C s).2.1 = C (fnd P C s).1 ∧ P (fnd P C s).1 = true ∧ decide ((fnd P C s).1 = k) = !anyb P k := by
  have h1 : (fnd P C s).2.2 = true := by
    cases hf : (fnd P C s).2.2
    · have := (fnd_none P C s hf).2 k hk
      rw [h] at this; cases this
    · rfl
  obtain ⟨h2, h3, h4, h5⟩ := fnd_some P C s h1
  have h6 : (fnd P C s).1 ≤ k := Nat.le_of_not_lt fun e => by have := h5 k e; rw [h] at this; cases this
  refine ⟨h1, h6, h3, h4, ?_⟩
  by_cases e : (fnd P C s).1 = k
  · rw [decide_eq_true e, anyb_false P k (fun j hj => h5 j (by omega))]; rfl
  · rw [decide_eq_false e, anyb_true P k _ (by omega) h4]; rfl
end Go.Proofs.Ytgppediikggogaa
