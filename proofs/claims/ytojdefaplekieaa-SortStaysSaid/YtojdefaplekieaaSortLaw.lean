/- What the laws of layer 6 share: a right call with its numbers, what is told since, two memories side by side. -/
import Derived.Test.YtojdefaplekieaaSortShown
import Derived.Test.YtojdefaplekieaaSortEvents
import Derived.Test.YtojdefaplekieaaMemDuo
namespace Go.Proofs.Ytojdefaplekieaa
open Go.RowKit Go.ChangeShapes Go.WideShapes Go.ChangeAt

theorem shl_one (L n : Nat) (hn : 2 ^ L = n) (h1 : n ≤ 1024) : wrap64 ((2 : Int) ^ L) = (n : Int) := by
  have e : ((2 : Int) ^ L) = (n : Int) := by rw [← hn]; simp
  rw [e]; unfold wrap64; omega
/-- A right call, by its number of cells. -/
theorem run_n (X : Nat → Prop) (p : Nat) (M : MS) (r κ P n : Nat) (w : World) (h : Own w X p M) (hn : 2 ^ P = n) (hP : P ≤ 10) (hr : r < M.k) (hs : n ≤ M.sz r) (hκ : κ < 12) (hwd : M.wd) (hl : M.es.length < 900000000) :
    Calls Try.prog 11 #[.pointer (some ⟨p, 0, none⟩), .int .i64 (r : Int), .int .i64 (n : Int), .int .i64 (κ : Int)] w (OwnPost w X p (M.sorted r κ (netL P)) (.int .i64 0)) := by
  subst hn
  exact run_net X p M r κ P w h hP hr hs hκ hwd hl
theorem netL_short (P : Nat) (hP : P ≤ 10) : (netL P).length ≤ 28160 := Net.len ⟨.inl ⟨P, hP, rfl, rfl, rfl⟩⟩
theorem cut_nat (n k : Nat) (h : k ≤ n) : cut n (k : Int) = k := by unfold cut; split <;> (try split) <;> omega
theorem sorted_since (M : MS) (r κ : Nat) (ps : List Pr) : (M.sorted r κ ps).es.drop M.es.length = looks r ps := List.drop_left
/-- Two slices of the same events. -/
theorem same_told (A A' : Option Addr) (n cap cap' : Nat) (l l' : List IEv) (w : World) (e : l.length = n) (hl : l = l') (h : IView w A l) (h' : IView w A' l') (hn : n ≤ 1000000000) :
    Calls Try.prog 14 #[.slice A n cap, .slice A' n cap'] w fun e w' => e = .returned (.bool true) ∧ Only nobody w w' := by
  subst hl
  have := isame_len A A' n n cap cap' l l w e e h h' hn
  rw [decide_eq_true rfl] at this
  refine this.mono ?_
  rintro e w' ⟨rfl, k, rfl⟩
  exact ⟨rfl, (Only.refl nobody w).drewN k⟩
/-- Since, behind a run. -/
theorem since_run (X : Nat → Prop) (p : Nat) (M : MS) (r κ : Nat) (ps : List Pr) (lm : Nat) (w : World) (h : Own w X p (M.sorted r κ ps)) (hm : M.es.length = lm) (hl : lm + ps.length * 4 < 1000000000) :
    Calls Try.prog 13 #[.pointer (some ⟨p, 0, none⟩), .int .i64 (lm : Int)] w fun e w' => ∃ A cap, e = .returned (.slice A (ps.length * 4) cap) ∧ IView w' A (ilooks (r : Int) ps) ∧ Only nobody w w' := by
  subst hm
  refine (own_since X p _ w (M.es.length : Int) h (by rw [sorted_len]; omega)).mono ?_
  rw [cut_nat _ _ (by rw [sorted_len]; omega), sorted_since]
  rintro e w' ⟨A, cap, rfl, ht, ho, _⟩
  refine ⟨A, cap, by rw [looks_len], ?_, ho⟩
  rw [ilooks_nat]
  exact ht.view.i
/-- Since, where nothing was looked at. -/
theorem since_none (X : Nat → Prop) (p : Nat) (M : MS) (lm : Nat) (w : World) (h : Own w X p M) (hm : M.es.length = lm) (hl : lm < 1000000000) :
    Calls Try.prog 13 #[.pointer (some ⟨p, 0, none⟩), .int .i64 (lm : Int)] w fun e w' => ∃ A cap, e = .returned (.slice A 0 cap) ∧ Only nobody w w' := by
  subst hm
  refine (own_since X p _ w (M.es.length : Int) h hl).mono ?_
  rw [cut_nat _ _ (Nat.le_refl _), List.drop_length]
  rintro e w' ⟨A, cap, rfl, ht, ho, _⟩
  exact ⟨A, cap, rfl, ho⟩
section
variable (X : Nat → Prop) (p q : Nat) (M N : MS) (w : World)
theorem duo_run (r κ P n : Nat) (h : Duo w X p M q N) (hn : 2 ^ P = n) (hP : P ≤ 10) (hr : r < M.k) (hs : n ≤ M.sz r) (hκ : κ < 12) (hwd : M.wd) (hl : M.es.length < 900000000) :
    Calls Try.prog 11 #[.pointer (some ⟨p, 0, none⟩), .int .i64 (r : Int), .int .i64 (n : Int), .int .i64 (κ : Int)] w (DuoPost w X p (M.sorted r κ (netL P)) q N (.int .i64 0)) := by
  obtain ⟨G, ho, hn', hG⟩ := h
  exact (run_n _ p M r κ P n w ho hn hP hr hs hκ hwd hl).mono fun e w' h => duo_done hn' hG h
end
/-- Two memories that were laid one behind the other. -/
theorem laid_duo {w1 w2 : World} {X : Nat → Prop} {p q p2 q2 : Nat} {M M' N N' : MS} (h : Mix w1 X p M q M') (ho : Only nobody w1 w2) (hn : Mix w2 (old w1) p2 N q2 N') : Duo w2 X p M p2 N := duo_new h.left ho hn.left
end Go.Proofs.Ytojdefaplekieaa
