/- Texts of ours put together: LevelStep. -/
import Derived.Test.YtloibfdcahmhjaaGreatG34
namespace Go.Proofs.YtloibfdcahmhjaaGreat
set_option maxRecDepth 100000
open Go.RowKit Go.ChangeShapes Go.WideShapes Go.ChangeAt Go.Maps

theorem DA_congr {d e : Nat → Int} (h : ∀ i, i < 8 → d i = e i) : DA d = DA e := by
  unfold DA
  rw [h 0 (by decide), h 1 (by decide), h 2 (by decide), h 3 (by decide), h 4 (by decide), h 5 (by decide), h 6 (by decide), h 7 (by decide)]
theorem cellB_data (id : Int) (b : Option (Nat × (Nat → Int))) : DA (fun i => cellB id b (3 + i)) = DA (dat b) := by
  cases b with
  | none => rfl
  | some b =>
    refine DA_congr fun i hi => ?_
    show blk id b.1 b.2 (3 + i) = b.2 i
    unfold blk
    rw [if_neg (by omega), if_neg (by omega), if_neg (by omega), if_pos (by omega), show 3 + i - 3 = i by omega]
theorem cellB_has (id : Int) (b : Option (Nat × (Nat → Int))) : (cellB id b 0 == 1) = b.isSome := by
  cases b <;> rfl
def nextB (m : Bm) (a : Ask) : Bm := setB m a.id (newM a.op a.at' a.to.toNat a.d (m a.id))
section
variable {N S T D L n Q P : Nat} {f : Nat} {M : MS} {m : Bm} {a : Ask} {o : List Nat}
theorem ask_was (h : Conf N S T D L n Q P) (hI : LvInv S D T (cellsE f M.c) m) (ha : a.ok N = true) (hat : ∀ l d, m a.id = some (l, d) → (l : Int) = a.lf) : wasA S D T f a.lf.toNat a.id M = cellB a.id (m a.id) := by
  obtain ⟨h1, h2, h3, h4, h5⟩ := ask_of ha
  have hN := h.hN
  exact hI.told h.s1 (lf := a.lf.toNat) (by omega) (fun l d e => by have := hat l d e; omega)
theorem ask_put (h : Conf N S T D L n Q P) (hI : LvInv S D T (cellsE f M.c) m) (ha : a.ok N = true) (hat : ∀ l d, m a.id = some (l, d) → (l : Int) = a.lf) : nbA S D T f a.lf.toNat a.op a.id a.at' a.to a.d M = cellB a.id (newM a.op a.at' a.to.toNat a.d (m a.id)) := by
  obtain ⟨h1, h2, h3, h4, h5⟩ := ask_of ha
  unfold nbA
  rw [ask_was h hI ha hat]
  obtain ⟨to, hto⟩ : ∃ to : Nat, a.to = (to : Int) := ⟨a.to.toNat, by omega⟩
  rw [hto]
  exact newB_cell _ h1 h5
theorem newM_leaf {op at' : Int} {to : Nat} {d : Nat → Int} {b : Option (Nat × (Nat → Int))} {l : Nat} {e : Nat → Int} (h : newM op at' to d b = some (l, e)) : l = to := by
  unfold newM at h
  split at h
  · cases h
  · split at h
    · cases b with
      | none => cases h
      | some b => injection h with h; injection h with h _; exact h.symm
    · split at h
      · injection h with h; injection h with h _; exact h.symm
      · injection h with h; injection h with h _; exact h.symm
theorem ask_next (h : Conf N S T D L n Q P) (hI : LvInv S D T (cellsE f M.c) m) (ha : a.ok N = true) (hi : 0 ≤ a.id) (hat : ∀ l d, m a.id = some (l, d) → (l : Int) = a.lf) (ho : IsOrd (acT S D T f n P a M) n o) (hov : acO N S D T f n P a M o = false) :
    LvInv S D T (cellsE f (acM N S D T f P a M o).c) (nextB m a) := by
  obtain ⟨h1, h2, h3, h4, h5⟩ := ask_of ha
  have hN := h.hN
  have hlf : a.lf.toNat < 2 ^ D := by omega
  have hn : n = (D + 1) * S + T + 1 := by have := h.hL; have := h.hn; omega
  have hP : n ≤ 2 ^ P := by have := h.le; have := h.hQ; omega
  have hp := ask_put h hI ha hat
  have hlost : lostO (acT S D T f n P a M) S D T o = [] := by
    unfold acO at hov
    rw [ha, Bool.true_and] at hov
    cases e : lostO (acT S D T f n P a M) S D T o with
    | nil => rfl
    | cons x l => rw [e] at hov; cases hov
  have e1 : acM N S D T f P a M o = M.gone (accC S D T f P a.lf.toNat a.id (nbA S D T f a.lf.toNat a.op a.id a.at' a.to a.d M) o M.c) (evA S D T f P a.lf.toNat) := by unfold acM; rw [ha]; rfl
  rw [e1]
  have ho' : IsOrd (tabI D n P (dpW D a.lf.toNat) (laidX S D T a.lf.toNat (cellsE f M.c) a.id (cellB a.id (newM a.op a.at' a.to.toNat a.d (m a.id))))) n o := by rw [← hp]; exact ho
  have hl' : lostO (tabI D n P (dpW D a.lf.toNat) (laidX S D T a.lf.toNat (cellsE f M.c) a.id (cellB a.id (newM a.op a.at' a.to.toNat a.d (m a.id))))) S D T o = [] := by rw [← hp]; exact hlost
  unfold nextB
  refine hI.next h.s1 h.hD hlf (fun l d e => by have := hat l d e; omega) ⟨hi, h4⟩ (newM a.op a.at' a.to.toNat a.d (m a.id)) (fun l e he => ?_) hn hP ho' hl' (fun i hi => ?_) (fun q hq hf => ?_)
  · have := newM_leaf he
    omega
  · subst hn
    rw [← hp]
    exact acc_at h.s1 hlf hi
  · exact acc_way (by rcases hq with e | e <;> omega) hf
theorem ask_room (h : Conf N S T D L n Q P) (hI : LvInv S D T (cellsE f M.c) m) (ha : a.ok N = true) (hat : ∀ l d, m a.id = some (l, d) → (l : Int) = a.lf) (ho : IsOrd (acT S D T f n P a M) n o)
    (J : List Int) (hJ : ∀ id' b, nextB m a id' = some b → id' ∈ J) (hlen : J.length ≤ T) : acO N S D T f n P a M o = false := by
  obtain ⟨h1, h2, h3, h4, h5⟩ := ask_of ha
  have hN := h.hN
  have hlf : a.lf.toNat < 2 ^ D := by omega
  have hn : n = (D + 1) * S + T + 1 := by have := h.hL; have := h.hn; omega
  have hP : n ≤ 2 ^ P := by have := h.le; have := h.hQ; omega
  have hp := ask_put h hI ha hat
  have ho' : IsOrd (tabI D n P (dpW D a.lf.toNat) (laidX S D T a.lf.toNat (cellsE f M.c) a.id (cellB a.id (newM a.op a.at' a.to.toNat a.d (m a.id))))) n o := by rw [← hp]; exact ho
  have := hI.room h.s1 hlf (newM a.op a.at' a.to.toNat a.d (m a.id)) hn hP ho' J hJ hlen
  rw [← hp] at this
  unfold acO
  rw [show lostO (acT S D T f n P a M) S D T o = [] from this]
  cases a.ok N <;> rfl
end
section
variable {H : Type} {N S D T Q : Nat} {X : Nat → Prop} {mp lp bm f : Nat} {ov : Bool} {I : List Int} {M : MS} {k : Nat} {w w' : World}
end
end Go.Proofs.YtloibfdcahmhjaaGreat

