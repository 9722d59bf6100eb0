/- What pairs make of a memory: two cells read, turned where they are to be, written; its events. Plain facts; no function is called here. -/
import Derived.Test.YtojdefaplekieaaMemOwn
import Derived.Test.YtojdefaplekieaaMemVals
import Derived.Test.YtojdefaplekieaaSortOrder
import Derived.Test.YtojdefaplekieaaPrs
namespace Go.Proofs.Ytojdefaplekieaa
open Go.RowKit

/-- A memory of which one region was sent through pairs. -/
def MS.sorted (M : MS) (r κ : Nat) (ps : List Pr) : MS := { M with c := fun r' => if r' = r then runC κ ps (M.c r) else M.c r', es := M.es ++ looks r ps }
theorem sorted_nil (M : MS) (r κ : Nat) : M.sorted r κ [] = M := by
  unfold MS.sorted
  have h1 : (fun r' => if r' = r then runC κ [] (M.c r) else M.c r') = M.c := by
    funext r'
    by_cases e : r' = r
    · subst e; rw [if_pos rfl]; rfl
    · rw [if_neg e]
  rw [h1]
  simp [looks]
theorem sorted_len (M : MS) (r κ : Nat) (ps : List Pr) : (M.sorted r κ ps).es.length = M.es.length + ps.length * 4 := by
  show (M.es ++ looks r ps).length = _
  rw [List.length_append, looks_len]
/-- One pair. -/
theorem sorted_step (M : MS) (r κ : Nat) (ps : List Pr) (q : Pr) (hr : r < M.k) (h1 : q.1 < q.2.1) (h2 : q.2.1 < M.sz r) :
    ((((M.sorted r κ ps).read (r : Int) (q.1 : Nat)).read (r : Int) (q.2.1 : Nat)).write (r : Int) (q.1 : Nat)
      (if turned κ q.2.2 ((M.sorted r κ ps).cell (r : Int) (q.1 : Nat)) (((M.sorted r κ ps).read (r : Int) (q.1 : Nat)).cell (r : Int) (q.2.1 : Nat)) then ((M.sorted r κ ps).read (r : Int) (q.1 : Nat)).cell (r : Int) (q.2.1 : Nat) else (M.sorted r κ ps).cell (r : Int) (q.1 : Nat))).write (r : Int) (q.2.1 : Nat)
      (if turned κ q.2.2 ((M.sorted r κ ps).cell (r : Int) (q.1 : Nat)) (((M.sorted r κ ps).read (r : Int) (q.1 : Nat)).cell (r : Int) (q.2.1 : Nat)) then (M.sorted r κ ps).cell (r : Int) (q.1 : Nat) else ((M.sorted r κ ps).read (r : Int) (q.1 : Nat)).cell (r : Int) (q.2.1 : Nat)) = M.sorted r κ (ps ++ [q]) := by
  obtain ⟨a, b, u⟩ := q
  dsimp only at *
  have hit : ∀ (N : MS) (x : Nat), N.k = M.k → N.sz = M.sz → x < M.sz r → N.hit (r : Int) (x : Int) = true := fun N x e1 e2 hx => MS.hit_of (by rw [e1]; exact hr) (by rw [e2]; exact hx)
  have c0 : ∀ (N : MS) (x : Nat), N.k = M.k → N.sz = M.sz → x < M.sz r → N.cell (r : Int) (x : Int) = N.c r x := fun N x e1 e2 hx => by
    unfold MS.cell; rw [if_pos (hit N x e1 e2 hx)]; simp
  have r0 : ∀ (N : MS) (x : Nat), N.k = M.k → N.sz = M.sz → x < M.sz r → N.read (r : Int) (x : Int) = N.see r x false := fun N x e1 e2 hx => by
    unfold MS.read; rw [if_pos (hit N x e1 e2 hx)]; simp
  have w0 : ∀ (N : MS) (x : Nat) (f : Nat → Int), N.k = M.k → N.sz = M.sz → x < M.sz r → N.write (r : Int) (x : Int) f = (N.see r x true).put r x f := fun N x f e1 e2 hx => by
    unfold MS.write; rw [if_pos (hit N x e1 e2 hx)]; simp
  rw [c0 (M.sorted r κ ps) a rfl rfl (by omega), r0 (M.sorted r κ ps) a rfl rfl (by omega), c0 ((M.sorted r κ ps).see r a false) b rfl rfl h2, r0 ((M.sorted r κ ps).see r a false) b rfl rfl h2, w0 (((M.sorted r κ ps).see r a false).see r b false) a _ rfl rfl (by omega), w0 (((((M.sorted r κ ps).see r a false).see r b false).see r a true).put r a _) b _ rfl rfl h2]
  have hc : ∀ x, ((M.sorted r κ ps).see r a false).c r x = runC κ ps (M.c r) x := fun x => by
    show (if r = r then runC κ ps (M.c r) else M.c r) x = _
    rw [if_pos rfl]
  have hc' : ∀ x, (M.sorted r κ ps).c r x = runC κ ps (M.c r) x := fun x => by
    show (if r = r then runC κ ps (M.c r) else M.c r) x = _
    rw [if_pos rfl]
  rw [hc, hc']
  unfold MS.sorted MS.see MS.put
  dsimp only
  rw [runC_snoc, looks_snoc]
  congr 1
  · funext r' x
    by_cases e : r' = r
    · subst e
      have hne : ¬ b = a := by omega
      by_cases e1 : x = b
      · subst e1
        simp [exC, hne]
      · by_cases e2 : x = a
        · subst e2
          simp [exC, e1]
        · simp [exC, e1, e2]
    · rw [if_neg (fun h => e h.1), if_neg (fun h => e h.1), if_neg e, if_neg e]
  · simp
/-- All words of a memory are words of 64 bits. -/
def MS.wd (M : MS) : Prop := ∀ r a, Wd (M.c r a)
theorem wd_sorted {M : MS} (h : M.wd) (r κ : Nat) (ps : List Pr) (hw : ∃ n, Within n ps) : (M.sorted r κ ps).wd := by
  intro r' a
  show Wd ((if r' = r then runC κ ps (M.c r) else M.c r') a)
  by_cases e : r' = r
  · rw [if_pos e]
    obtain ⟨n, hn⟩ := hw
    by_cases ha : a < n
    · exact runC_all κ n ps (M.c r) hn Wd (fun j _ => h r j) a ha
    · rw [runC_far κ n ps (M.c r) hn a (by omega)]; exact h r a
  · rw [if_neg e]; exact h r' a
theorem wd_zero : Wd (fun _ => 0) := fun _ => ⟨Int.le_refl 0, by show (0 : Int) ≤ 18446744073709551615; omega⟩
theorem wd_cell {M : MS} (h : M.wd) (r a : Int) : Wd (M.cell r a) := by
  unfold MS.cell
  split
  · exact h _ _
  · exact wd_zero
theorem wd_read {M : MS} (h : M.wd) (r a : Int) : (M.read r a).wd := by
  unfold MS.read
  split
  · exact h
  · exact h
theorem wd_write {M : MS} (h : M.wd) (r a : Int) (f : Nat → Int) (hf : Wd f) : (M.write r a f).wd := by
  unfold MS.write
  split
  · intro r' a'
    show Wd (if r' = r.toNat ∧ a' = a.toNat then f else M.c r' a')
    split
    · exact hf
    · exact h r' a'
  · exact h
theorem take_snoc {α : Type} (l : List α) (i : Nat) (hi : i < l.length) : l.take (i + 1) = l.take i ++ [l[i]] := by
  rw [List.take_add_one, List.getElem?_eq_getElem hi]; rfl
end Go.Proofs.Ytojdefaplekieaa
