/- Texts of ours put together: SortMem, LevelAcc, SortEvents, SortRun, SortWrong, SortRefEvents. -/
import Derived.Below
import Derived.BigQuiet
import Derived.BigRegion
import Derived.ChangeKeysEq
import Derived.ChangeSlices
import Derived.Deep.Draws
import Derived.Deep.MidRow
import Derived.Deep.OwnRows
import Derived.Deep.Quiet
import Derived.Deep.QuietTactic
import Derived.Deep.RegionHeld
import Derived.Deep.RegionHeld3
import Derived.Deep.WholeRow
import Derived.Laws.AppendOwn
import Derived.Laws.BitsAllLaws
import Derived.Laws.StructEq
import Derived.Lib.BitFns
import Derived.Lib.Hide
import Derived.LoopIn
import Derived.LoopNIn
import Derived.Maps.AppendAt
import Derived.OpenShut
import Derived.OwnWalk
import Derived.OwnWalkIn
import Derived.ProofKit
import Derived.RangeFuncBound
import Derived.RangeFuncCalls
import Derived.RangeFuncLeaves
import Derived.RangeFuncNested
import Derived.RegionTactic
import Derived.RowKit3
import Derived.Shelf.Abstract
import Derived.Shelf.RegionOpen
import Derived.Shelf.Spec.BitsCarry
import Derived.SizedLaws
import Derived.StillTailTactics
import Derived.TacticsInMore
import Derived.WalkKit
import Derived.Test.YtmageeohnfomnaaGreatProg
import Derived.Test.YtmageeohnfomnaaGreatG0
import Derived.Test.YtmageeohnfomnaaGreatG21
import Derived.Test.YtmageeohnfomnaaGreatG5
import Derived.Test.YtmageeohnfomnaaGreatG2
import Derived.Test.YtmageeohnfomnaaGreatG10
import Derived.Test.YtmageeohnfomnaaGreatG24
import Derived.Test.YtmageeohnfomnaaGreatG23
import Derived.Test.YtmageeohnfomnaaGreatG25
import Derived.Test.YtmageeohnfomnaaGreatG6
import Derived.Test.YtmageeohnfomnaaGreatG26
import Derived.Test.YtmageeohnfomnaaGreatG14
import Derived.Test.YtmageeohnfomnaaGreatG1
import Derived.Test.YtmageeohnfomnaaGreatG22
import Derived.Test.YtmageeohnfomnaaGreatG11
import Derived.Test.YtmageeohnfomnaaGreatG40
namespace Go.Proofs.YtmageeohnfomnaaGreat
set_option maxRecDepth 100000
open Go.RowKit

def MS.sorted (M : MS) (r κ : Nat) (ps : List Pr) : MS := { M with c := fun r' => if r' = r then runC κ ps (M.c r) else M.c r', es := M.es ++ looks r ps }
theorem sorted_nil (M : MS) (r κ : Nat) : M.sorted r κ [] = M := by
  unfold MS.sorted
  have h1 : (fun r' => if r' = r then runC κ [] (M.c r) else M.c r') = M.c := by
    funext r'
    by_cases e : r' = r
    · subst e; rw [if_pos rfl]; rfl
    · rw [if_neg e]
  rw [h1]
  simp [looks]
theorem sorted_len (M : MS) (r κ : Nat) (ps : List Pr) : (M.sorted r κ ps).es.length = M.es.length + ps.length * 4 := by
  show (M.es ++ looks r ps).length = _
  rw [List.length_append, looks_len]
theorem sorted_step (M : MS) (r κ : Nat) (ps : List Pr) (q : Pr) (hr : r < M.k) (h1 : q.1 < q.2.1) (h2 : q.2.1 < M.sz r) :
    ((((M.sorted r κ ps).read (r : Int) (q.1 : Nat)).read (r : Int) (q.2.1 : Nat)).write (r : Int) (q.1 : Nat)
      (if turned κ q.2.2 ((M.sorted r κ ps).cell (r : Int) (q.1 : Nat)) (((M.sorted r κ ps).read (r : Int) (q.1 : Nat)).cell (r : Int) (q.2.1 : Nat)) then ((M.sorted r κ ps).read (r : Int) (q.1 : Nat)).cell (r : Int) (q.2.1 : Nat) else (M.sorted r κ ps).cell (r : Int) (q.1 : Nat))).write (r : Int) (q.2.1 : Nat)
      (if turned κ q.2.2 ((M.sorted r κ ps).cell (r : Int) (q.1 : Nat)) (((M.sorted r κ ps).read (r : Int) (q.1 : Nat)).cell (r : Int) (q.2.1 : Nat)) then (M.sorted r κ ps).cell (r : Int) (q.1 : Nat) else ((M.sorted r κ ps).read (r : Int) (q.1 : Nat)).cell (r : Int) (q.2.1 : Nat)) = M.sorted r κ (ps ++ [q]) := by
  obtain ⟨a, b, u⟩ := q
  dsimp only at *
  have hit : ∀ (N : MS) (x : Nat), N.k = M.k → N.sz = M.sz → x < M.sz r → N.hit (r : Int) (x : Int) = true := fun N x e1 e2 hx => MS.hit_of (by rw [e1]; exact hr) (by rw [e2]; exact hx)
  have c0 : ∀ (N : MS) (x : Nat), N.k = M.k → N.sz = M.sz → x < M.sz r → N.cell (r : Int) (x : Int) = N.c r x := fun N x e1 e2 hx => by
    unfold MS.cell; rw [if_pos (hit N x e1 e2 hx)]; simp
  have r0 : ∀ (N : MS) (x : Nat), N.k = M.k → N.sz = M.sz → x < M.sz r → N.read (r : Int) (x : Int) = N.see r x false := fun N x e1 e2 hx => by
    unfold MS.read; rw [if_pos (hit N x e1 e2 hx)]; simp
  have w0 : ∀ (N : MS) (x : Nat) (f : Nat → Int), N.k = M.k → N.sz = M.sz → x < M.sz r → N.write (r : Int) (x : Int) f = (N.see r x true).put r x f := fun N x f e1 e2 hx => by
    unfold MS.write; rw [if_pos (hit N x e1 e2 hx)]; simp
  rw [c0 (M.sorted r κ ps) a rfl rfl (by omega), r0 (M.sorted r κ ps) a rfl rfl (by omega), c0 ((M.sorted r κ ps).see r a false) b rfl rfl h2, r0 ((M.sorted r κ ps).see r a false) b rfl rfl h2, w0 (((M.sorted r κ ps).see r a false).see r b false) a _ rfl rfl (by omega), w0 (((((M.sorted r κ ps).see r a false).see r b false).see r a true).put r a _) b _ rfl rfl h2]
  have hc : ∀ x, ((M.sorted r κ ps).see r a false).c r x = runC κ ps (M.c r) x := fun x => by
    show (if r = r then runC κ ps (M.c r) else M.c r) x = _
    rw [if_pos rfl]
  have hc' : ∀ x, (M.sorted r κ ps).c r x = runC κ ps (M.c r) x := fun x => by
    show (if r = r then runC κ ps (M.c r) else M.c r) x = _
    rw [if_pos rfl]
  rw [hc, hc']
  unfold MS.sorted MS.see MS.put
  dsimp only
  rw [runC_snoc, looks_snoc]
  congr 1
  · funext r' x
    by_cases e : r' = r
    · subst e
      have hne : ¬ b = a := by omega
      by_cases e1 : x = b
      · subst e1
        simp [exC, hne]
      · by_cases e2 : x = a
        · subst e2
          simp [exC, e1]
        · simp [exC, e1, e2]
    · rw [if_neg (fun h => e h.1), if_neg (fun h => e h.1), if_neg e, if_neg e]
  · simp
theorem wd_sorted {M : MS} (h : M.wd) (r κ : Nat) (ps : List Pr) (hw : ∃ n, Within n ps) : (M.sorted r κ ps).wd := by
  intro r' a
  show Wd ((if r' = r then runC κ ps (M.c r) else M.c r') a)
  by_cases e : r' = r
  · rw [if_pos e]
    obtain ⟨n, hn⟩ := hw
    by_cases ha : a < n
    · exact runC_all κ n ps (M.c r) hn Wd (fun j _ => h r j) a ha
    · rw [runC_far κ n ps (M.c r) hn a (by omega)]; exact h r a
  · rw [if_neg e]; exact h r' a
end Go.Proofs.YtmageeohnfomnaaGreat


namespace Go.Proofs.YtmageeohnfomnaaGreat
set_option maxRecDepth 100000
open Go.RowKit

def MS.gone (M : MS) (c : Nat → Nat → Cl) (l : List Ev) : MS := { M with c := c, es := M.es ++ l }
def putC (c : Nat → Nat → Cl) (r a : Nat) (g : Cl) : Nat → Nat → Cl := fun r' a' => if r' = r ∧ a' = a then g else c r' a'
section
variable {M : MS} {c : Nat → Nat → Cl} {l : List Ev} {r a : Nat}
theorem gone_self (M : MS) : M.gone M.c [] = M := by unfold MS.gone; rw [List.append_nil]
theorem gone_len : (M.gone c l).es.length = M.es.length + l.length := by unfold MS.gone; simp
theorem gone_hit (hr : r < M.k) (ha : a < M.sz r) : (M.gone c l).hit (r : Int) (a : Int) = true := MS.hit_of (M := M.gone c l) hr ha
theorem gone_cell (hr : r < M.k) (ha : a < M.sz r) : (M.gone c l).cell (r : Int) (a : Int) = c r a := by
  unfold MS.cell; rw [if_pos (gone_hit hr ha)]; simp only [Int.toNat_natCast]; rfl
theorem gone_read (hr : r < M.k) (ha : a < M.sz r) : (M.gone c l).read (r : Int) (a : Int) = M.gone c (l ++ [(r, a, false)]) := by
  unfold MS.read; rw [if_pos (gone_hit hr ha)]
  unfold MS.see MS.gone
  simp only [Int.toNat_natCast, List.append_assoc]
theorem gone_write (hr : r < M.k) (ha : a < M.sz r) (g : Cl) : (M.gone c l).write (r : Int) (a : Int) g = M.gone (putC c r a g) (l ++ [(r, a, true)]) := by
  unfold MS.write; rw [if_pos (gone_hit hr ha)]
  unfold MS.see MS.put MS.gone putC
  simp only [Int.toNat_natCast, List.append_assoc]
theorem gone_sorted (κ : Nat) (ps : List Pr) : (M.gone c l).sorted r κ ps = M.gone (fun r' => if r' = r then runC κ ps (c r) else c r') (l ++ looks r ps) := by
  unfold MS.sorted MS.gone
  simp only [List.append_assoc]
theorem gone_gone (c' : Nat → Nat → Cl) (l' : List Ev) : (M.gone c l).gone c' l' = M.gone c' (l ++ l') := by
  unfold MS.gone; simp only [List.append_assoc]
end
def cT (t : Nat) (X : Nat → Cl) (c : Nat → Nat → Cl) (i : Nat) : Nat → Nat → Cl := fun r a => if r = t ∧ a < i then X a else c r a
section
variable {t : Nat} {X Y : Nat → Cl} {c : Nat → Nat → Cl} {i : Nat}
theorem cT_zero : cT t X c 0 = c := by
  funext r a; unfold cT; rw [if_neg (by omega)]
theorem cT_succ : putC (cT t X c i) t i (X i) = cT t X c (i + 1) := by
  funext r a
  unfold putC cT
  by_cases h : r = t ∧ a = i
  · rw [if_pos h, if_pos ⟨h.1, by omega⟩, h.2]
  · rw [if_neg h]
    by_cases h2 : r = t ∧ a < i
    · rw [if_pos h2, if_pos ⟨h2.1, by omega⟩]
    · rw [if_neg h2, if_neg (by omega)]
theorem cT_far {r a : Nat} (h : r ≠ t) : cT t X c i r a = c r a := by unfold cT; rw [if_neg (fun e => h e.1)]
theorem cT_at {a : Nat} (h : a < i) : cT t X c i t a = X a := by unfold cT; rw [if_pos ⟨rfl, h⟩]
theorem cT_past {a : Nat} (h : ¬ a < i) : cT t X c i t a = c t a := by unfold cT; rw [if_neg (fun e => h e.2)]
theorem cT_over {n : Nat} (h : i = n) : cT t Y (cT t X c n) i = cT t Y c n := by
  subst h
  funext r a; unfold cT
  by_cases h : r = t ∧ a < i
  · rw [if_pos h, if_pos h]
  · rw [if_neg h, if_neg h, if_neg h]
theorem cT_congr (h : ∀ a, a < i → X a = Y a) : cT t X c i = cT t Y c i := by
  funext r a; unfold cT
  by_cases e : r = t ∧ a < i
  · rw [if_pos e, if_pos e, h a e.2]
  · rw [if_neg e, if_neg e]
theorem cT_sorted (κ n : Nat) (ps : List Pr) (hw : Within n ps) : (fun r' => if r' = t then runC κ ps (cT t X c n t) else cT t X c n r') = cT t (runC κ ps X) c n := by
  funext r a
  by_cases h : r = t
  · subst h
    show (if r = r then runC κ ps (cT r X c n r) else _) a = _
    rw [if_pos rfl]
    by_cases ha : a < n
    · rw [cT_at ha]
      exact runC_near κ n ps _ _ hw (fun i hi => cT_at hi) a ha
    · rw [cT_past ha, runC_far κ n ps _ hw a (by omega)]
      exact cT_past ha
  · show (if r = t then _ else cT t X c n r) a = _
    rw [if_neg h, cT_far h, cT_far h]
end
def cG (sp : Nat → Nat × Nat) (Y : Nat → Cl) (c : Nat → Nat → Cl) : Nat → Nat → Nat → Cl
  | 0 => c
  | i + 1 => putC (cG sp Y c i) (sp i).1 (sp i).2 (Y i)
theorem cG_far (sp : Nat → Nat × Nat) (Y : Nat → Cl) (c : Nat → Nat → Cl) (r a : Nat) : ∀ i, (∀ j, j < i → sp j ≠ (r, a)) → cG sp Y c i r a = c r a
  | 0, _ => rfl
  | i + 1, h => by
    unfold cG putC
    rw [if_neg (fun e => h i (by omega) (by rw [e.1, e.2]))]
    exact cG_far sp Y c r a i (fun j hj => h j (by omega))
theorem cG_at (sp : Nat → Nat × Nat) (Y : Nat → Cl) (c : Nat → Nat → Cl) : ∀ i j, j < i → (∀ j', j' < i → sp j' = sp j → j' = j) → cG sp Y c i (sp j).1 (sp j).2 = Y j
  | 0, _, h, _ => absurd h (Nat.not_lt_zero _)
  | i + 1, j, hj, hinj => by
    unfold cG putC
    by_cases e : i = j
    · subst e; rw [if_pos ⟨rfl, rfl⟩]
    · rw [if_neg (fun h => e (hinj i (by omega) (Prod.ext h.1.symm h.2.symm)))]
      exact cG_at sp Y c i j (by omega) (fun j' hj' => hinj j' (by omega))

def spot (S D f lf i : Nat) : Nat × Nat := (f + (wayQ S D lf i).1, (wayQ S D lf i).2)
def cellsE (f : Nat) (c : Nat → Nat → Cl) (q : Pl) : Cl := c (f + q.1) q.2
theorem cellsE_way (S D f lf i : Nat) (c : Nat → Nat → Cl) : cellsE f c (wayQ S D lf i) = c (spot S D f lf i).1 (spot S D f lf i).2 := rfl
def evF (S D T f lf : Nat) : Nat → List Ev
  | 0 => []
  | i + 1 => evF S D T f lf i ++ (if i < (D + 1) * S + T then [((spot S D f lf i).1, (spot S D f lf i).2, false)] else []) ++ [(f + 2, i, true)]
def evE (t : Nat) : Nat → List Ev
  | 0 => []
  | i + 1 => evE t i ++ [(t, i, false)] ++ [(t, i, true)]
def evG (S D f lf : Nat) : Nat → List Ev
  | 0 => []
  | i + 1 => evG S D f lf i ++ [(f + 2, i, false)] ++ [((spot S D f lf i).1, (spot S D f lf i).2, true)]
theorem evF_len (S D T f lf : Nat) : ∀ i, (evF S D T f lf i).length ≤ 2 * i
  | 0 => Nat.le_refl _
  | i + 1 => by
    have := evF_len S D T f lf i
    unfold evF
    rw [List.length_append, List.length_append]
    split
    · simp only [List.length_cons, List.length_nil]; omega
    · simp only [List.length_cons, List.length_nil]; omega
theorem evE_len (t : Nat) : ∀ i, (evE t i).length = 2 * i
  | 0 => rfl
  | i + 1 => by
    have := evE_len t i
    unfold evE
    rw [List.length_append, List.length_append, this]
    simp only [List.length_cons, List.length_nil]; omega
theorem evG_len (S D f lf : Nat) : ∀ i, (evG S D f lf i).length = 2 * i
  | 0 => rfl
  | i + 1 => by
    have := evG_len S D f lf i
    unfold evG
    rw [List.length_append, List.length_append, this]
    simp only [List.length_cons, List.length_nil]; omega
def evA (S D T f P lf : Nat) : List Ev :=
  evF S D T f lf (2 ^ P) ++ evE (f + 2) (2 ^ P) ++ looks (f + 2) (netL P) ++ evE (f + 2) (2 ^ P) ++ looks (f + 2) (netL P) ++ evG S D f lf ((D + 1) * S + T)
def accC (S D T f P lf : Nat) (id : Int) (nb : Cl) (o : List Nat) (c : Nat → Nat → Cl) : Nat → Nat → Cl :=
  cG (spot S D f lf) (tabY S D T ((D + 1) * S + T + 1) P (dpW D lf) (laidX S D T lf (cellsE f c) id nb) o)
    (cT (f + 2) (tab3 S D T ((D + 1) * S + T + 1) P (dpW D lf) (laidX S D T lf (cellsE f c) id nb) o) c (2 ^ P)) ((D + 1) * S + T)
section
variable {S D T f P lf : Nat} {id : Int} {nb : Cl} {o : List Nat} {c : Nat → Nat → Cl}
theorem wayQ_two (i : Nat) : (wayQ S D lf i).1 ≤ 1 := by
  unfold wayQ; split <;> simp
theorem spot_ne (i : Nat) : (spot S D f lf i).1 ≠ f + 2 := by
  have := wayQ_two (S := S) (D := D) (lf := lf) i
  unfold spot
  show f + (wayQ S D lf i).1 ≠ f + 2
  omega
theorem spot_inj (hS : 0 < S) (hf : lf < 2 ^ D) {i j : Nat} (h : spot S D f lf i = spot S D f lf j) : i = j := by
  unfold spot at h
  injection h with h1 h2
  exact wayQ_inj hS hf (Prod.ext (by omega) h2)
theorem acc_at (hS : 0 < S) (hf : lf < 2 ^ D) {i : Nat} (hi : i < (D + 1) * S + T) :
    cellsE f (accC S D T f P lf id nb o c) (wayQ S D lf i) = tabY S D T ((D + 1) * S + T + 1) P (dpW D lf) (laidX S D T lf (cellsE f c) id nb) o i := by
  rw [cellsE_way]
  exact cG_at _ _ _ _ i hi (fun j' _ h => spot_inj hS hf h)
theorem acc_far {r a : Nat} (ht : r ≠ f + 2) (h : ∀ i, i < (D + 1) * S + T → spot S D f lf i ≠ (r, a)) : accC S D T f P lf id nb o c r a = c r a := by
  unfold accC
  rw [cG_far _ _ _ r a _ h, cT_far ht]
theorem acc_way {q : Pl} (hq : q.1 ≤ 1) (h : ∀ i, i < (D + 1) * S + T → wayQ S D lf i ≠ q) : cellsE f (accC S D T f P lf id nb o c) q = cellsE f c q := by
  refine acc_far (by show f + q.1 ≠ f + 2; omega) (fun i hi e => h i hi ?_)
  unfold spot at e
  injection e with e1 e2
  exact Prod.ext (by omega) e2
end
end Go.Proofs.YtmageeohnfomnaaGreat


namespace Go.Proofs.YtmageeohnfomnaaGreat
set_option maxRecDepth 100000
open Go.RowKit Go.ChangeShapes Go.WideShapes Go.ChangeAt

def four4 (r : Int) (p : Pr) : List IEv := [(r, (p.1 : Int), false), (r, (p.2.1 : Int), false), (r, (p.1 : Int), true), (r, (p.2.1 : Int), true)]
def ilooks (r : Int) (ps : List Pr) : List IEv := ps.flatMap (four4 r)
theorem ilooks_len (r : Int) (ps : List Pr) : (ilooks r ps).length = ps.length * 4 := by
  induction ps with
  | nil => rfl
  | cons p ps ih => rw [ilooks, List.flatMap_cons, List.length_append, ← ilooks, ih]; simp [four4]; omega
theorem ilooks_snoc (r : Int) (ps : List Pr) (p : Pr) : ilooks r (ps ++ [p]) = ilooks r ps ++ four4 r p := by simp [ilooks]
def v12 (r : Int) (q : Pr) : List Value := [.int .i64 r, .int .i64 (q.1 : Int), .bool false, .int .i64 r, .int .i64 (q.2.1 : Int), .bool false, .int .i64 r, .int .i64 (q.1 : Int), .bool true, .int .i64 r, .int .i64 (q.2.1 : Int), .bool true]
theorem v12_one (r : Int) (q : Pr) : ∀ u ∈ v12 r q, u.oneCell' = true := by
  intro u hu
  have h : (v12 r q).all (·.oneCell') = true := by simp [v12, Value.oneCell']
  exact List.all_eq_true.1 h u hu
theorem v12_new (W : World) (t : TypeId) (r : Int) (q : Pr) {b : Nat} (hb : b = W.heap.size) : ∀ j u, (v12 r q)[j]? = some u → (W.alloc (.cells (v12 r q).toArray t)).cell? ((⟨b, 0, none⟩ : Addr).add j) = some u := by
  subst hb
  intro j u h
  have hb := Box.new W t (v12 r q).toArray
  have := hb.cell j
  rw [add_plain, Nat.zero_add, this, List.getElem?_toArray]
  exact h
theorem EvAt.next4 {w1 : World} {v : Value} {r : Int} {ps : List Pr} {q : Pr} {A : Option Addr} {cap : Nat} {t : TypeId} {wr wx w7 : World} (h : EvAt w1 v (ilooks r ps) wr) (hx : Below wr.heap.size wr wx)
    (ho : w7.ownsRow w1.heap.size 87 3 (.slice A ((ilooks r ps).length + 4) cap) ((ilooks r ps).length + 4) (ievs (ilooks r ps) ++ v12 r q)) (hg : (wx.alloc (.cells (v12 r q).toArray t)).grownBy w7 v.ownBlock) :
    EvAt w1 (.slice A ((ilooks r ps).length + 4) cap) (ilooks r (ps ++ [q])) w7 := by
  rw [ilooks_snoc]
  exact h.next (m := four4 r q) hx ho hg
theorem Prs.cells {w w' : World} {base : Nat} {A : Option Addr} {ps : List Pr} {g : Nat} (h : Prs w base A ps g) (hb : Below w.heap.size w w') {i : Nat} (hi : i < ps.length) :
    w'.cell? ⟨g, i * 3, none⟩ = some (.int .i64 (ps[i].1 : Nat)) ∧ w'.cell? ⟨g, i * 3 + 1, none⟩ = some (.int .i64 (ps[i].2.1 : Nat)) ∧ w'.cell? ⟨g, i * 3 + 2, none⟩ = some (.bool ps[i].2.2) :=
  have h' := h.below hb (Nat.le_refl _)
  ⟨h'.fst i hi, h'.snd i hi, h'.up i hi⟩
set_option maxRecDepth 100000 in
set_option maxHeartbeats 1000000 in
theorem events_any (r n : Int) (k : Nat) (ps : List Pr) (hN : Net n k ps) (w : World) : Calls Tryz.prog 45 #[.int .i64 r, .int .i64 n] w (EvPost w (ilooks r ps)) := by
  have hps := hN.len
  go_enter Tryz.func45, Tryz.ntmps45
  go_wp2_with (first
    | (go_at_call 64; refine (pairs_any n k ps hN _).mono ?_; rintro e w1 ⟨v, rfl, hown, hb⟩; obtain ⟨A, cap, g, rfl, hP⟩ := Prs.of hown; clear hown))
  have HB := Lib.hid hb
  have HP := Lib.hid hP
  clear hb hP
  go_loopw [5, 11] (fun v5 v wr => ∃ i : Nat, v = .int .i64 i ∧ i ≤ ps.length ∧ EvAt w1 v5 (ilooks r (ps.take i)) wr) (fun _ v _ => ps.length - (intOf v).toNat)
  case atStart => exact ⟨0, rfl, Nat.zero_le _, World.ownsRow_nil _ _ _ _, Below.refl _ _⟩
  case round =>
    obtain ⟨i, rfl, hi, hE⟩ := hrel
    have HE := Lib.hid hE
    clear hE
    by_cases hlt : i < ps.length
    · obtain rfl : A = some ⟨g, 0, none⟩ := HP.out.adr (by omega)
      obtain ⟨x0, x1, x2⟩ := HP.out.cells HE.out.below hlt
      have hts := take_snoc ps i hlt
      have hll : (ilooks r (ps.take i)).length + 4 ≤ 1000000 := by rw [ilooks_len, List.length_take]; omega
      have hsz := HE.out.below.size
      obtain ⟨q, hqe⟩ : ∃ q, ps[i] = q := ⟨_, rfl⟩
      rw [hqe] at x0 x1 x2 hts
      have HTS := Lib.hid hts
      clear hqe hts
      obtain ⟨ll, hle⟩ : ∃ l, (ilooks r (ps.take i)).length = l := ⟨_, rfl⟩
      rw [hle] at hll
      have HLE := Lib.hid hle
      clear hle
      have HOW : Hid (wr.ownsRow w1.heap.size 87 3 u5 ll (ievs (ilooks r (ps.take i)))) := by
        have := HE.out.own
        rwa [HLE.out] at this
      go_wp2_with (with_reducible refine wpList_append_where _ rfl (.tmp 15) (.tmp 32) 48 rfl w1.heap.size 87 (.agg #[.int .i64 0, .int .i64 0, .bool false]) 3 24 Tryz.underlying48 infoEvent rfl (by decide) u5 ll (ievs (ilooks r (ps.take i))) rfl ((HOW.out.alloc _).alloc _) ⟨wr.heap.size + 1, 0, none⟩ 4 4 (v12 r q) rfl rfl ?c0 (v12_one r q) ?c2 ?c3 ?c4 ?_)
      case c0 => exact v12_new (wr.alloc _) _ r q (by simp)
      case c2 => simp only [maxLen]; omega
      case c3 => omega
      case c4 => simp; omega
      intro A2 cap2 w7 hown hgr _
      have HN2 : Hid (EvAt w1 (.slice A2 (ll + 4) cap2) (ilooks r (ps.take (i + 1))) w7) := by
        show EvAt _ _ _ _
        rw [HTS.out, ← HLE.out]
        rw [← HLE.out] at hown
        exact HE.out.next4 ((Below.refl _ wr).alloc (Nat.le_refl _) _) hown hgr
      clear hown hgr
      go_wp2_with fail
      go_roundw
      case rel => exact ⟨i + 1, by go_num, by omega, HN2.out⟩
      case measure => simp [intOf]; omega
    · obtain rfl : i = ps.length := by omega
      have HD : Hid (EvPost w (ilooks r ps) (.returned u5) wr) := by
        have := HE.out
        rw [List.take_length] at this
        exact ev_done this HB.out
      clear HE
      go_wp2_with fail
      go_ret
      exact HD.out
end Go.Proofs.YtmageeohnfomnaaGreat


namespace Go.Proofs.YtmageeohnfomnaaGreat
set_option maxRecDepth 100000
open Go.RowKit Go.ChangeShapes Go.WideShapes Go.ChangeAt

def more (X : Nat → Prop) (w w1 : World) : Nat → Prop := fun i => X i ∨ (w.heap.size ≤ i ∧ i < w1.heap.size)
def RunAt (w w1 : World) (X : Nat → Prop) (p : Nat) (M : MS) (r κ : Nat) (ps : List Pr) (i : Nat) (wr : World) : Prop := Own wr (more X w w1) p (M.sorted r κ (ps.take i)) ∧ Kept (more X w w1) w1 wr
theorem Prs.kept {w w' : World} {base : Nat} {A : Option Addr} {ps : List Pr} {g : Nat} {X : Nat → Prop} (h : Prs w base A ps g) (hk : Kept X w w') (hx : 0 < ps.length → X g) {i : Nat} (hi : i < ps.length) :
    w'.cell? ⟨g, i * 3, none⟩ = some (.int .i64 (ps[i].1 : Nat)) ∧ w'.cell? ⟨g, i * 3 + 1, none⟩ = some (.int .i64 (ps[i].2.1 : Nat)) ∧ w'.cell? ⟨g, i * 3 + 2, none⟩ = some (.bool ps[i].2.2) :=
  ⟨hk.cell (h.fst i hi) (hx (by omega)), hk.cell (h.snd i hi) (hx (by omega)), hk.cell (h.up i hi) (hx (by omega))⟩
structure PairAt (b0 b1 b2 : Nat) (q : Pr) (F1 F2 : Nat → Int) (w' : World) : Prop where
  c0 : w'.cell? ⟨b0, 0, none⟩ = some (.int .i64 (q.1 : Nat))
  c1 : w'.cell? ⟨b0, 1, none⟩ = some (.int .i64 (q.2.1 : Nat))
  r1 : w'.rangeAt b1 0 (CA F1).toList
  r2 : w'.rangeAt b2 0 (CA F2).toList
theorem pair_at {b0 b1 b2 : Nat} {q : Pr} {F1 F2 : Nat → Int} {w : World} {t : TypeId} (hb : Box w b0 t #[.int .i64 (q.1 : Nat), .int .i64 (q.2.1 : Nat), .bool q.2.2]) (h1 : w.there b1 0 12) (h2 : w.there b2 0 12) (n1 : b0 ≠ b1) (n2 : b0 ≠ b2) (n3 : b1 ≠ b2) :
    PairAt b0 b1 b2 q F1 F2 ((w.setCells b1 0 (CA F1).toList).setCells b2 0 (CA F2).toList) := by
  have o : Only (fun i => i = b1 ∨ i = b2) w ((w.setCells b1 0 (CA F1).toList).setCells b2 0 (CA F2).toList) := only_setCells _ _ _ (only_setCells _ _ _ (Only.refl _ _) (.inl (.inl rfl))) (.inl (.inr rfl))
  have hb' := hb.only o (fun h => h.elim n1 n2)
  exact ⟨hb'.cell 0, hb'.cell 1, World.rangeAt_setCells_apart (World.rangeAt_setCells_same w b1 0 (CA F1).toList h1) _ _ _ (.inl n3), World.rangeAt_setCells_same _ b2 0 (CA F2).toList (World.there_setCells h2 _ _ _)⟩
set_option maxRecDepth 100000 in
set_option maxHeartbeats 1000000 in
theorem run_right (X : Nat → Prop) (p : Nat) (M : MS) (r κ n k : Nat) (ps : List Pr) (w : World) (h : Own w X p M) (hN : Net (n : Int) k ps) (hR : isNet (n : Int) = true) (hW : Within n ps) (hr : r < M.k) (hs : n ≤ M.sz r) (hκ : κ < 12) (hwd : M.wd) (hl : M.es.length + ps.length * 4 < 1000000000) :
    Calls Tryz.prog 87 #[.pointer (some ⟨p, 0, none⟩), .int .i64 (r : Int), .int .i64 (n : Int), .int .i64 (κ : Int)] w (OwnPost w X p (M.sorted r κ ps) (.int .i64 0)) := by
  have HO := Lib.hid h
  have hsz : M.size (r : Int) = M.sz r := MS.size_nat hr
  have hps := hN.len
  have hpl : decide ((M.sz r : Int) < (n : Int)) = false := by simp; omega
  have hk1 : decide ((κ : Int) < 0) = false := decide_eq_false (by omega)
  have hk2 : decide (12 ≤ (κ : Int)) = false := decide_eq_false (by omega)
  have HW := Lib.hid hW
  have HWD := Lib.hid hwd
  have HL := Lib.hid hl
  clear h hW hwd hl
  go_enter Tryz.func87, Tryz.ntmps87
  go_wp2_with (first
    | (go_at_call 91; refine (right_any (n : Int) _).mono ?_; rintro e w1 ⟨rfl, hw⟩; obtain rfl := hw.symm; rw [hR])
    | (go_at_call 35; refine (own_size _ p M _ (r : Int) HO.out).mono ?_; rintro e w1 ⟨rfl, rfl⟩; rw [hsz])
    | (go_at_call 64; refine (pairs_any (n : Int) k ps hN _).mono ?_; rintro e w1 ⟨v, rfl, hown, hb⟩; obtain ⟨A, cap, g, rfl, hP⟩ := Prs.of hown; clear hown))
  have hn1 : Only nobody w w1 := Only.of_below hb
  have R0 : Hid (RunAt w w1 X p M r κ ps 0 w1) := by
    show RunAt w w1 X p M r κ ps 0 w1
    refine ⟨?_, Kept.refl _ _⟩
    rw [List.take_zero, sorted_nil]
    exact HO.out.grow hn1
  have HB := Lib.hid hn1
  have HP := Lib.hid hP
  clear hb hn1 hP
  go_loopw [34] (fun v wr => ∃ i : Nat, v = .int .i64 i ∧ i ≤ ps.length ∧ RunAt w w1 X p M r κ ps i wr) (fun v _ => ps.length - (intOf v).toNat)
  case atStart => exact ⟨0, rfl, Nat.zero_le _, R0.out⟩
  case round =>
    obtain ⟨i, rfl, hi, hD, hK⟩ := hrel
    have HD := Lib.hid hD
    have HK := Lib.hid hK
    clear hD hK R0
    by_cases hlt : i < ps.length
    · obtain rfl : A = some ⟨g, 0, none⟩ := HP.out.adr (by omega)
      have hgX : more X w w1 g := .inr (HP.out.base (by omega))
      obtain ⟨x0, x1, x2⟩ := HP.out.kept HK.out (fun _ => hgX) hlt
      have hq := HW.out _ (List.getElem_mem hlt)
      have hts := take_snoc ps i hlt
      obtain ⟨q, hqe⟩ : ∃ q, ps[i] = q := ⟨_, rfl⟩
      rw [hqe] at x0 x1 x2 hq hts
      have HST := Lib.hid (sorted_step M r κ (ps.take i) q hr hq.1 (by omega))
      rw [← hts] at HST
      have hel : (M.sorted r κ (ps.take i)).es.length + 4 < 1000000000 := by
        have h1 := HL.out
        rw [sorted_len, List.length_take]; omega
      have HEL := Lib.hid hel
      have HWS : Hid ((M.sorted r κ (ps.take i)).wd) := wd_sorted HWD.out r κ _ ⟨n, fun x hx => HW.out x (List.mem_of_mem_take hx)⟩
      clear hqe hts hel
      generalize M.sorted r κ (ps.take i) = M0 at *
      have HD2 := Lib.hid (HD.out.alloc (.cells #[.int .i64 (q.1 : Nat), .int .i64 (q.2.1 : Nat), .bool q.2.2] 118))
      have HBX := Lib.hid (Box.new wr 118 #[.int .i64 (q.1 : Nat), .int .i64 (q.2.1 : Nat), .bool q.2.2])
      go_wp2_with fail
      refine (own_read _ p M0 _ (r : Int) (q.1 : Nat) HD2.out (by have := HEL.out; omega)).mono ?_
      rintro e w3 ⟨rfl, ho, hk⟩
      obtain ⟨f1, hf1⟩ : ∃ f, M0.cell (r : Int) (q.1 : Nat) = f := ⟨_, rfl⟩
      obtain ⟨M1, hM1⟩ : ∃ N, M0.read (r : Int) (q.1 : Nat) = N := ⟨_, rfl⟩
      have hl1 : M1.es.length ≤ M0.es.length + 1 := by rw [← hM1]; exact len_read M0 _ _
      have HW1 : Hid (Wd f1) := by show Wd f1; rw [← hf1]; exact wd_cell HWS.out _ _
      have HV1 : Hid M1.wd := by show M1.wd; rw [← hM1]; exact wd_read HWS.out _ _
      rw [hM1] at ho
      rw [hf1, hM1] at HST
      rw [hf1]
      have hb3 := hk.box HBX.out (.inr rfl)
      have HK3 := Lib.hid ((Kept.mono (hk) (fun i (hi : more X w w1 i) => .inl hi)))
      have HK3 := Lib.hid ((HK.out.alloc (.cells #[.int .i64 (q.1 : Nat), .int .i64 (q.2.1 : Nat), .bool q.2.2] 118)).trans HK3.out)
      have HD4 := Lib.hid (ho.alloc (.cells (CA f1) 103))
      have hb4 := hb3.alloc (.cells (CA f1) 103)
      have HBX4 := Lib.hid hb4
      have y1 : (w3.alloc (.cells (CA f1) 103)).cell? ⟨wr.heap.size, 1, none⟩ = some (.int .i64 (q.2.1 : Nat)) := hb4.cell 1
      clear ho hk hf1 hM1 hb3 hb4 HBX HD2 HD
      go_wp2_with (with_reducible refine wpList_store_new rfl (.tmp 11) (.tmp 42) rfl rfl f1 rfl rfl ?_)
      refine (own_read _ p M1 _ (r : Int) (q.2.1 : Nat) HD4.out (by have := HEL.out; omega)).mono ?_
      rintro e w5 ⟨rfl, ho, hk⟩
      obtain ⟨f2, hf2⟩ : ∃ f, M1.cell (r : Int) (q.2.1 : Nat) = f := ⟨_, rfl⟩
      obtain ⟨M2, hM2⟩ : ∃ N, M1.read (r : Int) (q.2.1 : Nat) = N := ⟨_, rfl⟩
      have hl2 : M2.es.length ≤ M0.es.length + 2 := by rw [← hM2]; have := len_read M1 (r : Int) (q.2.1 : Nat); omega
      have HW2 : Hid (Wd f2) := by show Wd f2; rw [← hf2]; exact wd_cell HV1.out _ _
      rw [hM2] at ho
      rw [hf2, hM2] at HST
      rw [hf2]
      have hs3 : wr.heap.size < w3.heap.size := HBX4.out.alloc_lt
      have hs5 : w3.heap.size < w5.heap.size := by have := hk.size; simp at this; omega
      have hb6 := (hk.box HBX4.out (.inl (.inr rfl))).alloc (.cells (CA f2) 103)
      have HR1 := Lib.hid (World.rangeAt_alloc (hk.range (range_alloc_new w3 f1 103) (.inr rfl)) (.cells (CA f2) 103))
      have HT1 := Lib.hid (World.there_alloc (hk.there (there_new w3 f1 103 _ rfl) (.inr rfl) (by simp)) (.cells (CA f2) 103))
      have HR2 := Lib.hid (range_alloc_new w5 f2 103)
      have HT2 := Lib.hid (there_new w5 f2 103 _ rfl)
      have HK5 := Lib.hid (((HK3.out.alloc (.cells (CA f1) 103)).trans (Kept.mono hk (fun i (hi : more X w w1 i) => .inl (.inl hi)))).alloc (.cells (CA f2) 103))
      have HD6 := Lib.hid (ho.alloc (.cells (CA f2) 103))
      have HBX6 := Lib.hid hb6
      have y2 : (w5.alloc (.cells (CA f2) 103)).cell? ⟨wr.heap.size, 2, none⟩ = some (.bool q.2.2) := hb6.cell 2
      clear ho hk hf2 hM2 hb6 HBX4 HD4 HK3 y1
      go_wp2_with (first | with_reducible refine wpList_store_new rfl (.tmp 12) (.tmp 47) rfl rfl f2 rfl rfl ?_ | with_reducible refine wpList_load_cell rfl (.tmp 11) rfl w3.heap.size 0 rfl f1 HR1.out ?_ | with_reducible refine wpList_load_cell rfl (.tmp 12) rfl w5.heap.size 0 rfl f2 HR2.out ?_)
      refine (order_any q.2.2 κ f1 f2 _ hκ HW1.out HW2.out).mono ?_
      obtain ⟨F1, hF1⟩ : ∃ F, (if turned κ q.2.2 f1 f2 then f2 else f1) = F := ⟨_, rfl⟩
      obtain ⟨F2, hF2⟩ : ∃ F, (if turned κ q.2.2 f1 f2 then f1 else f2) = F := ⟨_, rfl⟩
      rw [hF1, hF2] at HST
      rw [hF1, hF2]
      clear hF1 hF2 HW1 HW2 HR1 HR2
      rintro e w7 ⟨rfl, hx⟩
      have ho7 := none_of_ext hx
      have HX8 : Hid (PairAt wr.heap.size w3.heap.size w5.heap.size q F1 F2 ((w7.setCells w3.heap.size 0 (CA F1).toList).setCells w5.heap.size 0 (CA F2).toList)) := pair_at (HBX6.out.only ho7 (not_nobody _)) (hx.there (by simp; omega) HT1.out) (hx.there (by simp) HT2.out) (by omega) (by omega) (by omega)
      have HD8 := Lib.hid (((HD6.out.none ho7).setCells w3.heap.size (CA F1).toList (.inl (.inr rfl))).setCells w5.heap.size (CA F2).toList (.inr rfl))
      have HK8 := Lib.hid (((HK5.out.trans (Kept.of_none ho7)).setCells w3.heap.size (CA F1).toList (by have := HK.out.size; omega)).setCells w5.heap.size (CA F2).toList (by have := HK.out.size; omega))
      have t1 := hx.there (by simp; omega) HT1.out
      have t2 := hx.there (by simp) HT2.out
      have T1 := Lib.hid t1
      have T2 := Lib.hid (World.there_setCells t2 w3.heap.size 0 (CA F1).toList)
      have hs7 : w5.heap.size < w7.heap.size := by have := hx.size; simp at this; omega
      clear ho7 hx HBX6 HT1 HT2 HD6 HK5 y2 t1 t2
      have z0 := HX8.out.c0
      go_wp2_with (first | with_reducible refine wpList_store_cell rfl (.tmp 11) (.tmp 55) rfl w3.heap.size 0 rfl F1 rfl T1.out ?_ | with_reducible refine wpList_store_cell rfl (.tmp 12) (.tmp 56) rfl w5.heap.size 0 rfl F2 rfl T2.out ?_ | with_reducible refine wpList_load_cell rfl (.tmp 11) rfl w3.heap.size 0 rfl F1 HX8.out.r1 ?_)
      clear z0
      refine (own_write _ p M2 _ (r : Int) (q.1 : Nat) F1 HD8.out (by have := HEL.out; omega)).mono ?_
      rintro e w9 ⟨rfl, ho, hk⟩
      obtain ⟨M3, hM3⟩ : ∃ N, M2.write (r : Int) (q.1 : Nat) F1 = N := ⟨_, rfl⟩
      have hl3 : M3.es.length ≤ M0.es.length + 3 := by rw [← hM3]; have := len_write M2 (r : Int) (q.1 : Nat) F1; omega
      rw [hM3] at ho HST
      have z1 := hk.cell HX8.out.c1 (.inl (.inl (.inr rfl)))
      have HR2 := Lib.hid (hk.range HX8.out.r2 (.inr rfl))
      have HK9 := Lib.hid (HK8.out.trans (Kept.mono hk (fun i (hi : more X w w1 i) => .inl (.inl (.inl hi)))))
      have HD9 := Lib.hid ho
      clear ho hk hM3 HX8 HD8 HK8 T1 T2
      go_wp2_with (first | with_reducible refine wpList_load_cell rfl (.tmp 12) rfl w5.heap.size 0 rfl F2 HR2.out ?_)
      clear z1
      refine (own_write _ p M3 _ (r : Int) (q.2.1 : Nat) F2 HD9.out (by have := HEL.out; omega)).mono ?_
      rintro e w10 ⟨rfl, ho, hk⟩
      rw [HST.out] at ho
      have HE := Lib.hid (show RunAt w w1 X p M r κ ps (i + 1) w10 from ⟨ho.weak (fun i hi => .inl (.inl (.inl hi))), HK9.out.trans (Kept.mono hk (fun i (hi : more X w w1 i) => .inl (.inl (.inl hi))))⟩)
      clear ho hk HK9 HD9 HR2
      go_wp2_with fail
      go_roundw
      case rel => exact ⟨i + 1, by go_num, by omega, HE.out⟩
      case measure => simp [intOf]; omega
    · obtain rfl : i = ps.length := by omega
      have HE : Hid (Own wr X p (M.sorted r κ ps) ∧ Kept X w wr) := by
        refine ⟨?_, (Kept.of_none HB.out).trans (HK.out.mono (fun i hi => .inl hi))⟩
        have := HD.out
        rw [List.take_length] at this
        exact this.weak (fun i hi => .inl hi)
      clear HD HK
      go_wp2_with fail
      go_ret
      exact ⟨rfl, HE.out.1, HE.out.2⟩
end Go.Proofs.YtmageeohnfomnaaGreat


namespace Go.Proofs.YtmageeohnfomnaaGreat
set_option maxRecDepth 100000
open Go.RowKit Go.ChangeShapes Go.WideShapes Go.ChangeAt

theorem run_net (X : Nat → Prop) (p : Nat) (M : MS) (r κ P : Nat) (w : World) (h : Own w X p M) (hP : P ≤ 10) (hr : r < M.k) (hs : 2 ^ P ≤ M.sz r) (hκ : κ < 12) (hwd : M.wd) (hl : M.es.length < 900000000) :
    Calls Tryz.prog 87 #[.pointer (some ⟨p, 0, none⟩), .int .i64 (r : Int), .int .i64 ((2 ^ P : Nat) : Int), .int .i64 (κ : Int)] w (OwnPost w X p (M.sorted r κ (netL P)) (.int .i64 0)) := by
  have hN : Net ((2 ^ P : Nat) : Int) (2 ^ P) (netL P) := ⟨.inl ⟨P, hP, rfl, rfl, rfl⟩⟩
  exact run_right X p M r κ (2 ^ P) (2 ^ P) (netL P) w h hN ((isNet_iff _).2 ⟨P, hP, rfl⟩) (netL_within P) hr hs hκ hwd (by have := hN.len; omega)
end Go.Proofs.YtmageeohnfomnaaGreat


namespace Go.Proofs.YtmageeohnfomnaaGreat
set_option maxRecDepth 100000
open Go.RowKit Go.ChangeShapes Go.WideShapes Go.ChangeAt

set_option linter.unusedSimpArgs false in
set_option maxRecDepth 100000 in
set_option maxHeartbeats 1000000 in
theorem refEvents_any (r n : Int) (k : Nat) (ps : List Pr) (hN : Net n k ps) (w : World) : Calls Tryz.prog 47 #[.int .i64 r, .int .i64 n] w (EvPost w (ilooks r ps)) := by
  have hps := hN.len
  go_enter Tryz.func47, Tryz.ntmps47
  go_wp2_with (first
    | (go_at_call 66; refine (refPairs_any n k ps hN _).mono ?_; rintro e w1 ⟨v, rfl, hown, hb⟩; obtain ⟨A, cap, g, rfl, hP⟩ := Prs.of hown; clear hown))
  have HB := Lib.hid hb
  have HP := Lib.hid hP
  clear hb hP
  go_loopw [6, 7] (fun v5 v wr => ∃ i : Nat, v = .int .i64 i ∧ i ≤ ps.length ∧ EvAt w1 v5 (ilooks r (ps.take i)) wr) (fun _ v _ => ps.length - (intOf v).toNat)
  case atStart => exact ⟨0, rfl, Nat.zero_le _, World.ownsRow_nil _ _ _ _, Below.refl _ _⟩
  case round =>
    obtain ⟨i, rfl, hi, hE⟩ := hrel
    have HE := Lib.hid hE
    clear hE
    by_cases hlt : i < ps.length
    · obtain rfl : A = some ⟨g, 0, none⟩ := HP.out.adr (by omega)
      have hcc : ∀ w', Below w1.heap.size w1 w' → w'.cell? ⟨g, i * 3, none⟩ = some (.int .i64 (ps[i].1 : Nat)) ∧ w'.cell? ⟨g, i * 3 + 1, none⟩ = some (.int .i64 (ps[i].2.1 : Nat)) := fun w' hw => ⟨(HP.out.cells hw hlt).1, (HP.out.cells hw hlt).2.1⟩
      have hts := take_snoc ps i hlt
      have hll : (ilooks r (ps.take i)).length + 4 ≤ 1000000 := by rw [ilooks_len, List.length_take]; omega
      have hsz := HE.out.below.size
      have hi63 : i < 28160 := by omega
      obtain ⟨q, hqe⟩ : ∃ q, ps[i] = q := ⟨_, rfl⟩
      rw [hqe] at hcc hts
      have HTS := Lib.hid hts
      have CC := Lib.hid hcc
      clear hqe hts hcc
      obtain ⟨ll, hle⟩ : ∃ l, (ilooks r (ps.take i)).length = l := ⟨_, rfl⟩
      rw [hle] at hll
      have HLE := Lib.hid hle
      clear hle
      have HOW : Hid (wr.ownsRow w1.heap.size 87 3 u6 ll (ievs (ilooks r (ps.take i)))) := by
        have := HE.out.own
        rwa [HLE.out] at this
      go_wp2_with fail
      refine held_S (S := fun w' => Below w1.heap.size w1 w') 32 rfl (by kernel_rfl) HE.out.below.drew (fun hHeld => ?_)
      simp only [Array.replicate_succ, Array.replicate_zero, List.push_toArray, List.nil_append, List.cons_append]
      refine wpAnyH_take (i := 0) (oi := ⟨some 16, _, _, _, _, _⟩) (v := u6) rfl (by kernel_rfl) (by kernel_rfl) (by kernel_rfl) (fun _ _ _ h => h) (Or.inl ⟨by rfl, fun w' hw => by have h0 := (CC.out w' hw).1; have h1 := (CC.out w' hw).2; go_simp⟩) hHeld ?_
      try simp only [Act.put, List.setIfInBounds_toArray, List.set_cons_zero, List.set_cons_succ]
      refine wpAnyH_take (i := 1) (oi := ⟨some 17, _, _, _, _, _⟩) (v := .int .i64 r) rfl (by kernel_rfl) (by kernel_rfl) (by kernel_rfl) (fun _ _ _ h => h) (Or.inl ⟨by rfl, fun w' hw => by have h0 := (CC.out w' hw).1; have h1 := (CC.out w' hw).2; go_simp⟩) hHeld ?_
      try simp only [Act.put, List.setIfInBounds_toArray, List.set_cons_zero, List.set_cons_succ]
      refine wpAnyH_take (i := 2) (oi := ⟨some 18, _, _, _, _, _⟩) (v := .slice (some ⟨g, 0, none⟩) ps.length cap) rfl (by kernel_rfl) (by kernel_rfl) (by kernel_rfl) (fun _ _ _ h => h) (Or.inl ⟨by rfl, fun w' hw => by have h0 := (CC.out w' hw).1; have h1 := (CC.out w' hw).2; go_simp⟩) hHeld ?_
      try simp only [Act.put, List.setIfInBounds_toArray, List.set_cons_zero, List.set_cons_succ]
      refine wpAnyH_take (i := 3) (oi := ⟨some 19, _, _, _, _, _⟩) (v := .int .i64 (i : Int)) rfl (by kernel_rfl) (by kernel_rfl) (by kernel_rfl) (fun _ _ _ h => h) (Or.inl ⟨by rfl, fun w' hw => by have h0 := (CC.out w' hw).1; have h1 := (CC.out w' hw).2; go_simp⟩) hHeld ?_
      try simp only [Act.put, List.setIfInBounds_toArray, List.set_cons_zero, List.set_cons_succ]
      refine wpAnyH_take (i := 4) (oi := ⟨some 20, _, _, _, _, _⟩) (v := .pointer (some ⟨g, i * 3, none⟩)) rfl (by kernel_rfl) (by kernel_rfl) (by kernel_rfl) (fun _ _ _ h => h) (Or.inl ⟨by rfl, fun w' hw => by have h0 := (CC.out w' hw).1; have h1 := (CC.out w' hw).2; go_simp⟩) hHeld ?_
      try simp only [Act.put, List.setIfInBounds_toArray, List.set_cons_zero, List.set_cons_succ]
      refine wpAnyH_take (i := 5) (oi := ⟨some 21, _, _, _, _, _⟩) (v := .pointer (some ⟨g, i * 3, none⟩)) rfl (by kernel_rfl) (by kernel_rfl) (by kernel_rfl) (fun _ _ _ h => h) (Or.inl ⟨by rfl, fun w' hw => by have h0 := (CC.out w' hw).1; have h1 := (CC.out w' hw).2; go_simp⟩) hHeld ?_
      try simp only [Act.put, List.setIfInBounds_toArray, List.set_cons_zero, List.set_cons_succ]
      refine wpAnyH_take (i := 6) (oi := ⟨some 22, _, _, _, _, _⟩) (v := .int .i64 (q.1 : Nat)) rfl (by kernel_rfl) (by kernel_rfl) (by kernel_rfl) (fun _ _ _ h => h) (Or.inl ⟨by rfl, fun w' hw => by have h0 := (CC.out w' hw).1; have h1 := (CC.out w' hw).2; go_simp⟩) hHeld ?_
      try simp only [Act.put, List.setIfInBounds_toArray, List.set_cons_zero, List.set_cons_succ]
      refine wpAnyH_take (i := 7) (oi := ⟨some 23, _, _, _, _, _⟩) (v := .agg #[.int .i64 r, .int .i64 (q.1 : Nat), .bool false]) rfl (by kernel_rfl) (by kernel_rfl) (by kernel_rfl) (fun _ _ _ h => h) (Or.inl ⟨by rfl, fun w' hw => by have h0 := (CC.out w' hw).1; have h1 := (CC.out w' hw).2; go_simp⟩) hHeld ?_
      try simp only [Act.put, List.setIfInBounds_toArray, List.set_cons_zero, List.set_cons_succ]
      refine wpAnyH_take (i := 8) (oi := ⟨some 24, _, _, _, _, _⟩) (v := .int .i64 r) rfl (by kernel_rfl) (by kernel_rfl) (by kernel_rfl) (fun _ _ _ h => h) (Or.inl ⟨by rfl, fun w' hw => by have h0 := (CC.out w' hw).1; have h1 := (CC.out w' hw).2; go_simp⟩) hHeld ?_
      try simp only [Act.put, List.setIfInBounds_toArray, List.set_cons_zero, List.set_cons_succ]
      refine wpAnyH_take (i := 9) (oi := ⟨some 25, _, _, _, _, _⟩) (v := .slice (some ⟨g, 0, none⟩) ps.length cap) rfl (by kernel_rfl) (by kernel_rfl) (by kernel_rfl) (fun _ _ _ h => h) (Or.inl ⟨by rfl, fun w' hw => by have h0 := (CC.out w' hw).1; have h1 := (CC.out w' hw).2; go_simp⟩) hHeld ?_
      try simp only [Act.put, List.setIfInBounds_toArray, List.set_cons_zero, List.set_cons_succ]
      refine wpAnyH_take (i := 10) (oi := ⟨some 26, _, _, _, _, _⟩) (v := .int .i64 (i : Int)) rfl (by kernel_rfl) (by kernel_rfl) (by kernel_rfl) (fun _ _ _ h => h) (Or.inl ⟨by rfl, fun w' hw => by have h0 := (CC.out w' hw).1; have h1 := (CC.out w' hw).2; go_simp⟩) hHeld ?_
      try simp only [Act.put, List.setIfInBounds_toArray, List.set_cons_zero, List.set_cons_succ]
      refine wpAnyH_take (i := 11) (oi := ⟨some 27, _, _, _, _, _⟩) (v := .pointer (some ⟨g, i * 3, none⟩)) rfl (by kernel_rfl) (by kernel_rfl) (by kernel_rfl) (fun _ _ _ h => h) (Or.inl ⟨by rfl, fun w' hw => by have h0 := (CC.out w' hw).1; have h1 := (CC.out w' hw).2; go_simp⟩) hHeld ?_
      try simp only [Act.put, List.setIfInBounds_toArray, List.set_cons_zero, List.set_cons_succ]
      refine wpAnyH_take (i := 12) (oi := ⟨some 28, _, _, _, _, _⟩) (v := .pointer (some ⟨g, i * 3 + 1, none⟩)) rfl (by kernel_rfl) (by kernel_rfl) (by kernel_rfl) (fun _ _ _ h => h) (Or.inl ⟨by rfl, fun w' hw => by have h0 := (CC.out w' hw).1; have h1 := (CC.out w' hw).2; go_simp⟩) hHeld ?_
      try simp only [Act.put, List.setIfInBounds_toArray, List.set_cons_zero, List.set_cons_succ]
      refine wpAnyH_take (i := 13) (oi := ⟨some 29, _, _, _, _, _⟩) (v := .int .i64 (q.2.1 : Nat)) rfl (by kernel_rfl) (by kernel_rfl) (by kernel_rfl) (fun _ _ _ h => h) (Or.inl ⟨by rfl, fun w' hw => by have h0 := (CC.out w' hw).1; have h1 := (CC.out w' hw).2; go_simp⟩) hHeld ?_
      try simp only [Act.put, List.setIfInBounds_toArray, List.set_cons_zero, List.set_cons_succ]
      refine wpAnyH_take (i := 14) (oi := ⟨some 30, _, _, _, _, _⟩) (v := .agg #[.int .i64 r, .int .i64 (q.2.1 : Nat), .bool false]) rfl (by kernel_rfl) (by kernel_rfl) (by kernel_rfl) (fun _ _ _ h => h) (Or.inl ⟨by rfl, fun w' hw => by have h0 := (CC.out w' hw).1; have h1 := (CC.out w' hw).2; go_simp⟩) hHeld ?_
      try simp only [Act.put, List.setIfInBounds_toArray, List.set_cons_zero, List.set_cons_succ]
      refine wpAnyH_take (i := 15) (oi := ⟨some 31, _, _, _, _, _⟩) (v := .int .i64 r) rfl (by kernel_rfl) (by kernel_rfl) (by kernel_rfl) (fun _ _ _ h => h) (Or.inl ⟨by rfl, fun w' hw => by have h0 := (CC.out w' hw).1; have h1 := (CC.out w' hw).2; go_simp⟩) hHeld ?_
      try simp only [Act.put, List.setIfInBounds_toArray, List.set_cons_zero, List.set_cons_succ]
      refine wpAnyH_take (i := 16) (oi := ⟨some 32, _, _, _, _, _⟩) (v := .slice (some ⟨g, 0, none⟩) ps.length cap) rfl (by kernel_rfl) (by kernel_rfl) (by kernel_rfl) (fun _ _ _ h => h) (Or.inl ⟨by rfl, fun w' hw => by have h0 := (CC.out w' hw).1; have h1 := (CC.out w' hw).2; go_simp⟩) hHeld ?_
      try simp only [Act.put, List.setIfInBounds_toArray, List.set_cons_zero, List.set_cons_succ]
      refine wpAnyH_take (i := 17) (oi := ⟨some 33, _, _, _, _, _⟩) (v := .int .i64 (i : Int)) rfl (by kernel_rfl) (by kernel_rfl) (by kernel_rfl) (fun _ _ _ h => h) (Or.inl ⟨by rfl, fun w' hw => by have h0 := (CC.out w' hw).1; have h1 := (CC.out w' hw).2; go_simp⟩) hHeld ?_
      try simp only [Act.put, List.setIfInBounds_toArray, List.set_cons_zero, List.set_cons_succ]
      refine wpAnyH_take (i := 18) (oi := ⟨some 34, _, _, _, _, _⟩) (v := .pointer (some ⟨g, i * 3, none⟩)) rfl (by kernel_rfl) (by kernel_rfl) (by kernel_rfl) (fun _ _ _ h => h) (Or.inl ⟨by rfl, fun w' hw => by have h0 := (CC.out w' hw).1; have h1 := (CC.out w' hw).2; go_simp⟩) hHeld ?_
      try simp only [Act.put, List.setIfInBounds_toArray, List.set_cons_zero, List.set_cons_succ]
      refine wpAnyH_take (i := 19) (oi := ⟨some 35, _, _, _, _, _⟩) (v := .pointer (some ⟨g, i * 3, none⟩)) rfl (by kernel_rfl) (by kernel_rfl) (by kernel_rfl) (fun _ _ _ h => h) (Or.inl ⟨by rfl, fun w' hw => by have h0 := (CC.out w' hw).1; have h1 := (CC.out w' hw).2; go_simp⟩) hHeld ?_
      try simp only [Act.put, List.setIfInBounds_toArray, List.set_cons_zero, List.set_cons_succ]
      refine wpAnyH_take (i := 20) (oi := ⟨some 36, _, _, _, _, _⟩) (v := .int .i64 (q.1 : Nat)) rfl (by kernel_rfl) (by kernel_rfl) (by kernel_rfl) (fun _ _ _ h => h) (Or.inl ⟨by rfl, fun w' hw => by have h0 := (CC.out w' hw).1; have h1 := (CC.out w' hw).2; go_simp⟩) hHeld ?_
      try simp only [Act.put, List.setIfInBounds_toArray, List.set_cons_zero, List.set_cons_succ]
      refine wpAnyH_take (i := 21) (oi := ⟨some 37, _, _, _, _, _⟩) (v := .agg #[.int .i64 r, .int .i64 (q.1 : Nat), .bool true]) rfl (by kernel_rfl) (by kernel_rfl) (by kernel_rfl) (fun _ _ _ h => h) (Or.inl ⟨by rfl, fun w' hw => by have h0 := (CC.out w' hw).1; have h1 := (CC.out w' hw).2; go_simp⟩) hHeld ?_
      try simp only [Act.put, List.setIfInBounds_toArray, List.set_cons_zero, List.set_cons_succ]
      refine wpAnyH_take (i := 22) (oi := ⟨some 38, _, _, _, _, _⟩) (v := .int .i64 r) rfl (by kernel_rfl) (by kernel_rfl) (by kernel_rfl) (fun _ _ _ h => h) (Or.inl ⟨by rfl, fun w' hw => by have h0 := (CC.out w' hw).1; have h1 := (CC.out w' hw).2; go_simp⟩) hHeld ?_
      try simp only [Act.put, List.setIfInBounds_toArray, List.set_cons_zero, List.set_cons_succ]
      refine wpAnyH_take (i := 23) (oi := ⟨some 39, _, _, _, _, _⟩) (v := .slice (some ⟨g, 0, none⟩) ps.length cap) rfl (by kernel_rfl) (by kernel_rfl) (by kernel_rfl) (fun _ _ _ h => h) (Or.inl ⟨by rfl, fun w' hw => by have h0 := (CC.out w' hw).1; have h1 := (CC.out w' hw).2; go_simp⟩) hHeld ?_
      try simp only [Act.put, List.setIfInBounds_toArray, List.set_cons_zero, List.set_cons_succ]
      refine wpAnyH_take (i := 24) (oi := ⟨some 40, _, _, _, _, _⟩) (v := .int .i64 (i : Int)) rfl (by kernel_rfl) (by kernel_rfl) (by kernel_rfl) (fun _ _ _ h => h) (Or.inl ⟨by rfl, fun w' hw => by have h0 := (CC.out w' hw).1; have h1 := (CC.out w' hw).2; go_simp⟩) hHeld ?_
      try simp only [Act.put, List.setIfInBounds_toArray, List.set_cons_zero, List.set_cons_succ]
      refine wpAnyH_take (i := 25) (oi := ⟨some 41, _, _, _, _, _⟩) (v := .pointer (some ⟨g, i * 3, none⟩)) rfl (by kernel_rfl) (by kernel_rfl) (by kernel_rfl) (fun _ _ _ h => h) (Or.inl ⟨by rfl, fun w' hw => by have h0 := (CC.out w' hw).1; have h1 := (CC.out w' hw).2; go_simp⟩) hHeld ?_
      try simp only [Act.put, List.setIfInBounds_toArray, List.set_cons_zero, List.set_cons_succ]
      refine wpAnyH_take (i := 26) (oi := ⟨some 42, _, _, _, _, _⟩) (v := .pointer (some ⟨g, i * 3 + 1, none⟩)) rfl (by kernel_rfl) (by kernel_rfl) (by kernel_rfl) (fun _ _ _ h => h) (Or.inl ⟨by rfl, fun w' hw => by have h0 := (CC.out w' hw).1; have h1 := (CC.out w' hw).2; go_simp⟩) hHeld ?_
      try simp only [Act.put, List.setIfInBounds_toArray, List.set_cons_zero, List.set_cons_succ]
      refine wpAnyH_take (i := 27) (oi := ⟨some 43, _, _, _, _, _⟩) (v := .int .i64 (q.2.1 : Nat)) rfl (by kernel_rfl) (by kernel_rfl) (by kernel_rfl) (fun _ _ _ h => h) (Or.inl ⟨by rfl, fun w' hw => by have h0 := (CC.out w' hw).1; have h1 := (CC.out w' hw).2; go_simp⟩) hHeld ?_
      try simp only [Act.put, List.setIfInBounds_toArray, List.set_cons_zero, List.set_cons_succ]
      refine wpAnyH_take (i := 28) (oi := ⟨some 44, _, _, _, _, _⟩) (v := .agg #[.int .i64 r, .int .i64 (q.2.1 : Nat), .bool true]) rfl (by kernel_rfl) (by kernel_rfl) (by kernel_rfl) (fun _ _ _ h => h) (Or.inl ⟨by rfl, fun w' hw => by have h0 := (CC.out w' hw).1; have h1 := (CC.out w' hw).2; go_simp⟩) hHeld ?_
      try simp only [Act.put, List.setIfInBounds_toArray, List.set_cons_zero, List.set_cons_succ]
      refine one_ready 29 rfl (by kernel_rfl) (fun K hK => ?_)
      go_simp
      have hal : Below w1.heap.size w1 (wr.drew.alloc (.cells (v12 r q).toArray 87)) := hHeld.alloc hHeld.size _
      refine hK.out _ _ hal (fun hHeld2 => ?_)
      clear hK K hal
      try simp only [Act.put, List.setIfInBounds_toArray, List.set_cons_zero, List.set_cons_succ]
      refine one_ready 30 rfl (by kernel_rfl) (fun K hK => ?_)
      refine step_append_where rfl (.tmp 16) (.tmp 45) 48 rfl w1.heap.size 87 (.agg #[.int .i64 0, .int .i64 0, .bool false]) 3 24 Tryz.underlying48 infoEvent rfl (by decide) u6 ll (ievs (ilooks r (ps.take i))) rfl (((HOW.out : wr.drew.ownsRow _ _ _ _ _ _)).alloc _) ⟨wr.drew.heap.size, 0, none⟩ 4 4 (v12 r q) rfl rfl (v12_new wr.drew 87 r q rfl) (v12_one r q) (by simp only [maxLen]; omega) (by omega) (by simp; omega) ?_
      intro A2 cap2 w7 hown hgr _
      have HN2 : Hid (EvAt w1 (.slice A2 (ll + 4) cap2) (ilooks r (ps.take (i + 1))) w7) := by
        show EvAt _ _ _ _
        rw [HTS.out, ← HLE.out]
        rw [← HLE.out] at hown
        exact HE.out.next4 ((Below.refl _ wr).drew) hown hgr
      clear hown hgr
      refine hK.out _ _ HN2.out.below (fun hHeld3 => ?_)
      clear hK K
      try simp only [Act.put, List.setIfInBounds_toArray, List.set_cons_zero, List.set_cons_succ]
      refine one_ready 31 rfl (by kernel_rfl) (fun K hK => ?_)
      go_simp
      refine hK.out _ _ hHeld3 (fun _ => ?_)
      clear hK K
      refine wpAnyH_done (by kernel_rfl) ?_ _
      go_wp2_with fail
      go_roundw
      case rel => exact ⟨i + 1, by go_num, by omega, HN2.out⟩
      case measure => simp [intOf]; omega
    · obtain rfl : i = ps.length := by omega
      have HD : Hid (EvPost w (ilooks r ps) (.returned u6) wr) := by
        have := HE.out
        rw [List.take_length] at this
        exact ev_done this HB.out
      clear HE
      go_wp2_with fail
      go_ret
      exact HD.out
end Go.Proofs.YtmageeohnfomnaaGreat

