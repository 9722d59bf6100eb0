import Derived.RangeFuncLeaves
import Derived.Test.YtknnebhjldfkhaaGreatG44
import Derived.Test.YtknnebhjldfkhaaGreatG45
import Derived.Test.YtknnebhjldfkhaaGreatG17
import Derived.Test.YtknnebhjldfkhaaGreatG33
import Derived.Test.YtknnebhjldfkhaaGreatG37
namespace Go.Proofs.YtknnebhjldfkhaaGreat
set_option maxRecDepth 100000
open Go.RowKit Go.ChangeShapes Go.WideShapes Go.ChangeAt

structure Us (c : SC) (g : SG) (e : Nt) (q L : Nat) : Prop where
 uq : Uq c g.nw g.z (ntAt c g.M.c) g.gone e q L
 wk : ∀ h, h < c.n → Wk c.S (c.D h) c.T (cellsE (c.r h) g.M.c)
section
variable {c : SC} {g : SG} {e : Nt} {L k : Nat}
theorem ntc_has {g : Cl} {j : Nat} (h : (ntc g j).1 ≠ 0) : hasB g := by
 unfold ntc at h
 by_cases e : g 0 = 1
 ·exact e
 ·rw [if_neg e] at h; exact absurd rfl h
theorem ntc_of {g : Cl} {j : Nat} (h : hasB g) : ntc g j = (g (3 + 2 * j), g (4 + 2 * j)) := by
 unfold ntc; exact if_pos h
theorem nbC_nt (id to : Int) (d : Nat → Int) (g : Cl) (j0 j : Nat) (hj : j < 4) : ntc (nbC 2 id ((2 * j0 : Nat) : Int) to d g) j = if j = j0 then (d 0, d 1) else (g (3 + 2 * j), g (4 + 2 * j)) := by
 rw [ntc_of (show hasB (nbC 2 id ((2 * j0 : Nat) : Int) to d g) from rfl)]
 have e1 : nbC 2 id ((2 * j0 : Nat) : Int) to d g (3 + 2 * j) = if j = j0 then d 0 else g (3 + 2 * j) := by
  unfold nbC
  rw [if_neg (by omega), if_neg (by omega), if_neg (by omega), if_neg (fun k => absurd k.1 (by decide))]
  by_cases e : j = j0
  ·rw [if_pos ⟨rfl, by omega⟩, if_pos e]
  ·rw [if_neg (fun k => by have := k.2; omega), if_neg (fun k => by have := k.2; omega), if_neg e]
 have e2 : nbC 2 id ((2 * j0 : Nat) : Int) to d g (4 + 2 * j) = if j = j0 then d 1 else g (4 + 2 * j) := by
  unfold nbC
  rw [if_neg (by omega), if_neg (by omega), if_neg (by omega), if_neg (fun k => absurd k.1 (by decide)), if_neg (fun k => by have := k.2; omega)]
  by_cases e : j = j0
  ·rw [if_pos ⟨rfl, by omega⟩, if_pos e]
  ·rw [if_neg (fun k => by have := k.2; omega), if_neg e]
 rw [e1, e2]
 by_cases e : j = j0
 ·rw [if_pos e, if_pos e, if_pos e]
 ·rw [if_neg e, if_neg e, if_neg e]
theorem Us.gon {q : Nat} (hc : c.Ok) (h : Us c g e q L) (hG : g.gone.length = c.n * k + (c.n - 1 - q)) (hq : q < c.n) (hL : L = 2 * c.n * k + 2 * (c.n - 1 - q) + 1) : Us c (g.gon (orN e (tkN g.nw g.z L (c.N q)))) (0, 0) q (L + 1) :=
 ⟨h.uq.gon hc.n1 hG hq hL, h.wk⟩
theorem acM_c {N S D T f P : Nat} {a : Ask} {M : MS} {o : List Nat} (ha : a.ok N = true) : (acM N S D T f P a M o).c = accC S D T f P a.lf.toNat a.id (nbA S D T f a.lf.toNat a.op a.id a.at' a.to a.d M) o M.c := by
 unfold acM; rw [if_pos ha]; rfl
theorem acM_no {N S D T f P : Nat} {a : Ask} {M : MS} {o : List Nat} (ha : ¬ a.ok N = true) : acM N S D T f P a M o = M := by
 unfold acM; rw [if_neg ha]
theorem lev_far {h j : Nat} {q : Ask} {o : List Nat} (hj : j ≠ h) (p : Pl) (hp : p.1 ≤ 1) : cellsE (c.r j) (g.lev c h q o).M.c p = cellsE (c.r j) g.M.c p := by
 have hf : c.r j + 1 < c.r h ∨ c.r h + 2 < c.r j := by unfold SC.r; omega
 exact ac_eq hf p hp
theorem lev_top {h : Nat} {q : Ask} {o : List Nat} (i : Nat) : (g.lev c h q o).M.c c.f i = g.M.c c.f i := ac_far (by unfold SC.r; omega) i
theorem lev_wk (hc : c.Ok) (hw : ∀ h, h < c.n → Wk c.S (c.D h) c.T (cellsE (c.r h) g.M.c)) {h : Nat} (hh : h < c.n) {q : Ask} {o : List Nat} (ho : Ord c g h q o) (hi : 0 ≤ q.id) (hd : ∀ j, 0 ≤ q.d j ∧ q.d j ≤ 18446744073709551615) : ∀ j, j < c.n → Wk c.S (c.D j) c.T (cellsE (c.r j) (g.lev c h q o).M.c) := fun j hj => by
 by_cases e : j = h
 ·subst e
  by_cases ha : q.ok (c.N j) = true
  ·show Wk _ _ _ (cellsE _ (acM _ _ _ _ _ _ q g.M o).c)
   rw [acM_c ha]
   exact acM_wk (hc.conf j hh) (hw j hh) ha hi hd (ho ha)
  ·show Wk _ _ _ (cellsE _ (acM _ _ _ _ _ _ q g.M o).c)
   rw [acM_no ha]
   exact hw j hh
 ·exact fun p hp => by
   rw [lev_far e p (by rcases hp with k | k <;> omega)]
   exact hw j hj p hp
theorem Us.last (hc : c.Ok) (h : Us c g e 0 L) {q : Ask} {o : List Nat} (ho : Ord c g 0 q o) (hi : 0 ≤ q.id) (hd : ∀ j, 0 ≤ q.d j ∧ q.d j ≤ 18446744073709551615) : Us c (g.lev c 0 q o) e 0 L := by
 refine ⟨h.uq.same fun x hx => ?_, lev_wk hc h.wk (by have := hc.n1; omega) ho hi hd⟩
 unfold ntAt
 split
 ·rw [lev_top]
 ·next hne =>
  rcases hx with hx | hx
  ·exact absurd hx.1 hne
  ·rw [lev_far (by omega) _ (by rcases hx.2.2.1 with k | k <;> omega)]
theorem prA_two (id p : Nat) : prA id p = 2 * (id / 4 ^ p % 4) := rfl
theorem Us.part (hc : c.Ok) {p : Nat} (hp : p + 1 < c.n) (h : Us c g (0, 0) (p + 1) L) (hL : L % (2 * c.n) / 2 = c.n - 1 - p) {D : Dw} (hD : (D p).1 = tkN g.nw g.z L (c.N p)) {id : Nat} {fr : Nt} {o : List Nat} (ho : Ord c g (p + 1) (askP D p id fr) o) (hd : WN (D p).1) :
  Us c (g.lev c (p + 1) (askP D p id fr) o) (partN c g D p id fr) p (L + 1) := by
 have hcf := hc.conf (p + 1) hp
 have hdd : ∀ j, 0 ≤ (askP D p id fr).d j ∧ (askP D p id fr).d j ≤ 18446744073709551615 := fun j => by
  show 0 ≤ (if j = 0 then (D p).1.1 else if j = 1 then (D p).1.2 else 0) ∧ (if j = 0 then (D p).1.1 else if j = 1 then (D p).1.2 else 0) ≤ 18446744073709551615
  split
  ·exact hd.1
  ·split
   ·exact hd.2
   ·omega
 have hid : 0 ≤ (askP D p id fr).id := by exact Int.natCast_nonneg (id / 4 ^ (p + 1))
 refine ⟨?_, lev_wk hc h.wk hp ho hid hdd⟩
 show Uq c g.nw g.z (ntAt c (g.lev c (p + 1) (askP D p id fr) o).M.c) g.gone _ p (L + 1)
 by_cases ha : (askP D p id fr).ok (c.N (p + 1)) = true
 ·obtain ⟨h1, h2, h3, h4, h5⟩ := ask_of ha
  have hN := hcf.hN
  have hlf : (askP D p id fr).lf.toNat < 2 ^ c.D (p + 1) := by omega
  have hn : c.m (p + 1) = (c.D (p + 1) + 1) * c.S + c.T + 1 := by have := hcf.hL; have := hcf.hn; omega
  have htab := acL_tab hcf (h.wk (p + 1) hp) ha hid hdd
  have hE' : ∀ x, cellsE (c.r (p + 1)) (g.lev c (p + 1) (askP D p id fr) o).M.c x = cellsE (c.r (p + 1)) (accC c.S (c.D (p + 1)) c.T (c.r (p + 1)) (c.P (p + 1)) (askP D p id fr).lf.toNat (askP D p id fr).id (nbA c.S (c.D (p + 1)) c.T (c.r (p + 1)) (askP D p id fr).lf.toNat (askP D p id fr).op (askP D p id fr).id (askP D p id fr).at' (askP D p id fr).to (askP D p id fr).d g.M) o g.M.c) x := fun x => by
   show cellsE _ (acM _ _ _ _ _ _ (askP D p id fr) g.M o).c x = _
   rw [acM_c ha]
  obtain ⟨s, s1, s2⟩ := acc_src (E := cellsE (c.r (p + 1)) g.M.c) (E' := cellsE (c.r (p + 1)) (g.lev c (p + 1) (askP D p id fr) o).M.c) hcf.s1 hlf hcf.hD hn htab (ho ha)
   (fun i hi => by rw [hE', hn]; exact acc_at hcf.s1 hlf hi) (fun q hq hf => by rw [hE']; exact acc_way (by rcases hq with k | k <;> omega) hf)
  have hwas := wasC_src (S := c.S) (D := c.D (p + 1)) (T := c.T) (lf := (askP D p id fr).lf.toNat) (E := cellsE (c.r (p + 1)) g.M.c) (id := (askP D p id fr).id) _ (Nat.le_refl _)
  have hacW : acW (c.N (p + 1)) c.S (c.D (p + 1)) c.T (c.r (p + 1)) (askP D p id fr) g.M = wasC (fun j => cellsE (c.r (p + 1)) g.M.c (wayQ c.S (c.D (p + 1)) (askP D p id fr).lf.toNat j)) (askP D p id fr).id ((c.D (p + 1) + 1) * c.S + c.T) := by
   unfold acW; rw [if_pos ha]; rfl
  have hnb : nbA c.S (c.D (p + 1)) c.T (c.r (p + 1)) (askP D p id fr).lf.toNat (askP D p id fr).op (askP D p id fr).id (askP D p id fr).at' (askP D p id fr).to (askP D p id fr).d g.M = nbC 2 (askP D p id fr).id ((2 * (id / 4 ^ p % 4) : Nat) : Int) (askP D p id fr).to (askP D p id fr).d (acW (c.N (p + 1)) c.S (c.D (p + 1)) c.T (c.r (p + 1)) (askP D p id fr) g.M) := by
   unfold nbA
   show newB 2 _ _ _ _ _ = _
   unfold newB
   rw [if_neg (by omega)]
   unfold acW; rw [if_pos ha]
   rfl
  have hpart : partN c g D p id fr = (acW (c.N (p + 1)) c.S (c.D (p + 1)) c.T (c.r (p + 1)) (askP D p id fr) g.M (3 + 2 * (id / 4 ^ p % 4)), acW (c.N (p + 1)) c.S (c.D (p + 1)) c.T (c.r (p + 1)) (askP D p id fr) g.M (4 + 2 * (id / 4 ^ p % 4))) := by
   unfold partN
   rw [prA_two, show 3 + (2 * (id / 4 ^ p % 4) + 1) = 4 + 2 * (id / 4 ^ p % 4) by omega]
  have hj0 : id / 4 ^ p % 4 < 4 := Nat.mod_lt _ (by decide)
  have hfd : ((askP D p id fr).d 0, (askP D p id fr).d 1) = tkN g.nw g.z L (c.N p) := by
   rw [← hD]; rfl
  rw [hpart]
  rw [hacW] at hnb ⊢
  rw [hnb] at s1
  generalize (askP D p id fr).d = dd at *
  generalize id / 4 ^ p % 4 = j0 at *
  generalize wasC (fun j => cellsE (c.r (p + 1)) g.M.c (wayQ c.S (c.D (p + 1)) (askP D p id fr).lf.toNat j)) (askP D p id fr).id ((c.D (p + 1) + 1) * c.S + c.T) = was at *
  -- the new cells' notes, and those of the others
  have hν : ∀ x, vl c x → x.1 ≠ p + 1 → ntAt c (g.lev c (p + 1) (askP D p id fr) o).M.c x = ntAt c g.M.c x := fun x hx hne => by
   unfold ntAt
   split
   ·rw [lev_top]
   ·rcases hx with hx | hx
    ·exact absurd hx.1 (by assumption)
    ·rw [lev_far hne _ (by rcases hx.2.2.1 with k | k <;> omega)]
  have hat : ∀ (C : Nat → Nat → Cl) (q : Pl) (j : Nat), ntAt c C (p + 1, q, j) = ntc (cellsE (c.r (p + 1)) C q) j := fun C q j => by
   unfold ntAt; rw [if_neg (by show ¬ p + 1 = c.n; omega)]
  -- was: noughts, or a cell of the block's
  have hq : (was = nul ∧ ∃ qs : Pl, True) ∨ ∃ qs, isPl c.S (c.D (p + 1)) c.T qs ∧ MineQ c.S (c.D (p + 1)) c.T (askP D p id fr).lf.toNat (cellsE (c.r (p + 1)) g.M.c) (askP D p id fr).id qs ∧ was = cellsE (c.r (p + 1)) g.M.c qs := by
   rcases hwas with h1 | ⟨j, a1, a2, a3, a4⟩
   ·exact .inl ⟨h1, (0, 0), trivial⟩
   ·exact .inr ⟨_, wayQ_is hcf.s1 hlf a1, ⟨j, a1, rfl, a2, a3⟩, a4⟩
  obtain ⟨qs, hqs⟩ : ∃ qs : Pl, (was = nul) ∨ (isPl c.S (c.D (p + 1)) c.T qs ∧ MineQ c.S (c.D (p + 1)) c.T (askP D p id fr).lf.toNat (cellsE (c.r (p + 1)) g.M.c) (askP D p id fr).id qs ∧ was = cellsE (c.r (p + 1)) g.M.c qs) := by
   rcases hq with ⟨h1, q0, _⟩ | ⟨q0, hq⟩
   ·exact ⟨q0, .inl h1⟩
   ·exact ⟨q0, .inr hq⟩
  have hnt : ∀ q j, isPl c.S (c.D (p + 1)) c.T q → j < 4 → (ntc (cellsE (c.r (p + 1)) (g.lev c (p + 1) (askP D p id fr) o).M.c q) j).1 ≠ 0 →
    (∃ q0, s q = some q0 ∧ isPl c.S (c.D (p + 1)) c.T q0 ∧ ntc (cellsE (c.r (p + 1)) (g.lev c (p + 1) (askP D p id fr) o).M.c q) j = ntc (cellsE (c.r (p + 1)) g.M.c q0) j ∧ (was ≠ nul → q0 ≠ qs)) ∨
    (s q = none ∧ j = j0 ∧ ntc (cellsE (c.r (p + 1)) (g.lev c (p + 1) (askP D p id fr) o).M.c q) j = tkN g.nw g.z L (c.N p)) ∨
    (s q = none ∧ j ≠ j0 ∧ was ≠ nul ∧ ntc (cellsE (c.r (p + 1)) (g.lev c (p + 1) (askP D p id fr) o).M.c q) j = ntc (cellsE (c.r (p + 1)) g.M.c qs) j) := fun q j hq hj hne => by
   rcases s1 q hq (ntc_has hne) with ⟨q0, a1, a2, a3, a4, a5⟩ | ⟨a1, a2⟩
   ·refine .inl ⟨q0, a1, a2, by rw [a4], fun hw k => ?_⟩
    rcases hqs with k2 | ⟨_, k2, _⟩
    ·exact hw k2
    ·rw [k] at a5; exact a5 k2
   ·rw [a2, nbC_nt _ _ _ _ _ _ hj] at hne ⊢
    by_cases e : j = j0
    ·rw [if_pos e]
     exact .inr (.inl ⟨a1, e, hfd⟩)
    ·rw [if_neg e] at hne ⊢
     have hw : was ≠ nul := fun k => by rw [k] at hne; exact hne rfl
     rcases hqs with k2 | ⟨_, ⟨_, _, _, k3, _⟩, k2⟩
     ·exact absurd k2 hw
     ·refine .inr (.inr ⟨a1, e, hw, ?_⟩)
      rw [ntc_of (show hasB (cellsE (c.r (p + 1)) g.M.c qs) from k3), k2]
  refine h.uq.turn hL (fun x => if x.1 = p + 1 then (match s x.2.1 with | some q0 => some (p + 1, q0, x.2.2) | none => if x.2.2 = j0 then none else some (p + 1, qs, x.2.2)) else some x) _ (p + 1, qs, j0) (fun x hx h1 => ?_) (fun x x' hx hx' h1 h2 h3 => ?_) (fun he => ?_)
  ·obtain ⟨lv, q, j⟩ := x
   by_cases hlv : lv = p + 1
   ·subst hlv
    rcases hx with hx | ⟨_, _, hx1, hx2⟩
    ·exact absurd hx.1 (by show ¬ p + 1 = c.n; omega)
    ·rw [hat] at h1 ⊢
     dsimp only
     rw [if_pos rfl]
     rcases hnt q j hx1 hx2 h1 with ⟨q0, b1, b2, b3, b4⟩ | ⟨b1, b2, b3⟩ | ⟨b1, b2, b3, b4⟩
     ·rw [b1]
      exact .inl ⟨_, rfl, .inr ⟨by show 1 ≤ p + 1; omega, hp, b2, hx2⟩, by rw [hat]; exact b3, rfl⟩
     ·rw [b1]
      dsimp only
      rw [if_pos b2]
      exact .inr ⟨rfl, b3, rfl⟩
     ·rw [b1]
      dsimp only
      rw [if_neg b2]
      rcases hqs with k2 | ⟨k1, _, _⟩
      ·exact absurd k2 b3
      ·exact .inl ⟨_, rfl, .inr ⟨by show 1 ≤ p + 1; omega, hp, k1, hx2⟩, by rw [hat]; exact b4, rfl⟩
   ·dsimp only
    rw [if_neg hlv]
    exact .inl ⟨_, rfl, hx, hν _ hx hlv, rfl⟩
  ·obtain ⟨lv, q, j⟩ := x
   obtain ⟨lv', q', j'⟩ := x'
   dsimp only at h3
   by_cases hlv : lv = p + 1 <;> by_cases hlv' : lv' = p + 1
   ·subst hlv
    subst hlv'
    rw [if_pos rfl, if_pos rfl] at h3
    rcases hx with hx | ⟨_, _, hx1, hx2⟩
    ·exact absurd hx.1 (by show ¬ p + 1 = c.n; omega)
    rcases hx' with hx' | ⟨_, _, hx1', hx2'⟩
    ·exact absurd hx'.1 (by show ¬ p + 1 = c.n; omega)
    rw [hat] at h1 h2
    have hb := ntc_has h1
    have hb' := ntc_has h2
    rcases hnt q j hx1 hx2 h1 with ⟨q0, b1, b2, b3, b4⟩ | ⟨b1, b2, b3⟩ | ⟨b1, b2, b3, b4⟩ <;> rcases hnt q' j' hx1' hx2' h2 with ⟨q0', d1, d2, d3, d4⟩ | ⟨d1, d2, d3⟩ | ⟨d1, d2, d3, d4⟩ <;> rw [b1, d1] at h3 <;> dsimp only at h3
    ·injection h3 with h3
     injection h3 with _ h3
     injection h3 with h3 h4
     have := s2 q q' hx1 hx1' hb hb' (by rw [b1, d1, h3])
     rw [this, h4]
    ·rw [if_pos d2] at h3; cases h3
    ·rw [if_neg d2] at h3
     injection h3 with h3
     injection h3 with _ h3
     injection h3 with h3 h4
     exact absurd h3 (b4 d3)
    ·rw [if_pos b2] at h3; cases h3
    ·have := s2 q q' hx1 hx1' hb hb' (by rw [b1, d1])
     rw [this, b2, d2]
    ·rw [if_pos b2, if_neg d2] at h3; cases h3
    ·rw [if_neg b2] at h3
     injection h3 with h3
     injection h3 with _ h3
     injection h3 with h3 h4
     exact absurd h3.symm (d4 b3)
    ·rw [if_neg b2, if_pos d2] at h3; cases h3
    ·rw [if_neg b2, if_neg d2] at h3
     injection h3 with h3
     injection h3 with _ h3
     injection h3 with _ h4
     have := s2 q q' hx1 hx1' hb hb' (by rw [b1, d1])
     rw [this, h4]
   ·subst hlv
    rw [if_pos rfl, if_neg hlv'] at h3
    exfalso
    split at h3
    ·injection h3 with h3
     injection h3 with h3 _
     exact hlv' h3.symm
    ·split at h3
     ·cases h3
     ·injection h3 with h3
      injection h3 with h3 _
      exact hlv' h3.symm
   ·subst hlv'
    rw [if_neg hlv, if_pos rfl] at h3
    exfalso
    split at h3
    ·injection h3 with h3
     injection h3 with h3 _
     exact hlv h3
    ·split at h3
     ·cases h3
     ·injection h3 with h3
      injection h3 with h3 _
      exact hlv h3
   ·rw [if_neg hlv, if_neg hlv'] at h3
    injection h3
  ·have hw : was ≠ nul := fun k => by rw [k] at he; exact he rfl
   rcases hqs with k2 | ⟨k1, ⟨i9, k4, k5, k3, k6⟩, k2⟩
   ·exact absurd k2 hw
   ·refine ⟨.inr ⟨by show 1 ≤ p + 1; omega, hp, k1, hj0⟩, by rw [hat, ntc_of (show hasB (cellsE (c.r (p + 1)) g.M.c qs) from k3), k2], rfl, fun x hx h1 => ?_⟩
    obtain ⟨lv, q, j⟩ := x
    dsimp only
    by_cases hlv : lv = p + 1
    ·subst hlv
     rw [if_pos rfl]
     rcases hx with hx | ⟨_, _, hx1, hx2⟩
     ·exact absurd hx.1 (by show ¬ p + 1 = c.n; omega)
     rw [hat] at h1
     rcases hnt q j hx1 hx2 h1 with ⟨q0, b1, b2, b3, b4⟩ | ⟨b1, b2, b3⟩ | ⟨b1, b2, b3, b4⟩
     ·rw [b1]
      intro h3
      injection h3 with h3
      injection h3 with _ h3
      injection h3 with h3 _
      exact b4 hw h3
     ·rw [b1]
      dsimp only
      rw [if_pos b2]
      intro h3; cases h3
     ·rw [b1]
      dsimp only
      rw [if_neg b2]
      intro h3
      injection h3 with h3
      injection h3 with _ h3
      injection h3 with _ h3
      exact b2 h3
    ·rw [if_neg hlv]
     intro h3
     injection h3 with h3
     injection h3 with h3 _
     exact hlv h3
 ·have e1 : (g.lev c (p + 1) (askP D p id fr) o).M = g.M := acM_no ha
  have e2 : partN c g D p id fr = (0, 0) := by unfold partN acW; rw [if_neg ha]; rfl
  rw [e1, e2]
  exact (h.uq.drop p).more (by omega)
theorem Us.top (hc : c.Ok) (h : Us c g (0, 0) k L) (hL : L = 2 * c.n * k) {id : Nat} (hid : id < 2 ^ c.b) : Us c (g.top c id (tkN g.nw g.z L (c.N (c.n - 1)))) (topN g c id) (c.n - 1) (L + 1) := by
 have hn := hc.n1
 have hk : id / 4 ^ (c.n - 1) < c.N (c.n - 1) := meant_lt _ hid
 unfold SG.top topN
 generalize id / 4 ^ (c.n - 1) = i0 at *
 have hcell : ∀ i, ((g.see c).note c i0 (tkN g.nw g.z L (c.N (c.n - 1)))).M.c c.f i = if i = i0 then tpC (tkN g.nw g.z L (c.N (c.n - 1))) else g.M.c c.f i := fun i => by
  show (if c.f = c.f ∧ i < c.N (c.n - 1) ∧ i = i0 ∧ true = true then tpC _ else g.M.c c.f i) = _
  by_cases e : i = i0
  ·rw [if_pos e, if_pos ⟨rfl, by omega, e, rfl⟩]
  ·rw [if_neg e, if_neg (fun q => e q.2.2.1)]
 have hfar : ∀ r, r ≠ c.f → ∀ i, ((g.see c).note c i0 (tkN g.nw g.z L (c.N (c.n - 1)))).M.c r i = g.M.c r i := fun r hr i => by
  show (if r = c.f ∧ i < c.N (c.n - 1) ∧ i = i0 ∧ true = true then tpC _ else g.M.c r i) = _
  rw [if_neg (fun q => hr q.1)]
 have hE : ∀ h q, cellsE (c.r h) ((g.see c).note c i0 (tkN g.nw g.z L (c.N (c.n - 1)))).M.c q = cellsE (c.r h) g.M.c q := fun h q => hfar _ (by unfold SC.r; omega) _
 refine ⟨?_, fun j hj p hp => by rw [hE]; exact h.wk j hj p hp⟩
 show Uq c g.nw g.z (ntAt c ((g.see c).note c i0 (tkN g.nw g.z L (c.N (c.n - 1)))).M.c) g.gone _ _ _
 have hv : ∀ x, vl c x → x.1 = c.n → x = (c.n, (0, x.2.1.2), 0) := fun x hx h1 => by
  rcases hx with ⟨a1, a2, a3, a4⟩ | hx
  ·obtain ⟨lv, ⟨q0, q1⟩, j⟩ := x
   simp only at a1 a2 a4
   rw [a1, a2, a4]
  ·omega
 have hν : ∀ x, x ≠ (c.n, (0, i0), 0) → vl c x → ntAt c ((g.see c).note c i0 (tkN g.nw g.z L (c.N (c.n - 1)))).M.c x = ntAt c g.M.c x := fun x hx hvx => by
  unfold ntAt
  by_cases e : x.1 = c.n
  ·rw [if_pos e, if_pos e, hcell, if_neg]
   intro k2
   exact hx (by rw [hv x hvx e, k2])
  ·rw [if_neg e, if_neg e, hE]
 have h0 : ntAt c ((g.see c).note c i0 (tkN g.nw g.z L (c.N (c.n - 1)))).M.c (c.n, (0, i0), 0) = tkN g.nw g.z L (c.N (c.n - 1)) := by
  unfold ntAt; rw [if_pos rfl, hcell, if_pos rfl]; rfl
 have hm : L % (2 * c.n) / 2 = c.n - 1 - (c.n - 1) := by rw [hL, Nat.mul_mod_right]; omega
 refine (h.uq.drop 0).turn hm (fun x => if x = (c.n, (0, i0), 0) then none else some x) _ (c.n, (0, i0), 0) (fun x hx h1 => ?_) (fun x x' hx hx' h1 h2 h3 => ?_) (fun he => ?_)
 ·by_cases e : x = (c.n, (0, i0), 0)
  ·subst e
   rw [if_pos rfl]
   exact .inr ⟨rfl, h0, by show c.n = _; omega⟩
  ·rw [if_neg e]
   exact .inl ⟨x, rfl, hx, hν x e hx, rfl⟩
 ·try dsimp only at h3
  by_cases e : x = (c.n, (0, i0), 0) <;> by_cases e' : x' = (c.n, (0, i0), 0)
  ·rw [e, e']
  ·rw [if_pos e, if_neg e'] at h3; cases h3
  ·rw [if_neg e, if_pos e'] at h3; cases h3
  ·rw [if_neg e, if_neg e'] at h3
   injection h3
 ·refine ⟨.inl ⟨rfl, rfl, hk, rfl⟩, by unfold ntAt; rw [if_pos rfl], by show c.n = _; omega, fun x hx h1 => ?_⟩
  try dsimp only
  split
  ·intro k2; cases k2
  ·next hne => intro k2; injection k2 with k2; exact hne k2
end
structure Uk (c : SC) (g : SG) (k : Nat) : Prop where
 us : Us c g (0, 0) 0 (2 * c.n * k)
 u : g.u = 2 * c.n * k
 len : g.gone.length = c.n * k
theorem drawn_at {c : SC} {g : SG} {h : Nat} (hh : h < c.n) : drawn c g h = (tkN g.nw g.z (g.u + 2 * (c.n - 1 - h)) (c.N h), tkN g.nw g.z (g.u + 2 * (c.n - 1 - h) + 1) (c.N h)) := by
 unfold drawn; exact drws_down _ _ _ _ _ _ _ hh
theorem Rn.words {c : SC} (hc : c.Ok) {G : SG} {k : Nat} (hU : Uk c G k) (hk : G.u ≤ 1000000000) {op : Int} {id : Nat} (hid : id < 2 ^ c.b) {d : Nat → Int} (hd : ∀ j, 0 ≤ d j ∧ d j ≤ 18446744073709551615) {g : SG} {e : Nt} {r : Nat → Int} {t : Bool} {l : List Nat}
  (h : Rn c (drawn c G) op id d ((G.drew c).top c id (drawn c G (c.n - 1)).1) (topN (G.drew c) c id) l g e r t) :
  ∀ s, l ++ s = downL c.n → g.nw = G.nw ∧ g.z = G.z ∧ (∀ q, s.length = q + 1 → Us c g e q (2 * c.n * k + 2 * (c.n - 1 - q) + 1) ∧ g.gone.length = c.n * k + (c.n - 1 - q)) ∧ (s = [] → Us c g (0, 0) 0 (2 * c.n * (k + 1)) ∧ g.gone.length = c.n * (k + 1)) := by
 have hn := hc.n1
 have hn4 := hc.n4
 induction h with
 | nil =>
  intro s hs
  have hs' : s = downL c.n := hs
  have hl : s.length = c.n := by rw [hs', downL_len]
  refine ⟨rfl, rfl, fun q hq => ?_, fun e => by rw [e] at hl; simp at hl; omega⟩
  have : q = c.n - 1 := by omega
  subst this
  rw [drawn_at (by omega)]
  have h1 : Us c (G.drew c) (0, 0) 0 (2 * c.n * k) := ⟨hU.us.uq, hU.us.wk⟩
  have h2 : Us c (G.drew c) (0, 0) k (2 * c.n * k) := ⟨h1.uq.drop k, h1.wk⟩
  have h3 := h2.top hc rfl hid
  rw [show G.u + 2 * (c.n - 1 - (c.n - 1)) = 2 * c.n * k by rw [hU.u]; omega]
  refine ⟨?_, ?_⟩
  ·rw [show 2 * c.n * k + 2 * (c.n - 1 - (c.n - 1)) + 1 = 2 * c.n * k + 1 by omega]
   exact h3
  ·show G.gone.length = _
   rw [hU.len]; omega
 | part p o h hp ho ih =>
  intro s hs
  rw [List.append_assoc] at hs
  have hsf := down_suff _ _ _ hs
  have hlen : s.length = p + 1 := by
   have e2 : ([p + 1] ++ s) = downL (s.length + 1) := by simpa using hsf
   have e3 : (p + 1) :: s = s.length :: downL s.length := e2
   injection e3 with e3 _
   exact e3.symm
  obtain ⟨n1, n2, n3, _⟩ := ih _ hs
  obtain ⟨w1, w2⟩ := n3 (p + 1) (by simp [hlen])
  refine ⟨n1, n2, fun q hq => ?_, fun e => by rw [e] at hlen; simp at hlen⟩
  have : q = p := by omega
  subst this
  have hu := hU.u
  have hLq : G.u + 2 * (c.n - 1 - (q + 1)) + 1 = 2 * c.n * k + 2 * (c.n - 1 - (q + 1)) + 1 := by omega
  have hsp : (drawn c G (q + 1)).2 = tkN G.nw G.z (2 * c.n * k + 2 * (c.n - 1 - (q + 1)) + 1) (c.N (q + 1)) := by rw [drawn_at hp, hLq]
  rw [hsp] at ho ⊢
  rw [← n1, ← n2] at ho ⊢
  have g1 := w1.gon hc w2 hp rfl
  have hL2 : 2 * c.n * k + 2 * (c.n - 1 - (q + 1)) + 1 + 1 = 2 * c.n * k + 2 * (c.n - 1 - q) := by omega
  rw [hL2] at g1
  have hfr : (drawn c G q).1 = tkN G.nw G.z (2 * c.n * k + 2 * (c.n - 1 - q)) (c.N q) := by rw [drawn_at (by omega), show G.u + 2 * (c.n - 1 - q) = 2 * c.n * k + 2 * (c.n - 1 - q) by omega]
  have g2 := g1.part hc hp (by rw [Nat.mul_add_mod, Nat.mod_eq_of_lt (by omega)]; omega) (by rw [hfr, ← n1, ← n2]; rfl) ho (by rw [hfr]; exact tkN_wd (SC.N_le hc q).1 (SC.N_le hc q).2 (by omega))
  refine ⟨g2, ?_⟩
  show (SG.gone _ ++ [_]).length = _
  rw [List.length_append, w2]
  simp
  omega
 | last o h ho ih =>
  intro s hs
  rw [List.append_assoc] at hs
  have hsf := down_suff _ _ _ hs
  have hlen : s.length = 0 := by
   have e2 : ([0] ++ s) = downL (s.length + 1) := by simpa using hsf
   have e3 : (0 : Nat) :: s = s.length :: downL s.length := e2
   injection e3 with e3 _
   exact e3.symm
  obtain ⟨n1, n2, n3, _⟩ := ih _ hs
  obtain ⟨w1, w2⟩ := n3 0 (by simp [hlen])
  refine ⟨n1, n2, fun q hq => by omega, fun _ => ?_⟩
  have hu := hU.u
  have hsp : (drawn c G 0).2 = tkN G.nw G.z (2 * c.n * k + 2 * (c.n - 1 - 0) + 1) (c.N 0) := by rw [drawn_at (by omega), show G.u + 2 * (c.n - 1 - 0) + 1 = 2 * c.n * k + 2 * (c.n - 1 - 0) + 1 by omega]
  rw [hsp] at ho ⊢
  rw [← n1, ← n2] at ho ⊢
  have g1 := w1.gon hc w2 (by omega) rfl
  have hL2 : 2 * c.n * k + 2 * (c.n - 1 - 0) + 1 + 1 = 2 * c.n * (k + 1) := by rw [Nat.mul_add]; omega
  rw [hL2] at g1
  refine ⟨g1.last hc ho (by show (0 : Int) ≤ (id : Int); omega) hd, ?_⟩
  show (SG.gone _ ++ [_]).length = _
  rw [List.length_append, w2, Nat.mul_add]
  simp
  omega
theorem Rn.uk {c : SC} (hc : c.Ok) {G : SG} {k : Nat} (hU : Uk c G k) (hk : G.u ≤ 1000000000) {op : Int} {id : Nat} (hid : id < 2 ^ c.b) {d : Nat → Int} (hd : ∀ j, 0 ≤ d j ∧ d j ≤ 18446744073709551615) {g : SG} {e : Nt} {r : Nat → Int} {t : Bool}
  (h : Rn c (drawn c G) op id d ((G.drew c).top c id (drawn c G (c.n - 1)).1) (topN (G.drew c) c id) (downL c.n) g e r t) (hu : g.u = G.u + 2 * c.n) : Uk c g (k + 1) := by
 obtain ⟨_, _, _, h4⟩ := Rn.words hc hU hk hid hd h [] (by simp)
 obtain ⟨h5, h6⟩ := h4 rfl
 exact ⟨h5, by rw [hu, hU.u, Nat.mul_add]; omega, h6⟩
end Go.Proofs.YtknnebhjldfkhaaGreat


namespace Go.Proofs.YtknnebhjldfkhaaGreat
set_option maxRecDepth 100000
open Go.RowKit Go.ChangeShapes Go.WideShapes Go.ChangeAt

def StK (c : SC) (a : SA) (Z : Nat → Prop) (g : SG) (k : Nat) (w : World) : Prop := ∃ ga gc G, StoA c a g ga gc G k w ∧ ∀ i, Z i → i < w.heap.size ∧ ¬ G i
def StB (c : SC) (g : SG) (b : Int → Option (Nat → Int)) : Prop := ∃ m, SIe c g m (fun _ _ => False) ∧ ∀ i, (m 0 i).map (·.2) = b i
def nxD (op : Int) (d : Nat → Int) (x : Option (Nat → Int)) : Option (Nat → Int) := if op = 3 then none else if op = 0 then x else some d
def setD (b : Int → Option (Nat → Int)) (id : Int) (x : Option (Nat → Int)) : Int → Option (Nat → Int) := fun i => if i = id then x else b i
def datD (x : Option (Nat → Int)) : Nat → Int := x.getD fun _ => 0
theorem newM_data {op at' : Int} (hop : op = 0 ∨ op = 1 ∨ op = 3) (to : Nat) (d : Nat → Int) (x : Option (Nat × (Nat → Int))) : (newM op at' to d x).map (·.2) = nxD op d (x.map (·.2)) := by
 rcases hop with rfl | rfl | rfl
 ·cases x <;> rfl
 ·cases x <;> rfl
 ·cases x <;> rfl
theorem dat_data (x : Option (Nat × (Nat → Int))) : dat x = datD (x.map (·.2)) := by cases x <;> rfl
theorem tkN_lf {nw : Nat} {z : Nat → Int} {u N : Nat} (h0 : 0 < N) : lfN N (tkN nw z u N) := by
 have := Nat.mod_lt (told nw z u).toNat h0
 unfold lfN tkN
 dsimp only
 omega
theorem drawn_ok {c : SC} (hc : c.Ok) (g : SG) : DrwOk c (drawn c g) := fun h hh => by
 unfold drawn
 rw [drws_down _ _ _ _ _ _ _ hh]
 exact ⟨tkN_lf (SC.N_le hc h).1, tkN_lf (SC.N_le hc h).1⟩
theorem SIe.drew {c : SC} {g : SG} {m : Nat → Bm} {ex : Nat → Nat → Prop} (h : SIe c g m ex) : SIe c (g.drew c) m ex := ⟨h.lv, h.rng, h.wh, h.ok, h.put, h.ovn⟩
theorem isOp_is {op : Int} {id N : Nat} (h : isOp op id N = true) : (op = 0 ∨ op = 1 ∨ op = 3) ∧ id < N := by
 unfold isOp at h
 simp only [Bool.and_eq_true, Bool.or_eq_true, beq_iff_eq, decide_eq_true_eq] at h
 omega
def Grw (g g' : SG) : Prop := (∀ h, g.ov h = true → g'.ov h = true) ∧ (∀ h, (difI (g.I h)).length ≤ (difI (g'.I h)).length)
theorem Grw.lev {c : SC} {g : SG} {h : Nat} {q : Ask} {o : List Nat} : Grw g (g.lev c h q o) := by
 refine ⟨fun j hj => ?_, fun j => ?_⟩
 ·unfold SG.lev
  dsimp only
  split
  ·next e => subst e; rw [hj]; rfl
  ·exact hj
 ·unfold SG.lev
  dsimp only
  split
  ·next e => subst e; exact acI_sub _ _ _
  ·exact Nat.le_refl _
theorem Grw.trans {g g' g2 : SG} (h : Grw g g') (h2 : Grw g' g2) : Grw g g2 := ⟨fun j hj => h2.1 j (h.1 j hj), fun j => Nat.le_trans (h.2 j) (h2.2 j)⟩
theorem Rn.grw {c : SC} {D : Dw} {op : Int} {id : Nat} {d : Nat → Int} {g0 : SG} {e0 : Nt} {l : List Nat} {g : SG} {e : Nt} {r : Nat → Int} {t : Bool} (h : Rn c D op id d g0 e0 l g e r t) : Grw g0 g := by
 induction h with
 | nil => exact ⟨fun _ h => h, fun _ => Nat.le_refl _⟩
 | part p o h hp ho ih => exact ih.trans (Grw.trans ⟨fun _ h => h, fun _ => Nat.le_refl _⟩ (Grw.lev (g := SG.gon _ _)))
 | last o h ho ih => exact ih.trans (Grw.trans ⟨fun _ h => h, fun _ => Nat.le_refl _⟩ (Grw.lev (g := SG.gon _ _)))
def IdOk (c : SC) (g : SG) : Prop := ∀ h x, x ∈ g.I h → ∃ j : Nat, x = (j : Int) ∧ j < c.N h
theorem IdOk.lev {c : SC} {g : SG} (h : IdOk c g) {l : Nat} {q : Ask} {o : List Nat} (hq : ∃ j : Nat, q.id = (j : Int) ∧ j < c.N l) : IdOk c (g.lev c l q o) := fun j x hx => by
 unfold SG.lev at hx
 dsimp only at hx
 split at hx
 ·next e =>
  subst e
  unfold acI at hx
  split at hx
  ·rcases List.mem_append.1 hx with hx | hx
   ·exact h _ x hx
   ·rw [List.mem_singleton] at hx
    rw [hx]; exact hq
  ·exact h _ x hx
 ·exact h j x hx
theorem Rn.ids {c : SC} {D : Dw} {op : Int} {id : Nat} (hid : id < 2 ^ c.b) {d : Nat → Int} {g0 : SG} {e0 : Nt} {l : List Nat} {g : SG} {e : Nt} {r : Nat → Int} {t : Bool} (h : Rn c D op id d g0 e0 l g e r t) (h0 : IdOk c g0) : IdOk c g := by
 induction h with
 | nil => exact h0
 | part p o h hp ho ih => exact IdOk.lev (g := SG.gon _ _) ih ⟨id / 4 ^ (p + 1), rfl, meant_lt _ hid⟩
 | last o h ho ih => exact IdOk.lev (g := SG.gon _ _) ih ⟨id, rfl, by have := meant_lt (b := c.b) 0 hid; rw [Nat.pow_zero, Nat.div_one] at this; exact this⟩
def upTo (n : Nat) : List Int := (List.range n).map fun (j : Nat) => (j : Int)
theorem IdOk.len {c : SC} {g : SG} (h : IdOk c g) (l : Nat) : (difI (g.I l)).length ≤ c.N l := by
 have := difI_le (g.I l) (upTo (c.N l)) fun x hx => by
  obtain ⟨j, rfl, hj⟩ := h l x hx
  exact List.mem_map.2 ⟨j, List.mem_range.2 hj, rfl⟩
 simpa [upTo] using this
section
variable {c : SC} {a : SA} {Z Z' : Nat → Prop} {g : SG} {k : Nat} {w w' : World}
theorem StK.weak (h : StK c a Z g k w) (hz : ∀ i, Z' i → Z i) : StK c a Z' g k w := by
 obtain ⟨ga, gc, G, h1, h2⟩ := h
 exact ⟨ga, gc, G, h1, fun i hi => h2 i (hz i hi)⟩
theorem StK.grow (h : StK c a Z g k w) (ho : Only nobody w w') : StK c a (fun i => Z i ∨ (w.heap.size ≤ i ∧ i < w'.heap.size)) g k w' := by
 obtain ⟨ga, gc, G, h1, h2⟩ := h
 refine ⟨ga, gc, G, h1.nob ho, fun i hi => ?_⟩
 rcases hi with hi | hi
 ·exact ⟨Nat.lt_of_lt_of_le (h2 i hi).1 ho.size, (h2 i hi).2⟩
 ·exact ⟨hi.2, fun hg => by have := h1.lt i hg; omega⟩
theorem StK.nob (h : StK c a Z g k w) (ho : Only nobody w w') : StK c a Z g k w' := (h.grow ho).weak fun _ hi => .inl hi
theorem StK.access (hc : c.Ok) (h : StK c a Z g k w) (op : Int) (id : Nat) (d : Nat → Int) (hop : isOp op id (2 ^ c.b) = true) (hd : ∀ j, 0 ≤ d j ∧ d j ≤ 18446744073709551615) (hk : k < 19900) :
  Calls Tryz.prog 41 #[.pointer (some ⟨a.sp, 0, none⟩), .int .i64 op, .int .u64 (id : Int), .agg (DA d)] w fun r w' =>
   ∃ g' rr t, r = .returned (.tuple #[.agg (DA rr), .bool t]) ∧ StK c a Z g' (k + 20) w' ∧ Kept Z w w' ∧ Grw g g' ∧ (IdOk c g → IdOk c g') ∧
    (NoO c g' → ∀ b, StB c g b → DA rr = DA (datD (b (id : Int))) ∧ t = (b (id : Int)).isSome ∧ StB c g' (setD b (id : Int) (nxD op d (b (id : Int))))) := by
 obtain ⟨ga, gc, G, h1, h2⟩ := h
 obtain ⟨hop1, hid⟩ := isOp_is hop
 refine (h1.access hc op id d hop hd hk).mono ?_
 rintro r w' ⟨g', e', rr, t, hR, rfl, ga', gc', G', s1, s2, s3, s4⟩
 refine ⟨g', rr, t, rfl, ⟨ga', gc', G', s1, fun i hi => s3 i (h2 i hi)⟩, s4.mono (fun i _ hi hz => (h2 i hz).2 hi), ?_, fun h0 => Rn.ids hid hR h0, fun hN b hb => ?_⟩
 ·exact Grw.trans ⟨fun _ h => h, fun _ => Nat.le_refl _⟩ hR.grw
 ·obtain ⟨m, hI, hm⟩ := hb
  obtain ⟨m', q1, q2, q3, to, q4⟩ := Rn.sound hc (drawn_ok hc g) hop1 hid hI.drew hR hN
  refine ⟨?_, ?_, m', q1, fun i => ?_⟩
  ·rw [q2, dat_data, hm]
  ·rw [q3, ← hm]
   cases m 0 (id : Int) <;> rfl
  ·rw [q4]
   unfold setD
   split
   ·rw [newM_data hop1, hm]
   ·exact hm i
end
end Go.Proofs.YtknnebhjldfkhaaGreat


namespace Go.Proofs.YtknnebhjldfkhaaGreat
set_option maxRecDepth 100000
open Go.RowKit Go.ChangeShapes Go.WideShapes Go.ChangeAt

def topEv (c : SC) : List Ev := (List.range (c.N (c.n - 1))).map (fun a => ((c.f, a, false) : Ev)) ++ scanW c.f (c.N (c.n - 1))
def evLev (c : SC) (lf : Nat → Int) (i : Nat) : Nat → List Ev
 | 0 => []
 | j + 1 => evLev c lf i j ++ evA c.S (c.D (c.n - 1 - j)) c.T (c.r (c.n - 1 - j)) (c.P (c.n - 1 - j)) (lf (c.n * i + j)).toNat
def evAll (c : SC) (lf : Nat → Int) : Nat → List Ev
 | 0 => []
 | k + 1 => evAll c lf k ++ (topEv c ++ evLev c lf k c.n)
section
variable {c : SC}
theorem evLev_congr {lf lf' : Nat → Int} {i : Nat} : ∀ j, (∀ x, x < c.n * i + j → lf' x = lf x) → evLev c lf' i j = evLev c lf i j
 | 0, _ => rfl
 | j + 1, h => by
  unfold evLev
  rw [evLev_congr j (fun x hx => h x (by omega)), h (c.n * i + j) (by omega)]
theorem evAll_congr {lf lf' : Nat → Int} : ∀ k, (∀ x, x < c.n * k → lf' x = lf x) → evAll c lf' k = evAll c lf k
 | 0, _ => rfl
 | k + 1, h => by
  unfold evAll
  rw [evAll_congr k (fun x hx => h x (by rw [Nat.mul_add]; omega)), evLev_congr c.n (fun x hx => h x (by rw [Nat.mul_add]; omega))]
def lfG (g : SG) (i : Nat) : Int := leafI (g.gone.getD i (0, 0)).1
theorem lfG_gon {g : SG} {e : Nt} {i : Nat} (hi : i < g.gone.length) : lfG (g.gon e) i = lfG g i := by
 unfold lfG
 show leafI ((g.gone ++ [e]).getD i (0, 0)).1 = _
 rw [List.getD_eq_getElem?_getD, List.getElem?_append_left hi, List.getD_eq_getElem?_getD]
theorem lfG_last {g : SG} {e : Nt} : lfG (g.gon e) g.gone.length = leafI e.1 := by
 unfold lfG
 show leafI ((g.gone ++ [e]).getD g.gone.length (0, 0)).1 = _
 rw [List.getD_eq_getElem?_getD, List.getElem?_append_right (Nat.le_refl _), Nat.sub_self]
 rfl
theorem IsW.lf {nw : Nat} {z : Nat → Int} (hc : c.Ok) {l p : Nat} {a : Nt} (h : IsW c nw z l p a) : lfN (c.N l) a := by
 rw [h.1]; exact tkN_lf (SC.N_le hc l).1
theorem acM_es {N S D T f P : Nat} {a : Ask} {M : MS} {o : List Nat} (ha : a.ok N = true) : (acM N S D T f P a M o).es = M.es ++ evA S D T f P a.lf.toNat := by
 unfold acM; rw [if_pos ha]; rfl
theorem Rn.evs (hc : c.Ok) {G : SG} {k : Nat} (hU : Uk c G k) (hk : G.u ≤ 1000000000) (hE : G.M.es = evAll c (lfG G) k) {op : Int} (hop : op = 0 ∨ op = 1 ∨ op = 3) {id : Nat} (hid : id < 2 ^ c.b) {d : Nat → Int} (hd : ∀ j, 0 ≤ d j ∧ d j ≤ 18446744073709551615) {g : SG} {e : Nt} {r : Nat → Int} {t : Bool} {l : List Nat}
  (h : Rn c (drawn c G) op id d ((G.drew c).top c id (drawn c G (c.n - 1)).1) (topN (G.drew c) c id) l g e r t) :
  ∀ s, l ++ s = downL c.n → g.M.es = evAll c (lfG G) k ++ (topEv c ++ evLev c (lfG g) k l.length) ∧ (∀ x, x < c.n * k → lfG g x = lfG G x) ∧ g.gone.length = c.n * k + l.length := by
 have hn := hc.n1
 have hn4 := hc.n4
 have hb10 := hc.b10
 have hid2 : ∀ j, ((id / 4 ^ j : Nat) : Int) ≤ 2147483648 := fun j => by
  have h1 := Nat.div_le_self id (4 ^ j)
  have h2 : 2 ^ c.b ≤ 2 ^ 10 := Nat.pow_le_pow_right (by decide) hb10
  omega
 have key : ∀ {l : List Nat} {g : SG} {e : Nt} {r : Nat → Int} {t : Bool} {q : Nat} {s : List Nat}, Rn c (drawn c G) op id d ((G.drew c).top c id (drawn c G (c.n - 1)).1) (topN (G.drew c) c id) l g e r t → l ++ s = downL c.n → s.length = q + 1 →
   lfN (c.N q) (orN e (drawn c G q).2) ∧ g.gone.length = c.n * k + (c.n - 1 - q) ∧ l.length = c.n - 1 - q ∧ q < c.n := fun {l g e r t q s} h hs hl => by
  have hlen : l.length + s.length = c.n := by rw [← List.length_append, hs, downL_len]
  have hq : q < c.n := by omega
  obtain ⟨n1, n2, n3, _⟩ := Rn.words hc hU hk hid hd h s hs
  obtain ⟨w1, w2⟩ := n3 q hl
  have hsp : (drawn c G q).2 = tkN G.nw G.z (2 * c.n * k + 2 * (c.n - 1 - q) + 1) (c.N q) := by rw [drawn_at hq, show G.u + 2 * (c.n - 1 - q) + 1 = 2 * c.n * k + 2 * (c.n - 1 - q) + 1 by have := hU.u; omega]
  have g1 := w1.gon hc w2 hq rfl
  obtain ⟨p, _, hp, _⟩ := g1.uq.gok g.gone.length _ (by show (g.gone ++ [_])[g.gone.length]? = some _; rw [List.getElem?_append_right (Nat.le_refl _), Nat.sub_self]; rfl)
  have hmod : g.gone.length % c.n = c.n - 1 - q := by rw [w2, Nat.mul_add_mod, Nat.mod_eq_of_lt (by omega)]
  rw [hmod, show c.n - 1 - (c.n - 1 - q) = q by omega] at hp
  refine ⟨?_, w2, by omega, hq⟩
  rw [hsp, ← n1, ← n2]
  exact hp.lf hc
 induction h with
 | nil =>
  intro s hs
  refine ⟨?_, fun x _ => rfl, by show G.gone.length = _; rw [hU.len]; rfl⟩
  show (G.M.es ++ (List.range (c.N (c.n - 1))).map (fun a => ((c.f, a, false) : Ev))) ++ scanW c.f (c.N (c.n - 1)) = _
  rw [hE]
  unfold topEv
  simp [evLev, List.append_assoc]
 | @part l g e r t p o h hp ho ih =>
  intro s hs
  rw [List.append_assoc] at hs
  have hsf := down_suff _ _ _ hs
  have hlen : s.length = p + 1 := by
   have e2 : ([p + 1] ++ s) = downL (s.length + 1) := by simpa using hsf
   have e3 : (p + 1) :: s = s.length :: downL s.length := e2
   injection e3 with e3 _
   exact e3.symm
  obtain ⟨i1, i2, i3⟩ := ih _ hs
  obtain ⟨k1, k2, k3, k4⟩ := key h hs (q := p + 1) (by simp [hlen])
  have hfr := drawn_ok hc G (p + 1) hp
  generalize orN e (drawn c G (p + 1)).2 = fr at *
  have hok : (askP (drawn c G) p id fr).ok (c.N (p + 1)) = true := ask_ok (op := 2) (id := ((id / 4 ^ (p + 1) : Nat) : Int)) (at' := ((prA id p : Nat) : Int)) (SC.N_le hc (p + 1)).2 (by omega) (hid2 _) (.inr (by have := prA_le id p; omega)) k1 hfr.1
  have hlv : evLev c (lfG (g.gon fr)) k l.length = evLev c (lfG g) k l.length := evLev_congr l.length (fun x hx => lfG_gon (by rw [i3]; exact hx))
  have hlt : lfG (g.gon fr) (c.n * k + l.length) = leafI fr.1 := by rw [← i3]; exact lfG_last
  refine ⟨?_, fun x hx => (lfG_gon (by rw [i3]; omega)).trans (i2 x hx), ?_⟩
  ·show (acM (c.N (p + 1)) c.S (c.D (p + 1)) c.T (c.r (p + 1)) (c.P (p + 1)) (askP (drawn c G) p id fr) (g.gon fr).M o).es = evAll c (lfG G) k ++ (topEv c ++ evLev c (lfG (g.gon fr)) k (l ++ [p + 1]).length)
   rw [acM_es hok, List.length_append, List.length_singleton]
   show g.M.es ++ evA _ _ _ _ _ (leafI fr.1).toNat = evAll c (lfG G) k ++ (topEv c ++ (evLev c (lfG (g.gon fr)) k l.length ++ evA c.S (c.D (c.n - 1 - l.length)) c.T (c.r (c.n - 1 - l.length)) (c.P (c.n - 1 - l.length)) (lfG (g.gon fr) (c.n * k + l.length)).toNat))
   rw [hlv, hlt, i1, show c.n - 1 - l.length = p + 1 by omega]
   simp [List.append_assoc]
  ·show (g.gone ++ [fr]).length = _
   rw [List.length_append, i3, List.length_append]
   simp [Nat.add_assoc]
 | @last l g e r t o h ho ih =>
  intro s hs
  rw [List.append_assoc] at hs
  have hsf := down_suff _ _ _ hs
  have hlen : s.length = 0 := by
   have e2 : ([0] ++ s) = downL (s.length + 1) := by simpa using hsf
   have e3 : (0 : Nat) :: s = s.length :: downL s.length := e2
   injection e3 with e3 _
   exact e3.symm
  obtain ⟨i1, i2, i3⟩ := ih _ hs
  obtain ⟨k1, k2, k3, k4⟩ := key h hs (q := 0) (by simp [hlen])
  have hfr := drawn_ok hc G 0 (by omega)
  have hid0 : (id : Int) ≤ 2147483648 := by have := hid2 0; simpa using this
  generalize orN e (drawn c G 0).2 = fr at *
  have hok : (askL (drawn c G) op id d fr).ok (c.N 0) = true := ask_ok (op := op) (id := (id : Int)) (at' := 0) (d := d) (SC.N_le hc 0).2 (by omega) hid0 (.inr (by omega)) k1 hfr.1
  have hlv : evLev c (lfG (g.gon fr)) k l.length = evLev c (lfG g) k l.length := evLev_congr l.length (fun x hx => lfG_gon (by rw [i3]; exact hx))
  have hlt : lfG (g.gon fr) (c.n * k + l.length) = leafI fr.1 := by rw [← i3]; exact lfG_last
  refine ⟨?_, fun x hx => (lfG_gon (by rw [i3]; omega)).trans (i2 x hx), ?_⟩
  ·show (acM (c.N 0) c.S (c.D 0) c.T (c.r 0) (c.P 0) (askL (drawn c G) op id d fr) (g.gon fr).M o).es = evAll c (lfG G) k ++ (topEv c ++ evLev c (lfG (g.gon fr)) k (l ++ [0]).length)
   rw [acM_es hok, List.length_append, List.length_singleton]
   show g.M.es ++ evA _ _ _ _ _ (leafI fr.1).toNat = evAll c (lfG G) k ++ (topEv c ++ (evLev c (lfG (g.gon fr)) k l.length ++ evA c.S (c.D (c.n - 1 - l.length)) c.T (c.r (c.n - 1 - l.length)) (c.P (c.n - 1 - l.length)) (lfG (g.gon fr) (c.n * k + l.length)).toNat))
   rw [hlv, hlt, i1, show c.n - 1 - l.length = 0 by omega]
   simp [List.append_assoc]
  ·show (g.gone ++ [fr]).length = _
   rw [List.length_append, i3, List.length_append]
   simp [Nat.add_assoc]
theorem Rn.evk (hc : c.Ok) {G : SG} {k : Nat} (hU : Uk c G k) (hk : G.u ≤ 1000000000) (hE : G.M.es = evAll c (lfG G) k) {op : Int} (hop : op = 0 ∨ op = 1 ∨ op = 3) {id : Nat} (hid : id < 2 ^ c.b) {d : Nat → Int} (hd : ∀ j, 0 ≤ d j ∧ d j ≤ 18446744073709551615) {g : SG} {e : Nt} {r : Nat → Int} {t : Bool}
  (h : Rn c (drawn c G) op id d ((G.drew c).top c id (drawn c G (c.n - 1)).1) (topN (G.drew c) c id) (downL c.n) g e r t) : g.M.es = evAll c (lfG g) (k + 1) := by
 obtain ⟨h1, h2, _⟩ := Rn.evs hc hU hk hE hop hid hd h [] (by simp)
 rw [downL_len] at h1
 show _ = evAll c (lfG g) k ++ (topEv c ++ evLev c (lfG g) k c.n)
 rw [h1, evAll_congr k h2]
end
end Go.Proofs.YtknnebhjldfkhaaGreat


namespace Go.Proofs.YtknnebhjldfkhaaGreat
set_option maxRecDepth 100000
open Go.RowKit Go.ChangeShapes Go.WideShapes Go.ChangeAt

def mkD (D : Nat) : Deferred := { target := .collected D, args := #[] }
theorem leaves_marks {F : Fence} {n : Nat} {P : Program} {fn : Func} {tmps : Array Value} {R : Ending → World → Prop} {B : Nat} {J : World → Prop}
  (hJ : ∀ W D, J W → B ≤ D → W.heap[D]? = some (.deferred (some [])) → J (W.putObj D (.deferred none))) (hR : ∀ W, J W → LeavesInM F n P fn tmps R [] .returning W) :
  ∀ (ds : List Nat) (W : World), ds.Nodup → (∀ D ∈ ds, B ≤ D ∧ W.heap[D]? = some (.deferred (some []))) → J W → LeavesInM F n P fn tmps R (ds.map mkD) .returning W
 | [], W, _, _, h => hR W h
 | D :: ds, W, hn, hm, h => by
  have hD := hm D List.mem_cons_self
  obtain ⟨h1, h2⟩ := List.nodup_cons.1 hn
  refine ⟨by simp, .inl ⟨D, _, rfl, run_takeDeferred hD.2, ?_⟩⟩
  refine leaves_marks hJ hR ds _ h2 (fun E hE => ?_) (hJ W D h hD.1 hD.2)
  have hne : D ≠ E := fun e => h1 (e ▸ hE)
  obtain ⟨e1, e2⟩ := hm E (List.mem_cons_of_mem _ hE)
  exact ⟨e1, ((grownBy_putObj' W D (.deferred none)).block E (Array.getElem?_eq_some_iff.1 e2).1 (fun e => by injection e with e; exact hne e.symm)).trans e2⟩
section
variable {w u u' : World} {v : Value} {l : List IEv}
theorem EvAt.box (h : EvAt w v l u) {g : Nat} (e : v.ownBlock = some g) : ∃ cur, Box u g 149 cur := by
 rcases h.own.2 with ⟨rfl, _⟩ | ⟨g', cap, cur, rfl, _, h2, _⟩
 ·cases e
 ·obtain rfl : g' = g := by simpa [Value.ownBlock] using e
  exact ⟨cur, h2⟩
theorem EvAt.keep (h : EvAt w v l u) (hb : Below w.heap.size w u') (hk : ∀ g, v.ownBlock = some g → u'.heap[g]? = u.heap[g]?) : EvAt w v l u' := by
 refine ⟨⟨h.own.1, ?_⟩, hb⟩
 rcases h.own.2 with h0 | ⟨g, cap, cur, rfl, h1, h2, h3⟩
 ·exact .inl h0
 ·exact .inr ⟨g, cap, cur, rfl, h1, (hk g rfl).trans h2, h3⟩
end
theorem below_nonc {w u u' : World} {B : Nat} (h : Below w.heap.size w u) (hB : w.heap.size ≤ B) (k : Only (nonc B u) u u') : Below w.heap.size w u' :=
 ⟨k.os.trans h.os, k.tape.trans h.tape, k.output.trans h.output, Nat.le_trans h.size k.size, fun i hi => (k.block i (Nat.lt_of_lt_of_le hi h.size) (fun e => by have := e.1; omega)).trans (h.block i hi)⟩
theorem box_mark {u : World} {D p : Nat} {t : TypeId} {cs : Array Value} {o : Option (List Deferred)} (h : Box u p t cs) (hD : u.heap[D]? = some (.deferred o)) : D ≠ p := fun e => by
 subst e
 have := Option.some.inj (h.symm.trans hD)
 cases this
structure Sv (w : World) (c : SC) (lb pb eb : Nat) (lv v : Value) (l : List IEv) (ds : List Nat) (u : World) : Prop where
 pln : Box u pb 166 #[.int .i64 (c.f : Int), .int .i64 c.B, .int .i64 (c.S : Int), .int .i64 (c.T : Int), .int .i64 (c.n : Int)]
 lvs : Box u lb 39 #[lv]
 evs : Box u eb 52 #[v]
 row : EvAt w v l u
 mks : ∀ D ∈ ds, w.heap.size ≤ D ∧ u.heap[D]? = some (.deferred (some []))
 oldl : w.heap.size ≤ lb
 olde : w.heap.size ≤ eb
section
variable {w u u' : World} {c : SC} {lb pb eb : Nat} {lv v : Value} {l : List IEv} {ds : List Nat}
theorem Sv.nob (h : Sv w c lb pb eb lv v l ds u) (ho : Only nobody u u') : Sv w c lb pb eb lv v l ds u' :=
 ⟨h.pln.only ho (not_nobody _), h.lvs.only ho (not_nobody _), h.evs.only ho (not_nobody _), h.row.stay (below_nob ho (Nat.le_refl _)), fun D hD => ⟨(h.mks D hD).1, (ho.block D (Array.getElem?_eq_some_iff.1 (h.mks D hD).2).1 (not_nobody _)).trans (h.mks D hD).2⟩, h.oldl, h.olde⟩
theorem Sv.nonc {B : Nat} (h : Sv w c lb pb eb lv v l ds u) (hB : w.heap.size ≤ B) (hd : ∀ D ∈ ds, D < B) (k : Only (nonc B u) u u') : Sv w c lb pb eb lv v l ds u' :=
 ⟨h.pln.only k (cells_not h.pln.cells), h.lvs.only k (cells_not h.lvs.cells), h.evs.only k (cells_not h.evs.cells),
  h.row.keep (below_nonc h.row.below hB k) (fun g e => by obtain ⟨cur, hb⟩ := h.row.box e; exact k.block g hb.lt (cells_not hb.cells)),
  fun D hD => ⟨(h.mks D hD).1, (k.block D (Array.getElem?_eq_some_iff.1 (h.mks D hD).2).1 (fun e => by have := e.1; have := hd D hD; omega)).trans (h.mks D hD).2⟩, h.oldl, h.olde⟩
theorem Sv.more {D : Nat} (h : Sv w c lb pb eb lv v l ds u) (hD : w.heap.size ≤ D) (hm : u.heap[D]? = some (.deferred (some []))) : Sv w c lb pb eb lv v l (D :: ds) u :=
 ⟨h.pln, h.lvs, h.evs, h.row, fun E hE => by
  rcases List.mem_cons.1 hE with rfl | hE
  ·exact ⟨hD, hm⟩
  ·exact h.mks E hE, h.oldl, h.olde⟩
theorem Sv.grownB (h : Sv w c lb pb eb lv v l ds u) (hg : u.grownBy u' v.ownBlock) : Box u' pb 166 #[.int .i64 (c.f : Int), .int .i64 c.B, .int .i64 (c.S : Int), .int .i64 (c.T : Int), .int .i64 (c.n : Int)] ∧ Box u' lb 39 #[lv] ∧ Box u' eb 52 #[v] := by
 have hne : ∀ {p : Nat} {t : TypeId} {cs : Array Value}, Box u p t cs → t ≠ 149 → ∀ k, v.ownBlock = some k → k ≠ p := fun hb ht k e e2 => by
  obtain ⟨cur, hc⟩ := h.row.box e
  subst e2
  exact Box.ne hb hc ht rfl
 exact ⟨box_grown hg h.pln (hne h.pln (by decide)), box_grown hg h.lvs (hne h.lvs (by decide)), box_grown hg h.evs (hne h.evs (by decide))⟩
theorem Sv.put (h : Sv w c lb pb eb lv v l ds u) {v' : Value} {l' : List IEv} (hr : EvAt w v' l' u') (hg : u.grownBy u' v.ownBlock) : Sv w c lb pb eb lv v' l' ds (u'.setCell ⟨eb, 0, none⟩ v') := by
 obtain ⟨hp, hl, he⟩ := h.grownB hg
 have hx : ∀ g, v'.ownBlock = some g → g ≠ eb := fun g e e2 => by
  obtain ⟨cur, hc⟩ := hr.box e
  subst e2
  exact Box.ne he hc (by decide) rfl
 refine ⟨hp.far (a := ⟨eb, 0, none⟩) (hp.ne he (by decide)) _, hl.far (a := ⟨eb, 0, none⟩) (hl.ne he (by decide)) _, ?_, hr.keep (hr.below.setCell (p := ⟨eb, 0, none⟩) h.olde _) (fun g e => Below.heap_setCell u' ⟨eb, 0, none⟩ _ g (hx g e)), fun D hD => ?_, h.oldl, h.olde⟩
 ·have := he.put 0 v'
  simpa using this
 ·obtain ⟨a, b⟩ := h.mks D hD
  have hb : u'.heap[D]? = some (.deferred (some [])) := (hg.block D (Array.getElem?_eq_some_iff.1 b).1 (fun e => by obtain ⟨cur, hc⟩ := h.row.box e.symm; exact box_mark hc b rfl)).trans b
  exact ⟨a, (Below.heap_setCell u' ⟨eb, 0, none⟩ _ D (box_mark he hb)).trans hb⟩
theorem Sv.putOnly (hg : u.grownBy u' v.ownBlock) (x : Value) : Only (fun i => i = eb ∨ i = lb ∨ v.ownBlock = some i) u (u'.setCell ⟨eb, 0, none⟩ x) :=
 ((Only.refl _ u).grown hg (fun _ e => .inl (.inr (.inr e)))).setCell (p := ⟨eb, 0, none⟩) (.inl (.inl rfl)) x
theorem Sv.cut (h : Sv w c lb pb eb lv v l ds u) (x : Value) : Sv w c lb pb eb x v l ds (u.setCell ⟨lb, 0, none⟩ x) := by
 refine ⟨h.pln.far (a := ⟨lb, 0, none⟩) (h.pln.ne h.lvs (by decide)) _, ?_, h.evs.far (a := ⟨lb, 0, none⟩) (h.evs.ne h.lvs (by decide)) _, h.row.keep (h.row.below.setCell (p := ⟨lb, 0, none⟩) h.oldl _) (fun g e => Below.heap_setCell u ⟨lb, 0, none⟩ _ g (fun e2 => ?_)), fun D hD => ?_, h.oldl, h.olde⟩
 ·have := h.lvs.put 0 x
  simpa using this
 ·obtain ⟨cur, hc⟩ := h.row.box e
  have e2 : g = lb := e2
  subst e2
  exact Box.ne h.lvs hc (by decide) rfl
 ·obtain ⟨a, b⟩ := h.mks D hD
  exact ⟨a, (Below.heap_setCell u ⟨lb, 0, none⟩ _ D (box_mark h.lvs b)).trans b⟩
theorem Sv.keeps {B : Nat} (h : Sv w c lb pb eb lv v l ds u) (k : Only (fun i => i = eb ∨ i = lb ∨ v.ownBlock = some i) u u') : KeepsFrom B u u' :=
 keepsFrom_only k (fun i _ hi => by
  rcases hi with rfl | rfl | e
  ·exact h.evs.cells
  ·exact h.lvs.cells
  ·obtain ⟨cur, hb⟩ := h.row.box e
   exact hb.cells)
theorem Sv.other {p : Nat} {t : TypeId} {cs : Array Value} (h : Sv w c lb pb eb lv v l ds u) (hb : Box u p t cs) (h1 : t ≠ 52) (h2 : t ≠ 39) (h3 : t ≠ 149) (k : Only (fun i => i = eb ∨ i = lb ∨ v.ownBlock = some i) u u') : Box u' p t cs :=
 hb.only k (fun e => by
  rcases e with e | e | e
  ·exact hb.ne h.evs h1 e
  ·exact hb.ne h.lvs h2 e
  ·obtain ⟨cur, hc⟩ := h.row.box e
   exact hb.ne hc h3 rfl)
end
def lenAt (lb : Nat) (W : World) : Nat := match W.cell? ⟨lb, 0, none⟩ with
 | some (.slice _ n _) => n
 | _ => 0
theorem Sv.len {w u : World} {c : SC} {lb pb eb m cap : Nat} {A : Option Addr} {v : Value} {l : List IEv} {ds : List Nat} (h : Sv w c lb pb eb (.slice A m cap) v l ds u) : lenAt lb u = m := by
 unfold lenAt
 rw [h.lvs.cell 0]
 rfl
def SvI (w : World) (c : SC) (lb pb eb g z m cp : Nat) (l : List IEv) (ds : List Nat) (u : World) : Prop := ∃ A v, (0 < m → A = some ⟨g, z, none⟩) ∧ Sv w c lb pb eb (.slice A m cp) v l ds u
theorem SvI.nonc {w u u' : World} {c : SC} {lb pb eb g z m cp : Nat} {l : List IEv} {ds : List Nat} {B : Nat} (h : SvI w c lb pb eb g z m cp l ds u) (hB : w.heap.size ≤ B) (hd : ∀ D ∈ ds, D < B) (k : Only (nonc B u) u u') : SvI w c lb pb eb g z m cp l ds u' := by
 obtain ⟨A, v, h1, h2⟩ := h
 exact ⟨A, v, h1, h2.nonc hB hd k⟩
theorem evA_le {N S T D L n Q P : Nat} (h : Conf N S T D L n Q P) (f lf : Nat) : (evA S D T f P lf).length ≤ 60000 := by
 have hnet : (netL P).length * 4 ≤ 18432 := by
  have h256 : 2 ^ P ≤ 256 := by have := h.hQ; have := h.big; omega
  have := Nat.mul_le_mul (Nat.mul_le_mul h.hP (show P + 1 ≤ 9 by have := h.hP; omega)) h256
  rw [Nat.mul_comm, netL_len P]
  omega
 have hQ : 2 ^ P ≤ 256 := by have := h.hQ; have := h.big; omega
 have hF := evF_len S D T f lf (2 ^ P)
 have hE := evE_len (f + 2) (2 ^ P)
 have hG := evG_len S D f lf ((D + 1) * S + T)
 have hl : (D + 1) * S + T ≤ 152 := by have := h.hL; have := h.big; have := h.t64; omega
 have hLk : (looks (f + 2) (netL P)).length ≤ 18432 := by
  have h1 : (ilooks ((f + 2 : Nat) : Int) (netL P)).length = (looks (f + 2) (netL P)).length := by rw [ilooks_nat, List.length_map]
  rw [← h1, ilooks_len]
  exact hnet
 unfold evA
 simp only [List.length_append]
 omega
theorem topI (c : SC) : (topEv c).map evI = ireads (c.f : Int) (c.N (c.n - 1)) ++ iwrites (c.f : Int) (c.N (c.n - 1)) := by
 unfold topEv
 rw [List.map_append, ireads_nat, iwrites_nat]
theorem topEv_len {c : SC} (hc : c.Ok) : (topEv c).length ≤ 3072 := by
 have h1 : ((topEv c).map evI).length = (topEv c).length := List.length_map _
 have h2 := (SC.N_le hc (c.n - 1)).2
 rw [← h1, topI, List.length_append, ireads_len, iwrites_len]
 omega
theorem evLev_len {c : SC} (hc : c.Ok) (lf : Nat → Int) (i : Nat) : ∀ j, j ≤ c.n → (evLev c lf i j).length ≤ 60000 * j
 | 0, _ => Nat.le_refl _
 | j + 1, hj => by
  have h1 := evLev_len hc lf i j (by omega)
  have h2 := evA_le (hc.conf (c.n - 1 - j) (by omega)) (c.r (c.n - 1 - j)) (lf (c.n * i + j)).toNat
  unfold evLev
  rw [List.length_append]
  omega
theorem evAll_len {c : SC} (hc : c.Ok) (lf : Nat → Int) : ∀ k, (evAll c lf k).length ≤ 250000 * k
 | 0 => Nat.le_refl _
 | k + 1 => by
  have h1 := evAll_len hc lf k
  have h2 := topEv_len hc
  have h3 := evLev_len hc lf k c.n (Nat.le_refl _)
  have h4 := hc.n4
  unfold evAll
  rw [List.length_append, List.length_append]
  omega
def EvPosF (w : World) (l : List IEv) (e : Ending) (w' : World) : Prop := ∃ A cap, e = .returned (.slice A l.length cap) ∧ IView w' A l ∧ (l = [] → A = none ∧ cap = 0) ∧ Only nobody w w'
theorem EvPost.f {w w' : World} {l : List IEv} {e : Ending} (h : EvPost w l e w') (hl : l ≠ []) : EvPosF w l e w' := by
 obtain ⟨A, cap, h1, h2, h3⟩ := h
 exact ⟨A, cap, h1, h2, fun e => absurd e hl, h3⟩
theorem step_ev {ops : Array Oper} {o : Oper} {a : Act} {w0 w : World} {K : Act → World → Prop} {Q : Exit → Act → World → Prop} {E : Prop} (hgd : o.guard = none) (s x : Operand)
  (ho : o.op = .call { callee := .builtin .append, args := #[s, x], argTypes := #[52, 52] })
  (v : Value) (l m : List IEv) (hs : a.eval s = v) (hE : EvAt w0 v l w) (A : Option Addr) (cap : Nat) (hx : a.eval x = .slice A m.length cap) (hv : IView w A m) (hm : m = [] → A = none ∧ cap = 0) (hl : l.length + m.length ≤ 5000000)
  (h : ∀ A2 cap2 w', EvAt w0 (.slice A2 (l.length + m.length) cap2) (l ++ m) w' → w.grownBy w' v.ownBlock → K (a.put o.dst (.slice A2 (l.length + m.length) cap2)) w') :
  if Region.wanted o (yielded ops a.tmps) = true then Oper.wp Tryz.prog o a w K Q else E := by
 by_cases h0 : m = []
 ·obtain ⟨rfl, rfl⟩ := hm h0
  subst h0
  have hw : Region.wanted o (yielded ops a.tmps) = true := by simp [Region.wanted, hgd]
  rw [if_pos hw]
  obtain ⟨i, hi, hzz⟩ := Option.map_eq_some_iff.1 infoEvent
  have hrun := run_append_owned_none (P := Tryz.prog) (w := w) w0.heap.size 52 o.type 149 i 3 Tryz.underlying52 hi v l.length (ievs l) hE.own
  have hx' : a.eval x = .slice none 0 0 := hx
  unfold Oper.wp
  simp [execOp, ho, resolve, invoke, builtin, hs, hx', hrun, Result.andThen]
  have hg : w.grownBy w v.ownBlock := ⟨rfl, rfl, rfl, Nat.le_refl _, fun _ _ _ => rfl⟩
  rcases hE.own.2 with ⟨e1, e2⟩ | ⟨g, cap, cur, e1, _⟩
  ·have h1 := h none 0 w
   rw [List.append_nil, List.length_nil, Nat.add_zero, e2, ← e1] at h1
   exact h1 hE hg
  ·have h1 := h (some ⟨g, 0, none⟩) cap w
   rw [List.append_nil, List.length_nil, Nat.add_zero, ← e1] at h1
   exact h1 hE hg
 ·obtain ⟨b, off, rfl, hr⟩ := hv h0
  refine step_append_where hgd s x 52 ho w0.heap.size 149 (.agg #[.int .i64 0, .int .i64 0, .bool false]) 3 24 Tryz.underlying52 infoEvent rfl (by decide) v l.length (ievs l) hs hE.own ⟨b, off, none⟩ m.length cap (ievs m) hx (ievs_len m) (fun j u hu => by rw [add_plain]; exact hr j u hu) (ievs_one _) (by simp only [maxLen]; omega) (by omega) hE.below.size ?_
  intro A2 cap2 w7 hown hgr _
  exact h _ _ _ (hE.all hown hgr) hgr
def evX (c : SC) (x y : Nat) : List IEv := if y < c.N x then (evA c.S (c.D x) c.T (c.r x) (c.P x) y).map evI else []
set_option maxHeartbeats 1000000 in
theorem levents_none {N S T D L n Q P : Nat} (h : Conf N S T D L n Q P) (f lf : Nat) (hlf : ¬ lf < N) (w : World) :
  Calls Tryz.prog 23 #[.int .i64 (f : Int), .agg #[.int .i64 (N : Int), .int .i64 (S : Int), .int .i64 (T : Int)], .int .i64 (lf : Int)] w (EvPosF w []) := by
 have HR := Lib.hid (fun W => lright_of h W)
 have HLf : Hid (∀ W, Calls Tryz.prog 88 #[.agg #[.int .i64 (N : Int), .int .i64 (S : Int), .int .i64 (T : Int)], .int .i64 (lf : Int)] W fun e w' => e = .returned (.bool false) ∧ Below W.heap.size W w') := Lib.hid fun W => by
  have := leaf_any (N : Int) (S : Int) (T : Int) (lf : Int) W
  rwa [show isLf (N : Int) (lf : Int) = false by unfold isLf; simp; omega] at this
 clear h
 obtain ⟨b, hb⟩ : ∃ b, w.heap.size = b := ⟨_, rfl⟩
 obtain ⟨w2, hw2⟩ : ∃ w2, w.alloc (.cells (cfA N S T) 25) = w2 := ⟨_, rfl⟩
 have hx : Box w2 b 25 (cfA N S T) := by rw [← hw2, ← hb]; exact Box.new w _ _
 have ho2 : Below w.heap.size w w2 := by rw [← hw2]; exact (Below.refl _ w).alloc (Nat.le_refl _) _
 have HX := Lib.hid hx
 have HO := Lib.hid ho2
 have HW2 := Lib.hid hw2
 have HBb := Lib.hid hb
 have k0 := hx.cell 0
 have k1 := hx.cell 1
 have k2 := hx.cell 2
 clear hx ho2 hw2 hb
 go_enter Tryz.func23, Tryz.ntmps23
 go_upto_region 1 with fail
 simp only [HBb.out]
 rw [show w.alloc (.cells #[.int .i64 (N : Int), .int .i64 (S : Int), .int .i64 (T : Int)] 25) = w2 from HW2.out]
 simp only [cfA] at k0 k1 k2
 go_wp2_with fail
 refine (HR.out _).mono ?_
 rintro e w3 ⟨rfl, hb3⟩
 have HX3 := Lib.hid (HX.out.of (hb3.block _ HX.out.lt))
 have HO3 := Lib.hid (HO.out.trans (hb3.mono HO.out.size))
 clear hb3 k0 k1 k2 HX HO HR
 have k0 := HX3.out.cell 0
 have k1 := HX3.out.cell 1
 have k2 := HX3.out.cell 2
 simp only [cfA] at k0 k1 k2
 go_wp2_with fail
 refine (HLf.out _).mono ?_
 rintro e w4 ⟨rfl, hb4⟩
 have HO4 := Lib.hid (HO3.out.trans (hb4.mono HO3.out.size))
 go_wp2_with fail
 go_ret
 exact ⟨none, 0, rfl, fun h => absurd rfl h, fun _ => ⟨rfl, rfl⟩, Only.of_below HO4.out⟩
theorem evA_ne {S D T f P lf : Nat} : (evA S D T f P lf).map evI ≠ [] := by
 intro h
 have h1 := congrArg List.length h
 have hE := evE_len (f + 2) (2 ^ P)
 have hp := Nat.two_pow_pos P
 unfold evA at h1
 simp only [List.length_map, List.length_append, List.length_nil] at h1
 omega
theorem levents_any {c : SC} (hc : c.Ok) {x : Nat} (y : Nat) (hx : x < c.n) (w : World) :
  Calls Tryz.prog 23 #[.int .i64 ((c.r x : Nat) : Int), .agg #[.int .i64 ((c.N x : Nat) : Int), .int .i64 (c.S : Int), .int .i64 (c.T : Int)], .int .i64 (y : Int)] w (EvPosF w (evX c x y)) := by
 unfold evX
 split
 ·rename_i h
  exact (levents_right (hc.conf x hx) (c.r x) y (by have := hc.f50; have := hc.n4; unfold SC.r; omega) h w).mono fun e w' h => h.f evA_ne
 ·rename_i h
  exact levents_none (hc.conf x hx) (c.r x) y h w
theorem evX_len {c : SC} (hc : c.Ok) {x y : Nat} (hx : x < c.n) : (evX c x y).length ≤ 60000 := by
 unfold evX
 split
 ·rw [List.length_map]; exact evA_le (hc.conf x hx) _ _
 ·exact Nat.zero_le _
def evP (c : SC) (lf : Nat → Nat) (i : Nat) (l : List Nat) : List IEv := (List.range l.length).flatMap fun j => evX c (l.getD j 0) (lf (c.n * i + j))
theorem fm_congr {α β : Type} {l : List α} {f g : α → List β} (h : ∀ a ∈ l, f a = g a) : l.flatMap f = l.flatMap g := by
 rw [List.flatMap_def, List.flatMap_def, List.map_congr_left h]
theorem fm_len {β : Type} {f : Nat → List β} {B : Nat} : ∀ k, (∀ j, j < k → (f j).length ≤ B) → ((List.range k).flatMap f).length ≤ B * k
 | 0, _ => Nat.le_refl _
 | k + 1, h => by
  have h1 := fm_len k (fun j hj => h j (by omega))
  have h2 := h k (by omega)
  have h3 : B * (k + 1) = B * k + B := Nat.mul_succ B k
  rw [List.range_succ, List.flatMap_append, List.length_append]
  simp only [List.flatMap_cons, List.flatMap_nil, List.append_nil]
  omega
theorem evP_snoc (c : SC) (lf : Nat → Nat) (i : Nat) (l : List Nat) (x : Nat) : evP c lf i (l ++ [x]) = evP c lf i l ++ evX c x (lf (c.n * i + l.length)) := by
 unfold evP
 rw [List.length_append, List.length_singleton, List.range_succ, List.flatMap_append]
 congr 1
 ·refine fm_congr (fun j hj => ?_)
  have hj := List.mem_range.1 hj
  simp only [List.getD_eq_getElem?_getD]
  rw [List.getElem?_append_left hj]
 ·simp
theorem downL_at : ∀ (n j : Nat), j < n → (downL n).getD j 0 = n - 1 - j
 | 0, _, h => by omega
 | n + 1, 0, _ => rfl
 | n + 1, j + 1, h => by
  show (downL n).getD j 0 = _
  rw [downL_at n j (by omega)]
  omega
theorem evP_down {c : SC} (lf : Nat → Nat) (i : Nat) (h : ∀ j, j < c.n → lf (c.n * i + j) < c.N (c.n - 1 - j)) : evP c lf i (downL c.n) = (evLev c (fun j => ((lf j : Nat) : Int)) i c.n).map evI := by
 unfold evP
 rw [downL_len]
 have key : ∀ j, j ≤ c.n → (List.range j).flatMap (fun j => evX c ((downL c.n).getD j 0) (lf (c.n * i + j))) = (evLev c (fun j => ((lf j : Nat) : Int)) i j).map evI := by
  intro j
  induction j with
  | zero => intro _; rfl
  | succ j ih =>
   intro hj
   rw [List.range_succ, List.flatMap_append, ih (by omega)]
   show _ = (evLev c (fun j => ((lf j : Nat) : Int)) i j ++ evA c.S (c.D (c.n - 1 - j)) c.T (c.r (c.n - 1 - j)) (c.P (c.n - 1 - j)) ((lf (c.n * i + j) : Nat) : Int).toNat).map evI
   rw [List.map_append, Int.toNat_natCast]
   congr 1
   have h1 := h j (by omega)
   simp only [List.flatMap_cons, List.flatMap_nil, List.append_nil]
   rw [downL_at c.n j (by omega)]
   unfold evX
   rw [if_pos h1]
 exact key c.n (Nat.le_refl _)
theorem evP_len {c : SC} (hc : c.Ok) (lf : Nat → Nat) (i : Nat) (l : List (Lvl c.n)) : (evP c lf i (l.map lvl)).length ≤ 60000 * l.length := by
 unfold evP
 have h := fm_len (B := 60000) (f := fun j => evX c ((l.map lvl).getD j 0) (lf (c.n * i + j))) (l.map lvl).length (fun j hj => by
  rw [List.length_map] at hj
  refine evX_len hc ?_
  rw [List.getD_eq_getElem?_getD, List.getElem?_map, List.getElem?_eq_getElem hj]
  exact l[j].2)
 rwa [List.length_map] at h ⊢
end Go.Proofs.YtknnebhjldfkhaaGreat

