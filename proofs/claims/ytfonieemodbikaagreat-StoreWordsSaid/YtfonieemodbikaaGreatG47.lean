/- Texts of ours put together: StoreUr, StoreK, StoreS, StoreShown, StoreHead, StoreWay, StoreSrc, StoreWs. -/
import Derived.Test.YtfonieemodbikaaGreatG45
import Derived.Test.YtfonieemodbikaaGreatG46
import Derived.Test.YtfonieemodbikaaGreatG40
import Derived.Test.YtfonieemodbikaaGreatG24
import Derived.Test.YtfonieemodbikaaGreatG11
import Derived.Test.YtfonieemodbikaaGreatG49
import Derived.Test.YtfonieemodbikaaGreatG41
namespace Go.Proofs.YtfonieemodbikaaGreat
set_option maxRecDepth 100000
open Go.RowKit Go.ChangeShapes Go.WideShapes Go.ChangeAt

structure Us (c : SC) (g : SG) (e : Nt) (q L : Nat) : Prop where
  uq : Uq c g.nw g.z (ntAt c g.M.c) g.gone e q L
  wk : ∀ h, h < c.n → Wk c.S (c.D h) c.T (cellsE (c.r h) g.M.c)
section
variable {c : SC} {g : SG} {e : Nt} {L k : Nat}
theorem ntc_has {g : Cl} {j : Nat} (h : (ntc g j).1 ≠ 0) : hasB g := by
  unfold ntc at h
  by_cases e : g 0 = 1
  · exact e
  · rw [if_neg e] at h; exact absurd rfl h
theorem ntc_of {g : Cl} {j : Nat} (h : hasB g) : ntc g j = (g (3 + 2 * j), g (4 + 2 * j)) := by
  unfold ntc; exact if_pos h
theorem nbC_nt (id to : Int) (d : Nat → Int) (g : Cl) (j0 j : Nat) (hj : j < 4) : ntc (nbC 2 id ((2 * j0 : Nat) : Int) to d g) j = if j = j0 then (d 0, d 1) else (g (3 + 2 * j), g (4 + 2 * j)) := by
  rw [ntc_of (show hasB (nbC 2 id ((2 * j0 : Nat) : Int) to d g) from rfl)]
  have e1 : nbC 2 id ((2 * j0 : Nat) : Int) to d g (3 + 2 * j) = if j = j0 then d 0 else g (3 + 2 * j) := by
    unfold nbC
    rw [if_neg (by omega), if_neg (by omega), if_neg (by omega), if_neg (fun k => absurd k.1 (by decide))]
    by_cases e : j = j0
    · rw [if_pos ⟨rfl, by omega⟩, if_pos e]
    · rw [if_neg (fun k => by have := k.2; omega), if_neg (fun k => by have := k.2; omega), if_neg e]
  have e2 : nbC 2 id ((2 * j0 : Nat) : Int) to d g (4 + 2 * j) = if j = j0 then d 1 else g (4 + 2 * j) := by
    unfold nbC
    rw [if_neg (by omega), if_neg (by omega), if_neg (by omega), if_neg (fun k => absurd k.1 (by decide)), if_neg (fun k => by have := k.2; omega)]
    by_cases e : j = j0
    · rw [if_pos ⟨rfl, by omega⟩, if_pos e]
    · rw [if_neg (fun k => by have := k.2; omega), if_neg e]
  rw [e1, e2]
  by_cases e : j = j0
  · rw [if_pos e, if_pos e, if_pos e]
  · rw [if_neg e, if_neg e, if_neg e]
theorem Us.gon {q : Nat} (hc : c.Ok) (h : Us c g e q L) (hG : g.gone.length = c.n * k + (c.n - 1 - q)) (hq : q < c.n) (hL : L = 2 * c.n * k + 2 * (c.n - 1 - q) + 1) : Us c (g.gon (orN e (tkN g.nw g.z L (c.N q)))) (0, 0) q (L + 1) :=
  ⟨h.uq.gon hc.n1 hG hq hL, h.wk⟩
theorem acM_c {N S D T f P : Nat} {a : Ask} {M : MS} {o : List Nat} (ha : a.ok N = true) : (acM N S D T f P a M o).c = accC S D T f P a.lf.toNat a.id (nbA S D T f a.lf.toNat a.op a.id a.at' a.to a.d M) o M.c := by
  unfold acM; rw [if_pos ha]; rfl
theorem acM_no {N S D T f P : Nat} {a : Ask} {M : MS} {o : List Nat} (ha : ¬ a.ok N = true) : acM N S D T f P a M o = M := by
  unfold acM; rw [if_neg ha]
theorem lev_far {h j : Nat} {q : Ask} {o : List Nat} (hj : j ≠ h) (p : Pl) (hp : p.1 ≤ 1) : cellsE (c.r j) (g.lev c h q o).M.c p = cellsE (c.r j) g.M.c p := by
  have hf : c.r j + 1 < c.r h ∨ c.r h + 2 < c.r j := by unfold SC.r; omega
  exact ac_eq hf p hp
theorem lev_top {h : Nat} {q : Ask} {o : List Nat} (i : Nat) : (g.lev c h q o).M.c c.f i = g.M.c c.f i := ac_far (by unfold SC.r; omega) i
theorem lev_wk (hc : c.Ok) (hw : ∀ h, h < c.n → Wk c.S (c.D h) c.T (cellsE (c.r h) g.M.c)) {h : Nat} (hh : h < c.n) {q : Ask} {o : List Nat} (ho : Ord c g h q o) (hi : 0 ≤ q.id) (hd : ∀ j, 0 ≤ q.d j ∧ q.d j ≤ 18446744073709551615) : ∀ j, j < c.n → Wk c.S (c.D j) c.T (cellsE (c.r j) (g.lev c h q o).M.c) := fun j hj => by
  by_cases e : j = h
  · subst e
    by_cases ha : q.ok (c.N j) = true
    · show Wk _ _ _ (cellsE _ (acM _ _ _ _ _ _ q g.M o).c)
      rw [acM_c ha]
      exact acM_wk (hc.conf j hh) (hw j hh) ha hi hd (ho ha)
    · show Wk _ _ _ (cellsE _ (acM _ _ _ _ _ _ q g.M o).c)
      rw [acM_no ha]
      exact hw j hh
  · exact fun p hp => by
      rw [lev_far e p (by rcases hp with k | k <;> omega)]
      exact hw j hj p hp
theorem Us.last (hc : c.Ok) (h : Us c g e 0 L) {q : Ask} {o : List Nat} (ho : Ord c g 0 q o) (hi : 0 ≤ q.id) (hd : ∀ j, 0 ≤ q.d j ∧ q.d j ≤ 18446744073709551615) : Us c (g.lev c 0 q o) e 0 L := by
  refine ⟨h.uq.same fun x hx => ?_, lev_wk hc h.wk (by have := hc.n1; omega) ho hi hd⟩
  unfold ntAt
  split
  · rw [lev_top]
  · next hne =>
    rcases hx with hx | hx
    · exact absurd hx.1 hne
    · rw [lev_far (by omega) _ (by rcases hx.2.2.1 with k | k <;> omega)]
theorem prA_two (id p : Nat) : prA id p = 2 * (id / 4 ^ p % 4) := rfl
theorem Us.part (hc : c.Ok) {p : Nat} (hp : p + 1 < c.n) (h : Us c g (0, 0) (p + 1) L) (hL : L % (2 * c.n) / 2 = c.n - 1 - p) {D : Dw} (hD : (D p).1 = tkN g.nw g.z L (c.N p)) {id : Nat} {fr : Nt} {o : List Nat} (ho : Ord c g (p + 1) (askP D p id fr) o) (hd : WN (D p).1) :
    Us c (g.lev c (p + 1) (askP D p id fr) o) (partN c g D p id fr) p (L + 1) := by
  have hcf := hc.conf (p + 1) hp
  have hdd : ∀ j, 0 ≤ (askP D p id fr).d j ∧ (askP D p id fr).d j ≤ 18446744073709551615 := fun j => by
    show 0 ≤ (if j = 0 then (D p).1.1 else if j = 1 then (D p).1.2 else 0) ∧ (if j = 0 then (D p).1.1 else if j = 1 then (D p).1.2 else 0) ≤ 18446744073709551615
    split
    · exact hd.1
    · split
      · exact hd.2
      · omega
  have hid : 0 ≤ (askP D p id fr).id := by exact Int.natCast_nonneg (id / 4 ^ (p + 1))
  refine ⟨?_, lev_wk hc h.wk hp ho hid hdd⟩
  show Uq c g.nw g.z (ntAt c (g.lev c (p + 1) (askP D p id fr) o).M.c) g.gone _ p (L + 1)
  by_cases ha : (askP D p id fr).ok (c.N (p + 1)) = true
  · obtain ⟨h1, h2, h3, h4, h5⟩ := ask_of ha
    have hN := hcf.hN
    have hlf : (askP D p id fr).lf.toNat < 2 ^ c.D (p + 1) := by omega
    have hn : c.m (p + 1) = (c.D (p + 1) + 1) * c.S + c.T + 1 := by have := hcf.hL; have := hcf.hn; omega
    have htab := acL_tab hcf (h.wk (p + 1) hp) ha hid hdd
    have hE' : ∀ x, cellsE (c.r (p + 1)) (g.lev c (p + 1) (askP D p id fr) o).M.c x = cellsE (c.r (p + 1)) (accC c.S (c.D (p + 1)) c.T (c.r (p + 1)) (c.P (p + 1)) (askP D p id fr).lf.toNat (askP D p id fr).id (nbA c.S (c.D (p + 1)) c.T (c.r (p + 1)) (askP D p id fr).lf.toNat (askP D p id fr).op (askP D p id fr).id (askP D p id fr).at' (askP D p id fr).to (askP D p id fr).d g.M) o g.M.c) x := fun x => by
      show cellsE _ (acM _ _ _ _ _ _ (askP D p id fr) g.M o).c x = _
      rw [acM_c ha]
    obtain ⟨s, s1, s2⟩ := acc_src (E := cellsE (c.r (p + 1)) g.M.c) (E' := cellsE (c.r (p + 1)) (g.lev c (p + 1) (askP D p id fr) o).M.c) hcf.s1 hlf hcf.hD hn htab (ho ha)
      (fun i hi => by rw [hE', hn]; exact acc_at hcf.s1 hlf hi) (fun q hq hf => by rw [hE']; exact acc_way (by rcases hq with k | k <;> omega) hf)
    have hwas := wasC_src (S := c.S) (D := c.D (p + 1)) (T := c.T) (lf := (askP D p id fr).lf.toNat) (E := cellsE (c.r (p + 1)) g.M.c) (id := (askP D p id fr).id) _ (Nat.le_refl _)
    have hacW : acW (c.N (p + 1)) c.S (c.D (p + 1)) c.T (c.r (p + 1)) (askP D p id fr) g.M = wasC (fun j => cellsE (c.r (p + 1)) g.M.c (wayQ c.S (c.D (p + 1)) (askP D p id fr).lf.toNat j)) (askP D p id fr).id ((c.D (p + 1) + 1) * c.S + c.T) := by
      unfold acW; rw [if_pos ha]; rfl
    have hnb : nbA c.S (c.D (p + 1)) c.T (c.r (p + 1)) (askP D p id fr).lf.toNat (askP D p id fr).op (askP D p id fr).id (askP D p id fr).at' (askP D p id fr).to (askP D p id fr).d g.M = nbC 2 (askP D p id fr).id ((2 * (id / 4 ^ p % 4) : Nat) : Int) (askP D p id fr).to (askP D p id fr).d (acW (c.N (p + 1)) c.S (c.D (p + 1)) c.T (c.r (p + 1)) (askP D p id fr) g.M) := by
      unfold nbA
      show newB 2 _ _ _ _ _ = _
      unfold newB
      rw [if_neg (by omega)]
      unfold acW; rw [if_pos ha]
      rfl
    have hpart : partN c g D p id fr = (acW (c.N (p + 1)) c.S (c.D (p + 1)) c.T (c.r (p + 1)) (askP D p id fr) g.M (3 + 2 * (id / 4 ^ p % 4)), acW (c.N (p + 1)) c.S (c.D (p + 1)) c.T (c.r (p + 1)) (askP D p id fr) g.M (4 + 2 * (id / 4 ^ p % 4))) := by
      unfold partN
      rw [prA_two, show 3 + (2 * (id / 4 ^ p % 4) + 1) = 4 + 2 * (id / 4 ^ p % 4) by omega]
    have hj0 : id / 4 ^ p % 4 < 4 := Nat.mod_lt _ (by decide)
    have hfd : ((askP D p id fr).d 0, (askP D p id fr).d 1) = tkN g.nw g.z L (c.N p) := by
      rw [← hD]; rfl
    rw [hpart]
    rw [hacW] at hnb ⊢
    rw [hnb] at s1
    generalize (askP D p id fr).d = dd at *
    generalize id / 4 ^ p % 4 = j0 at *
    generalize wasC (fun j => cellsE (c.r (p + 1)) g.M.c (wayQ c.S (c.D (p + 1)) (askP D p id fr).lf.toNat j)) (askP D p id fr).id ((c.D (p + 1) + 1) * c.S + c.T) = was at *
    -- the new cells' notes, and those of the others
    have hν : ∀ x, vl c x → x.1 ≠ p + 1 → ntAt c (g.lev c (p + 1) (askP D p id fr) o).M.c x = ntAt c g.M.c x := fun x hx hne => by
      unfold ntAt
      split
      · rw [lev_top]
      · rcases hx with hx | hx
        · exact absurd hx.1 (by assumption)
        · rw [lev_far hne _ (by rcases hx.2.2.1 with k | k <;> omega)]
    have hat : ∀ (C : Nat → Nat → Cl) (q : Pl) (j : Nat), ntAt c C (p + 1, q, j) = ntc (cellsE (c.r (p + 1)) C q) j := fun C q j => by
      unfold ntAt; rw [if_neg (by show ¬ p + 1 = c.n; omega)]
    -- was: noughts, or a cell of the block's
    have hq : (was = nul ∧ ∃ qs : Pl, True) ∨ ∃ qs, isPl c.S (c.D (p + 1)) c.T qs ∧ MineQ c.S (c.D (p + 1)) c.T (askP D p id fr).lf.toNat (cellsE (c.r (p + 1)) g.M.c) (askP D p id fr).id qs ∧ was = cellsE (c.r (p + 1)) g.M.c qs := by
      rcases hwas with h1 | ⟨j, a1, a2, a3, a4⟩
      · exact .inl ⟨h1, (0, 0), trivial⟩
      · exact .inr ⟨_, wayQ_is hcf.s1 hlf a1, ⟨j, a1, rfl, a2, a3⟩, a4⟩
    obtain ⟨qs, hqs⟩ : ∃ qs : Pl, (was = nul) ∨ (isPl c.S (c.D (p + 1)) c.T qs ∧ MineQ c.S (c.D (p + 1)) c.T (askP D p id fr).lf.toNat (cellsE (c.r (p + 1)) g.M.c) (askP D p id fr).id qs ∧ was = cellsE (c.r (p + 1)) g.M.c qs) := by
      rcases hq with ⟨h1, q0, _⟩ | ⟨q0, hq⟩
      · exact ⟨q0, .inl h1⟩
      · exact ⟨q0, .inr hq⟩
    have hnt : ∀ q j, isPl c.S (c.D (p + 1)) c.T q → j < 4 → (ntc (cellsE (c.r (p + 1)) (g.lev c (p + 1) (askP D p id fr) o).M.c q) j).1 ≠ 0 →
        (∃ q0, s q = some q0 ∧ isPl c.S (c.D (p + 1)) c.T q0 ∧ ntc (cellsE (c.r (p + 1)) (g.lev c (p + 1) (askP D p id fr) o).M.c q) j = ntc (cellsE (c.r (p + 1)) g.M.c q0) j ∧ (was ≠ nul → q0 ≠ qs)) ∨
        (s q = none ∧ j = j0 ∧ ntc (cellsE (c.r (p + 1)) (g.lev c (p + 1) (askP D p id fr) o).M.c q) j = tkN g.nw g.z L (c.N p)) ∨
        (s q = none ∧ j ≠ j0 ∧ was ≠ nul ∧ ntc (cellsE (c.r (p + 1)) (g.lev c (p + 1) (askP D p id fr) o).M.c q) j = ntc (cellsE (c.r (p + 1)) g.M.c qs) j) := fun q j hq hj hne => by
      rcases s1 q hq (ntc_has hne) with ⟨q0, a1, a2, a3, a4, a5⟩ | ⟨a1, a2⟩
      · refine .inl ⟨q0, a1, a2, by rw [a4], fun hw k => ?_⟩
        rcases hqs with k2 | ⟨_, k2, _⟩
        · exact hw k2
        · rw [k] at a5; exact a5 k2
      · rw [a2, nbC_nt _ _ _ _ _ _ hj] at hne ⊢
        by_cases e : j = j0
        · rw [if_pos e]
          exact .inr (.inl ⟨a1, e, hfd⟩)
        · rw [if_neg e] at hne ⊢
          have hw : was ≠ nul := fun k => by rw [k] at hne; exact hne rfl
          rcases hqs with k2 | ⟨_, ⟨_, _, _, k3, _⟩, k2⟩
          · exact absurd k2 hw
          · refine .inr (.inr ⟨a1, e, hw, ?_⟩)
            rw [ntc_of (show hasB (cellsE (c.r (p + 1)) g.M.c qs) from k3), k2]
    refine h.uq.turn hL (fun x => if x.1 = p + 1 then (match s x.2.1 with | some q0 => some (p + 1, q0, x.2.2) | none => if x.2.2 = j0 then none else some (p + 1, qs, x.2.2)) else some x) _ (p + 1, qs, j0) (fun x hx h1 => ?_) (fun x x' hx hx' h1 h2 h3 => ?_) (fun he => ?_)
    · obtain ⟨lv, q, j⟩ := x
      by_cases hlv : lv = p + 1
      · subst hlv
        rcases hx with hx | ⟨_, _, hx1, hx2⟩
        · exact absurd hx.1 (by show ¬ p + 1 = c.n; omega)
        · rw [hat] at h1 ⊢
          dsimp only
          rw [if_pos rfl]
          rcases hnt q j hx1 hx2 h1 with ⟨q0, b1, b2, b3, b4⟩ | ⟨b1, b2, b3⟩ | ⟨b1, b2, b3, b4⟩
          · rw [b1]
            exact .inl ⟨_, rfl, .inr ⟨by show 1 ≤ p + 1; omega, hp, b2, hx2⟩, by rw [hat]; exact b3, rfl⟩
          · rw [b1]
            dsimp only
            rw [if_pos b2]
            exact .inr ⟨rfl, b3, rfl⟩
          · rw [b1]
            dsimp only
            rw [if_neg b2]
            rcases hqs with k2 | ⟨k1, _, _⟩
            · exact absurd k2 b3
            · exact .inl ⟨_, rfl, .inr ⟨by show 1 ≤ p + 1; omega, hp, k1, hx2⟩, by rw [hat]; exact b4, rfl⟩
      · dsimp only
        rw [if_neg hlv]
        exact .inl ⟨_, rfl, hx, hν _ hx hlv, rfl⟩
    · obtain ⟨lv, q, j⟩ := x
      obtain ⟨lv', q', j'⟩ := x'
      dsimp only at h3
      by_cases hlv : lv = p + 1 <;> by_cases hlv' : lv' = p + 1
      · subst hlv
        subst hlv'
        rw [if_pos rfl, if_pos rfl] at h3
        rcases hx with hx | ⟨_, _, hx1, hx2⟩
        · exact absurd hx.1 (by show ¬ p + 1 = c.n; omega)
        rcases hx' with hx' | ⟨_, _, hx1', hx2'⟩
        · exact absurd hx'.1 (by show ¬ p + 1 = c.n; omega)
        rw [hat] at h1 h2
        have hb := ntc_has h1
        have hb' := ntc_has h2
        rcases hnt q j hx1 hx2 h1 with ⟨q0, b1, b2, b3, b4⟩ | ⟨b1, b2, b3⟩ | ⟨b1, b2, b3, b4⟩ <;> rcases hnt q' j' hx1' hx2' h2 with ⟨q0', d1, d2, d3, d4⟩ | ⟨d1, d2, d3⟩ | ⟨d1, d2, d3, d4⟩ <;> rw [b1, d1] at h3 <;> dsimp only at h3
        · injection h3 with h3
          injection h3 with _ h3
          injection h3 with h3 h4
          have := s2 q q' hx1 hx1' hb hb' (by rw [b1, d1, h3])
          rw [this, h4]
        · rw [if_pos d2] at h3; cases h3
        · rw [if_neg d2] at h3
          injection h3 with h3
          injection h3 with _ h3
          injection h3 with h3 h4
          exact absurd h3 (b4 d3)
        · rw [if_pos b2] at h3; cases h3
        · have := s2 q q' hx1 hx1' hb hb' (by rw [b1, d1])
          rw [this, b2, d2]
        · rw [if_pos b2, if_neg d2] at h3; cases h3
        · rw [if_neg b2] at h3
          injection h3 with h3
          injection h3 with _ h3
          injection h3 with h3 h4
          exact absurd h3.symm (d4 b3)
        · rw [if_neg b2, if_pos d2] at h3; cases h3
        · rw [if_neg b2, if_neg d2] at h3
          injection h3 with h3
          injection h3 with _ h3
          injection h3 with _ h4
          have := s2 q q' hx1 hx1' hb hb' (by rw [b1, d1])
          rw [this, h4]
      · subst hlv
        rw [if_pos rfl, if_neg hlv'] at h3
        exfalso
        split at h3
        · injection h3 with h3
          injection h3 with h3 _
          exact hlv' h3.symm
        · split at h3
          · cases h3
          · injection h3 with h3
            injection h3 with h3 _
            exact hlv' h3.symm
      · subst hlv'
        rw [if_neg hlv, if_pos rfl] at h3
        exfalso
        split at h3
        · injection h3 with h3
          injection h3 with h3 _
          exact hlv h3
        · split at h3
          · cases h3
          · injection h3 with h3
            injection h3 with h3 _
            exact hlv h3
      · rw [if_neg hlv, if_neg hlv'] at h3
        injection h3
    · have hw : was ≠ nul := fun k => by rw [k] at he; exact he rfl
      rcases hqs with k2 | ⟨k1, ⟨i9, k4, k5, k3, k6⟩, k2⟩
      · exact absurd k2 hw
      · refine ⟨.inr ⟨by show 1 ≤ p + 1; omega, hp, k1, hj0⟩, by rw [hat, ntc_of (show hasB (cellsE (c.r (p + 1)) g.M.c qs) from k3), k2], rfl, fun x hx h1 => ?_⟩
        obtain ⟨lv, q, j⟩ := x
        dsimp only
        by_cases hlv : lv = p + 1
        · subst hlv
          rw [if_pos rfl]
          rcases hx with hx | ⟨_, _, hx1, hx2⟩
          · exact absurd hx.1 (by show ¬ p + 1 = c.n; omega)
          rw [hat] at h1
          rcases hnt q j hx1 hx2 h1 with ⟨q0, b1, b2, b3, b4⟩ | ⟨b1, b2, b3⟩ | ⟨b1, b2, b3, b4⟩
          · rw [b1]
            intro h3
            injection h3 with h3
            injection h3 with _ h3
            injection h3 with h3 _
            exact b4 hw h3
          · rw [b1]
            dsimp only
            rw [if_pos b2]
            intro h3; cases h3
          · rw [b1]
            dsimp only
            rw [if_neg b2]
            intro h3
            injection h3 with h3
            injection h3 with _ h3
            injection h3 with _ h3
            exact b2 h3
        · rw [if_neg hlv]
          intro h3
          injection h3 with h3
          injection h3 with h3 _
          exact hlv h3
  · have e1 : (g.lev c (p + 1) (askP D p id fr) o).M = g.M := acM_no ha
    have e2 : partN c g D p id fr = (0, 0) := by unfold partN acW; rw [if_neg ha]; rfl
    rw [e1, e2]
    exact (h.uq.drop p).more (by omega)
theorem Us.top (hc : c.Ok) (h : Us c g (0, 0) k L) (hL : L = 2 * c.n * k) {id : Nat} (hid : id < 2 ^ c.b) : Us c (g.top c id (tkN g.nw g.z L (c.N (c.n - 1)))) (topN g c id) (c.n - 1) (L + 1) := by
  have hn := hc.n1
  have hk : id / 4 ^ (c.n - 1) < c.N (c.n - 1) := meant_lt _ hid
  unfold SG.top topN
  generalize id / 4 ^ (c.n - 1) = i0 at *
  have hcell : ∀ i, ((g.see c).note c i0 (tkN g.nw g.z L (c.N (c.n - 1)))).M.c c.f i = if i = i0 then tpC (tkN g.nw g.z L (c.N (c.n - 1))) else g.M.c c.f i := fun i => by
    show (if c.f = c.f ∧ i < c.N (c.n - 1) ∧ i = i0 ∧ true = true then tpC _ else g.M.c c.f i) = _
    by_cases e : i = i0
    · rw [if_pos e, if_pos ⟨rfl, by omega, e, rfl⟩]
    · rw [if_neg e, if_neg (fun q => e q.2.2.1)]
  have hfar : ∀ r, r ≠ c.f → ∀ i, ((g.see c).note c i0 (tkN g.nw g.z L (c.N (c.n - 1)))).M.c r i = g.M.c r i := fun r hr i => by
    show (if r = c.f ∧ i < c.N (c.n - 1) ∧ i = i0 ∧ true = true then tpC _ else g.M.c r i) = _
    rw [if_neg (fun q => hr q.1)]
  have hE : ∀ h q, cellsE (c.r h) ((g.see c).note c i0 (tkN g.nw g.z L (c.N (c.n - 1)))).M.c q = cellsE (c.r h) g.M.c q := fun h q => hfar _ (by unfold SC.r; omega) _
  refine ⟨?_, fun j hj p hp => by rw [hE]; exact h.wk j hj p hp⟩
  show Uq c g.nw g.z (ntAt c ((g.see c).note c i0 (tkN g.nw g.z L (c.N (c.n - 1)))).M.c) g.gone _ _ _
  have hv : ∀ x, vl c x → x.1 = c.n → x = (c.n, (0, x.2.1.2), 0) := fun x hx h1 => by
    rcases hx with ⟨a1, a2, a3, a4⟩ | hx
    · obtain ⟨lv, ⟨q0, q1⟩, j⟩ := x
      simp only at a1 a2 a4
      rw [a1, a2, a4]
    · omega
  have hν : ∀ x, x ≠ (c.n, (0, i0), 0) → vl c x → ntAt c ((g.see c).note c i0 (tkN g.nw g.z L (c.N (c.n - 1)))).M.c x = ntAt c g.M.c x := fun x hx hvx => by
    unfold ntAt
    by_cases e : x.1 = c.n
    · rw [if_pos e, if_pos e, hcell, if_neg]
      intro k2
      exact hx (by rw [hv x hvx e, k2])
    · rw [if_neg e, if_neg e, hE]
  have h0 : ntAt c ((g.see c).note c i0 (tkN g.nw g.z L (c.N (c.n - 1)))).M.c (c.n, (0, i0), 0) = tkN g.nw g.z L (c.N (c.n - 1)) := by
    unfold ntAt; rw [if_pos rfl, hcell, if_pos rfl]; rfl
  have hm : L % (2 * c.n) / 2 = c.n - 1 - (c.n - 1) := by rw [hL, Nat.mul_mod_right]; omega
  refine (h.uq.drop 0).turn hm (fun x => if x = (c.n, (0, i0), 0) then none else some x) _ (c.n, (0, i0), 0) (fun x hx h1 => ?_) (fun x x' hx hx' h1 h2 h3 => ?_) (fun he => ?_)
  · by_cases e : x = (c.n, (0, i0), 0)
    · subst e
      rw [if_pos rfl]
      exact .inr ⟨rfl, h0, by show c.n = _; omega⟩
    · rw [if_neg e]
      exact .inl ⟨x, rfl, hx, hν x e hx, rfl⟩
  · try dsimp only at h3
    by_cases e : x = (c.n, (0, i0), 0) <;> by_cases e' : x' = (c.n, (0, i0), 0)
    · rw [e, e']
    · rw [if_pos e, if_neg e'] at h3; cases h3
    · rw [if_neg e, if_pos e'] at h3; cases h3
    · rw [if_neg e, if_neg e'] at h3
      injection h3
  · refine ⟨.inl ⟨rfl, rfl, hk, rfl⟩, by unfold ntAt; rw [if_pos rfl], by show c.n = _; omega, fun x hx h1 => ?_⟩
    try dsimp only
    split
    · intro k2; cases k2
    · next hne => intro k2; injection k2 with k2; exact hne k2
end
structure Uk (c : SC) (g : SG) (k : Nat) : Prop where
  us : Us c g (0, 0) 0 (2 * c.n * k)
  u : g.u = 2 * c.n * k
  len : g.gone.length = c.n * k
theorem drawn_at {c : SC} {g : SG} {h : Nat} (hh : h < c.n) : drawn c g h = (tkN g.nw g.z (g.u + 2 * (c.n - 1 - h)) (c.N h), tkN g.nw g.z (g.u + 2 * (c.n - 1 - h) + 1) (c.N h)) := by
  unfold drawn; exact drws_down _ _ _ _ _ _ _ hh
theorem Rn.words {c : SC} (hc : c.Ok) {G : SG} {k : Nat} (hU : Uk c G k) (hk : G.u ≤ 1000000000) {op : Int} {id : Nat} (hid : id < 2 ^ c.b) {d : Nat → Int} (hd : ∀ j, 0 ≤ d j ∧ d j ≤ 18446744073709551615) {g : SG} {e : Nt} {r : Nat → Int} {t : Bool} {l : List Nat}
    (h : Rn c (drawn c G) op id d ((G.drew c).top c id (drawn c G (c.n - 1)).1) (topN (G.drew c) c id) l g e r t) :
    ∀ s, l ++ s = downL c.n → g.nw = G.nw ∧ g.z = G.z ∧ (∀ q, s.length = q + 1 → Us c g e q (2 * c.n * k + 2 * (c.n - 1 - q) + 1) ∧ g.gone.length = c.n * k + (c.n - 1 - q)) ∧ (s = [] → Us c g (0, 0) 0 (2 * c.n * (k + 1)) ∧ g.gone.length = c.n * (k + 1)) := by
  have hn := hc.n1
  have hn4 := hc.n4
  induction h with
  | nil =>
    intro s hs
    have hs' : s = downL c.n := hs
    have hl : s.length = c.n := by rw [hs', downL_len]
    refine ⟨rfl, rfl, fun q hq => ?_, fun e => by rw [e] at hl; simp at hl; omega⟩
    have : q = c.n - 1 := by omega
    subst this
    rw [drawn_at (by omega)]
    have h1 : Us c (G.drew c) (0, 0) 0 (2 * c.n * k) := ⟨hU.us.uq, hU.us.wk⟩
    have h2 : Us c (G.drew c) (0, 0) k (2 * c.n * k) := ⟨h1.uq.drop k, h1.wk⟩
    have h3 := h2.top hc rfl hid
    rw [show G.u + 2 * (c.n - 1 - (c.n - 1)) = 2 * c.n * k by rw [hU.u]; omega]
    refine ⟨?_, ?_⟩
    · rw [show 2 * c.n * k + 2 * (c.n - 1 - (c.n - 1)) + 1 = 2 * c.n * k + 1 by omega]
      exact h3
    · show G.gone.length = _
      rw [hU.len]; omega
  | part p o h hp ho ih =>
    intro s hs
    rw [List.append_assoc] at hs
    have hsf := down_suff _ _ _ hs
    have hlen : s.length = p + 1 := by
      have e2 : ([p + 1] ++ s) = downL (s.length + 1) := by simpa using hsf
      have e3 : (p + 1) :: s = s.length :: downL s.length := e2
      injection e3 with e3 _
      exact e3.symm
    obtain ⟨n1, n2, n3, _⟩ := ih _ hs
    obtain ⟨w1, w2⟩ := n3 (p + 1) (by simp [hlen])
    refine ⟨n1, n2, fun q hq => ?_, fun e => by rw [e] at hlen; simp at hlen⟩
    have : q = p := by omega
    subst this
    have hu := hU.u
    have hLq : G.u + 2 * (c.n - 1 - (q + 1)) + 1 = 2 * c.n * k + 2 * (c.n - 1 - (q + 1)) + 1 := by omega
    have hsp : (drawn c G (q + 1)).2 = tkN G.nw G.z (2 * c.n * k + 2 * (c.n - 1 - (q + 1)) + 1) (c.N (q + 1)) := by rw [drawn_at hp, hLq]
    rw [hsp] at ho ⊢
    rw [← n1, ← n2] at ho ⊢
    have g1 := w1.gon hc w2 hp rfl
    have hL2 : 2 * c.n * k + 2 * (c.n - 1 - (q + 1)) + 1 + 1 = 2 * c.n * k + 2 * (c.n - 1 - q) := by omega
    rw [hL2] at g1
    have hfr : (drawn c G q).1 = tkN G.nw G.z (2 * c.n * k + 2 * (c.n - 1 - q)) (c.N q) := by rw [drawn_at (by omega), show G.u + 2 * (c.n - 1 - q) = 2 * c.n * k + 2 * (c.n - 1 - q) by omega]
    have g2 := g1.part hc hp (by rw [Nat.mul_add_mod, Nat.mod_eq_of_lt (by omega)]; omega) (by rw [hfr, ← n1, ← n2]; rfl) ho (by rw [hfr]; exact tkN_wd (SC.N_le hc q).1 (SC.N_le hc q).2 (by omega))
    refine ⟨g2, ?_⟩
    show (SG.gone _ ++ [_]).length = _
    rw [List.length_append, w2]
    simp
    omega
  | last o h ho ih =>
    intro s hs
    rw [List.append_assoc] at hs
    have hsf := down_suff _ _ _ hs
    have hlen : s.length = 0 := by
      have e2 : ([0] ++ s) = downL (s.length + 1) := by simpa using hsf
      have e3 : (0 : Nat) :: s = s.length :: downL s.length := e2
      injection e3 with e3 _
      exact e3.symm
    obtain ⟨n1, n2, n3, _⟩ := ih _ hs
    obtain ⟨w1, w2⟩ := n3 0 (by simp [hlen])
    refine ⟨n1, n2, fun q hq => by omega, fun _ => ?_⟩
    have hu := hU.u
    have hsp : (drawn c G 0).2 = tkN G.nw G.z (2 * c.n * k + 2 * (c.n - 1 - 0) + 1) (c.N 0) := by rw [drawn_at (by omega), show G.u + 2 * (c.n - 1 - 0) + 1 = 2 * c.n * k + 2 * (c.n - 1 - 0) + 1 by omega]
    rw [hsp] at ho ⊢
    rw [← n1, ← n2] at ho ⊢
    have g1 := w1.gon hc w2 (by omega) rfl
    have hL2 : 2 * c.n * k + 2 * (c.n - 1 - 0) + 1 + 1 = 2 * c.n * (k + 1) := by rw [Nat.mul_add]; omega
    rw [hL2] at g1
    refine ⟨g1.last hc ho (by show (0 : Int) ≤ (id : Int); omega) hd, ?_⟩
    show (SG.gone _ ++ [_]).length = _
    rw [List.length_append, w2, Nat.mul_add]
    simp
    omega
theorem Rn.uk {c : SC} (hc : c.Ok) {G : SG} {k : Nat} (hU : Uk c G k) (hk : G.u ≤ 1000000000) {op : Int} {id : Nat} (hid : id < 2 ^ c.b) {d : Nat → Int} (hd : ∀ j, 0 ≤ d j ∧ d j ≤ 18446744073709551615) {g : SG} {e : Nt} {r : Nat → Int} {t : Bool}
    (h : Rn c (drawn c G) op id d ((G.drew c).top c id (drawn c G (c.n - 1)).1) (topN (G.drew c) c id) (downL c.n) g e r t) (hu : g.u = G.u + 2 * c.n) : Uk c g (k + 1) := by
  obtain ⟨_, _, _, h4⟩ := Rn.words hc hU hk hid hd h [] (by simp)
  obtain ⟨h5, h6⟩ := h4 rfl
  exact ⟨h5, by rw [hu, hU.u, Nat.mul_add]; omega, h6⟩
end Go.Proofs.YtfonieemodbikaaGreat


namespace Go.Proofs.YtfonieemodbikaaGreat
set_option maxRecDepth 100000
open Go.RowKit Go.ChangeShapes Go.WideShapes Go.ChangeAt

def StK (c : SC) (a : SA) (Z : Nat → Prop) (g : SG) (k : Nat) (w : World) : Prop := ∃ ga gc G, StoA c a g ga gc G k w ∧ ∀ i, Z i → i < w.heap.size ∧ ¬ G i
def StB (c : SC) (g : SG) (b : Int → Option (Nat → Int)) : Prop := ∃ m, SIe c g m (fun _ _ => False) ∧ ∀ i, (m 0 i).map (·.2) = b i
def nxD (op : Int) (d : Nat → Int) (x : Option (Nat → Int)) : Option (Nat → Int) := if op = 3 then none else if op = 0 then x else some d
def setD (b : Int → Option (Nat → Int)) (id : Int) (x : Option (Nat → Int)) : Int → Option (Nat → Int) := fun i => if i = id then x else b i
def datD (x : Option (Nat → Int)) : Nat → Int := x.getD fun _ => 0
theorem newM_data {op at' : Int} (hop : op = 0 ∨ op = 1 ∨ op = 3) (to : Nat) (d : Nat → Int) (x : Option (Nat × (Nat → Int))) : (newM op at' to d x).map (·.2) = nxD op d (x.map (·.2)) := by
  rcases hop with rfl | rfl | rfl
  · cases x <;> rfl
  · cases x <;> rfl
  · cases x <;> rfl
theorem dat_data (x : Option (Nat × (Nat → Int))) : dat x = datD (x.map (·.2)) := by cases x <;> rfl
theorem tkN_lf {nw : Nat} {z : Nat → Int} {u N : Nat} (h0 : 0 < N) : lfN N (tkN nw z u N) := by
  have := Nat.mod_lt (told nw z u).toNat h0
  unfold lfN tkN
  dsimp only
  omega
theorem drawn_ok {c : SC} (hc : c.Ok) (g : SG) : DrwOk c (drawn c g) := fun h hh => by
  unfold drawn
  rw [drws_down _ _ _ _ _ _ _ hh]
  exact ⟨tkN_lf (SC.N_le hc h).1, tkN_lf (SC.N_le hc h).1⟩
theorem SIe.drew {c : SC} {g : SG} {m : Nat → Bm} {ex : Nat → Nat → Prop} (h : SIe c g m ex) : SIe c (g.drew c) m ex := ⟨h.lv, h.rng, h.wh, h.ok, h.put, h.ovn⟩
theorem isOp_is {op : Int} {id N : Nat} (h : isOp op id N = true) : (op = 0 ∨ op = 1 ∨ op = 3) ∧ id < N := by
  unfold isOp at h
  simp only [Bool.and_eq_true, Bool.or_eq_true, beq_iff_eq, decide_eq_true_eq] at h
  omega
def Grw (g g' : SG) : Prop := (∀ h, g.ov h = true → g'.ov h = true) ∧ (∀ h, (difI (g.I h)).length ≤ (difI (g'.I h)).length)
theorem Grw.lev {c : SC} {g : SG} {h : Nat} {q : Ask} {o : List Nat} : Grw g (g.lev c h q o) := by
  refine ⟨fun j hj => ?_, fun j => ?_⟩
  · unfold SG.lev
    dsimp only
    split
    · next e => subst e; rw [hj]; rfl
    · exact hj
  · unfold SG.lev
    dsimp only
    split
    · next e => subst e; exact acI_sub _ _ _
    · exact Nat.le_refl _
theorem Grw.trans {g g' g2 : SG} (h : Grw g g') (h2 : Grw g' g2) : Grw g g2 := ⟨fun j hj => h2.1 j (h.1 j hj), fun j => Nat.le_trans (h.2 j) (h2.2 j)⟩
theorem Rn.grw {c : SC} {D : Dw} {op : Int} {id : Nat} {d : Nat → Int} {g0 : SG} {e0 : Nt} {l : List Nat} {g : SG} {e : Nt} {r : Nat → Int} {t : Bool} (h : Rn c D op id d g0 e0 l g e r t) : Grw g0 g := by
  induction h with
  | nil => exact ⟨fun _ h => h, fun _ => Nat.le_refl _⟩
  | part p o h hp ho ih => exact ih.trans (Grw.trans ⟨fun _ h => h, fun _ => Nat.le_refl _⟩ (Grw.lev (g := SG.gon _ _)))
  | last o h ho ih => exact ih.trans (Grw.trans ⟨fun _ h => h, fun _ => Nat.le_refl _⟩ (Grw.lev (g := SG.gon _ _)))
def IdOk (c : SC) (g : SG) : Prop := ∀ h x, x ∈ g.I h → ∃ j : Nat, x = (j : Int) ∧ j < c.N h
theorem IdOk.lev {c : SC} {g : SG} (h : IdOk c g) {l : Nat} {q : Ask} {o : List Nat} (hq : ∃ j : Nat, q.id = (j : Int) ∧ j < c.N l) : IdOk c (g.lev c l q o) := fun j x hx => by
  unfold SG.lev at hx
  dsimp only at hx
  split at hx
  · next e =>
    subst e
    unfold acI at hx
    split at hx
    · rcases List.mem_append.1 hx with hx | hx
      · exact h _ x hx
      · rw [List.mem_singleton] at hx
        rw [hx]; exact hq
    · exact h _ x hx
  · exact h j x hx
theorem Rn.ids {c : SC} {D : Dw} {op : Int} {id : Nat} (hid : id < 2 ^ c.b) {d : Nat → Int} {g0 : SG} {e0 : Nt} {l : List Nat} {g : SG} {e : Nt} {r : Nat → Int} {t : Bool} (h : Rn c D op id d g0 e0 l g e r t) (h0 : IdOk c g0) : IdOk c g := by
  induction h with
  | nil => exact h0
  | part p o h hp ho ih => exact IdOk.lev (g := SG.gon _ _) ih ⟨id / 4 ^ (p + 1), rfl, meant_lt _ hid⟩
  | last o h ho ih => exact IdOk.lev (g := SG.gon _ _) ih ⟨id, rfl, by have := meant_lt (b := c.b) 0 hid; rw [Nat.pow_zero, Nat.div_one] at this; exact this⟩
def upTo (n : Nat) : List Int := (List.range n).map fun (j : Nat) => (j : Int)
theorem IdOk.len {c : SC} {g : SG} (h : IdOk c g) (l : Nat) : (difI (g.I l)).length ≤ c.N l := by
  have := difI_le (g.I l) (upTo (c.N l)) fun x hx => by
    obtain ⟨j, rfl, hj⟩ := h l x hx
    exact List.mem_map.2 ⟨j, List.mem_range.2 hj, rfl⟩
  simpa [upTo] using this
section
variable {c : SC} {a : SA} {Z Z' : Nat → Prop} {g : SG} {k : Nat} {w w' : World}
theorem StK.weak (h : StK c a Z g k w) (hz : ∀ i, Z' i → Z i) : StK c a Z' g k w := by
  obtain ⟨ga, gc, G, h1, h2⟩ := h
  exact ⟨ga, gc, G, h1, fun i hi => h2 i (hz i hi)⟩
theorem StK.lt (h : StK c a Z g k w) {i : Nat} (hi : Z i) : i < w.heap.size := by obtain ⟨_, _, _, _, h2⟩ := h; exact (h2 i hi).1
theorem StK.grow (h : StK c a Z g k w) (ho : Only nobody w w') : StK c a (fun i => Z i ∨ (w.heap.size ≤ i ∧ i < w'.heap.size)) g k w' := by
  obtain ⟨ga, gc, G, h1, h2⟩ := h
  refine ⟨ga, gc, G, h1.nob ho, fun i hi => ?_⟩
  rcases hi with hi | hi
  · exact ⟨Nat.lt_of_lt_of_le (h2 i hi).1 ho.size, (h2 i hi).2⟩
  · exact ⟨hi.2, fun hg => by have := h1.lt i hg; omega⟩
theorem StK.nob (h : StK c a Z g k w) (ho : Only nobody w w') : StK c a Z g k w' := (h.grow ho).weak fun _ hi => .inl hi
theorem StK.only (h : StK c a Z g k w) {Y : Nat → Prop} (ho : Only Y w w') (hY : ∀ i, Y i → Z i) : StK c a Z g k w' := by
  obtain ⟨ga, gc, G, h1, h2⟩ := h
  exact ⟨ga, gc, G, h1.keep ho (fun i hi hy => (h2 i (hY i hy)).2 hi), fun i hi => ⟨Nat.lt_of_lt_of_le (h2 i hi).1 ho.size, (h2 i hi).2⟩⟩
theorem StK.access (hc : c.Ok) (h : StK c a Z g k w) (op : Int) (id : Nat) (d : Nat → Int) (hop : isOp op id (2 ^ c.b) = true) (hd : ∀ j, 0 ≤ d j ∧ d j ≤ 18446744073709551615) (hk : k < 19900) :
    Calls Tryz.prog 42 #[.pointer (some ⟨a.sp, 0, none⟩), .int .i64 op, .int .u64 (id : Int), .agg (DA d)] w fun r w' =>
      ∃ g' rr t, r = .returned (.tuple #[.agg (DA rr), .bool t]) ∧ StK c a Z g' (k + 20) w' ∧ Kept Z w w' ∧ Grw g g' ∧ (IdOk c g → IdOk c g') ∧
        (NoO c g' → ∀ b, StB c g b → DA rr = DA (datD (b (id : Int))) ∧ t = (b (id : Int)).isSome ∧ StB c g' (setD b (id : Int) (nxD op d (b (id : Int))))) := by
  obtain ⟨ga, gc, G, h1, h2⟩ := h
  obtain ⟨hop1, hid⟩ := isOp_is hop
  refine (h1.access hc op id d hop hd hk).mono ?_
  rintro r w' ⟨g', e', rr, t, hR, rfl, ga', gc', G', s1, s2, s3, s4⟩
  refine ⟨g', rr, t, rfl, ⟨ga', gc', G', s1, fun i hi => s3 i (h2 i hi)⟩, s4.mono (fun i _ hi hz => (h2 i hz).2 hi), ?_, fun h0 => Rn.ids hid hR h0, fun hN b hb => ?_⟩
  · exact Grw.trans ⟨fun _ h => h, fun _ => Nat.le_refl _⟩ hR.grw
  · obtain ⟨m, hI, hm⟩ := hb
    obtain ⟨m', q1, q2, q3, to, q4⟩ := Rn.sound hc (drawn_ok hc g) hop1 hid hI.drew hR hN
    refine ⟨?_, ?_, m', q1, fun i => ?_⟩
    · rw [q2, dat_data, hm]
    · rw [q3, ← hm]
      cases m 0 (id : Int) <;> rfl
    · rw [q4]
      unfold setD
      split
      · rw [newM_data hop1, hm]
      · exact hm i
end
end Go.Proofs.YtfonieemodbikaaGreat


namespace Go.Proofs.YtfonieemodbikaaGreat
set_option maxRecDepth 100000
open Go.RowKit Go.ChangeShapes Go.WideShapes Go.ChangeAt Go.Maps Go.Deep

theorem StK.alloc {c : SC} {a : SA} {Z : Nat → Prop} {g : SG} {k : Nat} {w : World} (h : StK c a Z g k w) (o : Obj) : StK c a (fun i => Z i ∨ i = w.heap.size) g k (w.alloc o) :=
  (h.grow ((Only.refl nobody w).alloc o)).weak fun i hi => hi.imp id (fun e => by subst e; exact ⟨Nat.le_refl _, by simp⟩)
structure StS (c : SC) (a : SA) (W : World) (Z : Nat → Prop) (F : World → Prop) (g : SG) (k : Nat) (wr : World) : Prop where
  sk : StK c a Z g k wr
  hz : ∀ i, i < W.heap.size → Z i
  hF : F wr
  st : ∀ u u', W.heap.size ≤ u.heap.size → Kept Z u u' → F u → F u'
  kp : Below W.heap.size W wr
section
variable {c : SC} {a : SA} {W : World} {Z : Nat → Prop} {F : World → Prop} {g : SG} {k : Nat} {wr w' : World}
theorem StS.nob (h : StS c a W Z F g k wr) (ho : Only nobody wr w') : StS c a W Z F g k w' :=
  ⟨h.sk.nob ho, h.hz, h.st _ _ h.kp.size (Kept.of_none ho) h.hF, h.st, below_only h.kp ho h.kp.size (fun _ _ h => h)⟩
theorem StS.drew (h : StS c a W Z F g k wr) : StS c a W Z F g k wr.drew := h.nob (Only.refl _ _).drew
theorem StS.also {G : World → Prop} (h : StS c a W Z F g k wr) (hG : G wr) (st : ∀ u u', W.heap.size ≤ u.heap.size → Kept Z u u' → G u → G u') : StS c a W Z (fun u => F u ∧ G u) g k wr :=
  ⟨h.sk, h.hz, ⟨h.hF, hG⟩, fun u u' hs hk g => ⟨h.st u u' hs hk g.1, st u u' hs hk g.2⟩, h.kp⟩
theorem StS.grow (h : StS c a W Z F g k wr) (o : Obj) {b : Nat} (hb : wr.heap.size = b) : StS c a W (fun i => Z i ∨ i = b) F g k (wr.alloc o) := by
  subst hb
  have ho : Only nobody wr (wr.alloc o) := (Only.refl _ _).alloc _
  exact ⟨h.sk.alloc o, fun i hi => .inl (h.hz i hi), h.st _ _ h.kp.size (Kept.of_none ho) h.hF, fun u u' hs hk g => h.st u u' hs (hk.mono fun i hi => .inl hi) g, below_only h.kp ho h.kp.size (fun _ _ h => h)⟩
theorem StS.more (h : StS c a W Z F g k wr) (ho : Only nobody wr w') : StS c a W (fun i => Z i ∨ (wr.heap.size ≤ i ∧ i < w'.heap.size)) F g k w' :=
  ⟨h.sk.grow ho, fun i hi => .inl (h.hz i hi), h.st _ _ h.kp.size (Kept.of_none ho) h.hF, fun u u' hs hk g => h.st u u' hs (hk.mono fun _ hi => .inl hi) g, below_only h.kp ho h.kp.size (fun _ _ h => h)⟩
theorem StS.box (h : StS c a W Z F g k wr) (t : TypeId) (cs : Array Value) {b : Nat} (hb : wr.heap.size = b) :
    StS c a W (fun i => Z i ∨ i = b) (fun u => F u ∧ Box u b t cs) g k (wr.alloc (.cells cs t)) :=
  (h.grow (.cells cs t) hb).also (by rw [← hb]; exact Box.new wr t cs) (fun _ _ _ hk g => hk.box g (.inr rfl))
theorem StS.row (h : StS c a W Z F g k wr) (t : TypeId) (f : Nat → Value) (o : Obj) {b n : Nat} (hb : wr.heap.size = b) (hr : (wr.alloc o).rowIs b t n f) :
    StS c a W (fun i => Z i ∨ i = b) (fun u => F u ∧ u.rowIs b t n f) g k (wr.alloc o) :=
  (h.grow o hb).also hr (fun _ _ _ hk g => hk.row g (.inr rfl))
theorem StS.put {Y : Nat → Prop} {G : World → Prop} (h : StS c a W Z F g k wr) (ho : Only Y wr w') (hY : ∀ i, Y i → Z i ∧ W.heap.size ≤ i) (hG : G w') (st : ∀ u u', W.heap.size ≤ u.heap.size → Kept Z u u' → G u → G u') : StS c a W Z G g k w' :=
  ⟨h.sk.only ho (fun i hi => (hY i hi).1), h.hz, hG, st, below_only h.kp ho h.kp.size (fun i hi e => by have := (hY i e).2; omega)⟩
theorem StS.eqF {G : World → Prop} (h : StS c a W Z F g k wr) (e : F = G) : StS c a W Z G g k wr := e ▸ h
theorem StS.setRow {Z0 : Nat → Prop} {b nr i : Nat} {t : TypeId} {f f' : Nat → Value} {v : Value} (h : StS c a W Z (fun u => F u ∧ u.rowIs b t nr f) g k wr) (stF : ∀ u u', W.heap.size ≤ u.heap.size → Kept Z0 u u' → F u → F u')
    (h0 : ∀ i, Z0 i → Z i) (hb0 : ¬ Z0 b) (hb : Z b) (hW : W.heap.size ≤ b) (e : ∀ j, j < nr → (if j = i then v else f j) = f' j) : StS c a W Z (fun u => F u ∧ u.rowIs b t nr f') g k (wr.setCell ⟨b, i, none⟩ v) := by
  have ho : Only (just b) wr (wr.setCell ⟨b, i, none⟩ v) := (Only.refl _ _).setCell (p := ⟨b, i, none⟩) (.inl (just_self _)) _
  refine h.put ho (fun i e => ?_) ⟨stF _ _ h.kp.size (Only.mono ho (fun i _ e => ?_)) h.hF.1, (h.hF.2.set i v).congr e⟩ (fun u u' hs hk g => ⟨stF u u' hs (hk.mono h0) g.1, hk.row g.2 hb⟩)
  · have e : i = b := e
    subst e
    exact ⟨hb, hW⟩
  · have e : i = b := e
    subst e
    exact hb0
theorem StS.step (hc : c.Ok) (h : StS c a W Z F g k wr) (op : Int) (id : Nat) (d : Nat → Int) (hop : isOp op id (2 ^ c.b) = true) (hd : ∀ j, 0 ≤ d j ∧ d j ≤ 18446744073709551615) (hk : k < 19900) :
    Calls Tryz.prog 42 #[.pointer (some ⟨a.sp, 0, none⟩), .int .i64 op, .int .u64 (id : Int), .agg (DA d)] wr fun r w' =>
      ∃ g' rr t, r = .returned (.tuple #[.agg (DA rr), .bool t]) ∧ Grw g g' ∧ (IdOk c g → IdOk c g') ∧
        (NoO c g' → ∀ b, StB c g b → DA rr = DA (datD (b (id : Int))) ∧ t = (b (id : Int)).isSome ∧ StB c g' (setD b (id : Int) (nxD op d (b (id : Int))))) ∧ StS c a W Z F g' (k + 20) w' := by
  refine (h.sk.access hc op id d hop hd hk).mono ?_
  rintro r w' ⟨g', rr, t, rfl, hS, hK, h1, h2, h3⟩
  exact ⟨g', rr, t, rfl, h1, h2, h3, hS, h.hz, h.st _ _ h.kp.size hK h.hF, h.st, h.kp.trans ((hK.mono h.hz).below h.kp.size (fun _ h => h))⟩
theorem StS.over (hc : c.Ok) (h : StS c a W Z F g k wr) : Calls Tryz.prog 45 #[.pointer (some ⟨a.sp, 0, none⟩)] wr fun e w' => e = .returned (.bool (ovN g c.n)) ∧ w' = wr := by
  obtain ⟨_, _, _, h1, _⟩ := h.sk
  exact h1.over hc
end
theorem StS.made {c : SC} {a : SA} {W w3 w4 : World} {g : SG} {F : World → Prop} (hS : StoA c a g none 0 (fun i => w3.heap.size ≤ i ∧ i < w4.heap.size) 0 w4) (ho : Only nobody w3 w4) (hB : Below W.heap.size W w3) (hF : F w3) (st : ∀ u u', W.heap.size ≤ u.heap.size → Kept (fun i => i < w3.heap.size) u u' → F u → F u') :
    StS c a W (fun i => i < w3.heap.size) F g 0 w4 :=
  ⟨⟨none, 0, _, hS, fun i hi => ⟨Nat.lt_of_lt_of_le hi ho.size, fun h => by omega⟩⟩, fun i hi => by have := hB.size; omega, st _ _ hB.size (Kept.of_none ho) hF, st, below_only hB ho hB.size (fun _ _ h => h)⟩
theorem stB_new (c : SC) (nz : Nat) (z : Nat → Int) : StB c (sg0 c nz z) (fun _ => none) := by
  have h0 : ∀ h i, whN c (sg0 c nz z) (fun _ _ => none) h i = (0, 0) := fun h i => by
    unfold whN
    split <;> rfl
  refine ⟨fun _ _ => none, ⟨fun h _ => LvInv.new _ _ _, fun h _ i b hb => (by cases hb), fun h _ i lf d hm => (by cases hm), fun h _ i _ => ?_, fun h _ i b hb => (by cases hb), fun _ _ => rfl⟩, fun _ => rfl⟩
  rw [h0]
  exact ⟨Int.le_refl _, Int.natCast_nonneg _⟩
theorem idOk_new (c : SC) (nz : Nat) (z : Nat → Int) : IdOk c (sg0 c nz z) := fun _ _ hx => absurd hx List.not_mem_nil
theorem StB.ovn {c : SC} {g : SG} {b : Int → Option (Nat → Int)} (h : StB c g b) : ovN g c.n = false := by
  obtain ⟨m, hm, _⟩ := h
  exact (ovN_iff g c.n).2 hm.ovn
end Go.Proofs.YtfonieemodbikaaGreat


namespace Go.Proofs.YtfonieemodbikaaGreat
set_option maxRecDepth 100000
open Go.RowKit Go.ChangeShapes Go.WideShapes Go.ChangeAt Go.Maps

def shZ (j : Nat) : Int := [3, 1, 4, 1, 5, 9].getD j 0
theorem shZ_rng (j : Nat) (h : j < 6) : 0 ≤ shZ j ∧ shZ j ≤ 18446744073709551615 := by
  have : j = 0 ∨ j = 1 ∨ j = 2 ∨ j = 3 ∨ j = 4 ∨ j = 5 := by omega
  rcases this with rfl | rfl | rfl | rfl | rfl | rfl <;> decide
theorem shZ_nums (w : World) : Nums .u64 (w.alloc (.cells #[.int .u64 3, .int .u64 1, .int .u64 4, .int .u64 1, .int .u64 5, .int .u64 9] 43)) (w.alloc (.cells #[.int .u64 3, .int .u64 1, .int .u64 4, .int .u64 1, .int .u64 5, .int .u64 9] 43)).heap.size (some ⟨w.heap.size, 0, none⟩) 6 shZ := fun _ => by
  have hb := Box.new w 43 #[.int .u64 3, .int .u64 1, .int .u64 4, .int .u64 1, .int .u64 5, .int .u64 9]
  refine ⟨w.heap.size, 0, rfl, hb.lt, fun j hj => ?_⟩
  rw [Nat.zero_add]
  have : j = 0 ∨ j = 1 ∨ j = 2 ∨ j = 3 ∨ j = 4 ∨ j = 5 := by omega
  rcases this with rfl | rfl | rfl | rfl | rfl | rfl
  · exact hb.cell 0
  · exact hb.cell 1
  · exact hb.cell 2
  · exact hb.cell 3
  · exact hb.cell 4
  · exact hb.cell 5
set_option linter.unusedSimpArgs false in
set_option maxRecDepth 100000 in
set_option linter.unusedSimpArgs false in
set_option maxHeartbeats 4000000 in
theorem sshown_of (w : World) : Calls Tryz.prog 36 #[] w fun e w' => e = .returned (.bool true) ∧ Below w.heap.size w w' := by
  obtain ⟨c, hc, hb, hS, hT, hn, hf, hQ⟩ := sc_mk 2 2 4 1 1 (by omega) (by omega) (by omega) (by omega) (by omega) (by omega) (by omega) (by omega)
  have eB : c.B = 4 := by rw [← hc.bB, hb]; rfl
  have eS : (c.S : Int) = 2 := by rw [hS]; rfl
  have eT : (c.T : Int) = 4 := by rw [hT]; rfl
  have en : (c.n : Int) = 1 := by rw [hn]; rfl
  have q1 : c.b ≤ 5 := by rw [hb]; decide
  have q2 : c.S ≤ 3 := by rw [hS]; decide
  have q3 : c.T ≤ 8 := by rw [hT]; decide
  have q4 : c.n ≤ 3 := by rw [hn]; decide
  have HMd := Lib.hid (fun (W : World) (A : Option Addr) (nz cz : Nat) (z : Nat → Int) (hz : Nums .u64 W W.heap.size A nz z) (hnz : nz ≤ 1000) (hzr : ∀ j, j < nz → 0 ≤ z j ∧ z j ≤ 18446744073709551615) => smade_of hc hf q1 q2 q3 q4 hQ A nz cz z W hz hnz hzr)
  rw [eB, eS, eT, en] at HMd
  have HOp : Hid (∀ op : Int, (op = 0 ∨ op = 1) → ∀ id, id < 4 → isOp op id (2 ^ c.b) = true) := Lib.hid (by
    intro op hop id hid
    rw [hb]
    unfold isOp
    rcases hop with rfl | rfl <;> simp [hid])
  have HNo : Hid (∀ g, IdOk c g → NoO c g) := Lib.hid (by
    intro g hg
    refine .inr fun h hh => ?_
    have h0 : h = 0 := by omega
    subst h0
    refine Nat.le_trans (hg.len 0) ?_
    unfold SC.N
    rw [hb, hT]
    decide)
  have HB0 := Lib.hid (stB_new c 6 shZ)
  have HI0 := Lib.hid (idOk_new c 6 shZ)
  have HC := Lib.hid hc
  clear hc hb hS hT hn hf hQ eB eS eT en q1 q2 q3 q4
  obtain ⟨w1, hw1⟩ : ∃ w1, w.alloc (.cells #[.int .u64 3, .int .u64 1, .int .u64 4, .int .u64 1, .int .u64 5, .int .u64 9] 43) = w1 := ⟨_, rfl⟩
  have HZ1 : Hid (Nums .u64 w1 w1.heap.size (some ⟨w.heap.size, 0, none⟩) 6 shZ) := Lib.hid (by rw [← hw1]; exact shZ_nums w)
  have HB1 : Hid (Below w.heap.size w w1) := Lib.hid (by rw [← hw1]; exact (Below.refl _ w).alloc (Nat.le_refl _) _)
  go_enter Tryz.func36, Tryz.ntmps36
  go_wp2_with fail
  try rw [hw1]
  refine (HMd.out _ _ 6 6 shZ HZ1.out (by decide) shZ_rng).mono ?_
  rintro e w2 ⟨a, rfl, hSt, ho2⟩
  have hE : StS c a w (fun i => i < w1.heap.size) (fun _ => True) (sg0 c 6 shZ) 0 w2 := StS.made hSt ho2 HB1.out trivial (fun _ _ _ _ _ => trivial)
  have HE2 := Lib.hid hE
  clear hE hSt ho2 hw1 HMd HZ1 HB1
  generalize (fun i => i < w1.heap.size) = Z at *
  generalize sg0 c 6 shZ = g0 at *
  clear w1
  go_wp2_with fail
  refine (sdata_of 5 _).mono ?_
  rintro e w3 ⟨rfl, hb3⟩
  have HE3 := Lib.hid (HE2.out.nob (Only.of_below hb3))
  clear hb3 HE2
  go_wp2_with fail
  refine (HE3.out.step HC.out 1 3 (dw 5) (HOp.out 1 (.inr rfl) 3 (by decide)) (fun j => dw_rng 5 j) (by decide)).mono ?_
  rintro e w4 ⟨g1, rr, t, rfl, hG1, hI1, hN1, hE4⟩
  clear hG1
  have HI1 := Lib.hid (hI1 HI0.out)
  obtain ⟨e1, f2, e3⟩ := hN1 (HNo.out _ HI1.out) _ HB0.out
  clear e1
  have e2 : t = false := f2
  clear f2
  subst e2
  have HB1 : Hid (StB c g1 (setD (fun _ => none) 3 (some (dw 5)))) := Lib.hid e3
  have HE4 := Lib.hid hE4
  clear hE4 hI1 hN1 e3 HE3 HB0 HI0
  go_upto_region 5 with (refine wpList_store_newD rfl (.tmp 4) (.tmp 23) rfl rfl _ rfl rfl ?_)
  have HE5 := Lib.hid (HE4.out.nob ((Only.refl nobody w4).alloc (.cells (DA rr) 48)))
  generalize w4.heap.size = nb at *
  clear HE4
  generalize w4.alloc (.cells (DA rr) 48) = w5 at *
  go_wp2_with fail
  refine (HE5.out.step HC.out 0 3 (fun _ => 0) (HOp.out 0 (.inl rfl) 3 (by decide)) (fun _ => ⟨Int.le_refl 0, by show (0 : Int) ≤ 18446744073709551615; decide⟩) (by decide)).mono ?_
  rintro e w6 ⟨g2, rr2, t, rfl, hG2, hI2, hN2, hE6⟩
  clear hG2
  have HI2 := Lib.hid (hI2 HI1.out)
  obtain ⟨e1, f2, e3⟩ := hN2 (HNo.out _ HI2.out) _ HB1.out
  have e2 : t = true := f2
  clear f2
  subst e2
  have g1' : DA rr2 = DA (dw 5) := e1
  rw [g1']
  clear g1'
  have HB2 := Lib.hid e3
  have HE6 := Lib.hid hE6
  clear hE6 hI2 hN2 e3 e1 HE5 HB1 HI1
  have HBZ0 : (setD (setD (fun _ => none) 3 (some (dw 5))) 3 (nxD 0 (fun _ => 0) (setD (fun _ => none) 3 (some (dw 5)) 3)) ((2 : Nat) : Int)).isSome = false := by simp [setD]
  have HBZ1 := Lib.hid HBZ0
  clear HBZ0
  go_upto_region 6 with (refine wpList_store_newD rfl (.tmp 6) (.tmp 29) rfl rfl _ rfl rfl ?_)
  obtain ⟨nx, hnx⟩ : ∃ b, w6.heap.size = b := ⟨_, rfl⟩
  have HE7 := Lib.hid (HE6.out.box 48 (DA (dw 5)) hnx)
  rw [hnx]
  clear HE6 hnx
  generalize w6.alloc (.cells (DA (dw 5)) 48) = w7 at *
  go_wp2_with fail
  refine (HE7.out.step HC.out 0 2 (fun _ => 0) (HOp.out 0 (.inl rfl) 2 (by decide)) (fun _ => ⟨Int.le_refl 0, by show (0 : Int) ≤ 18446744073709551615; decide⟩) (by decide)).mono ?_
  rintro e w8 ⟨g3, rr3, t, rfl, hG3, hI3, hN3, hE8⟩
  clear hG3
  obtain ⟨e1, f2, e3⟩ := hN3 (HNo.out _ (hI3 HI2.out)) _ HB2.out
  clear e1
  have e2 : t = false := f2.trans HBZ1.out
  clear f2
  subst e2
  have HOv := Lib.hid e3.ovn
  have HE8 := Lib.hid hE8
  clear hE8 hI3 hN3 e3 HE7 HB2 HI2
  go_upto_region 7 with (refine wpList_store_newD rfl (.tmp 8) (.tmp 35) rfl rfl _ rfl rfl ?_)
  have hE := (HE8.out.nob ((Only.refl nobody w8).alloc (.cells (DA rr3) 48))).drew
  generalize w8.heap.size = nz at *
  clear HE8
  generalize w8.alloc (.cells (DA rr3) 48) = w9 at *
  refine held_s (S := fun u => Box u nx 48 (DA (dw 5))) 20 rfl (by kernel_rfl) hE.hF.2 (fun hHeld => ?_)
  simp only [Array.replicate_succ, Array.replicate_zero, List.push_toArray, List.nil_append, List.cons_append]
  generalize w9.drew = wd at *
  refine wpAnyH_take (i := 0) (oi := ⟨some 37, _, _, _, _, _⟩) (v := (.bool false)) rfl (by kernel_rfl) (by kernel_rfl) (by kernel_rfl) (fun _ _ _ h => h) (Or.inl ⟨by rfl, fun w' hw => by go_simp⟩) hHeld ?_
  try simp only [Act.put, sA0, sB0, sC0]
  refine wpAnyH_take (i := 1) (oi := ⟨some 38, _, _, _, _, _⟩) (v := (.bool true)) rfl (by kernel_rfl) (by kernel_rfl) (by kernel_rfl) (fun _ _ _ h => h) (Or.inl ⟨by rfl, fun w' hw => by go_simp⟩) hHeld ?_
  try simp only [Act.put, sA0, sB0, sC0]
  refine wpAnyH_take (i := 2) (oi := ⟨some 39, _, _, _, _, _⟩) (v := (.bool true)) rfl (by kernel_rfl) (by kernel_rfl) (by kernel_rfl) (fun _ _ _ h => h) (Or.inl ⟨by rfl, fun w' hw => by go_simp⟩) hHeld ?_
  try simp only [Act.put, sA0, sB0, sC0]
  refine wpAnyH_take (i := 3) (oi := ⟨some 40, _, _, _, _, _⟩) (v := (.bool true)) rfl (by kernel_rfl) (by kernel_rfl) (by kernel_rfl) (fun _ _ _ h => h) (Or.inl ⟨by rfl, fun w' hw => by go_simp⟩) hHeld ?_
  try simp only [Act.put, sA0, sB0, sC0]
  refine wpAnyH_take (i := 4) (oi := ⟨some 41, _, _, _, _, _⟩) (v := (.bool true)) rfl (by kernel_rfl) (by kernel_rfl) (by kernel_rfl) (fun _ _ _ h => h) (Or.inl ⟨by rfl, fun w' hw => by go_simp⟩) hHeld ?_
  try simp only [Act.put, sA0, sB0, sC0]
  refine wpAnyH_take (i := 5) (oi := ⟨some 42, _, _, _, _, _⟩) (v := (.bool true)) rfl (by kernel_rfl) (by kernel_rfl) (by kernel_rfl) (fun _ _ _ h => h) (Or.inl ⟨by rfl, fun w' hw => by go_simp⟩) hHeld ?_
  try simp only [Act.put, sA0, sB0, sC0]
  refine take_row 6 (oi := ⟨some 43, _, _, _, _, _⟩) (DA (dw 5)).toList rfl (by kernel_rfl) (by kernel_rfl) (by kernel_rfl) (fun _ _ _ h => h) (by rfl) _ _ rfl _ _ rfl _ (fun w' hw => hw.range) Tryz.underlying48 rfl (infoData (dw 5)) hHeld ?_
  try simp only [Act.put, sA0, sB0, sC0]
  refine one_ready 7 rfl (by kernel_rfl) (fun K hK => ?_)
  go_simp
  refine (sdata_of 5 _).mono ?_
  rintro e w13 ⟨rfl, hb⟩
  have ho : Only nobody _ w13 := Only.of_below hb
  have hE := hE.nob ho
  refine hK.out _ _ hE.hF.2 (fun hHeld => ?_)
  clear hK K ho hb
  try simp only [Act.put, sA0, sB0, sC0]
  refine wpAnyH_take (i := 8) (oi := ⟨some 45, _, _, _, _, _⟩) (v := (.bool true)) rfl (by kernel_rfl) (by kernel_rfl) (by kernel_rfl) (fun _ _ _ h => h) (Or.inl ⟨by rfl, fun w' hw => by (have q1 := eql_data (dw 5) (dw 5); rw [deq_self] at q1; go_simp)⟩) hHeld ?_
  try simp only [Act.put, sA0, sB0, sC0]
  refine wpAnyH_take (i := 9) (oi := ⟨some 46, _, _, _, _, _⟩) (v := (.bool true)) rfl (by kernel_rfl) (by kernel_rfl) (by kernel_rfl) (fun _ _ _ h => h) (Or.inl ⟨by rfl, fun w' hw => by go_simp⟩) hHeld ?_
  try simp only [Act.put, sA0, sB0, sC0]
  refine wpAnyH_take (i := 10) (oi := ⟨some 47, _, _, _, _, _⟩) (v := (.bool true)) rfl (by kernel_rfl) (by kernel_rfl) (by kernel_rfl) (fun _ _ _ h => h) (Or.inl ⟨by rfl, fun w' hw => by go_simp⟩) hHeld ?_
  try simp only [Act.put, sA0, sB0, sC0]
  refine wpAnyH_take (i := 11) (oi := ⟨some 48, _, _, _, _, _⟩) (v := (.bool false)) rfl (by kernel_rfl) (by kernel_rfl) (by kernel_rfl) (fun _ _ _ h => h) (Or.inl ⟨by rfl, fun w' hw => by go_simp⟩) hHeld ?_
  try simp only [Act.put, sA0, sB0, sC0]
  refine wpAnyH_take (i := 12) (oi := ⟨some 49, _, _, _, _, _⟩) (v := (.bool true)) rfl (by kernel_rfl) (by kernel_rfl) (by kernel_rfl) (fun _ _ _ h => h) (Or.inl ⟨by rfl, fun w' hw => by go_simp⟩) hHeld ?_
  try simp only [Act.put, sA0, sB0, sC0]
  refine wpAnyH_take (i := 13) (oi := ⟨some 50, _, _, _, _, _⟩) (v := (.bool true)) rfl (by kernel_rfl) (by kernel_rfl) (by kernel_rfl) (fun _ _ _ h => h) (Or.inl ⟨by rfl, fun w' hw => by go_simp⟩) hHeld ?_
  try simp only [Act.put, sA0, sB0, sC0]
  refine wpAnyH_take (i := 14) (oi := ⟨some 51, _, _, _, _, _⟩) (v := (.bool true)) rfl (by kernel_rfl) (by kernel_rfl) (by kernel_rfl) (fun _ _ _ h => h) (Or.inl ⟨by rfl, fun w' hw => by go_simp⟩) hHeld ?_
  try simp only [Act.put, sA0, sB0, sC0]
  refine wpAnyH_take (i := 15) (oi := ⟨some 52, _, _, _, _, _⟩) (v := (.pointer (some ⟨a.sp, 0, none⟩))) rfl (by kernel_rfl) (by kernel_rfl) (by kernel_rfl) (fun _ _ _ h => h) (Or.inl ⟨by rfl, fun w' hw => by go_simp⟩) hHeld ?_
  try simp only [Act.put, sA0, sB0, sC0]
  refine one_ready 16 rfl (by kernel_rfl) (fun K hK => ?_)
  go_simp
  refine (hE.over HC.out).mono ?_
  rintro e w13 ⟨rfl, he⟩
  rw [he, HOv.out]
  refine hK.out _ _ hHeld (fun hHeld => ?_)
  clear hK K he w13
  try simp only [Act.put, sA0, sB0, sC0]
  refine wpAnyH_take (i := 17) (oi := ⟨some 54, _, _, _, _, _⟩) (v := (.bool true)) rfl (by kernel_rfl) (by kernel_rfl) (by kernel_rfl) (fun _ _ _ h => h) (Or.inl ⟨by rfl, fun w' hw => by go_simp⟩) hHeld ?_
  try simp only [Act.put, sA0, sB0, sC0]
  refine wpAnyH_take (i := 18) (oi := ⟨some 55, _, _, _, _, _⟩) (v := (.bool true)) rfl (by kernel_rfl) (by kernel_rfl) (by kernel_rfl) (fun _ _ _ h => h) (Or.inl ⟨by rfl, fun w' hw => by go_simp⟩) hHeld ?_
  try simp only [Act.put, sA0, sB0, sC0]
  refine wpAnyH_take (i := 19) (oi := ⟨some 0, _, _, _, _, _⟩) (v := (.bool true)) rfl (by kernel_rfl) (by kernel_rfl) (by kernel_rfl) (fun _ _ _ h => h) (Or.inl ⟨by rfl, fun w' hw => by go_simp⟩) hHeld ?_
  try simp only [Act.put, sA0, sB0, sC0]
  refine wpAnyH_done (by kernel_rfl) ?_ _
  go_wp2_with fail
  go_ret
  exact ⟨rfl, hE.kp⟩
end Go.Proofs.YtfonieemodbikaaGreat


namespace Go.Proofs.YtfonieemodbikaaGreat
set_option maxRecDepth 100000
open Go.RowKit Go.ChangeShapes Go.WideShapes Go.ChangeAt Go.Maps Go.Deep

def sfA (c : SC) : Array Value := #[.int .i64 c.B, .int .i64 (c.S : Int), .int .i64 (c.T : Int), .int .i64 (c.n : Int)]
theorem slaw_config (n : Int) (h0 : -9223372036854775808 ≤ n) (h1 : n ≤ 9223372036854775807) : ∃ c : SC, c.Ok ∧ (c.b ≤ 5 ∧ c.S ≤ 3 ∧ c.T ≤ 8 ∧ c.n ≤ 3) ∧
    (∀ w, Calls Tryz.prog 37 #[.int .i64 n] w fun e w' => e = .returned (.agg (sfA c)) ∧ Below w.heap.size w w') ∧
    ∀ (W : World) (A : Option Addr) (nz cz : Nat) (z : Nat → Int), Nums .u64 W W.heap.size A nz z → nz ≤ 1000 → (∀ j, j < nz → 0 ≤ z j ∧ z j ≤ 18446744073709551615) →
      Calls Tryz.prog 38 #[.agg (sfA c), .slice A nz cz] W fun e w' =>
        ∃ a : SA, e = .returned (.tuple #[.pointer (some ⟨a.mp, 0, none⟩), .pointer (some ⟨a.tp, 0, none⟩), .pointer (some ⟨a.sp, 0, none⟩)]) ∧ StoA c a (sg0 c nz z) none 0 (fun i => W.heap.size ≤ i ∧ i < w'.heap.size) 0 w' ∧ Only nobody W w' := by
  obtain ⟨r1, ⟨r2, r3⟩, ⟨r4, r5⟩, r6, r7⟩ := sc_rng n
  obtain ⟨c, hc, hb, hS, hT, hn, hf, hQ⟩ := sc_mk (scb n) (scS n) (scT n) (scn n) 1 (by omega) r2 (by omega) r4 (by omega) r6 (by omega) (by omega)
  have q1 : c.b ≤ 5 := by rw [hb]; exact r1
  have q2 : c.S ≤ 3 := by rw [hS]; exact r3
  have q3 : c.T ≤ 8 := by rw [hT]; exact r5
  have q4 : c.n ≤ 3 := by rw [hn]; exact r7
  have eA : scA (scb n) (scS n : Int) (scT n : Int) (scn n) = sfA c := by
    unfold scA sfA
    rw [← hc.bB, hb, hS, hT, hn]
  refine ⟨c, hc, ⟨q1, q2, q3, q4⟩, fun w => ?_, fun W A nz cz z hz hnz hzr => smade_of hc hf q1 q2 q3 q4 hQ A nz cz z W hz hnz hzr⟩
  have := sconfig_of n w h0 h1
  rw [eA] at this
  exact this
theorem infoCfgS (c : SC) : (Tryz.prog.info? 79).map (·.size) = some (sfA c).size := by kernel_rfl
theorem wpList_store_newS {ops : Array Oper} {rest : List Oper} {op : Oper} {a : Act} {w : World} {Q : Exit → Act → World → Prop} (hgd : op.guard = none) (x y : Operand) (ho : op.op = .store 79 x y)
    (hx : a.eval x = .pointer (some ⟨w.heap.size, 0, none⟩)) (c : SC) (hy : a.eval y = .agg (sfA c)) {cs : Array Value} (hc : cs.size = 4)
    (h : wpList Tryz.prog ops Q rest (a.put op.dst undef) (w.alloc (.cells (sfA c) 79))) : wpList Tryz.prog ops Q (op :: rest) a (w.alloc (.cells cs 79)) := by
  refine wpList_plain hgd fun K hK => ?_
  have hr := run_storeAt_new (P := Tryz.prog) w 79 cs (sfA c) (infoCfgS c) (by rw [hc]; rfl) (by simp [sfA, Value.oneCell'])
  unfold Oper.wp execOp
  simp only [ho, hx, hy, Sem.run_bind, Result.andThen_ok, hr, Sem.run_pure]
  exact hK _ _ h
section
variable {w : World} {cb : Nat} {c : SC}
theorem sc_0 (h : Box w cb 79 (sfA c)) : w.cell? ⟨cb, 0, none⟩ = some (.int .i64 c.B) := h.cell 0
theorem sc_1 (h : Box w cb 79 (sfA c)) : w.cell? ⟨cb, 1, none⟩ = some (.int .i64 (c.S : Int)) := h.cell 1
theorem sc_2 (h : Box w cb 79 (sfA c)) : w.cell? ⟨cb, 2, none⟩ = some (.int .i64 (c.T : Int)) := h.cell 2
theorem sc_3 (h : Box w cb 79 (sfA c)) : w.cell? ⟨cb, 3, none⟩ = some (.int .i64 (c.n : Int)) := h.cell 3
end
theorem sp_cells {w : World} {b o : Nat} {y : Sp3} (h : w.rangeAt b o (s3c y).toList) : w.cell? ⟨b, o, none⟩ = some (.int .i64 y.1) ∧ w.cell? ⟨b, o + 1, none⟩ = some (.int .u64 y.2.1) ∧ w.cell? ⟨b, o + 2, none⟩ = some (.int .u64 y.2.2) := ⟨h 0 _ rfl, h 1 _ rfl, h 2 _ rfl⟩
theorem Sp3Ok.rng {y : Sp3} (h : Sp3Ok y) : (-9223372036854775808 ≤ y.1 ∧ y.1 ≤ 9223372036854775807) ∧ (0 ≤ y.2.1 ∧ y.2.1 ≤ 18446744073709551615) ∧ (0 ≤ y.2.2 ∧ y.2.2 ≤ 18446744073709551615) := ⟨i64_rng h.1, u64_rng h.2.1, u64_rng h.2.2⟩
def idM (c : SC) (x : Int) : Nat := x.toNat % 2 ^ c.b
theorem idM_lt (c : SC) (x : Int) : idM c x < 2 ^ c.b := Nat.mod_lt _ (Nat.two_pow_pos _)
theorem idM_op (c : SC) (n x : Int) : isOp (opI n) (idM c x) (2 ^ c.b) = true := by
  have h1 := idM_lt c x
  unfold isOp
  rcases opI_ok n with e | e | e <;> rw [e] <;> simp [h1]
end Go.Proofs.YtfonieemodbikaaGreat


namespace Go.Proofs.YtfonieemodbikaaGreat
set_option maxRecDepth 100000
open Go.RowKit Go.ChangeShapes Go.WideShapes Go.ChangeAt

section
variable {c : SC} {g : SG} {m : Nat → Bm}
structure Wy (c : SC) (D : Dw) (id : Nat) (W : Nat → Nt) (G0 : List Nt) (l : List Nat) (q : Nat) (g : SG) (e : Nt) (m : Nat → Bm) : Prop where
  inv : SIe c g m (fun h i => h = q ∧ i = id / 4 ^ q)
  eok : okN (c.N q) e
  efm : ∀ lf d, m q ((id / 4 ^ q : Nat) : Int) = some (lf, d) → e.1 = (lf : Int) + 1
  eW : e = W q
  past : ∀ h, q ≤ h → h < c.n → whN c g m h (id / 4 ^ h) = (D h).1
  todo : ∀ h, h < q → whN c g m h (id / 4 ^ h) = W h
  gone : g.gone = G0 ++ l.map fun h => orN (W h) (D h).2
theorem Rn.used {D : Dw} {op : Int} {id : Nat} {d : Nat → Int} {g0 : SG} {e0 : Nt} {l : List Nat} {g : SG} {e : Nt} {r : Nat → Int} {t : Bool} (h : Rn c D op id d g0 e0 l g e r t) : g.u = g0.u ∧ g.nw = g0.nw ∧ g.z = g0.z := by
  induction h with
  | nil => exact ⟨rfl, rfl, rfl⟩
  | part p o h hp ho ih => exact ih
  | last o h ho ih => exact ih
end
end Go.Proofs.YtfonieemodbikaaGreat


namespace Go.Proofs.YtfonieemodbikaaGreat
set_option maxRecDepth 100000
open Go.RowKit Go.ChangeShapes Go.WideShapes Go.ChangeAt Go.Maps

theorem ntL_at : ∀ (l : List Nt) (i : Nat) (hi : i < l.length), (ntL l)[i * 2]? = some (.int .u64 (l[i]).1) ∧ (ntL l)[i * 2 + 1]? = some (.int .u64 (l[i]).2)
  | e :: l, 0, _ => ⟨rfl, rfl⟩
  | e :: l, i + 1, hi => by
    have h := ntL_at l i (by simpa using hi)
    rw [show (i + 1) * 2 = i * 2 + 1 + 1 by omega]
    exact h
def toldL (f : Nt → Int) (l : List Nt) (k : Nat) : List Int := (l.take k).map f
theorem toldL_len {f : Nt → Int} {l : List Nt} {k : Nat} (h : k ≤ l.length) : (toldL f l k).length = k := by unfold toldL; rw [List.length_map, List.length_take]; omega
theorem toldL_next {f : Nt → Int} {l : List Nt} {k : Nat} (h : k < l.length) : toldL f l (k + 1) = toldL f l k ++ [f (l.getD k (0, 0))] := by
  rw [List.getD_eq_getElem?_getD, List.getElem?_eq_getElem h]
  unfold toldL
  rw [List.take_add_one, List.getElem?_eq_getElem h, List.map_append]
  rfl
theorem toldL_all {f : Nt → Int} {l : List Nt} : toldL f l l.length = l.map f := by unfold toldL; rw [List.take_length]
section
variable {c : SC} {a : SA} {g : SG} {ga : Option Addr} {gc : Nat} {G : Nat → Prop} {k : Nat} {w : World}
theorem StoA.gonAt (hS : StoA c a g ga gc G k w) {i : Nat} (hi : i < g.gone.length) : ∃ gb, ga = some ⟨gb, 0, none⟩ ∧ w.cell? ⟨gb, i * 2, none⟩ = some (.int .u64 (g.gone.getD i (0, 0)).1) ∧ w.cell? ⟨gb, i * 2 + 1, none⟩ = some (.int .u64 (g.gone.getD i (0, 0)).2) := by
  rw [List.getD_eq_getElem?_getD, List.getElem?_eq_getElem hi]
  rcases hS.gon.2 with ⟨_, e0⟩ | ⟨gb, cap, cur, e0, _⟩
  · omega
  · injection e0 with e1 e2 e3
    subst e1
    obtain ⟨h1, h2⟩ := ntL_at g.gone i hi
    have q1 := hS.gon.cells (g := gb) rfl _ _ h1
    have q2 := hS.gon.cells (g := gb) rfl _ _ h2
    rw [add_plain, Nat.zero_add] at q1 q2
    exact ⟨gb, rfl, q1, q2⟩
set_option linter.unusedSimpArgs false in
set_option maxHeartbeats 2000000 in
theorem StoA.sources (hS : StoA c a g ga gc G k w) (hk : k < 20000) : Calls Tryz.prog 55 #[.pointer (some ⟨a.sp, 0, none⟩)] w (SzPost w (g.gone.map (fun e : Nt => placeI e.2))) := by
  have k8 : w.cell? ⟨a.sp, 8, none⟩ = some (.slice ga g.gone.length gc) := hS.box.cell 8
  have hgl := hS.gl
  have HG := Lib.hid (fun W (hW : Only nobody w W) i (hi : i < g.gone.length) => (hS.nob hW).gonAt hi)
  obtain ⟨n, hn⟩ : ∃ n, g.gone.length = n := ⟨_, rfl⟩
  have HV : Hid (∀ j, (hj : j < n) → toldL (fun e : Nt => placeI e.2) g.gone (j + 1) = toldL (fun e : Nt => placeI e.2) g.gone j ++ [(fun e : Nt => placeI e.2) (g.gone.getD j (0, 0))]) := Lib.hid fun j hj => toldL_next (by omega)
  have HLn : Hid (∀ j, j ≤ n → (toldL (fun e : Nt => placeI e.2) g.gone j).length = j) := Lib.hid fun j hj => toldL_len (by omega)
  have HAll : Hid (toldL (fun e : Nt => placeI e.2) g.gone n = g.gone.map (fun e : Nt => placeI e.2)) := Lib.hid (by rw [← hn]; exact toldL_all)
  have HV0 : Hid (toldL (fun e : Nt => placeI e.2) g.gone 0 = []) := Lib.hid rfl
  have HNn := Lib.hid hn
  rw [hn] at k8 hgl
  clear hn
  generalize a.sp = sp at *
  go_enter Tryz.func55, Tryz.ntmps55
  go_wp2_with fail
  go_loopw [3, 11] (fun v i wr => ∃ k : Nat, i = .int .i64 k ∧ k ≤ n ∧ IrAt w v (toldL (fun e : Nt => placeI e.2) g.gone k) wr) (fun _ i _ => n - (intOf i).toNat)
  case atStart => exact ⟨0, rfl, by omega, by rw [HV0.out]; exact IrAt.nil w⟩
  case round =>
    obtain ⟨j, rfl, hj, hI⟩ := hrel
    have HI := Lib.hid hI
    clear hI k8
    by_cases hlt : j < n
    · have hv := HV.out j hlt
      have hw := HG.out wr (Only.of_below HI.out.below) j (by rw [HNn.out]; exact hlt)
      obtain ⟨⟨x, y⟩, he⟩ : ∃ e, g.gone.getD j (0, 0) = e := ⟨_, rfl⟩
      rw [he] at hv hw
      obtain ⟨gb, hga, q1, q2⟩ := hw
      subst hga
      have HVx := Lib.hid hv
      have HOW : Hid (wr.ownsRow w.heap.size 3 1 u3 j (irow (toldL (fun e : Nt => placeI e.2) g.gone j))) := Lib.hid (by have := HI.out.own; rwa [HLn.out j hj] at this)
      have hsz := HI.out.below.size
      have hnn : (j : Int) < (n : Int) := by omega
      clear hv he
      go_wp2_with fail
      refine (note_place (x, y) _).mono ?_
      rintro e w1 ⟨rfl, hw1⟩
      have hb1 : Below wr.heap.size wr w1 := by rw [hw1]; exact ((Below.refl _ wr).alloc (Nat.le_refl _) _).alloc (by simp) _
      have HI1 := Lib.hid (HI.out.more hb1)
      have HOW1 : Hid (w1.ownsRow w.heap.size 3 1 u3 j (irow (toldL (fun e : Nt => placeI e.2) g.gone j))) := Lib.hid (by have := HI1.out.own; rwa [HLn.out j hj] at this)
      have hsz1 := HI1.out.below.size
      clear hw1 hb1 q1 q2 HOW hsz
      go_wp2_with (with_reducible refine wpList_append_where _ rfl (.tmp 15) (.tmp 18) 39 rfl w.heap.size 3 (.int .i64 0) 1 8 Tryz.underlying39 infoI64 rfl (by decide) u3 j (irow (toldL (fun e : Nt => placeI e.2) g.gone j)) rfl (HOW1.out.alloc _) ⟨w1.heap.size, 0, none⟩ 1 1 (irow [(fun e : Nt => placeI e.2) (x, y)]) rfl rfl ?c0 (irow_one _) ?c2 ?c3 ?c4 ?_)
      case c0 => first | exact irow_new w1 _ [(fun e : Nt => placeI e.2) (x, y)] rfl | exact fun j u h => h
      case c2 => simp only [maxLen]; omega
      case c3 => omega
      case c4 => simp; omega
      intro A2 cap2 w8 hown hgr _
      have HN2 : Hid (IrAt w (.slice A2 (j + 1) cap2) (toldL (fun e : Nt => placeI e.2) g.gone (j + 1)) w8) := by
        have h := HI1.out.next (m := [(fun e : Nt => placeI e.2) (x, y)]) (Below.refl _ w1) (by rw [HLn.out j hj]; exact hown) hgr
        rw [HLn.out j hj] at h
        rw [HVx.out]
        exact Lib.hid h
      clear hown hgr
      go_wp2_with fail
      go_roundw
      case rel => exact ⟨j + 1, by go_num, by omega, HN2.out⟩
      case measure => simp [intOf]; omega
    · have ej : j = n := by omega
      have hnn : ¬ (j : Int) < (n : Int) := by omega
      have HD : Hid (SzPost w (g.gone.map (fun e : Nt => placeI e.2)) (.returned u3) wr) := Lib.hid ⟨_, rfl, by rw [← HAll.out, ← ej]; exact HI.out⟩
      go_wp2_with fail
      go_ret
      exact HD.out
set_option linter.unusedSimpArgs false in
set_option maxHeartbeats 2000000 in
theorem StoA.leaves (hS : StoA c a g ga gc G k w) (hk : k < 20000) : Calls Tryz.prog 56 #[.pointer (some ⟨a.sp, 0, none⟩)] w (SzPost w (g.gone.map (fun e : Nt => leafI e.1))) := by
  have k8 : w.cell? ⟨a.sp, 8, none⟩ = some (.slice ga g.gone.length gc) := hS.box.cell 8
  have hgl := hS.gl
  have HG := Lib.hid (fun W (hW : Only nobody w W) i (hi : i < g.gone.length) => (hS.nob hW).gonAt hi)
  obtain ⟨n, hn⟩ : ∃ n, g.gone.length = n := ⟨_, rfl⟩
  have HV : Hid (∀ j, (hj : j < n) → toldL (fun e : Nt => leafI e.1) g.gone (j + 1) = toldL (fun e : Nt => leafI e.1) g.gone j ++ [(fun e : Nt => leafI e.1) (g.gone.getD j (0, 0))]) := Lib.hid fun j hj => toldL_next (by omega)
  have HLn : Hid (∀ j, j ≤ n → (toldL (fun e : Nt => leafI e.1) g.gone j).length = j) := Lib.hid fun j hj => toldL_len (by omega)
  have HAll : Hid (toldL (fun e : Nt => leafI e.1) g.gone n = g.gone.map (fun e : Nt => leafI e.1)) := Lib.hid (by rw [← hn]; exact toldL_all)
  have HV0 : Hid (toldL (fun e : Nt => leafI e.1) g.gone 0 = []) := Lib.hid rfl
  have HNn := Lib.hid hn
  rw [hn] at k8 hgl
  clear hn
  generalize a.sp = sp at *
  go_enter Tryz.func56, Tryz.ntmps56
  go_wp2_with fail
  go_loopw [3, 11] (fun v i wr => ∃ k : Nat, i = .int .i64 k ∧ k ≤ n ∧ IrAt w v (toldL (fun e : Nt => leafI e.1) g.gone k) wr) (fun _ i _ => n - (intOf i).toNat)
  case atStart => exact ⟨0, rfl, by omega, by rw [HV0.out]; exact IrAt.nil w⟩
  case round =>
    obtain ⟨j, rfl, hj, hI⟩ := hrel
    have HI := Lib.hid hI
    clear hI k8
    by_cases hlt : j < n
    · have hv := HV.out j hlt
      have hw := HG.out wr (Only.of_below HI.out.below) j (by rw [HNn.out]; exact hlt)
      obtain ⟨⟨x, y⟩, he⟩ : ∃ e, g.gone.getD j (0, 0) = e := ⟨_, rfl⟩
      rw [he] at hv hw
      obtain ⟨gb, hga, q1, q2⟩ := hw
      subst hga
      have HVx := Lib.hid hv
      have HOW : Hid (wr.ownsRow w.heap.size 3 1 u3 j (irow (toldL (fun e : Nt => leafI e.1) g.gone j))) := Lib.hid (by have := HI.out.own; rwa [HLn.out j hj] at this)
      have hsz := HI.out.below.size
      have hnn : (j : Int) < (n : Int) := by omega
      clear hv he
      go_wp2_with fail
      refine (note_leaf (x, y) _).mono ?_
      rintro e w1 ⟨rfl, hw1⟩
      have hb1 : Below wr.heap.size wr w1 := by rw [hw1]; exact ((Below.refl _ wr).alloc (Nat.le_refl _) _).alloc (by simp) _
      have HI1 := Lib.hid (HI.out.more hb1)
      have HOW1 : Hid (w1.ownsRow w.heap.size 3 1 u3 j (irow (toldL (fun e : Nt => leafI e.1) g.gone j))) := Lib.hid (by have := HI1.out.own; rwa [HLn.out j hj] at this)
      have hsz1 := HI1.out.below.size
      clear hw1 hb1 q1 q2 HOW hsz
      go_wp2_with (with_reducible refine wpList_append_where _ rfl (.tmp 15) (.tmp 18) 39 rfl w.heap.size 3 (.int .i64 0) 1 8 Tryz.underlying39 infoI64 rfl (by decide) u3 j (irow (toldL (fun e : Nt => leafI e.1) g.gone j)) rfl (HOW1.out.alloc _) ⟨w1.heap.size, 0, none⟩ 1 1 (irow [(fun e : Nt => leafI e.1) (x, y)]) rfl rfl ?c0 (irow_one _) ?c2 ?c3 ?c4 ?_)
      case c0 => first | exact irow_new w1 _ [(fun e : Nt => leafI e.1) (x, y)] rfl | exact fun j u h => h
      case c2 => simp only [maxLen]; omega
      case c3 => omega
      case c4 => simp; omega
      intro A2 cap2 w8 hown hgr _
      have HN2 : Hid (IrAt w (.slice A2 (j + 1) cap2) (toldL (fun e : Nt => leafI e.1) g.gone (j + 1)) w8) := by
        have h := HI1.out.next (m := [(fun e : Nt => leafI e.1) (x, y)]) (Below.refl _ w1) (by rw [HLn.out j hj]; exact hown) hgr
        rw [HLn.out j hj] at h
        rw [HVx.out]
        exact Lib.hid h
      clear hown hgr
      go_wp2_with fail
      go_roundw
      case rel => exact ⟨j + 1, by go_num, by omega, HN2.out⟩
      case measure => simp [intOf]; omega
    · have ej : j = n := by omega
      have hnn : ¬ (j : Int) < (n : Int) := by omega
      have HD : Hid (SzPost w (g.gone.map (fun e : Nt => leafI e.1)) (.returned u3) wr) := Lib.hid ⟨_, rfl, by rw [← HAll.out, ← ej]; exact HI.out⟩
      go_wp2_with fail
      go_ret
      exact HD.out
end
end Go.Proofs.YtfonieemodbikaaGreat


namespace Go.Proofs.YtfonieemodbikaaGreat
set_option maxRecDepth 100000
open Go.RowKit Go.ChangeShapes Go.WideShapes Go.ChangeAt Go.Maps Go.Deep

section
variable {c : SC} {a : SA} {Z : Nat → Prop} {F : World → Prop} {W : World} {g : SG} {k : Nat} {wr : World}
theorem StS.words (hc : c.Ok) (h : StS c a W Z F g k wr) (op : Int) (id : Nat) (d : Nat → Int) (hop : isOp op id (2 ^ c.b) = true) (hd : ∀ j, 0 ≤ d j ∧ d j ≤ 18446744073709551615) (hk : k < 19900) {n : Nat} (hU : Uk c g n) (hu : g.u ≤ 1000000000) :
    Calls Tryz.prog 42 #[.pointer (some ⟨a.sp, 0, none⟩), .int .i64 op, .int .u64 (id : Int), .agg (DA d)] wr fun r w' =>
      ∃ g' rr t, r = .returned (.tuple #[.agg (DA rr), .bool t]) ∧ Uk c g' (n + 1) ∧ g'.nw = g.nw ∧ g'.z = g.z ∧ StS c a W Z F g' (k + 20) w' := by
  obtain ⟨ga, gc, G, h1, h2⟩ := h.sk
  obtain ⟨hop1, hid⟩ := isOp_is hop
  refine (h1.access hc op id d hop hd hk).mono ?_
  rintro r w' ⟨g', e', rr, t, hR, rfl, ga', gc', G', s1, s2, s3, s4⟩
  have hK : Kept Z wr w' := s4.mono (fun i _ hi hz => (h2 i hz).2 hi)
  obtain ⟨u1, u2, u3⟩ := hR.used
  exact ⟨g', rr, t, rfl, Rn.uk hc hU hu hid hd hR u1, u2, u3, ⟨ga', gc', G', s1, fun i hi => s3 i (h2 i hi)⟩, h.hz, h.st _ _ h.kp.size hK h.hF, h.st, h.kp.trans ((hK.mono h.hz).below h.kp.size (fun _ h => h))⟩
theorem StS.sources (h : StS c a W Z F g k wr) (hk : k < 20000) : Calls Tryz.prog 55 #[.pointer (some ⟨a.sp, 0, none⟩)] wr (SzPost wr (g.gone.map (fun e : Nt => placeI e.2))) := by
  obtain ⟨_, _, _, h1, _⟩ := h.sk
  exact h1.sources hk
theorem StS.leaves (h : StS c a W Z F g k wr) (hk : k < 20000) : Calls Tryz.prog 56 #[.pointer (some ⟨a.sp, 0, none⟩)] wr (SzPost wr (g.gone.map (fun e : Nt => leafI e.1))) := by
  obtain ⟨_, _, _, h1, _⟩ := h.sk
  exact h1.leaves hk
theorem StS.used (h : StS c a W Z F g k wr) : Calls Tryz.prog 50 #[.pointer (some ⟨a.tp, 0, none⟩)] wr fun e w' => e = .returned (.int .i64 (g.u : Int)) ∧ w' = wr := by
  obtain ⟨_, _, _, h1, _⟩ := h.sk
  exact (tape_used _ _ _ _ _ _ h1.tp).mono fun _ _ hh => ⟨hh.1, hh.2.symm⟩
end
def NuZ (k : IntKind) (Z : Nat → Prop) (w : World) (a : Option Addr) (n : Nat) (z : Nat → Int) : Prop := 0 < n → ∃ b off, a = some ⟨b, off, none⟩ ∧ Z b ∧ ∀ j, j < n → w.cell? ⟨b, off + j, none⟩ = some (.int k (z j))
section
variable {k : IntKind} {Z Z' : Nat → Prop} {w w' : World} {a : Option Addr} {n : Nat} {z : Nat → Int}
theorem NuZ.keep (h : NuZ k Z w a n z) (hk : Kept Z w w') : NuZ k Z w' a n z := fun hn => by
  obtain ⟨b, off, e, h1, h2⟩ := h hn
  exact ⟨b, off, e, h1, fun j hj => hk.cell (h2 j hj) h1⟩
theorem NuZ.more (h : NuZ k Z w a n z) (hz : ∀ i, Z i → Z' i) : NuZ k Z' w a n z := fun hn => by
  obtain ⟨b, off, e, h1, h2⟩ := h hn
  exact ⟨b, off, e, hz b h1, h2⟩
theorem NuZ.at (h : NuZ k Z w a n z) {j : Nat} (hj : j < n) : ∃ b off, a = some ⟨b, off, none⟩ ∧ Z b ∧ w.cell? ⟨b, off + j, none⟩ = some (.int k (z j)) := by
  obtain ⟨b, off, e, h1, h2⟩ := h (by omega)
  exact ⟨b, off, e, h1, h2 j hj⟩
theorem NuZ.rng {b off : Nat} (h : NuZ k Z w (some ⟨b, off, none⟩) n z) {j : Nat} (hj : j < n) : w.cell? ⟨b, off + j, none⟩ = some (.int k (z j)) := by
  obtain ⟨b', o', e, _, hr⟩ := h.at hj
  injection e with e
  injection e with e1 e2
  rw [e1, e2]
  exact hr
end
theorem SzPost.nz {w : World} {l : List Int} {e : Ending} {w' : World} (h : SzPost w l e w') : ∃ a c, e = .returned (.slice a l.length c) ∧ NuZ .i64 (fun i => w.heap.size ≤ i ∧ i < w'.heap.size) w' a l.length (fun j => l.getD j 0) ∧ Below w.heap.size w w' := by
  obtain ⟨v, rfl, hI⟩ := h
  rcases Nat.eq_zero_or_pos l.length with h0 | hl
  · rcases hI.own.2 with ⟨rfl, _⟩ | ⟨g, cap, cur, rfl, _⟩
    · exact ⟨none, 0, by rw [h0], fun hn => absurd hn (by omega), hI.below⟩
    · exact ⟨some ⟨g, 0, none⟩, cap, rfl, fun hn => absurd hn (by omega), hI.below⟩
  · obtain ⟨g, cap, rfl, _, hr⟩ := hI.out hl (fun j => l.getD j 0) (fun j hj => by simp [List.getD_eq_getElem?_getD, hj])
    exact ⟨some ⟨g, 0, none⟩, cap, rfl, fun _ => ⟨g, 0, rfl, ⟨hr.old, hr.lt⟩, fun j hj => by rw [Nat.zero_add]; exact hr.cell j hj⟩, hI.below⟩
structure WyP (c : SC) (nz : Nat) (z : Nat → Int) (L us : Nat) (P : Nat → Nat) (Q : Nat → Nat) : Prop where
  lt : ∀ i, i < L → P i < us
  ne : ∀ i j, i < L → j < L → P i = P j → i = j
  lf : ∀ i, i < L → Q i = (told nz z (P i)).toNat % c.N (c.n - 1 - i % c.n)
  lv : ∀ i, i < L → P i % (2 * c.n) / 2 = i % c.n
  rd : ∀ i, i < L → P i / (2 * c.n) ≤ i / c.n
theorem Uk.ways {c : SC} {g : SG} {k : Nat} (hc : c.Ok) (h : Uk c g k) (hu : g.u ≤ 1000000) : ∃ P Q : Nat → Nat, WyP c g.nw g.z (c.n * k) g.u P Q ∧ (∀ i, i < c.n * k → (g.gone.map (fun e : Nt => placeI e.2)).getD i 0 = (P i : Int)) ∧ ∀ i, i < c.n * k → (g.gone.map (fun e : Nt => leafI e.1)).getD i 0 = (Q i : Int) := by
  have hn1 := hc.n1
  have key : ∀ i, i < c.n * k → ∃ p : Nat, ∃ e : Nt, g.gone[i]? = some e ∧ p < g.u ∧ IsW c g.nw g.z (c.n - 1 - i % c.n) p e ∧ p / (2 * c.n) ≤ i / c.n := fun i hi => by
    have hl : i < g.gone.length := by rw [h.len]; exact hi
    obtain ⟨p, h1, h2, h3⟩ := h.us.uq.gok i _ (List.getElem?_eq_getElem hl)
    exact ⟨p, _, List.getElem?_eq_getElem hl, by rw [h.u]; exact h1, h2, h3⟩
  refine ⟨fun i => (g.gone.getD i (0, 0)).2.toNat, fun i => ((g.gone.getD i (0, 0)).1 - 1).toNat, ⟨fun i hi => ?_, fun i j hi hj e => ?_, fun i hi => ?_, fun i hi => ?_, fun i hi => ?_⟩, fun i hi => ?_, fun i hi => ?_⟩
  · obtain ⟨p, e, h1, h2, h3, h4⟩ := key i hi
    rw [List.getD_eq_getElem?_getD, h1]
    show e.2.toNat < _
    rw [h3.place]; simpa using h2
  · obtain ⟨p, e1, h1, h2, h3, h4⟩ := key i hi
    obtain ⟨p', e2, h1', h2', h3', h4'⟩ := key j hj
    simp only [List.getD_eq_getElem?_getD, h1, h1', Option.getD_some, h3.place, h3'.place, Int.toNat_natCast] at e
    exact h.us.uq.gnd i j _ _ h1 h1' (by rw [h3.place, h3'.place, e])
  · obtain ⟨p, e, h1, h2, h3, h4⟩ := key i hi
    rw [List.getD_eq_getElem?_getD, h1]
    show (e.1 - 1).toNat = _ % _
    rw [Option.getD_some, h3.place, h3.1, Int.toNat_natCast]
    unfold tkN
    dsimp only
    omega
  · obtain ⟨p, e, h1, h2, h3, h4⟩ := key i hi
    rw [List.getD_eq_getElem?_getD, h1, Option.getD_some, h3.place, Int.toNat_natCast, h3.2]
    have := Nat.mod_lt i hn1
    omega
  · obtain ⟨p, e, h1, h2, h3, h4⟩ := key i hi
    rw [List.getD_eq_getElem?_getD, h1, Option.getD_some, h3.place, Int.toNat_natCast]
    exact h4
  · obtain ⟨p, e, h1, h2, h3, h4⟩ := key i hi
    have q : g.gone.getD i (0, 0) = e := by rw [List.getD_eq_getElem?_getD, h1]; rfl
    rw [List.getD_eq_getElem?_getD, List.getElem?_map, h1]
    show placeI e.2 = (((g.gone.getD i (0, 0)).2.toNat : Nat) : Int)
    rw [q, h3.place]
    unfold placeI
    rw [wrap64_self (by omega) (by omega)]
    simp
  · obtain ⟨p, e, h1, h2, h3, h4⟩ := key i hi
    have hN := SC.N_le hc (c.n - 1 - i % c.n)
    have hm := Nat.mod_lt (told g.nw g.z p).toNat hN.1
    have q : g.gone.getD i (0, 0) = e := by rw [List.getD_eq_getElem?_getD, h1]; rfl
    rw [List.getD_eq_getElem?_getD, List.getElem?_map, h1]
    show leafI e.1 = ((((g.gone.getD i (0, 0)).1 - 1).toNat : Nat) : Int)
    rw [q, h3.1]
    unfold tkN
    dsimp only
    rw [leafI_small (by omega) (by omega)]
    omega
theorem uk_new (c : SC) (nz : Nat) (z : Nat → Int) : Uk c (sg0 c nz z) 0 := by
  have h0 : ∀ x, ntAt c (sg0 c nz z).M.c x = (0, 0) := fun x => by
    unfold ntAt
    split
    · rfl
    · unfold ntc; split <;> rfl
  refine ⟨⟨⟨fun x _ h => absurd (by rw [h0]) h, fun x y _ _ h => absurd (by rw [h0]) h, fun i a h => by simp [sg0] at h, fun i j a b h => by simp [sg0] at h, fun i a x h => by simp [sg0] at h, fun h => absurd rfl h, fun h => absurd rfl h, fun h => absurd rfl h⟩, fun h _ q _ => .inl rfl⟩, ?_, ?_⟩
  · show 0 = 2 * c.n * 0
    omega
  · show 0 = c.n * 0
    omega
def metV (P : Nat → Nat) (i x : Nat) : Value := .int .i64 (if ∃ j, j < i ∧ P j = x then 1 else 0)
theorem metV_new (P : Nat → Nat) (x : Nat) : metV P 0 x = .int .i64 0 := by unfold metV; rw [if_neg (by rintro ⟨j, h, _⟩; omega)]
theorem metV_no {P : Nat → Nat} {i L : Nat} (hne : ∀ i j, i < L → j < L → P i = P j → i = j) (hi : i < L) : metV P i (P i) = .int .i64 0 := by
  unfold metV; rw [if_neg]
  rintro ⟨j, h, e⟩
  have := hne j i (by omega) hi e
  omega
theorem metV_next (P : Nat → Nat) (i x : Nat) : (if x = P i then Value.int .i64 1 else metV P i x) = metV P (i + 1) x := by
  unfold metV
  by_cases e : x = P i
  · rw [if_pos e, if_pos ⟨i, by omega, e.symm⟩]
  · rw [if_neg e]
    by_cases h : ∃ j, j < i ∧ P j = x
    · obtain ⟨j, h1, h2⟩ := h
      rw [if_pos ⟨j, h1, h2⟩, if_pos ⟨j, by omega, h2⟩]
    · rw [if_neg h, if_neg]
      rintro ⟨j, h1, h2⟩
      by_cases hj : j = i
      · exact e (by rw [← h2, hj])
      · exact h ⟨j, by omega, h2⟩
set_option maxHeartbeats 1000000 in
theorem sas_of (c : SC) (w : World) : Calls Tryz.prog 40 #[.agg (sfA c)] w fun e w' => e = .returned (.agg (sfA c)) ∧ Below w.heap.size w w' := by
  unfold sfA
  go_enter Tryz.func40, Tryz.ntmps40
  go_wp2_with fail
  exact bodyPost_ret (v := .agg #[.int .i64 c.B, .int .i64 (c.S : Int), .int .i64 (c.T : Int), .int .i64 (c.n : Int)]) (by simp [results, Tryz.results40, go_sem]) rfl ⟨rfl, ((Below.refl _ w).alloc (Nat.le_refl _) _).alloc (by simp) _⟩
theorem sblocks_of {c : SC} (hc : c.Ok) (h : Nat) (hh : h ≤ 100) (w : World) : Calls Tryz.prog 67 #[.agg (sfA c), .int .i64 (h : Int)] w fun e w' => e = .returned (.int .i64 ((c.N h : Nat) : Int)) ∧ Below w.heap.size w w' := by
  have := rblocks_any c.b (c.S : Int) (c.T : Int) c.n h w hc.b10 hh
  have e : scA c.b (c.S : Int) (c.T : Int) c.n = sfA c := by unfold scA sfA; rw [hc.bB]
  rw [e] at this
  exact this.mono fun _ _ ⟨he, hw⟩ => ⟨he, by rw [hw]; exact (Below.refl _ w).alloc (Nat.le_refl _) _⟩
end Go.Proofs.YtfonieemodbikaaGreat

