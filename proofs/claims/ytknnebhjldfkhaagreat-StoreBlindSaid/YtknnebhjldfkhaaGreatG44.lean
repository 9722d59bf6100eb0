import Derived.Test.YtknnebhjldfkhaaGreatG43
import Derived.Test.YtknnebhjldfkhaaGreatG33
namespace Go.Proofs.YtknnebhjldfkhaaGreat
set_option maxRecDepth 100000
open Go.RowKit Go.ChangeShapes Go.WideShapes Go.ChangeAt

theorem LvInv.congr {S D T : Nat} {E E' : Pl → Cl} {m : Bm} (h : LvInv S D T E m) (e : ∀ q : Pl, q.1 ≤ 1 → E' q = E q) : LvInv S D T E' m := by
 have e2 : ∀ q, isPl S D T q → E' q = E q := fun q hq => e q (by rcases hq with k | k <;> omega)
 refine ⟨fun q hq => ?_, fun q q' hq hq' h1 h2 h3 => ?_, fun id lf d hd => ?_, h.rng⟩
 ·rw [e2 q hq]; exact h.cell q hq
 ·rw [e2 q hq] at h1 h3
  rw [e2 q' hq'] at h2 h3
  exact h.once q q' hq hq' h1 h2 h3
 ·obtain ⟨q, hq, h1⟩ := h.here id lf d hd
  exact ⟨q, hq, by rw [e2 q hq]; exact h1⟩
def whN (c : SC) (g : SG) (m : Nat → Bm) (h i : Nat) : Nt :=
 if h + 1 = c.n then (g.M.c c.f i 0, g.M.c c.f i 1)
 else (dat (m (h + 1) ((i / 4 : Nat) : Int)) (2 * (i % 4)), dat (m (h + 1) ((i / 4 : Nat) : Int)) (2 * (i % 4) + 1))
def okN (N : Nat) (e : Nt) : Prop := 0 ≤ e.1 ∧ e.1 ≤ (N : Int)
def lfN (N : Nat) (e : Nt) : Prop := 1 ≤ e.1 ∧ e.1 ≤ (N : Int)
theorem or_lf {N : Nat} {e s : Nt} (he : okN N e) (hs : lfN N s) : lfN N (orN e s) := by
 unfold orN
 split
 ·exact hs
 ·obtain ⟨h1, h2⟩ := he
  exact ⟨by omega, h2⟩
structure SIe (c : SC) (g : SG) (m : Nat → Bm) (ex : Nat → Nat → Prop) : Prop where
 lv : ∀ h, h < c.n → LvInv c.S (c.D h) c.T (cellsE (c.r h) g.M.c) (m h)
 rng : ∀ h, h < c.n → ∀ i b, m h i = some b → ∃ j : Nat, i = (j : Int) ∧ j < c.N h
 wh : ∀ h, h < c.n → ∀ (i : Nat) lf d, m h (i : Int) = some (lf, d) → ¬ ex h i → (whN c g m h i).1 = (lf : Int) + 1
 ok : ∀ h, h < c.n → ∀ i, i < c.N h → okN (c.N h) (whN c g m h i)
 put : ∀ h, h < c.n → ∀ i b, m h i = some b → i ∈ g.I h
 ovn : ∀ h, h < c.n → g.ov h = false
def DrwOk (c : SC) (D : Dw) : Prop := ∀ h, h < c.n → lfN (c.N h) (D h).1 ∧ lfN (c.N h) (D h).2
def updB (m : Nat → Bm) (h : Nat) (b : Bm) : Nat → Bm := fun j => if j = h then b else m j
theorem updB_at (m : Nat → Bm) (h : Nat) (b : Bm) : updB m h b h = b := by unfold updB; rw [if_pos rfl]
theorem updB_ne (m : Nat → Bm) {h j : Nat} (b : Bm) (hj : j ≠ h) : updB m h b j = m j := by unfold updB; rw [if_neg hj]
theorem next_atS (m : Bm) (a : Ask) : nextB m a a.id = newM a.op a.at' a.to.toNat a.d (m a.id) := by unfold nextB setB; rw [if_pos rfl]
theorem next_neS (m : Bm) (a : Ask) {i : Int} (hi : i ≠ a.id) : nextB m a i = m i := by unfold nextB setB; rw [if_neg hi]
theorem leafN_of {N : Nat} {e : Nt} (h : lfN N e) (hN : N ≤ 1024) : leafI e.1 = e.1 - 1 := by
 obtain ⟨h1, h2⟩ := h
 exact leafI_small (by omega) (by omega)
theorem ask_ok {N : Nat} {op id at' : Int} {d : Nat → Int} {fr to : Nt} (hN : N ≤ 1024) (hop : 0 ≤ op ∧ op ≤ 3) (hid : id ≤ 2147483648) (hat : op ≠ 2 ∨ 0 ≤ at' ∧ at' ≤ 6) (hf : lfN N fr) (ht : lfN N to) : (⟨op, id, at', d, leafI fr.1, leafI to.1⟩ : Ask).ok N = true := by
 have h1 := leafN_of hf hN
 have h2 := leafN_of ht hN
 obtain ⟨a1, a2⟩ := hf
 obtain ⟨b1, b2⟩ := ht
 unfold Ask.ok isAsk isLf
 simp only [Bool.and_eq_true, Bool.or_eq_true, decide_eq_true_eq]
 refine ⟨⟨⟨⟨hop, ?_, ?_⟩, ?_, ?_⟩, hid⟩, ?_⟩
 ·show 0 ≤ leafI fr.1; omega
 ·show leafI fr.1 < (N : Int); omega
 ·show 0 ≤ leafI to.1; omega
 ·show leafI to.1 < (N : Int); omega
 ·exact hat
section
variable {c : SC} {g : SG} {m : Nat → Bm} {ex : Nat → Nat → Prop}
theorem SIe.lvl (hc : c.Ok) (hI : SIe c g m ex) {h : Nat} (hh : h < c.n) {q : Ask} (hq : q.ok (c.N h) = true) (hi0 : ∃ i : Nat, q.id = (i : Int) ∧ i < c.N h) (hat : ∀ l d, m h q.id = some (l, d) → (l : Int) = q.lf) {o : List Nat} (ho : Ord c g h q o)
  (hno : (g.ov h || acO (c.N h) c.S (c.D h) c.T (c.r h) (c.m h) (c.P h) q g.M o) = false ∨ (difI (acI (c.N h) q (g.I h))).length ≤ c.T) (hpt : q.puts = true ∨ ∀ b, nextB (m h) q q.id = some b → ∃ b', m h q.id = some b') :
  (∀ i, acW (c.N h) c.S (c.D h) c.T (c.r h) q g.M i = cellB q.id (m h q.id) i) ∧
  (∀ j, j < c.n → LvInv c.S (c.D j) c.T (cellsE (c.r j) (g.lev c h q o).M.c) (updB m h (nextB (m h) q) j)) ∧
  (∀ j, j < c.n → ∀ i b, updB m h (nextB (m h) q) j i = some b → ∃ k : Nat, i = (k : Int) ∧ k < c.N j) ∧
  (∀ j, j < c.n → ∀ i b, updB m h (nextB (m h) q) j i = some b → i ∈ (g.lev c h q o).I j) ∧
  (∀ j, j < c.n → (g.lev c h q o).ov j = false) ∧
  (∀ i, (g.lev c h q o).M.c c.f i = g.M.c c.f i) := by
 have hcf := hc.conf h hh
 have hi : 0 ≤ q.id := by obtain ⟨i, e, _⟩ := hi0; omega
 have hput : ∀ i b, nextB (m h) q i = some b → i ∈ acI (c.N h) q (g.I h) := fun i b hb => by
  have hsub : ∀ x, x ∈ g.I h → x ∈ acI (c.N h) q (g.I h) := fun x hx => by
   unfold acI
   split
   ·exact List.mem_append_left _ hx
   ·exact hx
  by_cases e : i = q.id
  ·rcases hpt with hp | hp
   ·unfold acI
    rw [hq, hp, if_pos (show (true && true) = true from rfl), e]
    exact List.mem_append_right _ (by simp)
   ·rw [e] at hb ⊢
    obtain ⟨b', hb'⟩ := hp b hb
    exact hsub _ (hI.put h hh _ _ hb')
  ·rw [next_neS _ _ e] at hb
   exact hsub _ (hI.put h hh _ _ hb)
 have hov : acO (c.N h) c.S (c.D h) c.T (c.r h) (c.m h) (c.P h) q g.M o = false := by
  rcases hno with hn | hn
  ·simp only [Bool.or_eq_false_iff] at hn
   exact hn.2
  ·refine ask_room hcf (hI.lv h hh) hq hat (ho hq) (difI (acI (c.N h) q (g.I h))) (fun i b hb => ?_) hn
   exact (dif_mem _ [] i).2 (.inr (hput i b hb))
 have hnx := ask_next hcf (hI.lv h hh) hq hi hat (ho hq) hov
 have hfar : ∀ i, (g.lev c h q o).M.c c.f i = g.M.c c.f i := fun i => ac_far (by unfold SC.r; omega) i
 refine ⟨fun i => ?_, fun j hj => ?_, fun j hj i b hb => ?_, fun j hj i b hb => ?_, fun j hj => ?_, hfar⟩
 ·unfold acW
  rw [if_pos hq, ask_was hcf (hI.lv h hh) hq hat]
 ·by_cases e : j = h
  ·subst e
   rw [updB_at]
   exact hnx
  ·rw [updB_ne _ _ e]
   have hf : c.r j + 1 < c.r h ∨ c.r h + 2 < c.r j := by unfold SC.r; omega
   exact (hI.lv j hj).congr (ac_eq hf)
 ·by_cases e : j = h
  ·subst e
   rw [updB_at] at hb
   by_cases e2 : i = q.id
   ·obtain ⟨k, h1, h2⟩ := hi0
    exact ⟨k, by rw [e2, h1], h2⟩
   ·rw [next_neS _ _ e2] at hb
    exact hI.rng j hj i b hb
  ·rw [updB_ne _ _ e] at hb
   exact hI.rng j hj i b hb
 ·show i ∈ (if j = h then acI (c.N h) q (g.I h) else g.I j)
  by_cases e : j = h
  ·subst e
   rw [updB_at] at hb
   rw [if_pos rfl]
   exact hput i b hb
  ·rw [updB_ne _ _ e] at hb
   rw [if_neg e]
   exact hI.put j hj i b hb
 ·show (if j = h then g.ov h || _ else g.ov j) = false
  by_cases e : j = h
  ·rw [if_pos e, hI.ovn h hh, Bool.false_or]
   exact hov
  ·rw [if_neg e]
   exact hI.ovn j hj
theorem SIe.gon (hI : SIe c g m ex) (e : Nt) : SIe c (g.gon e) m ex := ⟨hI.lv, hI.rng, hI.wh, hI.ok, hI.put, hI.ovn⟩
theorem wh_same {g' : SG} {m' : Nat → Bm} {h i : Nat} (ht : ∀ i, g'.M.c c.f i = g.M.c c.f i) (hm : m' (h + 1) ((i / 4 : Nat) : Int) = m (h + 1) ((i / 4 : Nat) : Int)) : whN c g' m' h i = whN c g m h i := by
 unfold whN
 rw [hm, ht]
theorem SIe.part (hc : c.Ok) {p id : Nat} (hI : SIe c g m (fun h i => h = p + 1 ∧ i = id / 4 ^ (p + 1))) (hp : p + 1 < c.n) (hid : id < 2 ^ c.b) {D : Dw} (hD : DrwOk c D) {fr : Nt} (hfr : lfN (c.N (p + 1)) fr)
  (hfm : ∀ lf d, m (p + 1) ((id / 4 ^ (p + 1) : Nat) : Int) = some (lf, d) → fr.1 = (lf : Int) + 1) (hst : whN c g m (p + 1) (id / 4 ^ (p + 1)) = (D (p + 1)).1) {o : List Nat} (ho : Ord c g (p + 1) (askP D p id fr) o)
  (hno : (∀ h, h < c.n → (g.lev c (p + 1) (askP D p id fr) o).ov h = false) ∨ (∀ h, h < c.n → (difI ((g.lev c (p + 1) (askP D p id fr) o).I h)).length ≤ c.T)) :
  SIe c (g.lev c (p + 1) (askP D p id fr) o) (updB m (p + 1) (nextB (m (p + 1)) (askP D p id fr))) (fun h i => h = p ∧ i = id / 4 ^ p) ∧
  partN c g D p id fr = whN c g m p (id / 4 ^ p) ∧
  whN c (g.lev c (p + 1) (askP D p id fr) o) (updB m (p + 1) (nextB (m (p + 1)) (askP D p id fr))) p (id / 4 ^ p) = (D p).1 ∧
  (∀ j, j ≠ p → ∀ i, whN c (g.lev c (p + 1) (askP D p id fr) o) (updB m (p + 1) (nextB (m (p + 1)) (askP D p id fr))) j i = whN c g m j i) ∧ (askP D p id fr).ok (c.N (p + 1)) = true := by
 obtain ⟨k, hk⟩ : ∃ k, id / 4 ^ (p + 1) = k := ⟨_, rfl⟩
 obtain ⟨i0, hi0⟩ : ∃ i0, id / 4 ^ p = i0 := ⟨_, rfl⟩
 have hk4 : i0 / 4 = k := by rw [← hi0, ← hk]; exact div_four id p
 have hi0lt : i0 < c.N p := by rw [← hi0]; exact meant_lt p hid
 have hkN : k < c.N (p + 1) := by rw [← hk]; exact meant_lt (p + 1) hid
 have hN1 := SC.N_le hc (p + 1)
 have hN0 := SC.N_le hc p
 have hcf := hc.conf (p + 1) hp
 obtain ⟨q, hqd⟩ : ∃ q, askP D p id fr = q := ⟨_, rfl⟩
 have q_op : q.op = 2 := by rw [← hqd]; rfl
 have q_id : q.id = (k : Int) := by rw [← hqd, ← hk]; rfl
 have q_at : q.at' = ((2 * (i0 % 4) : Nat) : Int) := by rw [← hqd, ← hi0]; rfl
 have q_to : q.to = (D (p + 1)).1.1 - 1 := by rw [← hqd]; exact leafN_of (hD (p + 1) hp).1 hN1.2
 have q_lf : q.lf = fr.1 - 1 := by rw [← hqd]; exact leafN_of hfr hN1.2
 have q_d0 : q.d 0 = (D p).1.1 := by rw [← hqd]; rfl
 have q_d1 : q.d 1 = (D p).1.2 := by rw [← hqd]; rfl
 have hq : q.ok (c.N (p + 1)) = true := by
  rw [← hqd]
  refine ask_ok hN1.2 (by omega) ?_ (.inr ?_) hfr (hD (p + 1) hp).1
  ·rw [hk]; omega
  ·have := prA_le id p
   omega
 have hpn : partN c g D p id fr = (acW (c.N (p + 1)) c.S (c.D (p + 1)) c.T (c.r (p + 1)) q g.M (3 + 2 * (i0 % 4)), acW (c.N (p + 1)) c.S (c.D (p + 1)) c.T (c.r (p + 1)) q g.M (3 + (2 * (i0 % 4) + 1))) := by
  rw [← hqd, ← hi0]; rfl
 rw [hqd] at ho hno ⊢
 rw [hpn]
 rw [hk] at hI hfm hst
 rw [hi0]
 have hat : ∀ l d, m (p + 1) q.id = some (l, d) → (l : Int) = q.lf := fun l d e => by
  rw [q_id] at e
  have := hfm l d e
  rw [q_lf]; omega
 have hnx : nextB (m (p + 1)) q q.id = some (q.to.toNat, updD (dat (m (p + 1) (k : Int))) q.at' q.d) := by
  rw [next_atS, q_op, q_id]; rfl
 obtain ⟨r1, r2, r3, r4, r5, r6⟩ := hI.lvl hc hp hq ⟨k, q_id, hkN⟩ hat ho (by
  rcases hno with hn | hn
  ·left
   have := hn (p + 1) hp
   show _ = false
   unfold SG.lev at this
   simpa using this
  ·right
   have := hn (p + 1) hp
   unfold SG.lev at this
   simpa using this) (.inl (by unfold Ask.puts; rw [q_op]; rfl))
 have hfarw : ∀ j, j ≠ p → ∀ i, whN c (g.lev c (p + 1) q o) (updB m (p + 1) (nextB (m (p + 1)) q)) j i = whN c g m j i := fun j hj i => wh_same r6 (by rw [updB_ne _ _ (by omega)])
 have hne : ¬ p + 1 = c.n := by omega
 -- the words of level p, behind
 have hpw : ∀ i, whN c (g.lev c (p + 1) q o) (updB m (p + 1) (nextB (m (p + 1)) q)) p i = if i = i0 then (D p).1 else whN c g m p i := fun i => by
  unfold whN
  rw [if_neg hne, if_neg hne, updB_at]
  by_cases e : i / 4 = k
  ·rw [e, ← q_id, hnx, q_id]
   show (updD (dat (m (p + 1) (k : Int))) q.at' q.d (2 * (i % 4)), updD (dat (m (p + 1) (k : Int))) q.at' q.d (2 * (i % 4) + 1)) = _
   unfold updD
   rw [q_at, q_d0, q_d1]
   by_cases e2 : i = i0
   ·subst e2
    rw [if_pos rfl, if_pos rfl, if_neg (by omega), if_pos (by omega)]
   ·have e3 : i % 4 ≠ i0 % 4 := fun e3 => e2 (by omega)
    rw [if_neg (by omega), if_neg (by omega), if_neg (by omega), if_neg (by omega), if_neg e2]
  ·rw [next_neS _ _ (by rw [q_id]; omega), if_neg (fun e2 => e (by rw [e2]; exact hk4))]
 refine ⟨⟨r2, r3, fun j hj i lf d hm hx => ?_, fun j hj i hi => ?_, r4, r5⟩, ?_, ?_, fun j hj i => hfarw j hj i, hq⟩
 ·by_cases ej : j = p
  ·subst ej
   have hi2 : i ≠ i0 := fun e => hx ⟨rfl, by first | exact e | rw [e, hi0]⟩
   rw [hpw, if_neg hi2]
   rw [updB_ne _ _ (by omega)] at hm
   exact hI.wh j hj i lf d hm (fun k => by omega)
  ·rw [hfarw j ej]
   by_cases ej1 : j = p + 1
   ·subst ej1
    rw [updB_at] at hm
    by_cases ei : i = k
    ·subst ei
     rw [hst]
     rw [← q_id, hnx] at hm
     injection hm with hm
     injection hm with hm _
     have := (hD (p + 1) hp).1.1
     omega
    ·rw [next_neS _ _ (by rw [q_id]; omega)] at hm
     exact hI.wh (p + 1) hj i lf d hm (fun k => ei k.2)
   ·rw [updB_ne _ _ ej1] at hm
    exact hI.wh j hj i lf d hm (fun k => ej1 k.1)
 ·by_cases ej : j = p
  ·subst ej
   rw [hpw]
   split
   ·have := (hD j (by omega)).1
    exact ⟨by have := this.1; omega, this.2⟩
   ·exact hI.ok j hj i hi
  ·rw [hfarw j ej]
   exact hI.ok j hj i hi
 ·unfold whN
  rw [if_neg hne, r1, r1, q_id, hk4]
  have hcb : ∀ x, x < 8 → cellB (k : Int) (m (p + 1) (k : Int)) (3 + x) = dat (m (p + 1) (k : Int)) x := fun x hx => by
   cases m (p + 1) (k : Int) with
   | none => rfl
   | some b =>
    show blk (k : Int) b.1 b.2 (3 + x) = b.2 x
    unfold blk
    rw [if_neg (by omega), if_neg (by omega), if_neg (by omega), if_pos (by omega), show 3 + x - 3 = x by omega]
  rw [hcb _ (by omega), hcb _ (by omega)]
 ·rw [hpw, if_pos rfl]
theorem SIe.last (hc : c.Ok) {id : Nat} (hI : SIe c g m (fun h i => h = 0 ∧ i = id)) (hid : id < 2 ^ c.b) {op : Int} (hop : op = 0 ∨ op = 1 ∨ op = 3) {d : Nat → Int} {D : Dw} (hD : DrwOk c D) {fr : Nt} (hfr : lfN (c.N 0) fr)
  (hfm : ∀ lf d, m 0 (id : Int) = some (lf, d) → fr.1 = (lf : Int) + 1) (hst : whN c g m 0 id = (D 0).1) {o : List Nat} (ho : Ord c g 0 (askL D op id d fr) o)
  (hno : (∀ h, h < c.n → (g.lev c 0 (askL D op id d fr) o).ov h = false) ∨ (∀ h, h < c.n → (difI ((g.lev c 0 (askL D op id d fr) o).I h)).length ≤ c.T)) :
  SIe c (g.lev c 0 (askL D op id d fr) o) (updB m 0 (nextB (m 0) (askL D op id d fr))) (fun _ _ => False) ∧
  (∀ i, acW (c.N 0) c.S (c.D 0) c.T (c.r 0) (askL D op id d fr) g.M i = cellB (id : Int) (m 0 (id : Int)) i) ∧
  (∀ j i, whN c (g.lev c 0 (askL D op id d fr) o) (updB m 0 (nextB (m 0) (askL D op id d fr))) j i = whN c g m j i) ∧
  (∀ i, nextB (m 0) (askL D op id d fr) i = if i = (id : Int) then newM op 0 ((D 0).1.1 - 1).toNat d (m 0 (id : Int)) else m 0 i) ∧ (askL D op id d fr).ok (c.N 0) = true := by
 have hn := hc.n1
 have h0 : 0 < c.n := by omega
 have hN1 := SC.N_le hc 0
 have hkN : id < c.N 0 := by have h := meant_lt (b := c.b) 0 hid; rw [Nat.pow_zero, Nat.div_one] at h; exact h
 obtain ⟨q, hqd⟩ : ∃ q, askL D op id d fr = q := ⟨_, rfl⟩
 have q_op : q.op = op := by rw [← hqd]; rfl
 have q_id : q.id = (id : Int) := by rw [← hqd]; rfl
 have q_at : q.at' = 0 := by rw [← hqd]; rfl
 have q_d : q.d = d := by rw [← hqd]; rfl
 have q_to : q.to = (D 0).1.1 - 1 := by rw [← hqd]; exact leafN_of (hD 0 h0).1 hN1.2
 have q_lf : q.lf = fr.1 - 1 := by rw [← hqd]; exact leafN_of hfr hN1.2
 have hq : q.ok (c.N 0) = true := by
  rw [← hqd]
  exact ask_ok hN1.2 (by omega) (by omega) (.inl (by omega)) hfr (hD 0 h0).1
 rw [hqd] at ho hno ⊢
 have hat : ∀ l d, m 0 q.id = some (l, d) → (l : Int) = q.lf := fun l d e => by
  rw [q_id] at e
  have := hfm l d e
  rw [q_lf]; omega
 have hnx : ∀ i, nextB (m 0) q i = if i = (id : Int) then newM op 0 ((D 0).1.1 - 1).toNat d (m 0 (id : Int)) else m 0 i := fun i => by
  by_cases e : i = (id : Int)
  ·rw [if_pos e, e, ← q_id, next_atS, q_op, q_at, q_to, q_d]
  ·rw [if_neg e, next_neS _ _ (by rw [q_id]; exact e)]
 obtain ⟨r1, r2, r3, r4, r5, r6⟩ := hI.lvl hc h0 hq ⟨id, q_id, hkN⟩ hat ho (by
  rcases hno with hn | hn
  ·left
   have := hn 0 h0
   unfold SG.lev at this
   simpa using this
  ·right
   have := hn 0 h0
   unfold SG.lev at this
   simpa using this) (by
  rcases hop with e | e | e
  ·right
   intro b hb
   rw [hnx, q_id, if_pos rfl, e] at hb
   rw [q_id]
   cases hm : m 0 (id : Int) with
   | none => rw [hm] at hb; cases hb
   | some b' => exact ⟨b', rfl⟩
  ·left
   unfold Ask.puts
   rw [q_op, e]; rfl
  ·right
   intro b hb
   rw [hnx, q_id, if_pos rfl, e] at hb
   cases hb)
 have hfarw : ∀ j i, whN c (g.lev c 0 q o) (updB m 0 (nextB (m 0) q)) j i = whN c g m j i := fun j i => wh_same r6 (by rw [updB_ne _ _ (by omega)])
 refine ⟨⟨r2, r3, fun j hj i lf e hm _ => ?_, fun j hj i hi => by rw [hfarw]; exact hI.ok j hj i hi, r4, r5⟩, fun i => by rw [r1, q_id], hfarw, hnx, hq⟩
 rw [hfarw]
 by_cases ej : j = 0
 ·subst ej
  rw [updB_at, hnx] at hm
  by_cases ei : i = id
  ·subst ei
   rw [if_pos rfl] at hm
   have := newM_leaf hm
   rw [hst]
   have := (hD 0 h0).1.1
   omega
  ·rw [if_neg (by omega)] at hm
   exact hI.wh 0 hj i lf e hm (fun k => ei k.2)
 ·rw [updB_ne _ _ ej] at hm
  exact hI.wh j hj i lf e hm (fun k => ej k.1)
theorem SIe.top (hc : c.Ok) (hI : SIe c g m (fun _ _ => False)) {id : Nat} (hid : id < 2 ^ c.b) {e : Nt} (he : lfN (c.N (c.n - 1)) e) :
  SIe c (g.top c id e) m (fun h i => h = c.n - 1 ∧ i = id / 4 ^ (c.n - 1)) ∧ topN g c id = whN c g m (c.n - 1) (id / 4 ^ (c.n - 1)) ∧ whN c (g.top c id e) m (c.n - 1) (id / 4 ^ (c.n - 1)) = e ∧ (∀ j, j + 1 < c.n → ∀ i, whN c (g.top c id e) m j i = whN c g m j i) := by
 have hn := hc.n1
 have hk : id / 4 ^ (c.n - 1) < c.N (c.n - 1) := meant_lt _ hid
 have hlast : c.n - 1 + 1 = c.n := by omega
 unfold SG.top topN
 generalize id / 4 ^ (c.n - 1) = k at *
 have hcell : ∀ i, ((g.see c).note c k e).M.c c.f i = if i = k then tpC e else g.M.c c.f i := fun i => by
  show (if c.f = c.f ∧ i < c.N (c.n - 1) ∧ i = k ∧ true = true then tpC e else g.M.c c.f i) = _
  by_cases e : i = k
  ·rw [if_pos e, if_pos ⟨rfl, by omega, e, rfl⟩]
  ·rw [if_neg e, if_neg (fun q => e q.2.2.1)]
 have hfar : ∀ r, r ≠ c.f → ∀ i, ((g.see c).note c k e).M.c r i = g.M.c r i := fun r hr i => by
  show (if r = c.f ∧ i < c.N (c.n - 1) ∧ i = k ∧ true = true then tpC e else g.M.c r i) = _
  rw [if_neg (fun q => hr q.1)]
 have hw : ∀ i, whN c ((g.see c).note c k e) m (c.n - 1) i = if i = k then e else whN c g m (c.n - 1) i := fun i => by
  unfold whN
  rw [if_pos hlast, if_pos hlast, hcell]
  by_cases e : i = k
  ·rw [if_pos e, if_pos e]; rfl
  ·rw [if_neg e, if_neg e]
 have hwf : ∀ j, j + 1 < c.n → ∀ i, whN c ((g.see c).note c k e) m j i = whN c g m j i := fun j hj i => by
  unfold whN
  rw [if_neg (by omega), if_neg (by omega)]
 have hE : ∀ h, ∀ q, cellsE (c.r h) ((g.see c).note c k e).M.c q = cellsE (c.r h) g.M.c q := fun h q => hfar _ (by unfold SC.r; omega) _
 refine ⟨⟨fun h hh => (hI.lv h hh).congr (fun q _ => hE h q), hI.rng, fun h hh i lf d hm hx => ?_, fun h hh i hi => ?_, hI.put, hI.ovn⟩, ?_, ?_, hwf⟩
 ·by_cases eh : h = c.n - 1
  ·have hi : i ≠ k := fun q => hx ⟨eh, q⟩
   rw [eh, hw, if_neg hi, ← eh]
   exact hI.wh h hh i lf d hm (fun q => q)
  ·rw [hwf h (by omega)]
   exact hI.wh h hh i lf d hm (fun q => q)
 ·by_cases eh : h = c.n - 1
  ·rw [eh, hw]
   split
   ·obtain ⟨h1, h2⟩ := he
    exact ⟨by omega, h2⟩
   ·exact hI.ok _ (by omega) i (eh ▸ hi)
  ·rw [hwf h (by omega)]
   exact hI.ok h hh i hi
 ·unfold whN
  rw [if_pos hlast]
 ·rw [hw, if_pos rfl]
end
end Go.Proofs.YtknnebhjldfkhaaGreat


namespace Go.Proofs.YtknnebhjldfkhaaGreat
set_option maxRecDepth 100000
open Go.RowKit Go.ChangeShapes Go.WideShapes Go.ChangeAt

section
variable {S D T P n lf : Nat} {id : Int} {E E' : Pl → Cl} {nb : Cl}
def MineQ (S D T lf : Nat) (E : Pl → Cl) (id : Int) (q : Pl) : Prop := ∃ i, i < (D + 1) * S + T ∧ wayQ S D lf i = q ∧ E q 0 = 1 ∧ E q 1 = id
theorem acc_src (hS : 0 < S) (hf : lf < 2 ^ D) (hD : D ≤ 10) (hn : n = (D + 1) * S + T + 1) {o : List Nat} (hT : TabOk D n P (dpW D lf) (laidX S D T lf E id nb)) (ho : IsOrd (tabI D n P (dpW D lf) (laidX S D T lf E id nb)) n o)
  (hY : ∀ i, i < (D + 1) * S + T → E' (wayQ S D lf i) = tabY S D T n P (dpW D lf) (laidX S D T lf E id nb) o i)
  (hfar : ∀ q, isPl S D T q → (∀ i, i < (D + 1) * S + T → wayQ S D lf i ≠ q) → E' q = E q) :
  ∃ s : Pl → Option Pl, (∀ q, isPl S D T q → hasB (E' q) → (∃ q0, s q = some q0 ∧ isPl S D T q0 ∧ hasB (E q0) ∧ E' q = E q0 ∧ ¬ MineQ S D T lf E id q0) ∨ (s q = none ∧ E' q = nb)) ∧
   ∀ q q', isPl S D T q → isPl S D T q' → hasB (E' q) → hasB (E' q') → s q = s q' → q = q' := by
 classical
 obtain ⟨g, g1, g2, g3, g4⟩ := tab_all hT hD hS hn ho
 have key : ∀ q, isPl S D T q → hasB (E' q) → ∃ t : Option Pl, ((∃ q0, t = some q0 ∧ isPl S D T q0 ∧ hasB (E q0) ∧ E' q = E q0 ∧ ¬ MineQ S D T lf E id q0) ∨ (t = none ∧ E' q = nb)) ∧
   ((∃ i k, i < (D + 1) * S + T ∧ wayQ S D lf i = q ∧ k < n ∧ g k = some i ∧ ((k < (D + 1) * S + T ∧ t = some (wayQ S D lf k)) ∨ (k = (D + 1) * S + T ∧ t = none))) ∨ ((∀ i, i < (D + 1) * S + T → wayQ S D lf i ≠ q) ∧ t = some q)) := by
  intro q hq hb
  by_cases hw : ∃ i, i < (D + 1) * S + T ∧ wayQ S D lf i = q
  ·obtain ⟨i, hi, rfl⟩ := hw
   have hk : ∃ k, k < n ∧ g k = some i := by
    apply Classical.byContradiction
    intro hno
    have := g3 i (by omega) (fun k hk e => hno ⟨k, hk, e⟩)
    rw [hY i hi, this] at hb
    exact nul_has hb
   obtain ⟨k, hk, e⟩ := hk
   obtain ⟨c1, c2, c3, c4⟩ := g1 k i hk e
   by_cases hkl : k < (D + 1) * S + T
   ·have hx : laidX S D T lf E id nb k = E (wayQ S D lf k) ∧ ¬ (E (wayQ S D lf k) 0 = 1 ∧ E (wayQ S D lf k) 1 = id) := by
     unfold laidX at c1 ⊢
     rw [if_pos hkl] at c1 ⊢
     by_cases hm : E (wayQ S D lf k) 0 = 1 ∧ E (wayQ S D lf k) 1 = id
     ·rw [if_pos hm] at c1; exact absurd c1 nul_has
     ·rw [if_neg hm] at c1 ⊢; exact ⟨rfl, hm⟩
    refine ⟨some (wayQ S D lf k), .inl ⟨_, rfl, wayQ_is hS hf hkl, by rw [hx.1] at c1; exact c1, by rw [hY i hi, c3, hx.1], ?_⟩, .inl ⟨i, k, hi, rfl, hk, e, .inl ⟨hkl, rfl⟩⟩⟩
    rintro ⟨j, _, _, h1, h2⟩
    exact hx.2 ⟨h1, h2⟩
   ·have hke : k = (D + 1) * S + T := by omega
    refine ⟨none, .inr ⟨rfl, ?_⟩, .inl ⟨i, k, hi, rfl, hk, e, .inr ⟨hke, rfl⟩⟩⟩
    rw [hY i hi, c3]
    unfold laidX
    rw [if_neg (by omega), if_pos hke]
  ·have hno : ∀ i, i < (D + 1) * S + T → wayQ S D lf i ≠ q := fun i hi e => hw ⟨i, hi, e⟩
   have hE := hfar q hq hno
   refine ⟨some q, .inl ⟨q, rfl, hq, by rw [hE] at hb; exact hb, hE, ?_⟩, .inr ⟨hno, rfl⟩⟩
   rintro ⟨i, hi, e, _⟩
   exact hno i hi e
 refine ⟨fun q => if h : isPl S D T q ∧ hasB (E' q) then (key q h.1 h.2).choose else none, fun q hq hb => ?_, fun q q' hq hq' hb hb' e => ?_⟩
 ·dsimp only
  rw [dif_pos ⟨hq, hb⟩]
  exact (key q hq hb).choose_spec.1
 ·dsimp only at e
  rw [dif_pos ⟨hq, hb⟩, dif_pos ⟨hq', hb'⟩] at e
  have h1 := (key q hq hb).choose_spec.2
  have h2 := (key q' hq' hb').choose_spec.2
  rw [← e] at h2
  generalize (key q hq hb).choose = t at h1 h2
  rcases h1 with ⟨i, k, hi, e1, hk, e2, e3⟩ | ⟨e1, e2⟩ <;> rcases h2 with ⟨i', k', hi', f1, hk', f2, f3⟩ | ⟨f1, f2⟩
  ·have hkk : k = k' := by
    rcases e3 with ⟨a1, a2⟩ | ⟨a1, a2⟩ <;> rcases f3 with ⟨b1, b2⟩ | ⟨b1, b2⟩
    ·rw [a2] at b2
     injection b2 with b2
     exact wayQ_inj hS hf b2
    ·rw [a2] at b2; cases b2
    ·rw [a2] at b2; cases b2
    ·omega
   subst hkk
   rw [e2] at f2
   injection f2 with f2
   subst f2
   rw [← e1, ← f1]
  ·rcases e3 with ⟨a1, a2⟩ | ⟨a1, a2⟩
   ·rw [a2] at f2
    injection f2 with f2
    exact absurd f2 (f1 k a1)
   ·rw [a2] at f2; cases f2
  ·rcases f3 with ⟨a1, a2⟩ | ⟨a1, a2⟩
   ·rw [a2] at e2
    injection e2 with e2
    exact absurd e2 (e1 k' a1)
   ·rw [a2] at e2; cases e2
  ·rw [e2] at f2
   injection f2
theorem wasC_src : ∀ i, i ≤ (D + 1) * S + T → wasC (fun j => E (wayQ S D lf j)) id i = nul ∨ ∃ j, j < i ∧ E (wayQ S D lf j) 0 = 1 ∧ E (wayQ S D lf j) 1 = id ∧ wasC (fun j => E (wayQ S D lf j)) id i = E (wayQ S D lf j)
 | 0, _ => .inl rfl
 | i + 1, h => by
  unfold wasC
  by_cases e : E (wayQ S D lf i) 0 = 1 ∧ E (wayQ S D lf i) 1 = id
  ·rw [if_pos (by simp [e])]
   exact .inr ⟨i, by omega, e.1, e.2, rfl⟩
  ·rw [if_neg (by simpa using e)]
   rcases wasC_src i (by omega) with h1 | ⟨j, h1, h2, h3, h4⟩
   ·exact .inl h1
   ·exact .inr ⟨j, by omega, h2, h3, h4⟩
end

abbrev Loc := Nat × Pl × Nat
def ntc (g : Cl) (j : Nat) : Nt := if g 0 = 1 then (g (3 + 2 * j), g (4 + 2 * j)) else (0, 0)
def ntAt (c : SC) (C : Nat → Nat → Cl) (x : Loc) : Nt := if x.1 = c.n then (C c.f x.2.1.2 0, C c.f x.2.1.2 1) else ntc (cellsE (c.r x.1) C x.2.1) x.2.2
def vl (c : SC) (x : Loc) : Prop := (x.1 = c.n ∧ x.2.1.1 = 0 ∧ x.2.1.2 < c.N (c.n - 1) ∧ x.2.2 = 0) ∨ (1 ≤ x.1 ∧ x.1 < c.n ∧ isPl c.S (c.D x.1) c.T x.2.1 ∧ x.2.2 < 4)
def IsW (c : SC) (nw : Nat) (z : Nat → Int) (l p : Nat) (e : Nt) : Prop := e = tkN nw z p (c.N l) ∧ p % (2 * c.n) / 2 = c.n - 1 - l
structure Uq (c : SC) (nw : Nat) (z : Nat → Int) (ν : Loc → Nt) (G : List Nt) (e : Nt) (q L : Nat) : Prop where
 ok : ∀ x, vl c x → (ν x).1 ≠ 0 → ∃ p, p < L ∧ IsW c nw z (x.1 - 1) p (ν x)
 inj : ∀ x y, vl c x → vl c y → (ν x).1 ≠ 0 → (ν y).1 ≠ 0 → (ν x).2 = (ν y).2 → x = y
 gok : ∀ (i : Nat) (a : Nt), G[i]? = some a → ∃ p, p < L ∧ IsW c nw z (c.n - 1 - i % c.n) p a ∧ p / (2 * c.n) ≤ i / c.n
 gnd : ∀ (i j : Nat) (a b : Nt), G[i]? = some a → G[j]? = some b → a.2 = b.2 → i = j
 gx : ∀ (i : Nat) (a : Nt) (x : Loc), G[i]? = some a → vl c x → (ν x).1 ≠ 0 → a.2 ≠ (ν x).2
 ek : e.1 ≠ 0 → ∃ p, p < L ∧ IsW c nw z q p e
 ex : e.1 ≠ 0 → ∀ x, vl c x → (ν x).1 ≠ 0 → e.2 ≠ (ν x).2
 eg : e.1 ≠ 0 → ∀ (i : Nat) (a : Nt), G[i]? = some a → a.2 ≠ e.2
section
variable {c : SC} {nw : Nat} {z : Nat → Int} {ν ν' : Loc → Nt} {G : List Nt} {e : Nt} {q L : Nat}
theorem IsW.place {l p : Nat} {a : Nt} (h : IsW c nw z l p a) : a.2 = (p : Int) := by rw [h.1]; rfl
theorem Uq.more (h : Uq c nw z ν G e q L) {L' : Nat} (hL : L ≤ L') : Uq c nw z ν G e q L' :=
 ⟨fun x hx h1 => by obtain ⟨p, hp, h2⟩ := h.ok x hx h1; exact ⟨p, by omega, h2⟩, h.inj, fun i a ha => by obtain ⟨p, hp, h2⟩ := h.gok i a ha; exact ⟨p, by omega, h2⟩, h.gnd, h.gx,
  fun h1 => by obtain ⟨p, hp, h2⟩ := h.ek h1; exact ⟨p, by omega, h2⟩, h.ex, h.eg⟩
theorem Uq.drop (h : Uq c nw z ν G e q L) (q' : Nat) : Uq c nw z ν G (0, 0) q' L := ⟨h.ok, h.inj, h.gok, h.gnd, h.gx, fun h1 => absurd rfl h1, fun h1 => absurd rfl h1, fun h1 => absurd rfl h1⟩
theorem Uq.gon (h : Uq c nw z ν G e q L) (hn : 1 ≤ c.n) {k : Nat} (hG : G.length = c.n * k + (c.n - 1 - q)) (hq : q < c.n) (hL : L = 2 * c.n * k + 2 * (c.n - 1 - q) + 1) : Uq c nw z ν (G ++ [orN e (tkN nw z L (c.N q))]) (0, 0) q (L + 1) := by
 obtain ⟨s, hs⟩ : ∃ s, orN e (tkN nw z L (c.N q)) = s := ⟨_, rfl⟩
 have hi1 : G.length % c.n = c.n - 1 - q := by rw [hG, Nat.mul_add_mod, Nat.mod_eq_of_lt (by omega)]
 have hi2 : G.length / c.n = k := by rw [hG, Nat.mul_add_div (by omega), Nat.div_eq_of_lt (by omega)]; omega
 have hm : L % (2 * c.n) = 2 * (c.n - 1 - q) + 1 := by rw [hL, Nat.add_assoc, Nat.mul_add_mod, Nat.mod_eq_of_lt (by omega)]
 have hd : ∀ p, p < L + 1 → p / (2 * c.n) ≤ k := fun p hp => by
  have : p < 2 * c.n * (k + 1) := by rw [Nat.mul_add]; omega
  have := Nat.div_lt_of_lt_mul this
  omega
 have hw : ∃ p, p < L + 1 ∧ IsW c nw z q p s ∧ (∀ x, vl c x → (ν x).1 ≠ 0 → s.2 ≠ (ν x).2) ∧ (∀ (i : Nat) (a : Nt), G[i]? = some a → a.2 ≠ s.2) := by
  by_cases he : e.1 = 0
  ·have e2 : s = tkN nw z L (c.N q) := by rw [← hs]; unfold orN; rw [if_pos he]
   refine ⟨L, by omega, ⟨e2, by omega⟩, fun x hx h1 k1 => ?_, fun i a ha k1 => ?_⟩
   ·obtain ⟨p, hp, h2⟩ := h.ok x hx h1
    rw [h2.place, e2] at k1
    have k2 : (L : Int) = (p : Int) := k1
    omega
   ·obtain ⟨p, hp, h2, _⟩ := h.gok i a ha
    rw [h2.place, e2] at k1
    have k2 : (p : Int) = (L : Int) := k1
    omega
  ·have e2 : s = e := by rw [← hs]; unfold orN; rw [if_neg he]
   obtain ⟨p, hp, h2⟩ := h.ek he
   rw [e2]
   exact ⟨p, by omega, h2, h.ex he, h.eg he⟩
 rw [hs]
 obtain ⟨p, hp, hpw, hpx, hpg⟩ := hw
 have at' : ∀ (i : Nat) (a : Nt), (G ++ [s])[i]? = some a → G[i]? = some a ∨ (i = G.length ∧ a = s) := fun i a ha => by
  by_cases hi : i < G.length
  ·rw [List.getElem?_append_left hi] at ha; exact .inl ha
  ·rw [List.getElem?_append_right (by omega)] at ha
   have : i - G.length = 0 := by
    have := (List.getElem?_eq_some_iff.1 ha).1
    simp at this; omega
   rw [this] at ha
   simp at ha
   exact .inr ⟨by omega, ha.symm⟩
 refine ⟨fun x hx h1 => ?_, h.inj, fun i a ha => ?_, fun i j a b ha hb hab => ?_, fun i a x ha hx h1 => ?_, fun h1 => absurd rfl h1, fun h1 => absurd rfl h1, fun h1 => absurd rfl h1⟩
 ·obtain ⟨p', h2, h3⟩ := h.ok x hx h1
  exact ⟨p', by omega, h3⟩
 ·rcases at' i a ha with h1 | ⟨rfl, rfl⟩
  ·obtain ⟨p', h2, h3⟩ := h.gok i a h1
   exact ⟨p', by omega, h3⟩
  ·refine ⟨p, hp, ?_, by rw [hi2]; exact hd p hp⟩
   rw [hi1, show c.n - 1 - (c.n - 1 - q) = q by omega]
   exact hpw
 ·rcases at' i a ha with h1 | ⟨rfl, rfl⟩ <;> rcases at' j b hb with h2 | ⟨rfl, rfl⟩
  ·exact h.gnd i j a b h1 h2 hab
  ·exact absurd hab (hpg i a h1)
  ·exact absurd hab.symm (hpg j b h2)
  ·rfl
 ·rcases at' i a ha with h1' | ⟨rfl, rfl⟩
  ·exact h.gx i a x h1' hx h1
  ·exact hpx x hx h1
theorem Uq.turn (h : Uq c nw z ν G (0, 0) q L) {l : Nat} (hl : L % (2 * c.n) / 2 = c.n - 1 - l) (s : Loc → Option Loc) (e' : Nt) (y0 : Loc)
  (hs : ∀ x, vl c x → (ν' x).1 ≠ 0 → (∃ y, s x = some y ∧ vl c y ∧ ν' x = ν y ∧ y.1 = x.1) ∨ (s x = none ∧ ν' x = tkN nw z L (c.N l) ∧ x.1 = l + 1))
  (hi : ∀ x x', vl c x → vl c x' → (ν' x).1 ≠ 0 → (ν' x').1 ≠ 0 → s x = s x' → x = x')
  (he : e'.1 ≠ 0 → vl c y0 ∧ ν y0 = e' ∧ y0.1 = l + 1 ∧ ∀ x, vl c x → (ν' x).1 ≠ 0 → s x ≠ some y0) : Uq c nw z ν' G e' l (L + 1) := by
 refine ⟨fun x hx h1 => ?_, fun x y hx hy h1 h2 h3 => ?_, fun i a ha => ?_, h.gnd, fun i a x ha hx h1 => ?_, fun h1 => ?_, fun h1 x hx h2 => ?_, fun h1 i a ha => ?_⟩
 ·rcases hs x hx h1 with ⟨y, _, hy, e1, e2⟩ | ⟨_, e1, e2⟩
  ·rw [e1] at h1 ⊢
   obtain ⟨p, hp, h3⟩ := h.ok y hy h1
   exact ⟨p, by omega, by rw [← e2]; exact h3⟩
  ·exact ⟨L, by omega, by rw [e1, e2]; rfl, by rw [e2]; exact hl⟩
 ·refine hi x y hx hy h1 h2 ?_
  rcases hs x hx h1 with ⟨x', e0, hx', e1, e2⟩ | ⟨e0, e1, e2⟩ <;> rcases hs y hy h2 with ⟨y', f0, hy', f1, f2⟩ | ⟨f0, f1, f2⟩
  ·rw [e0, f0]
   congr 1
   rw [e1] at h1 h3
   rw [f1] at h2 h3
   exact h.inj _ _ hx' hy' h1 h2 h3
  ·rw [e1] at h1 h3
   rw [f1] at h3
   obtain ⟨p, hp, k⟩ := h.ok x' hx' h1
   rw [k.place] at h3
   have k2 : (p : Int) = (L : Int) := h3
   omega
  ·rw [f1] at h2 h3
   rw [e1] at h3
   obtain ⟨p, hp, k⟩ := h.ok y' hy' h2
   rw [k.place] at h3
   have k2 : (L : Int) = (p : Int) := h3
   omega
  ·rw [e0, f0]
 ·obtain ⟨p, h2, h3⟩ := h.gok i a ha
  exact ⟨p, by omega, h3⟩
 ·rcases hs x hx h1 with ⟨y, _, hy, e1, e2⟩ | ⟨_, e1, e2⟩
  ·rw [e1] at h1 ⊢
   exact h.gx i a y ha hy h1
  ·rw [e1]
   obtain ⟨p, hp, k, _⟩ := h.gok i a ha
   rw [k.place]
   intro k2
   have k2 : (p : Int) = (L : Int) := k2
   omega
 ·obtain ⟨a1, a2, a3, a4⟩ := he h1
  obtain ⟨p, hp, k⟩ := h.ok y0 a1 (by rw [a2]; exact h1)
  rw [a2, a3] at k
  exact ⟨p, by omega, k⟩
 ·obtain ⟨a1, a2, a3, a4⟩ := he h1
  intro h4
  rcases hs x hx h2 with ⟨y, e0, hy, e1, e2⟩ | ⟨e0, e1, e2⟩
  ·rw [e1] at h2 h4
   have := h.inj y0 y a1 hy (by rw [a2]; exact h1) h2 (by rw [a2]; exact h4)
   exact a4 x hx (by rw [e1]; exact h2) (by rw [this]; exact e0)
  ·obtain ⟨p, hp, k⟩ := h.ok y0 a1 (by rw [a2]; exact h1)
   rw [e1, ← a2, k.place] at h4
   have k2 : (p : Int) = (L : Int) := h4
   omega
 ·obtain ⟨a1, a2, a3, a4⟩ := he h1
  rw [← a2]
  exact h.gx i a y0 ha a1 (by rw [a2]; exact h1)
theorem Uq.same (h : Uq c nw z ν G e q L) (hν : ∀ x, vl c x → ν' x = ν x) : Uq c nw z ν' G e q L :=
 ⟨fun x hx h1 => by rw [hν x hx] at h1 ⊢; exact h.ok x hx h1, fun x y hx hy h1 h2 h3 => h.inj x y hx hy (by rw [← hν x hx]; exact h1) (by rw [← hν y hy]; exact h2) (by rw [← hν x hx, ← hν y hy]; exact h3), h.gok, h.gnd, fun i a x ha hx h1 => by rw [hν x hx] at h1 ⊢; exact h.gx i a x ha hx h1, h.ek, fun h1 x hx h2 => by rw [hν x hx] at h2 ⊢; exact h.ex h1 x hx h2, h.eg⟩
end
end Go.Proofs.YtknnebhjldfkhaaGreat


namespace Go.Proofs.YtknnebhjldfkhaaGreat
set_option maxRecDepth 100000
open Go.RowKit Go.ChangeShapes Go.WideShapes Go.ChangeAt

def NoO (c : SC) (g : SG) : Prop := (∀ h, h < c.n → g.ov h = false) ∨ (∀ h, h < c.n → (difI (g.I h)).length ≤ c.T)
theorem down_suff : ∀ (n : Nat) (l r : List Nat), l ++ r = downL n → r = downL r.length
 | n, [], r, h => by
  have h' : r = downL n := h
  have e : r.length = n := by rw [h', downL_len]
  rw [e]; exact h'
 | 0, _ :: _, _, h => by cases h
 | n + 1, _ :: l, r, h => by
  have h2 : l ++ r = downL n := by
   have h3 : _ :: (l ++ r) = n :: downL n := h
   injection h3
  exact down_suff n l r h2
theorem dif_sub (I : List Int) (x : Int) : (difI I).length ≤ (difI (I ++ [x])).length := by
 rw [difI_snoc]
 unfold addI
 split
 ·exact Nat.le_refl _
 ·rw [List.length_append]; omega
section
variable {c : SC} {g : SG} {m : Nat → Bm}
theorem acI_sub (N : Nat) (q : Ask) (I : List Int) : (difI I).length ≤ (difI (acI N q I)).length := by
 unfold acI
 split
 ·exact dif_sub _ _
 ·exact Nat.le_refl _
theorem NoO.lev {h : Nat} {q : Ask} {o : List Nat} (hN : NoO c (g.lev c h q o)) : NoO c g := by
 rcases hN with hN | hN
 ·left
  intro j hj
  have := hN j hj
  unfold SG.lev at this
  dsimp only at this
  split at this
  ·next e => subst e; simpa using (Bool.or_eq_false_iff.1 this).1
  ·exact this
 ·right
  intro j hj
  have := hN j hj
  unfold SG.lev at this
  dsimp only at this
  split at this
  ·next e => subst e; exact Nat.le_trans (acI_sub _ _ _) this
  ·exact this
theorem NoO.gon {e : Nt} (hN : NoO c (g.gon e)) : NoO c g := hN
structure Wp (c : SC) (D : Dw) (id : Nat) (m0 : Bm) (J : List Int) (q : Nat) (g : SG) (e : Nt) (m : Nat → Bm) : Prop where
 inv : SIe c g m (fun h i => h = q ∧ i = id / 4 ^ q)
 st : whN c g m q (id / 4 ^ q) = (D q).1
 eok : okN (c.N q) e
 efm : ∀ lf d, m q ((id / 4 ^ q : Nat) : Int) = some (lf, d) → e.1 = (lf : Int) + 1
 m0 : m 0 = m0
 i0 : g.I 0 = J
theorem Wp.fr {D : Dw} {id : Nat} {m0 : Bm} {J : List Int} {q : Nat} {e : Nt} (h : Wp c D id m0 J q g e m) (hD : DrwOk c D) (hq : q < c.n) : lfN (c.N q) (orN e (D q).2) ∧ ∀ lf d, m q ((id / 4 ^ q : Nat) : Int) = some (lf, d) → (orN e (D q).2).1 = (lf : Int) + 1 := by
 refine ⟨or_lf h.eok (hD q hq).2, fun lf d hm => ?_⟩
 have h1 := h.efm lf d hm
 unfold orN
 rw [if_neg (by omega)]
 exact h1
theorem Rn.walk (hc : c.Ok) {D : Dw} (hD : DrwOk c D) {op : Int} (hop : op = 0 ∨ op = 1 ∨ op = 3) {id : Nat} (hid : id < 2 ^ c.b) {d : Nat → Int} {g0 : SG} {e0 : Nt} {m0 : Bm} {J : List Int} (h0 : ∃ m, Wp c D id m0 J (c.n - 1) g0 e0 m) {l : List Nat} {g : SG} {e : Nt} {r : Nat → Int} {t : Bool} (h : Rn c D op id d g0 e0 l g e r t) :
  ∀ s, l ++ s = downL c.n → NoO c g → (∀ q, s.length = q + 1 → ∃ m, Wp c D id m0 J q g e m) ∧
   (s = [] → ∃ m, SIe c g m (fun _ _ => False) ∧ (∀ i, r (i + 0) = cellB (id : Int) (m0 (id : Int)) (3 + i)) ∧ t = (m0 (id : Int)).isSome ∧ (g.I 0 = if op = 1 then J ++ [(id : Int)] else J) ∧ ∃ to, ∀ i, m 0 i = if i = (id : Int) then newM op 0 to d (m0 (id : Int)) else m0 i) := by
 induction h with
 | nil =>
  intro s hs hN
  have hs' : s = downL c.n := hs
  have hl : s.length = c.n := by rw [hs', downL_len]
  have hn := hc.n1
  refine ⟨fun q hq => ?_, fun e => by rw [e] at hl; simp at hl; omega⟩
  have : q = c.n - 1 := by omega
  subst this
  exact h0
 | part p o h hp ho ih =>
  intro s hs hN
  rw [List.append_assoc] at hs
  have hsf := down_suff _ _ _ hs
  have hlen : s.length = p + 1 := by
   have e2 : ([p + 1] ++ s) = downL (s.length + 1) := by simpa using hsf
   have e3 : (p + 1) :: s = s.length :: downL s.length := e2
   injection e3 with e3 _
   exact e3.symm
  have hN1 := NoO.gon hN.lev
  obtain ⟨m, hw⟩ := (ih _ hs hN1).1 (p + 1) (by simp [hlen])
  obtain ⟨hf1, hf2⟩ := hw.fr hD hp
  have := SIe.part hc (hw.inv.gon _) hp hid hD hf1 hf2 hw.st ho hN
  obtain ⟨r1, r2, r3, r4, _⟩ := this
  refine ⟨fun q hq => ?_, fun e => by rw [e] at hlen; simp at hlen⟩
  have : q = p := by omega
  subst this
  refine ⟨_, r1, r3, ?_, fun lf d hm => ?_, ?_, hw.i0⟩
  ·rw [r2]
   exact hw.inv.ok q (by omega) _ (meant_lt q hid)
  ·rw [r2]
   rw [updB_ne _ _ (by omega)] at hm
   exact hw.inv.wh q (by omega) _ lf d hm (fun k => by omega)
  ·rw [updB_ne _ _ (by omega)]
   exact hw.m0
 | last o h ho ih =>
  intro s hs hN
  rw [List.append_assoc] at hs
  have hsf := down_suff _ _ _ hs
  have hlen : s.length = 0 := by
   have e2 : ([0] ++ s) = downL (s.length + 1) := by simpa using hsf
   have e3 : (0 : Nat) :: s = s.length :: downL s.length := e2
   injection e3 with e3 _
   exact e3.symm
  have hN1 := NoO.gon hN.lev
  obtain ⟨m, hw⟩ := (ih _ hs hN1).1 0 (by simp [hlen])
  have hn := hc.n1
  obtain ⟨hf1, hf2⟩ := hw.fr hD (by omega)
  have e0 : id / 4 ^ 0 = id := by simp
  have hI := hw.inv
  rw [e0] at hI hf2
  have hst := hw.st
  rw [e0] at hst
  obtain ⟨r1, r2, r3, r4, r5⟩ := SIe.last hc (hI.gon _) hid hop hD hf1 hf2 hst ho hN
  refine ⟨fun q hq => by omega, fun _ => ⟨_, r1, fun i => ?_, ?_, ?_, ((D 0).1.1 - 1).toNat, fun i => ?_⟩⟩
  ·rw [← hw.m0]
   exact r2 _
  ·rw [r2, ← hw.m0]
   exact cellB_has _ _
  ·rw [← hw.i0]
   show acI _ _ _ = _
   unfold acI
   rw [r5]
   rcases hop with e | e | e <;> subst e <;> rfl
  ·rw [updB_at, r4, ← hw.m0]
theorem Rn.sound2 (hc : c.Ok) {D : Dw} (hD : DrwOk c D) {op : Int} (hop : op = 0 ∨ op = 1 ∨ op = 3) {id : Nat} (hid : id < 2 ^ c.b) {d : Nat → Int} (hI : SIe c g m (fun _ _ => False)) {g' : SG} {e' : Nt} {r : Nat → Int} {t : Bool}
  (h : Rn c D op id d (g.top c id (D (c.n - 1)).1) (topN g c id) (downL c.n) g' e' r t) (hN : NoO c g') :
  ∃ m', SIe c g' m' (fun _ _ => False) ∧ DA r = DA (dat (m 0 (id : Int))) ∧ t = (m 0 (id : Int)).isSome ∧ (g'.I 0 = if op = 1 then g.I 0 ++ [(id : Int)] else g.I 0) ∧ ∃ to, ∀ i, m' 0 i = if i = (id : Int) then newM op 0 to d (m 0 (id : Int)) else m 0 i := by
 have hn := hc.n1
 obtain ⟨r1, r2, r3, r4⟩ := hI.top hc hid (hD (c.n - 1) (by omega)).1
 have h0 : ∃ m1, Wp c D id (m 0) (g.I 0) (c.n - 1) (g.top c id (D (c.n - 1)).1) (topN g c id) m1 := by
  refine ⟨m, r1, r3, ?_, fun lf d hm => ?_, rfl, rfl⟩
  ·rw [r2]
   exact hI.ok _ (by omega) _ (meant_lt _ hid)
  ·rw [r2]
   exact hI.wh _ (by omega) _ lf d hm (fun k => k)
 obtain ⟨m', q1, q2, q3, q5, q4⟩ := (h.walk hc hD hop hid h0 [] (by simp) hN).2 rfl
 refine ⟨m', q1, ?_, q3, q5, q4⟩
 rw [← cellB_data (id : Int)]
 exact DA_congr fun i _ => q2 i
theorem Rn.sound (hc : c.Ok) {D : Dw} (hD : DrwOk c D) {op : Int} (hop : op = 0 ∨ op = 1 ∨ op = 3) {id : Nat} (hid : id < 2 ^ c.b) {d : Nat → Int} (hI : SIe c g m (fun _ _ => False)) {g' : SG} {e' : Nt} {r : Nat → Int} {t : Bool}
  (h : Rn c D op id d (g.top c id (D (c.n - 1)).1) (topN g c id) (downL c.n) g' e' r t) (hN : NoO c g') :
  ∃ m', SIe c g' m' (fun _ _ => False) ∧ DA r = DA (dat (m 0 (id : Int))) ∧ t = (m 0 (id : Int)).isSome ∧ ∃ to, ∀ i, m' 0 i = if i = (id : Int) then newM op 0 to d (m 0 (id : Int)) else m 0 i := by
 obtain ⟨m', q1, q2, q3, _, q4⟩ := h.sound2 hc hD hop hid hI hN
 exact ⟨m', q1, q2, q3, q4⟩
end
end Go.Proofs.YtknnebhjldfkhaaGreat

