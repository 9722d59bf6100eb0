/- Texts of ours put together: StoreInv, StoreRun, StoreK, StoreS, StoreShown, StoreHead. -/
import Derived.Test.YtloibfdcahmhjaaGreatG47
import Derived.Test.YtloibfdcahmhjaaGreatG35
import Derived.Test.YtloibfdcahmhjaaGreatG48
import Derived.Test.YtloibfdcahmhjaaGreatG43
import Derived.Test.YtloibfdcahmhjaaGreatG25
import Derived.Test.YtloibfdcahmhjaaGreatG12
import Derived.Test.YtloibfdcahmhjaaGreatG51
namespace Go.Proofs.YtloibfdcahmhjaaGreat
set_option maxRecDepth 100000
open Go.RowKit Go.ChangeShapes Go.WideShapes Go.ChangeAt

theorem LvInv.congr {S D T : Nat} {E E' : Pl → Cl} {m : Bm} (h : LvInv S D T E m) (e : ∀ q : Pl, q.1 ≤ 1 → E' q = E q) : LvInv S D T E' m := by
  have e2 : ∀ q, isPl S D T q → E' q = E q := fun q hq => e q (by rcases hq with k | k <;> omega)
  refine ⟨fun q hq => ?_, fun q q' hq hq' h1 h2 h3 => ?_, fun id lf d hd => ?_, h.rng⟩
  · rw [e2 q hq]; exact h.cell q hq
  · rw [e2 q hq] at h1 h3
    rw [e2 q' hq'] at h2 h3
    exact h.once q q' hq hq' h1 h2 h3
  · obtain ⟨q, hq, h1⟩ := h.here id lf d hd
    exact ⟨q, hq, by rw [e2 q hq]; exact h1⟩
def whN (c : SC) (g : SG) (m : Nat → Bm) (h i : Nat) : Nt :=
  if h + 1 = c.n then (g.M.c c.f i 0, g.M.c c.f i 1)
  else (dat (m (h + 1) ((i / 4 : Nat) : Int)) (2 * (i % 4)), dat (m (h + 1) ((i / 4 : Nat) : Int)) (2 * (i % 4) + 1))
def okN (N : Nat) (e : Nt) : Prop := 0 ≤ e.1 ∧ e.1 ≤ (N : Int)
def lfN (N : Nat) (e : Nt) : Prop := 1 ≤ e.1 ∧ e.1 ≤ (N : Int)
theorem or_lf {N : Nat} {e s : Nt} (he : okN N e) (hs : lfN N s) : lfN N (orN e s) := by
  unfold orN
  split
  · exact hs
  · obtain ⟨h1, h2⟩ := he
    exact ⟨by omega, h2⟩
structure SIe (c : SC) (g : SG) (m : Nat → Bm) (ex : Nat → Nat → Prop) : Prop where
  lv : ∀ h, h < c.n → LvInv c.S (c.D h) c.T (cellsE (c.r h) g.M.c) (m h)
  rng : ∀ h, h < c.n → ∀ i b, m h i = some b → ∃ j : Nat, i = (j : Int) ∧ j < c.N h
  wh : ∀ h, h < c.n → ∀ (i : Nat) lf d, m h (i : Int) = some (lf, d) → ¬ ex h i → (whN c g m h i).1 = (lf : Int) + 1
  ok : ∀ h, h < c.n → ∀ i, i < c.N h → okN (c.N h) (whN c g m h i)
  put : ∀ h, h < c.n → ∀ i b, m h i = some b → i ∈ g.I h
  ovn : ∀ h, h < c.n → g.ov h = false
def DrwOk (c : SC) (D : Dw) : Prop := ∀ h, h < c.n → lfN (c.N h) (D h).1 ∧ lfN (c.N h) (D h).2
def updB (m : Nat → Bm) (h : Nat) (b : Bm) : Nat → Bm := fun j => if j = h then b else m j
theorem updB_at (m : Nat → Bm) (h : Nat) (b : Bm) : updB m h b h = b := by unfold updB; rw [if_pos rfl]
theorem updB_ne (m : Nat → Bm) {h j : Nat} (b : Bm) (hj : j ≠ h) : updB m h b j = m j := by unfold updB; rw [if_neg hj]
theorem next_atS (m : Bm) (a : Ask) : nextB m a a.id = newM a.op a.at' a.to.toNat a.d (m a.id) := by unfold nextB setB; rw [if_pos rfl]
theorem next_neS (m : Bm) (a : Ask) {i : Int} (hi : i ≠ a.id) : nextB m a i = m i := by unfold nextB setB; rw [if_neg hi]
theorem leafN_of {N : Nat} {e : Nt} (h : lfN N e) (hN : N ≤ 1024) : leafI e.1 = e.1 - 1 := by
  obtain ⟨h1, h2⟩ := h
  exact leafI_small (by omega) (by omega)
theorem ask_ok {N : Nat} {op id at' : Int} {d : Nat → Int} {fr to : Nt} (hN : N ≤ 1024) (hop : 0 ≤ op ∧ op ≤ 3) (hid : id ≤ 2147483648) (hat : op ≠ 2 ∨ 0 ≤ at' ∧ at' ≤ 6) (hf : lfN N fr) (ht : lfN N to) : (⟨op, id, at', d, leafI fr.1, leafI to.1⟩ : Ask).ok N = true := by
  have h1 := leafN_of hf hN
  have h2 := leafN_of ht hN
  obtain ⟨a1, a2⟩ := hf
  obtain ⟨b1, b2⟩ := ht
  unfold Ask.ok isAsk isLf
  simp only [Bool.and_eq_true, Bool.or_eq_true, decide_eq_true_eq]
  refine ⟨⟨⟨⟨hop, ?_, ?_⟩, ?_, ?_⟩, hid⟩, ?_⟩
  · show 0 ≤ leafI fr.1; omega
  · show leafI fr.1 < (N : Int); omega
  · show 0 ≤ leafI to.1; omega
  · show leafI to.1 < (N : Int); omega
  · exact hat
section
variable {c : SC} {g : SG} {m : Nat → Bm} {ex : Nat → Nat → Prop}
theorem SIe.lvl (hc : c.Ok) (hI : SIe c g m ex) {h : Nat} (hh : h < c.n) {q : Ask} (hq : q.ok (c.N h) = true) (hi0 : ∃ i : Nat, q.id = (i : Int) ∧ i < c.N h) (hat : ∀ l d, m h q.id = some (l, d) → (l : Int) = q.lf) {o : List Nat} (ho : Ord c g h q o)
    (hno : (g.ov h || acO (c.N h) c.S (c.D h) c.T (c.r h) (c.m h) (c.P h) q g.M o) = false ∨ (difI (acI (c.N h) q (g.I h))).length ≤ c.T) (hpt : q.puts = true ∨ ∀ b, nextB (m h) q q.id = some b → ∃ b', m h q.id = some b') :
    (∀ i, acW (c.N h) c.S (c.D h) c.T (c.r h) q g.M i = cellB q.id (m h q.id) i) ∧
    (∀ j, j < c.n → LvInv c.S (c.D j) c.T (cellsE (c.r j) (g.lev c h q o).M.c) (updB m h (nextB (m h) q) j)) ∧
    (∀ j, j < c.n → ∀ i b, updB m h (nextB (m h) q) j i = some b → ∃ k : Nat, i = (k : Int) ∧ k < c.N j) ∧
    (∀ j, j < c.n → ∀ i b, updB m h (nextB (m h) q) j i = some b → i ∈ (g.lev c h q o).I j) ∧
    (∀ j, j < c.n → (g.lev c h q o).ov j = false) ∧
    (∀ i, (g.lev c h q o).M.c c.f i = g.M.c c.f i) := by
  have hcf := hc.conf h hh
  have hi : 0 ≤ q.id := by obtain ⟨i, e, _⟩ := hi0; omega
  have hput : ∀ i b, nextB (m h) q i = some b → i ∈ acI (c.N h) q (g.I h) := fun i b hb => by
    have hsub : ∀ x, x ∈ g.I h → x ∈ acI (c.N h) q (g.I h) := fun x hx => by
      unfold acI
      split
      · exact List.mem_append_left _ hx
      · exact hx
    by_cases e : i = q.id
    · rcases hpt with hp | hp
      · unfold acI
        rw [hq, hp, if_pos (show (true && true) = true from rfl), e]
        exact List.mem_append_right _ (by simp)
      · rw [e] at hb ⊢
        obtain ⟨b', hb'⟩ := hp b hb
        exact hsub _ (hI.put h hh _ _ hb')
    · rw [next_neS _ _ e] at hb
      exact hsub _ (hI.put h hh _ _ hb)
  have hov : acO (c.N h) c.S (c.D h) c.T (c.r h) (c.m h) (c.P h) q g.M o = false := by
    rcases hno with hn | hn
    · simp only [Bool.or_eq_false_iff] at hn
      exact hn.2
    · refine ask_room hcf (hI.lv h hh) hq hat (ho hq) (difI (acI (c.N h) q (g.I h))) (fun i b hb => ?_) hn
      exact (dif_mem _ [] i).2 (.inr (hput i b hb))
  have hnx := ask_next hcf (hI.lv h hh) hq hi hat (ho hq) hov
  have hfar : ∀ i, (g.lev c h q o).M.c c.f i = g.M.c c.f i := fun i => ac_far (by unfold SC.r; omega) i
  refine ⟨fun i => ?_, fun j hj => ?_, fun j hj i b hb => ?_, fun j hj i b hb => ?_, fun j hj => ?_, hfar⟩
  · unfold acW
    rw [if_pos hq, ask_was hcf (hI.lv h hh) hq hat]
  · by_cases e : j = h
    · subst e
      rw [updB_at]
      exact hnx
    · rw [updB_ne _ _ e]
      have hf : c.r j + 1 < c.r h ∨ c.r h + 2 < c.r j := by unfold SC.r; omega
      exact (hI.lv j hj).congr (ac_eq hf)
  · by_cases e : j = h
    · subst e
      rw [updB_at] at hb
      by_cases e2 : i = q.id
      · obtain ⟨k, h1, h2⟩ := hi0
        exact ⟨k, by rw [e2, h1], h2⟩
      · rw [next_neS _ _ e2] at hb
        exact hI.rng j hj i b hb
    · rw [updB_ne _ _ e] at hb
      exact hI.rng j hj i b hb
  · show i ∈ (if j = h then acI (c.N h) q (g.I h) else g.I j)
    by_cases e : j = h
    · subst e
      rw [updB_at] at hb
      rw [if_pos rfl]
      exact hput i b hb
    · rw [updB_ne _ _ e] at hb
      rw [if_neg e]
      exact hI.put j hj i b hb
  · show (if j = h then g.ov h || _ else g.ov j) = false
    by_cases e : j = h
    · rw [if_pos e, hI.ovn h hh, Bool.false_or]
      exact hov
    · rw [if_neg e]
      exact hI.ovn j hj
theorem SIe.gon (hI : SIe c g m ex) (e : Nt) : SIe c (g.gon e) m ex := ⟨hI.lv, hI.rng, hI.wh, hI.ok, hI.put, hI.ovn⟩
theorem wh_same {g' : SG} {m' : Nat → Bm} {h i : Nat} (ht : ∀ i, g'.M.c c.f i = g.M.c c.f i) (hm : m' (h + 1) ((i / 4 : Nat) : Int) = m (h + 1) ((i / 4 : Nat) : Int)) : whN c g' m' h i = whN c g m h i := by
  unfold whN
  rw [hm, ht]
theorem SIe.part (hc : c.Ok) {p id : Nat} (hI : SIe c g m (fun h i => h = p + 1 ∧ i = id / 4 ^ (p + 1))) (hp : p + 1 < c.n) (hid : id < 2 ^ c.b) {D : Dw} (hD : DrwOk c D) {fr : Nt} (hfr : lfN (c.N (p + 1)) fr)
    (hfm : ∀ lf d, m (p + 1) ((id / 4 ^ (p + 1) : Nat) : Int) = some (lf, d) → fr.1 = (lf : Int) + 1) (hst : whN c g m (p + 1) (id / 4 ^ (p + 1)) = (D (p + 1)).1) {o : List Nat} (ho : Ord c g (p + 1) (askP D p id fr) o)
    (hno : (∀ h, h < c.n → (g.lev c (p + 1) (askP D p id fr) o).ov h = false) ∨ (∀ h, h < c.n → (difI ((g.lev c (p + 1) (askP D p id fr) o).I h)).length ≤ c.T)) :
    SIe c (g.lev c (p + 1) (askP D p id fr) o) (updB m (p + 1) (nextB (m (p + 1)) (askP D p id fr))) (fun h i => h = p ∧ i = id / 4 ^ p) ∧
    partN c g D p id fr = whN c g m p (id / 4 ^ p) ∧
    whN c (g.lev c (p + 1) (askP D p id fr) o) (updB m (p + 1) (nextB (m (p + 1)) (askP D p id fr))) p (id / 4 ^ p) = (D p).1 ∧
    (∀ j, j ≠ p → ∀ i, whN c (g.lev c (p + 1) (askP D p id fr) o) (updB m (p + 1) (nextB (m (p + 1)) (askP D p id fr))) j i = whN c g m j i) ∧ (askP D p id fr).ok (c.N (p + 1)) = true := by
  obtain ⟨k, hk⟩ : ∃ k, id / 4 ^ (p + 1) = k := ⟨_, rfl⟩
  obtain ⟨i0, hi0⟩ : ∃ i0, id / 4 ^ p = i0 := ⟨_, rfl⟩
  have hk4 : i0 / 4 = k := by rw [← hi0, ← hk]; exact div_four id p
  have hi0lt : i0 < c.N p := by rw [← hi0]; exact meant_lt p hid
  have hkN : k < c.N (p + 1) := by rw [← hk]; exact meant_lt (p + 1) hid
  have hN1 := SC.N_le hc (p + 1)
  have hN0 := SC.N_le hc p
  have hcf := hc.conf (p + 1) hp
  obtain ⟨q, hqd⟩ : ∃ q, askP D p id fr = q := ⟨_, rfl⟩
  have q_op : q.op = 2 := by rw [← hqd]; rfl
  have q_id : q.id = (k : Int) := by rw [← hqd, ← hk]; rfl
  have q_at : q.at' = ((2 * (i0 % 4) : Nat) : Int) := by rw [← hqd, ← hi0]; rfl
  have q_to : q.to = (D (p + 1)).1.1 - 1 := by rw [← hqd]; exact leafN_of (hD (p + 1) hp).1 hN1.2
  have q_lf : q.lf = fr.1 - 1 := by rw [← hqd]; exact leafN_of hfr hN1.2
  have q_d0 : q.d 0 = (D p).1.1 := by rw [← hqd]; rfl
  have q_d1 : q.d 1 = (D p).1.2 := by rw [← hqd]; rfl
  have hq : q.ok (c.N (p + 1)) = true := by
    rw [← hqd]
    refine ask_ok hN1.2 (by omega) ?_ (.inr ?_) hfr (hD (p + 1) hp).1
    · rw [hk]; omega
    · have := prA_le id p
      omega
  have hpn : partN c g D p id fr = (acW (c.N (p + 1)) c.S (c.D (p + 1)) c.T (c.r (p + 1)) q g.M (3 + 2 * (i0 % 4)), acW (c.N (p + 1)) c.S (c.D (p + 1)) c.T (c.r (p + 1)) q g.M (3 + (2 * (i0 % 4) + 1))) := by
    rw [← hqd, ← hi0]; rfl
  rw [hqd] at ho hno ⊢
  rw [hpn]
  rw [hk] at hI hfm hst
  rw [hi0]
  have hat : ∀ l d, m (p + 1) q.id = some (l, d) → (l : Int) = q.lf := fun l d e => by
    rw [q_id] at e
    have := hfm l d e
    rw [q_lf]; omega
  have hnx : nextB (m (p + 1)) q q.id = some (q.to.toNat, updD (dat (m (p + 1) (k : Int))) q.at' q.d) := by
    rw [next_atS, q_op, q_id]; rfl
  obtain ⟨r1, r2, r3, r4, r5, r6⟩ := hI.lvl hc hp hq ⟨k, q_id, hkN⟩ hat ho (by
    rcases hno with hn | hn
    · left
      have := hn (p + 1) hp
      show _ = false
      unfold SG.lev at this
      simpa using this
    · right
      have := hn (p + 1) hp
      unfold SG.lev at this
      simpa using this) (.inl (by unfold Ask.puts; rw [q_op]; rfl))
  have hfarw : ∀ j, j ≠ p → ∀ i, whN c (g.lev c (p + 1) q o) (updB m (p + 1) (nextB (m (p + 1)) q)) j i = whN c g m j i := fun j hj i => wh_same r6 (by rw [updB_ne _ _ (by omega)])
  have hne : ¬ p + 1 = c.n := by omega
  -- the words of level p, behind
  have hpw : ∀ i, whN c (g.lev c (p + 1) q o) (updB m (p + 1) (nextB (m (p + 1)) q)) p i = if i = i0 then (D p).1 else whN c g m p i := fun i => by
    unfold whN
    rw [if_neg hne, if_neg hne, updB_at]
    by_cases e : i / 4 = k
    · rw [e, ← q_id, hnx, q_id]
      show (updD (dat (m (p + 1) (k : Int))) q.at' q.d (2 * (i % 4)), updD (dat (m (p + 1) (k : Int))) q.at' q.d (2 * (i % 4) + 1)) = _
      unfold updD
      rw [q_at, q_d0, q_d1]
      by_cases e2 : i = i0
      · subst e2
        rw [if_pos rfl, if_pos rfl, if_neg (by omega), if_pos (by omega)]
      · have e3 : i % 4 ≠ i0 % 4 := fun e3 => e2 (by omega)
        rw [if_neg (by omega), if_neg (by omega), if_neg (by omega), if_neg (by omega), if_neg e2]
    · rw [next_neS _ _ (by rw [q_id]; omega), if_neg (fun e2 => e (by rw [e2]; exact hk4))]
  refine ⟨⟨r2, r3, fun j hj i lf d hm hx => ?_, fun j hj i hi => ?_, r4, r5⟩, ?_, ?_, fun j hj i => hfarw j hj i, hq⟩
  · by_cases ej : j = p
    · subst ej
      have hi2 : i ≠ i0 := fun e => hx ⟨rfl, by first | exact e | rw [e, hi0]⟩
      rw [hpw, if_neg hi2]
      rw [updB_ne _ _ (by omega)] at hm
      exact hI.wh j hj i lf d hm (fun k => by omega)
    · rw [hfarw j ej]
      by_cases ej1 : j = p + 1
      · subst ej1
        rw [updB_at] at hm
        by_cases ei : i = k
        · subst ei
          rw [hst]
          rw [← q_id, hnx] at hm
          injection hm with hm
          injection hm with hm _
          have := (hD (p + 1) hp).1.1
          omega
        · rw [next_neS _ _ (by rw [q_id]; omega)] at hm
          exact hI.wh (p + 1) hj i lf d hm (fun k => ei k.2)
      · rw [updB_ne _ _ ej1] at hm
        exact hI.wh j hj i lf d hm (fun k => ej1 k.1)
  · by_cases ej : j = p
    · subst ej
      rw [hpw]
      split
      · have := (hD j (by omega)).1
        exact ⟨by have := this.1; omega, this.2⟩
      · exact hI.ok j hj i hi
    · rw [hfarw j ej]
      exact hI.ok j hj i hi
  · unfold whN
    rw [if_neg hne, r1, r1, q_id, hk4]
    have hcb : ∀ x, x < 8 → cellB (k : Int) (m (p + 1) (k : Int)) (3 + x) = dat (m (p + 1) (k : Int)) x := fun x hx => by
      cases m (p + 1) (k : Int) with
      | none => rfl
      | some b =>
        show blk (k : Int) b.1 b.2 (3 + x) = b.2 x
        unfold blk
        rw [if_neg (by omega), if_neg (by omega), if_neg (by omega), if_pos (by omega), show 3 + x - 3 = x by omega]
    rw [hcb _ (by omega), hcb _ (by omega)]
  · rw [hpw, if_pos rfl]
theorem SIe.last (hc : c.Ok) {id : Nat} (hI : SIe c g m (fun h i => h = 0 ∧ i = id)) (hid : id < 2 ^ c.b) {op : Int} (hop : op = 0 ∨ op = 1 ∨ op = 3) {d : Nat → Int} {D : Dw} (hD : DrwOk c D) {fr : Nt} (hfr : lfN (c.N 0) fr)
    (hfm : ∀ lf d, m 0 (id : Int) = some (lf, d) → fr.1 = (lf : Int) + 1) (hst : whN c g m 0 id = (D 0).1) {o : List Nat} (ho : Ord c g 0 (askL D op id d fr) o)
    (hno : (∀ h, h < c.n → (g.lev c 0 (askL D op id d fr) o).ov h = false) ∨ (∀ h, h < c.n → (difI ((g.lev c 0 (askL D op id d fr) o).I h)).length ≤ c.T)) :
    SIe c (g.lev c 0 (askL D op id d fr) o) (updB m 0 (nextB (m 0) (askL D op id d fr))) (fun _ _ => False) ∧
    (∀ i, acW (c.N 0) c.S (c.D 0) c.T (c.r 0) (askL D op id d fr) g.M i = cellB (id : Int) (m 0 (id : Int)) i) ∧
    (∀ j i, whN c (g.lev c 0 (askL D op id d fr) o) (updB m 0 (nextB (m 0) (askL D op id d fr))) j i = whN c g m j i) ∧
    (∀ i, nextB (m 0) (askL D op id d fr) i = if i = (id : Int) then newM op 0 ((D 0).1.1 - 1).toNat d (m 0 (id : Int)) else m 0 i) ∧ (askL D op id d fr).ok (c.N 0) = true := by
  have hn := hc.n1
  have h0 : 0 < c.n := by omega
  have hN1 := SC.N_le hc 0
  have hkN : id < c.N 0 := by have h := meant_lt (b := c.b) 0 hid; rw [Nat.pow_zero, Nat.div_one] at h; exact h
  obtain ⟨q, hqd⟩ : ∃ q, askL D op id d fr = q := ⟨_, rfl⟩
  have q_op : q.op = op := by rw [← hqd]; rfl
  have q_id : q.id = (id : Int) := by rw [← hqd]; rfl
  have q_at : q.at' = 0 := by rw [← hqd]; rfl
  have q_d : q.d = d := by rw [← hqd]; rfl
  have q_to : q.to = (D 0).1.1 - 1 := by rw [← hqd]; exact leafN_of (hD 0 h0).1 hN1.2
  have q_lf : q.lf = fr.1 - 1 := by rw [← hqd]; exact leafN_of hfr hN1.2
  have hq : q.ok (c.N 0) = true := by
    rw [← hqd]
    exact ask_ok hN1.2 (by omega) (by omega) (.inl (by omega)) hfr (hD 0 h0).1
  rw [hqd] at ho hno ⊢
  have hat : ∀ l d, m 0 q.id = some (l, d) → (l : Int) = q.lf := fun l d e => by
    rw [q_id] at e
    have := hfm l d e
    rw [q_lf]; omega
  have hnx : ∀ i, nextB (m 0) q i = if i = (id : Int) then newM op 0 ((D 0).1.1 - 1).toNat d (m 0 (id : Int)) else m 0 i := fun i => by
    by_cases e : i = (id : Int)
    · rw [if_pos e, e, ← q_id, next_atS, q_op, q_at, q_to, q_d]
    · rw [if_neg e, next_neS _ _ (by rw [q_id]; exact e)]
  obtain ⟨r1, r2, r3, r4, r5, r6⟩ := hI.lvl hc h0 hq ⟨id, q_id, hkN⟩ hat ho (by
    rcases hno with hn | hn
    · left
      have := hn 0 h0
      unfold SG.lev at this
      simpa using this
    · right
      have := hn 0 h0
      unfold SG.lev at this
      simpa using this) (by
    rcases hop with e | e | e
    · right
      intro b hb
      rw [hnx, q_id, if_pos rfl, e] at hb
      rw [q_id]
      cases hm : m 0 (id : Int) with
      | none => rw [hm] at hb; cases hb
      | some b' => exact ⟨b', rfl⟩
    · left
      unfold Ask.puts
      rw [q_op, e]; rfl
    · right
      intro b hb
      rw [hnx, q_id, if_pos rfl, e] at hb
      cases hb)
  have hfarw : ∀ j i, whN c (g.lev c 0 q o) (updB m 0 (nextB (m 0) q)) j i = whN c g m j i := fun j i => wh_same r6 (by rw [updB_ne _ _ (by omega)])
  refine ⟨⟨r2, r3, fun j hj i lf e hm _ => ?_, fun j hj i hi => by rw [hfarw]; exact hI.ok j hj i hi, r4, r5⟩, fun i => by rw [r1, q_id], hfarw, hnx, hq⟩
  rw [hfarw]
  by_cases ej : j = 0
  · subst ej
    rw [updB_at, hnx] at hm
    by_cases ei : i = id
    · subst ei
      rw [if_pos rfl] at hm
      have := newM_leaf hm
      rw [hst]
      have := (hD 0 h0).1.1
      omega
    · rw [if_neg (by omega)] at hm
      exact hI.wh 0 hj i lf e hm (fun k => ei k.2)
  · rw [updB_ne _ _ ej] at hm
    exact hI.wh j hj i lf e hm (fun k => ej k.1)
theorem SIe.top (hc : c.Ok) (hI : SIe c g m (fun _ _ => False)) {id : Nat} (hid : id < 2 ^ c.b) {e : Nt} (he : lfN (c.N (c.n - 1)) e) :
    SIe c (g.top c id e) m (fun h i => h = c.n - 1 ∧ i = id / 4 ^ (c.n - 1)) ∧ topN g c id = whN c g m (c.n - 1) (id / 4 ^ (c.n - 1)) ∧ whN c (g.top c id e) m (c.n - 1) (id / 4 ^ (c.n - 1)) = e ∧ (∀ j, j + 1 < c.n → ∀ i, whN c (g.top c id e) m j i = whN c g m j i) := by
  have hn := hc.n1
  have hk : id / 4 ^ (c.n - 1) < c.N (c.n - 1) := meant_lt _ hid
  have hlast : c.n - 1 + 1 = c.n := by omega
  unfold SG.top topN
  generalize id / 4 ^ (c.n - 1) = k at *
  have hcell : ∀ i, ((g.see c).note c k e).M.c c.f i = if i = k then tpC e else g.M.c c.f i := fun i => by
    show (if c.f = c.f ∧ i < c.N (c.n - 1) ∧ i = k ∧ true = true then tpC e else g.M.c c.f i) = _
    by_cases e : i = k
    · rw [if_pos e, if_pos ⟨rfl, by omega, e, rfl⟩]
    · rw [if_neg e, if_neg (fun q => e q.2.2.1)]
  have hfar : ∀ r, r ≠ c.f → ∀ i, ((g.see c).note c k e).M.c r i = g.M.c r i := fun r hr i => by
    show (if r = c.f ∧ i < c.N (c.n - 1) ∧ i = k ∧ true = true then tpC e else g.M.c r i) = _
    rw [if_neg (fun q => hr q.1)]
  have hw : ∀ i, whN c ((g.see c).note c k e) m (c.n - 1) i = if i = k then e else whN c g m (c.n - 1) i := fun i => by
    unfold whN
    rw [if_pos hlast, if_pos hlast, hcell]
    by_cases e : i = k
    · rw [if_pos e, if_pos e]; rfl
    · rw [if_neg e, if_neg e]
  have hwf : ∀ j, j + 1 < c.n → ∀ i, whN c ((g.see c).note c k e) m j i = whN c g m j i := fun j hj i => by
    unfold whN
    rw [if_neg (by omega), if_neg (by omega)]
  have hE : ∀ h, ∀ q, cellsE (c.r h) ((g.see c).note c k e).M.c q = cellsE (c.r h) g.M.c q := fun h q => hfar _ (by unfold SC.r; omega) _
  refine ⟨⟨fun h hh => (hI.lv h hh).congr (fun q _ => hE h q), hI.rng, fun h hh i lf d hm hx => ?_, fun h hh i hi => ?_, hI.put, hI.ovn⟩, ?_, ?_, hwf⟩
  · by_cases eh : h = c.n - 1
    · have hi : i ≠ k := fun q => hx ⟨eh, q⟩
      rw [eh, hw, if_neg hi, ← eh]
      exact hI.wh h hh i lf d hm (fun q => q)
    · rw [hwf h (by omega)]
      exact hI.wh h hh i lf d hm (fun q => q)
  · by_cases eh : h = c.n - 1
    · rw [eh, hw]
      split
      · obtain ⟨h1, h2⟩ := he
        exact ⟨by omega, h2⟩
      · exact hI.ok _ (by omega) i (eh ▸ hi)
    · rw [hwf h (by omega)]
      exact hI.ok h hh i hi
  · unfold whN
    rw [if_pos hlast]
  · rw [hw, if_pos rfl]
end
end Go.Proofs.YtloibfdcahmhjaaGreat


namespace Go.Proofs.YtloibfdcahmhjaaGreat
set_option maxRecDepth 100000
open Go.RowKit Go.ChangeShapes Go.WideShapes Go.ChangeAt

def NoO (c : SC) (g : SG) : Prop := (∀ h, h < c.n → g.ov h = false) ∨ (∀ h, h < c.n → (difI (g.I h)).length ≤ c.T)
theorem down_suff : ∀ (n : Nat) (l r : List Nat), l ++ r = downL n → r = downL r.length
  | n, [], r, h => by
    have h' : r = downL n := h
    have e : r.length = n := by rw [h', downL_len]
    rw [e]; exact h'
  | 0, _ :: _, _, h => by cases h
  | n + 1, _ :: l, r, h => by
    have h2 : l ++ r = downL n := by
      have h3 : _ :: (l ++ r) = n :: downL n := h
      injection h3
    exact down_suff n l r h2
theorem dif_sub (I : List Int) (x : Int) : (difI I).length ≤ (difI (I ++ [x])).length := by
  rw [difI_snoc]
  unfold addI
  split
  · exact Nat.le_refl _
  · rw [List.length_append]; omega
section
variable {c : SC} {g : SG} {m : Nat → Bm}
theorem acI_sub (N : Nat) (q : Ask) (I : List Int) : (difI I).length ≤ (difI (acI N q I)).length := by
  unfold acI
  split
  · exact dif_sub _ _
  · exact Nat.le_refl _
theorem NoO.lev {h : Nat} {q : Ask} {o : List Nat} (hN : NoO c (g.lev c h q o)) : NoO c g := by
  rcases hN with hN | hN
  · left
    intro j hj
    have := hN j hj
    unfold SG.lev at this
    dsimp only at this
    split at this
    · next e => subst e; simpa using (Bool.or_eq_false_iff.1 this).1
    · exact this
  · right
    intro j hj
    have := hN j hj
    unfold SG.lev at this
    dsimp only at this
    split at this
    · next e => subst e; exact Nat.le_trans (acI_sub _ _ _) this
    · exact this
theorem NoO.gon {e : Nt} (hN : NoO c (g.gon e)) : NoO c g := hN
structure Wp (c : SC) (D : Dw) (id : Nat) (m0 : Bm) (J : List Int) (q : Nat) (g : SG) (e : Nt) (m : Nat → Bm) : Prop where
  inv : SIe c g m (fun h i => h = q ∧ i = id / 4 ^ q)
  st : whN c g m q (id / 4 ^ q) = (D q).1
  eok : okN (c.N q) e
  efm : ∀ lf d, m q ((id / 4 ^ q : Nat) : Int) = some (lf, d) → e.1 = (lf : Int) + 1
  m0 : m 0 = m0
  i0 : g.I 0 = J
theorem Wp.fr {D : Dw} {id : Nat} {m0 : Bm} {J : List Int} {q : Nat} {e : Nt} (h : Wp c D id m0 J q g e m) (hD : DrwOk c D) (hq : q < c.n) : lfN (c.N q) (orN e (D q).2) ∧ ∀ lf d, m q ((id / 4 ^ q : Nat) : Int) = some (lf, d) → (orN e (D q).2).1 = (lf : Int) + 1 := by
  refine ⟨or_lf h.eok (hD q hq).2, fun lf d hm => ?_⟩
  have h1 := h.efm lf d hm
  unfold orN
  rw [if_neg (by omega)]
  exact h1
theorem Rn.walk (hc : c.Ok) {D : Dw} (hD : DrwOk c D) {op : Int} (hop : op = 0 ∨ op = 1 ∨ op = 3) {id : Nat} (hid : id < 2 ^ c.b) {d : Nat → Int} {g0 : SG} {e0 : Nt} {m0 : Bm} {J : List Int} (h0 : ∃ m, Wp c D id m0 J (c.n - 1) g0 e0 m) {l : List Nat} {g : SG} {e : Nt} {r : Nat → Int} {t : Bool} (h : Rn c D op id d g0 e0 l g e r t) :
    ∀ s, l ++ s = downL c.n → NoO c g → (∀ q, s.length = q + 1 → ∃ m, Wp c D id m0 J q g e m) ∧
      (s = [] → ∃ m, SIe c g m (fun _ _ => False) ∧ (∀ i, r (i + 0) = cellB (id : Int) (m0 (id : Int)) (3 + i)) ∧ t = (m0 (id : Int)).isSome ∧ (g.I 0 = if op = 1 then J ++ [(id : Int)] else J) ∧ ∃ to, ∀ i, m 0 i = if i = (id : Int) then newM op 0 to d (m0 (id : Int)) else m0 i) := by
  induction h with
  | nil =>
    intro s hs hN
    have hs' : s = downL c.n := hs
    have hl : s.length = c.n := by rw [hs', downL_len]
    have hn := hc.n1
    refine ⟨fun q hq => ?_, fun e => by rw [e] at hl; simp at hl; omega⟩
    have : q = c.n - 1 := by omega
    subst this
    exact h0
  | part p o h hp ho ih =>
    intro s hs hN
    rw [List.append_assoc] at hs
    have hsf := down_suff _ _ _ hs
    have hlen : s.length = p + 1 := by
      have e2 : ([p + 1] ++ s) = downL (s.length + 1) := by simpa using hsf
      have e3 : (p + 1) :: s = s.length :: downL s.length := e2
      injection e3 with e3 _
      exact e3.symm
    have hN1 := NoO.gon hN.lev
    obtain ⟨m, hw⟩ := (ih _ hs hN1).1 (p + 1) (by simp [hlen])
    obtain ⟨hf1, hf2⟩ := hw.fr hD hp
    have := SIe.part hc (hw.inv.gon _) hp hid hD hf1 hf2 hw.st ho hN
    obtain ⟨r1, r2, r3, r4, _⟩ := this
    refine ⟨fun q hq => ?_, fun e => by rw [e] at hlen; simp at hlen⟩
    have : q = p := by omega
    subst this
    refine ⟨_, r1, r3, ?_, fun lf d hm => ?_, ?_, hw.i0⟩
    · rw [r2]
      exact hw.inv.ok q (by omega) _ (meant_lt q hid)
    · rw [r2]
      rw [updB_ne _ _ (by omega)] at hm
      exact hw.inv.wh q (by omega) _ lf d hm (fun k => by omega)
    · rw [updB_ne _ _ (by omega)]
      exact hw.m0
  | last o h ho ih =>
    intro s hs hN
    rw [List.append_assoc] at hs
    have hsf := down_suff _ _ _ hs
    have hlen : s.length = 0 := by
      have e2 : ([0] ++ s) = downL (s.length + 1) := by simpa using hsf
      have e3 : (0 : Nat) :: s = s.length :: downL s.length := e2
      injection e3 with e3 _
      exact e3.symm
    have hN1 := NoO.gon hN.lev
    obtain ⟨m, hw⟩ := (ih _ hs hN1).1 0 (by simp [hlen])
    have hn := hc.n1
    obtain ⟨hf1, hf2⟩ := hw.fr hD (by omega)
    have e0 : id / 4 ^ 0 = id := by simp
    have hI := hw.inv
    rw [e0] at hI hf2
    have hst := hw.st
    rw [e0] at hst
    obtain ⟨r1, r2, r3, r4, r5⟩ := SIe.last hc (hI.gon _) hid hop hD hf1 hf2 hst ho hN
    refine ⟨fun q hq => by omega, fun _ => ⟨_, r1, fun i => ?_, ?_, ?_, ((D 0).1.1 - 1).toNat, fun i => ?_⟩⟩
    · rw [← hw.m0]
      exact r2 _
    · rw [r2, ← hw.m0]
      exact cellB_has _ _
    · rw [← hw.i0]
      show acI _ _ _ = _
      unfold acI
      rw [r5]
      rcases hop with e | e | e <;> subst e <;> rfl
    · rw [updB_at, r4, ← hw.m0]
theorem Rn.sound2 (hc : c.Ok) {D : Dw} (hD : DrwOk c D) {op : Int} (hop : op = 0 ∨ op = 1 ∨ op = 3) {id : Nat} (hid : id < 2 ^ c.b) {d : Nat → Int} (hI : SIe c g m (fun _ _ => False)) {g' : SG} {e' : Nt} {r : Nat → Int} {t : Bool}
    (h : Rn c D op id d (g.top c id (D (c.n - 1)).1) (topN g c id) (downL c.n) g' e' r t) (hN : NoO c g') :
    ∃ m', SIe c g' m' (fun _ _ => False) ∧ DA r = DA (dat (m 0 (id : Int))) ∧ t = (m 0 (id : Int)).isSome ∧ (g'.I 0 = if op = 1 then g.I 0 ++ [(id : Int)] else g.I 0) ∧ ∃ to, ∀ i, m' 0 i = if i = (id : Int) then newM op 0 to d (m 0 (id : Int)) else m 0 i := by
  have hn := hc.n1
  obtain ⟨r1, r2, r3, r4⟩ := hI.top hc hid (hD (c.n - 1) (by omega)).1
  have h0 : ∃ m1, Wp c D id (m 0) (g.I 0) (c.n - 1) (g.top c id (D (c.n - 1)).1) (topN g c id) m1 := by
    refine ⟨m, r1, r3, ?_, fun lf d hm => ?_, rfl, rfl⟩
    · rw [r2]
      exact hI.ok _ (by omega) _ (meant_lt _ hid)
    · rw [r2]
      exact hI.wh _ (by omega) _ lf d hm (fun k => k)
  obtain ⟨m', q1, q2, q3, q5, q4⟩ := (h.walk hc hD hop hid h0 [] (by simp) hN).2 rfl
  refine ⟨m', q1, ?_, q3, q5, q4⟩
  rw [← cellB_data (id : Int)]
  exact DA_congr fun i _ => q2 i
theorem Rn.sound (hc : c.Ok) {D : Dw} (hD : DrwOk c D) {op : Int} (hop : op = 0 ∨ op = 1 ∨ op = 3) {id : Nat} (hid : id < 2 ^ c.b) {d : Nat → Int} (hI : SIe c g m (fun _ _ => False)) {g' : SG} {e' : Nt} {r : Nat → Int} {t : Bool}
    (h : Rn c D op id d (g.top c id (D (c.n - 1)).1) (topN g c id) (downL c.n) g' e' r t) (hN : NoO c g') :
    ∃ m', SIe c g' m' (fun _ _ => False) ∧ DA r = DA (dat (m 0 (id : Int))) ∧ t = (m 0 (id : Int)).isSome ∧ ∃ to, ∀ i, m' 0 i = if i = (id : Int) then newM op 0 to d (m 0 (id : Int)) else m 0 i := by
  obtain ⟨m', q1, q2, q3, _, q4⟩ := h.sound2 hc hD hop hid hI hN
  exact ⟨m', q1, q2, q3, q4⟩
end
end Go.Proofs.YtloibfdcahmhjaaGreat


namespace Go.Proofs.YtloibfdcahmhjaaGreat
set_option maxRecDepth 100000
open Go.RowKit Go.ChangeShapes Go.WideShapes Go.ChangeAt

def StK (c : SC) (a : SA) (Z : Nat → Prop) (g : SG) (k : Nat) (w : World) : Prop := ∃ ga gc G, StoA c a g ga gc G k w ∧ ∀ i, Z i → i < w.heap.size ∧ ¬ G i
def StB (c : SC) (g : SG) (b : Int → Option (Nat → Int)) : Prop := ∃ m, SIe c g m (fun _ _ => False) ∧ ∀ i, (m 0 i).map (·.2) = b i
def nxD (op : Int) (d : Nat → Int) (x : Option (Nat → Int)) : Option (Nat → Int) := if op = 3 then none else if op = 0 then x else some d
def setD (b : Int → Option (Nat → Int)) (id : Int) (x : Option (Nat → Int)) : Int → Option (Nat → Int) := fun i => if i = id then x else b i
def datD (x : Option (Nat → Int)) : Nat → Int := x.getD fun _ => 0
theorem newM_data {op at' : Int} (hop : op = 0 ∨ op = 1 ∨ op = 3) (to : Nat) (d : Nat → Int) (x : Option (Nat × (Nat → Int))) : (newM op at' to d x).map (·.2) = nxD op d (x.map (·.2)) := by
  rcases hop with rfl | rfl | rfl
  · cases x <;> rfl
  · cases x <;> rfl
  · cases x <;> rfl
theorem dat_data (x : Option (Nat × (Nat → Int))) : dat x = datD (x.map (·.2)) := by cases x <;> rfl
theorem tkN_lf {nw : Nat} {z : Nat → Int} {u N : Nat} (h0 : 0 < N) : lfN N (tkN nw z u N) := by
  have := Nat.mod_lt (told nw z u).toNat h0
  unfold lfN tkN
  dsimp only
  omega
theorem drawn_ok {c : SC} (hc : c.Ok) (g : SG) : DrwOk c (drawn c g) := fun h hh => by
  unfold drawn
  rw [drws_down _ _ _ _ _ _ _ hh]
  exact ⟨tkN_lf (SC.N_le hc h).1, tkN_lf (SC.N_le hc h).1⟩
theorem SIe.drew {c : SC} {g : SG} {m : Nat → Bm} {ex : Nat → Nat → Prop} (h : SIe c g m ex) : SIe c (g.drew c) m ex := ⟨h.lv, h.rng, h.wh, h.ok, h.put, h.ovn⟩
theorem isOp_is {op : Int} {id N : Nat} (h : isOp op id N = true) : (op = 0 ∨ op = 1 ∨ op = 3) ∧ id < N := by
  unfold isOp at h
  simp only [Bool.and_eq_true, Bool.or_eq_true, beq_iff_eq, decide_eq_true_eq] at h
  omega
def Grw (g g' : SG) : Prop := (∀ h, g.ov h = true → g'.ov h = true) ∧ (∀ h, (difI (g.I h)).length ≤ (difI (g'.I h)).length)
theorem Grw.lev {c : SC} {g : SG} {h : Nat} {q : Ask} {o : List Nat} : Grw g (g.lev c h q o) := by
  refine ⟨fun j hj => ?_, fun j => ?_⟩
  · unfold SG.lev
    dsimp only
    split
    · next e => subst e; rw [hj]; rfl
    · exact hj
  · unfold SG.lev
    dsimp only
    split
    · next e => subst e; exact acI_sub _ _ _
    · exact Nat.le_refl _
theorem Grw.trans {g g' g2 : SG} (h : Grw g g') (h2 : Grw g' g2) : Grw g g2 := ⟨fun j hj => h2.1 j (h.1 j hj), fun j => Nat.le_trans (h.2 j) (h2.2 j)⟩
theorem Rn.grw {c : SC} {D : Dw} {op : Int} {id : Nat} {d : Nat → Int} {g0 : SG} {e0 : Nt} {l : List Nat} {g : SG} {e : Nt} {r : Nat → Int} {t : Bool} (h : Rn c D op id d g0 e0 l g e r t) : Grw g0 g := by
  induction h with
  | nil => exact ⟨fun _ h => h, fun _ => Nat.le_refl _⟩
  | part p o h hp ho ih => exact ih.trans (Grw.trans ⟨fun _ h => h, fun _ => Nat.le_refl _⟩ (Grw.lev (g := SG.gon _ _)))
  | last o h ho ih => exact ih.trans (Grw.trans ⟨fun _ h => h, fun _ => Nat.le_refl _⟩ (Grw.lev (g := SG.gon _ _)))
def IdOk (c : SC) (g : SG) : Prop := ∀ h x, x ∈ g.I h → ∃ j : Nat, x = (j : Int) ∧ j < c.N h
theorem IdOk.lev {c : SC} {g : SG} (h : IdOk c g) {l : Nat} {q : Ask} {o : List Nat} (hq : ∃ j : Nat, q.id = (j : Int) ∧ j < c.N l) : IdOk c (g.lev c l q o) := fun j x hx => by
  unfold SG.lev at hx
  dsimp only at hx
  split at hx
  · next e =>
    subst e
    unfold acI at hx
    split at hx
    · rcases List.mem_append.1 hx with hx | hx
      · exact h _ x hx
      · rw [List.mem_singleton] at hx
        rw [hx]; exact hq
    · exact h _ x hx
  · exact h j x hx
theorem Rn.ids {c : SC} {D : Dw} {op : Int} {id : Nat} (hid : id < 2 ^ c.b) {d : Nat → Int} {g0 : SG} {e0 : Nt} {l : List Nat} {g : SG} {e : Nt} {r : Nat → Int} {t : Bool} (h : Rn c D op id d g0 e0 l g e r t) (h0 : IdOk c g0) : IdOk c g := by
  induction h with
  | nil => exact h0
  | part p o h hp ho ih => exact IdOk.lev (g := SG.gon _ _) ih ⟨id / 4 ^ (p + 1), rfl, meant_lt _ hid⟩
  | last o h ho ih => exact IdOk.lev (g := SG.gon _ _) ih ⟨id, rfl, by have := meant_lt (b := c.b) 0 hid; rw [Nat.pow_zero, Nat.div_one] at this; exact this⟩
def upTo (n : Nat) : List Int := (List.range n).map fun (j : Nat) => (j : Int)
theorem IdOk.len {c : SC} {g : SG} (h : IdOk c g) (l : Nat) : (difI (g.I l)).length ≤ c.N l := by
  have := difI_le (g.I l) (upTo (c.N l)) fun x hx => by
    obtain ⟨j, rfl, hj⟩ := h l x hx
    exact List.mem_map.2 ⟨j, List.mem_range.2 hj, rfl⟩
  simpa [upTo] using this
section
variable {c : SC} {a : SA} {Z Z' : Nat → Prop} {g : SG} {k : Nat} {w w' : World}
theorem StK.weak (h : StK c a Z g k w) (hz : ∀ i, Z' i → Z i) : StK c a Z' g k w := by
  obtain ⟨ga, gc, G, h1, h2⟩ := h
  exact ⟨ga, gc, G, h1, fun i hi => h2 i (hz i hi)⟩
theorem StK.lt (h : StK c a Z g k w) {i : Nat} (hi : Z i) : i < w.heap.size := by obtain ⟨_, _, _, _, h2⟩ := h; exact (h2 i hi).1
theorem StK.grow (h : StK c a Z g k w) (ho : Only nobody w w') : StK c a (fun i => Z i ∨ (w.heap.size ≤ i ∧ i < w'.heap.size)) g k w' := by
  obtain ⟨ga, gc, G, h1, h2⟩ := h
  refine ⟨ga, gc, G, h1.nob ho, fun i hi => ?_⟩
  rcases hi with hi | hi
  · exact ⟨Nat.lt_of_lt_of_le (h2 i hi).1 ho.size, (h2 i hi).2⟩
  · exact ⟨hi.2, fun hg => by have := h1.lt i hg; omega⟩
theorem StK.nob (h : StK c a Z g k w) (ho : Only nobody w w') : StK c a Z g k w' := (h.grow ho).weak fun _ hi => .inl hi
theorem StK.only (h : StK c a Z g k w) {Y : Nat → Prop} (ho : Only Y w w') (hY : ∀ i, Y i → Z i) : StK c a Z g k w' := by
  obtain ⟨ga, gc, G, h1, h2⟩ := h
  exact ⟨ga, gc, G, h1.keep ho (fun i hi hy => (h2 i (hY i hy)).2 hi), fun i hi => ⟨Nat.lt_of_lt_of_le (h2 i hi).1 ho.size, (h2 i hi).2⟩⟩
theorem StK.access (hc : c.Ok) (h : StK c a Z g k w) (op : Int) (id : Nat) (d : Nat → Int) (hop : isOp op id (2 ^ c.b) = true) (hd : ∀ j, 0 ≤ d j ∧ d j ≤ 18446744073709551615) (hk : k < 19900) :
    Calls Tryz.prog 47 #[.pointer (some ⟨a.sp, 0, none⟩), .int .i64 op, .int .u64 (id : Int), .agg (DA d)] w fun r w' =>
      ∃ g' rr t, r = .returned (.tuple #[.agg (DA rr), .bool t]) ∧ StK c a Z g' (k + 20) w' ∧ Kept Z w w' ∧ Grw g g' ∧ (IdOk c g → IdOk c g') ∧
        (NoO c g' → ∀ b, StB c g b → DA rr = DA (datD (b (id : Int))) ∧ t = (b (id : Int)).isSome ∧ StB c g' (setD b (id : Int) (nxD op d (b (id : Int))))) := by
  obtain ⟨ga, gc, G, h1, h2⟩ := h
  obtain ⟨hop1, hid⟩ := isOp_is hop
  refine (h1.access hc op id d hop hd hk).mono ?_
  rintro r w' ⟨g', e', rr, t, hR, rfl, ga', gc', G', s1, s2, s3, s4⟩
  refine ⟨g', rr, t, rfl, ⟨ga', gc', G', s1, fun i hi => s3 i (h2 i hi)⟩, s4.mono (fun i _ hi hz => (h2 i hz).2 hi), ?_, fun h0 => Rn.ids hid hR h0, fun hN b hb => ?_⟩
  · exact Grw.trans ⟨fun _ h => h, fun _ => Nat.le_refl _⟩ hR.grw
  · obtain ⟨m, hI, hm⟩ := hb
    obtain ⟨m', q1, q2, q3, to, q4⟩ := Rn.sound hc (drawn_ok hc g) hop1 hid hI.drew hR hN
    refine ⟨?_, ?_, m', q1, fun i => ?_⟩
    · rw [q2, dat_data, hm]
    · rw [q3, ← hm]
      cases m 0 (id : Int) <;> rfl
    · rw [q4]
      unfold setD
      split
      · rw [newM_data hop1, hm]
      · exact hm i
end
end Go.Proofs.YtloibfdcahmhjaaGreat


namespace Go.Proofs.YtloibfdcahmhjaaGreat
set_option maxRecDepth 100000
open Go.RowKit Go.ChangeShapes Go.WideShapes Go.ChangeAt Go.Maps Go.Deep

theorem StK.alloc {c : SC} {a : SA} {Z : Nat → Prop} {g : SG} {k : Nat} {w : World} (h : StK c a Z g k w) (o : Obj) : StK c a (fun i => Z i ∨ i = w.heap.size) g k (w.alloc o) :=
  (h.grow ((Only.refl nobody w).alloc o)).weak fun i hi => hi.imp id (fun e => by subst e; exact ⟨Nat.le_refl _, by simp⟩)
structure StS (c : SC) (a : SA) (W : World) (Z : Nat → Prop) (F : World → Prop) (g : SG) (k : Nat) (wr : World) : Prop where
  sk : StK c a Z g k wr
  hz : ∀ i, i < W.heap.size → Z i
  hF : F wr
  st : ∀ u u', W.heap.size ≤ u.heap.size → Kept Z u u' → F u → F u'
  kp : Below W.heap.size W wr
section
variable {c : SC} {a : SA} {W : World} {Z : Nat → Prop} {F : World → Prop} {g : SG} {k : Nat} {wr w' : World}
theorem StS.nob (h : StS c a W Z F g k wr) (ho : Only nobody wr w') : StS c a W Z F g k w' :=
  ⟨h.sk.nob ho, h.hz, h.st _ _ h.kp.size (Kept.of_none ho) h.hF, h.st, below_only h.kp ho h.kp.size (fun _ _ h => h)⟩
theorem StS.drew (h : StS c a W Z F g k wr) : StS c a W Z F g k wr.drew := h.nob (Only.refl _ _).drew
theorem StS.also {G : World → Prop} (h : StS c a W Z F g k wr) (hG : G wr) (st : ∀ u u', W.heap.size ≤ u.heap.size → Kept Z u u' → G u → G u') : StS c a W Z (fun u => F u ∧ G u) g k wr :=
  ⟨h.sk, h.hz, ⟨h.hF, hG⟩, fun u u' hs hk g => ⟨h.st u u' hs hk g.1, st u u' hs hk g.2⟩, h.kp⟩
theorem StS.grow (h : StS c a W Z F g k wr) (o : Obj) {b : Nat} (hb : wr.heap.size = b) : StS c a W (fun i => Z i ∨ i = b) F g k (wr.alloc o) := by
  subst hb
  have ho : Only nobody wr (wr.alloc o) := (Only.refl _ _).alloc _
  exact ⟨h.sk.alloc o, fun i hi => .inl (h.hz i hi), h.st _ _ h.kp.size (Kept.of_none ho) h.hF, fun u u' hs hk g => h.st u u' hs (hk.mono fun i hi => .inl hi) g, below_only h.kp ho h.kp.size (fun _ _ h => h)⟩
theorem StS.box (h : StS c a W Z F g k wr) (t : TypeId) (cs : Array Value) {b : Nat} (hb : wr.heap.size = b) :
    StS c a W (fun i => Z i ∨ i = b) (fun u => F u ∧ Box u b t cs) g k (wr.alloc (.cells cs t)) :=
  (h.grow (.cells cs t) hb).also (by rw [← hb]; exact Box.new wr t cs) (fun _ _ _ hk g => hk.box g (.inr rfl))
theorem StS.row (h : StS c a W Z F g k wr) (t : TypeId) (f : Nat → Value) (o : Obj) {b n : Nat} (hb : wr.heap.size = b) (hr : (wr.alloc o).rowIs b t n f) :
    StS c a W (fun i => Z i ∨ i = b) (fun u => F u ∧ u.rowIs b t n f) g k (wr.alloc o) :=
  (h.grow o hb).also hr (fun _ _ _ hk g => hk.row g (.inr rfl))
theorem StS.put {Y : Nat → Prop} {G : World → Prop} (h : StS c a W Z F g k wr) (ho : Only Y wr w') (hY : ∀ i, Y i → Z i ∧ W.heap.size ≤ i) (hG : G w') (st : ∀ u u', W.heap.size ≤ u.heap.size → Kept Z u u' → G u → G u') : StS c a W Z G g k w' :=
  ⟨h.sk.only ho (fun i hi => (hY i hi).1), h.hz, hG, st, below_only h.kp ho h.kp.size (fun i hi e => by have := (hY i e).2; omega)⟩
theorem StS.back {Z0 : Nat → Prop} {G : World → Prop} (h : StS c a W Z (fun u => F u ∧ G u) g k wr) (h0 : ∀ i, Z0 i → Z i) (hz0 : ∀ i, i < W.heap.size → Z0 i) (stF : ∀ u u', W.heap.size ≤ u.heap.size → Kept Z0 u u' → F u → F u') : StS c a W Z0 F g k wr :=
  ⟨h.sk.weak h0, hz0, h.hF.1, stF, h.kp⟩
theorem StS.step (hc : c.Ok) (h : StS c a W Z F g k wr) (op : Int) (id : Nat) (d : Nat → Int) (hop : isOp op id (2 ^ c.b) = true) (hd : ∀ j, 0 ≤ d j ∧ d j ≤ 18446744073709551615) (hk : k < 19900) :
    Calls Tryz.prog 47 #[.pointer (some ⟨a.sp, 0, none⟩), .int .i64 op, .int .u64 (id : Int), .agg (DA d)] wr fun r w' =>
      ∃ g' rr t, r = .returned (.tuple #[.agg (DA rr), .bool t]) ∧ Grw g g' ∧ (IdOk c g → IdOk c g') ∧
        (NoO c g' → ∀ b, StB c g b → DA rr = DA (datD (b (id : Int))) ∧ t = (b (id : Int)).isSome ∧ StB c g' (setD b (id : Int) (nxD op d (b (id : Int))))) ∧ StS c a W Z F g' (k + 20) w' := by
  refine (h.sk.access hc op id d hop hd hk).mono ?_
  rintro r w' ⟨g', rr, t, rfl, hS, hK, h1, h2, h3⟩
  exact ⟨g', rr, t, rfl, h1, h2, h3, hS, h.hz, h.st _ _ h.kp.size hK h.hF, h.st, h.kp.trans ((hK.mono h.hz).below h.kp.size (fun _ h => h))⟩
theorem StS.over (hc : c.Ok) (h : StS c a W Z F g k wr) : Calls Tryz.prog 50 #[.pointer (some ⟨a.sp, 0, none⟩)] wr fun e w' => e = .returned (.bool (ovN g c.n)) ∧ w' = wr := by
  obtain ⟨_, _, _, h1, _⟩ := h.sk
  exact h1.over hc
theorem StS.counts (hc : c.Ok) (h : StS c a W Z F g k wr) : Calls Tryz.prog 53 #[.pointer (some ⟨a.sp, 0, none⟩)] wr (SzPost wr (ctL g c.n)) := by
  obtain ⟨_, _, _, h1, _⟩ := h.sk
  exact h1.counts hc
end
theorem StS.made {c : SC} {a : SA} {W w3 w4 : World} {g : SG} {F : World → Prop} (hS : StoA c a g none 0 (fun i => w3.heap.size ≤ i ∧ i < w4.heap.size) 0 w4) (ho : Only nobody w3 w4) (hB : Below W.heap.size W w3) (hF : F w3) (st : ∀ u u', W.heap.size ≤ u.heap.size → Kept (fun i => i < w3.heap.size) u u' → F u → F u') :
    StS c a W (fun i => i < w3.heap.size) F g 0 w4 :=
  ⟨⟨none, 0, _, hS, fun i hi => ⟨Nat.lt_of_lt_of_le hi ho.size, fun h => by omega⟩⟩, fun i hi => by have := hB.size; omega, st _ _ hB.size (Kept.of_none ho) hF, st, below_only hB ho hB.size (fun _ _ h => h)⟩
theorem stB_new (c : SC) (nz : Nat) (z : Nat → Int) : StB c (sg0 c nz z) (fun _ => none) := by
  have h0 : ∀ h i, whN c (sg0 c nz z) (fun _ _ => none) h i = (0, 0) := fun h i => by
    unfold whN
    split <;> rfl
  refine ⟨fun _ _ => none, ⟨fun h _ => LvInv.new _ _ _, fun h _ i b hb => (by cases hb), fun h _ i lf d hm => (by cases hm), fun h _ i _ => ?_, fun h _ i b hb => (by cases hb), fun _ _ => rfl⟩, fun _ => rfl⟩
  rw [h0]
  exact ⟨Int.le_refl _, Int.natCast_nonneg _⟩
theorem stB_none (c : SC) (nz : Nat) (z : Nat → Int) : SIe c (sg0 c nz z) (fun _ _ => none) (fun _ _ => False) := by
  have h0 : ∀ h i, whN c (sg0 c nz z) (fun _ _ => none) h i = (0, 0) := fun h i => by
    unfold whN
    split <;> rfl
  refine ⟨fun h _ => LvInv.new _ _ _, fun h _ i b hb => (by cases hb), fun h _ i lf d hm => (by cases hm), fun h _ i _ => ?_, fun h _ i b hb => (by cases hb), fun _ _ => rfl⟩
  rw [h0]
  exact ⟨Int.le_refl _, Int.natCast_nonneg _⟩
theorem idOk_new (c : SC) (nz : Nat) (z : Nat → Int) : IdOk c (sg0 c nz z) := fun _ _ hx => absurd hx List.not_mem_nil
theorem StB.ovn {c : SC} {g : SG} {b : Int → Option (Nat → Int)} (h : StB c g b) : ovN g c.n = false := by
  obtain ⟨m, hm, _⟩ := h
  exact (ovN_iff g c.n).2 hm.ovn
theorem noO_over {c : SC} {g : SG} (h : ovN g c.n = false) : NoO c g := .inl ((ovN_iff g c.n).1 h)
end Go.Proofs.YtloibfdcahmhjaaGreat


namespace Go.Proofs.YtloibfdcahmhjaaGreat
set_option maxRecDepth 100000
open Go.RowKit Go.ChangeShapes Go.WideShapes Go.ChangeAt Go.Maps

def shZ (j : Nat) : Int := [3, 1, 4, 1, 5, 9].getD j 0
theorem shZ_rng (j : Nat) (h : j < 6) : 0 ≤ shZ j ∧ shZ j ≤ 18446744073709551615 := by
  have : j = 0 ∨ j = 1 ∨ j = 2 ∨ j = 3 ∨ j = 4 ∨ j = 5 := by omega
  rcases this with rfl | rfl | rfl | rfl | rfl | rfl <;> decide
theorem shZ_nums (w : World) : Nums .u64 (w.alloc (.cells #[.int .u64 3, .int .u64 1, .int .u64 4, .int .u64 1, .int .u64 5, .int .u64 9] 43)) (w.alloc (.cells #[.int .u64 3, .int .u64 1, .int .u64 4, .int .u64 1, .int .u64 5, .int .u64 9] 43)).heap.size (some ⟨w.heap.size, 0, none⟩) 6 shZ := fun _ => by
  have hb := Box.new w 43 #[.int .u64 3, .int .u64 1, .int .u64 4, .int .u64 1, .int .u64 5, .int .u64 9]
  refine ⟨w.heap.size, 0, rfl, hb.lt, fun j hj => ?_⟩
  rw [Nat.zero_add]
  have : j = 0 ∨ j = 1 ∨ j = 2 ∨ j = 3 ∨ j = 4 ∨ j = 5 := by omega
  rcases this with rfl | rfl | rfl | rfl | rfl | rfl
  · exact hb.cell 0
  · exact hb.cell 1
  · exact hb.cell 2
  · exact hb.cell 3
  · exact hb.cell 4
  · exact hb.cell 5
set_option linter.unusedSimpArgs false in
set_option maxRecDepth 100000 in
set_option linter.unusedSimpArgs false in
set_option maxHeartbeats 4000000 in
theorem sshown_of (w : World) : Calls Tryz.prog 41 #[] w fun e w' => e = .returned (.bool true) ∧ Below w.heap.size w w' := by
  obtain ⟨c, hc, hb, hS, hT, hn, hf, hQ⟩ := sc_mk 2 2 4 1 1 (by omega) (by omega) (by omega) (by omega) (by omega) (by omega) (by omega) (by omega)
  have eB : c.B = 4 := by rw [← hc.bB, hb]; rfl
  have eS : (c.S : Int) = 2 := by rw [hS]; rfl
  have eT : (c.T : Int) = 4 := by rw [hT]; rfl
  have en : (c.n : Int) = 1 := by rw [hn]; rfl
  have q1 : c.b ≤ 5 := by rw [hb]; decide
  have q2 : c.S ≤ 3 := by rw [hS]; decide
  have q3 : c.T ≤ 8 := by rw [hT]; decide
  have q4 : c.n ≤ 3 := by rw [hn]; decide
  have HMd := Lib.hid (fun (W : World) (A : Option Addr) (nz cz : Nat) (z : Nat → Int) (hz : Nums .u64 W W.heap.size A nz z) (hnz : nz ≤ 1000) (hzr : ∀ j, j < nz → 0 ≤ z j ∧ z j ≤ 18446744073709551615) => smade_of hc hf q1 q2 q3 q4 hQ A nz cz z W hz hnz hzr)
  rw [eB, eS, eT, en] at HMd
  have HOp : Hid (∀ op : Int, (op = 0 ∨ op = 1) → ∀ id, id < 4 → isOp op id (2 ^ c.b) = true) := Lib.hid (by
    intro op hop id hid
    rw [hb]
    unfold isOp
    rcases hop with rfl | rfl <;> simp [hid])
  have HNo : Hid (∀ g, IdOk c g → NoO c g) := Lib.hid (by
    intro g hg
    refine .inr fun h hh => ?_
    have h0 : h = 0 := by omega
    subst h0
    refine Nat.le_trans (hg.len 0) ?_
    unfold SC.N
    rw [hb, hT]
    decide)
  have HB0 := Lib.hid (stB_new c 6 shZ)
  have HI0 := Lib.hid (idOk_new c 6 shZ)
  have HC := Lib.hid hc
  clear hc hb hS hT hn hf hQ eB eS eT en q1 q2 q3 q4
  obtain ⟨w1, hw1⟩ : ∃ w1, w.alloc (.cells #[.int .u64 3, .int .u64 1, .int .u64 4, .int .u64 1, .int .u64 5, .int .u64 9] 43) = w1 := ⟨_, rfl⟩
  have HZ1 : Hid (Nums .u64 w1 w1.heap.size (some ⟨w.heap.size, 0, none⟩) 6 shZ) := Lib.hid (by rw [← hw1]; exact shZ_nums w)
  have HB1 : Hid (Below w.heap.size w w1) := Lib.hid (by rw [← hw1]; exact (Below.refl _ w).alloc (Nat.le_refl _) _)
  go_enter Tryz.func41, Tryz.ntmps41
  go_wp2_with fail
  try rw [hw1]
  refine (HMd.out _ _ 6 6 shZ HZ1.out (by decide) shZ_rng).mono ?_
  rintro e w2 ⟨a, rfl, hSt, ho2⟩
  have hE : StS c a w (fun i => i < w1.heap.size) (fun _ => True) (sg0 c 6 shZ) 0 w2 := StS.made hSt ho2 HB1.out trivial (fun _ _ _ _ _ => trivial)
  have HE2 := Lib.hid hE
  clear hE hSt ho2 hw1 HMd HZ1 HB1
  generalize (fun i => i < w1.heap.size) = Z at *
  generalize sg0 c 6 shZ = g0 at *
  clear w1
  go_wp2_with fail
  refine (sdata_of 5 _).mono ?_
  rintro e w3 ⟨rfl, hb3⟩
  have HE3 := Lib.hid (HE2.out.nob (Only.of_below hb3))
  clear hb3 HE2
  go_wp2_with fail
  refine (HE3.out.step HC.out 1 3 (dw 5) (HOp.out 1 (.inr rfl) 3 (by decide)) (fun j => dw_rng 5 j) (by decide)).mono ?_
  rintro e w4 ⟨g1, rr, t, rfl, hG1, hI1, hN1, hE4⟩
  clear hG1
  have HI1 := Lib.hid (hI1 HI0.out)
  obtain ⟨e1, f2, e3⟩ := hN1 (HNo.out _ HI1.out) _ HB0.out
  clear e1
  have e2 : t = false := f2
  clear f2
  subst e2
  have HB1 : Hid (StB c g1 (setD (fun _ => none) 3 (some (dw 5)))) := Lib.hid e3
  have HE4 := Lib.hid hE4
  clear hE4 hI1 hN1 e3 HE3 HB0 HI0
  go_upto_region 5 with (refine wpList_store_newD rfl (.tmp 4) (.tmp 23) rfl rfl _ rfl rfl ?_)
  have HE5 := Lib.hid (HE4.out.nob ((Only.refl nobody w4).alloc (.cells (DA rr) 48)))
  generalize w4.heap.size = nb at *
  clear HE4
  generalize w4.alloc (.cells (DA rr) 48) = w5 at *
  go_wp2_with fail
  refine (HE5.out.step HC.out 0 3 (fun _ => 0) (HOp.out 0 (.inl rfl) 3 (by decide)) (fun _ => ⟨Int.le_refl 0, by show (0 : Int) ≤ 18446744073709551615; decide⟩) (by decide)).mono ?_
  rintro e w6 ⟨g2, rr2, t, rfl, hG2, hI2, hN2, hE6⟩
  clear hG2
  have HI2 := Lib.hid (hI2 HI1.out)
  obtain ⟨e1, f2, e3⟩ := hN2 (HNo.out _ HI2.out) _ HB1.out
  have e2 : t = true := f2
  clear f2
  subst e2
  have g1' : DA rr2 = DA (dw 5) := e1
  rw [g1']
  clear g1'
  have HB2 := Lib.hid e3
  have HE6 := Lib.hid hE6
  clear hE6 hI2 hN2 e3 e1 HE5 HB1 HI1
  have HBZ0 : (setD (setD (fun _ => none) 3 (some (dw 5))) 3 (nxD 0 (fun _ => 0) (setD (fun _ => none) 3 (some (dw 5)) 3)) ((2 : Nat) : Int)).isSome = false := by simp [setD]
  have HBZ1 := Lib.hid HBZ0
  clear HBZ0
  go_upto_region 6 with (refine wpList_store_newD rfl (.tmp 6) (.tmp 29) rfl rfl _ rfl rfl ?_)
  obtain ⟨nx, hnx⟩ : ∃ b, w6.heap.size = b := ⟨_, rfl⟩
  have HE7 := Lib.hid (HE6.out.box 48 (DA (dw 5)) hnx)
  rw [hnx]
  clear HE6 hnx
  generalize w6.alloc (.cells (DA (dw 5)) 48) = w7 at *
  go_wp2_with fail
  refine (HE7.out.step HC.out 0 2 (fun _ => 0) (HOp.out 0 (.inl rfl) 2 (by decide)) (fun _ => ⟨Int.le_refl 0, by show (0 : Int) ≤ 18446744073709551615; decide⟩) (by decide)).mono ?_
  rintro e w8 ⟨g3, rr3, t, rfl, hG3, hI3, hN3, hE8⟩
  clear hG3
  obtain ⟨e1, f2, e3⟩ := hN3 (HNo.out _ (hI3 HI2.out)) _ HB2.out
  clear e1
  have e2 : t = false := f2.trans HBZ1.out
  clear f2
  subst e2
  have HOv := Lib.hid e3.ovn
  have HE8 := Lib.hid hE8
  clear hE8 hI3 hN3 e3 HE7 HB2 HI2
  go_upto_region 7 with (refine wpList_store_newD rfl (.tmp 8) (.tmp 35) rfl rfl _ rfl rfl ?_)
  have hE := (HE8.out.nob ((Only.refl nobody w8).alloc (.cells (DA rr3) 48))).drew
  generalize w8.heap.size = nz at *
  clear HE8
  generalize w8.alloc (.cells (DA rr3) 48) = w9 at *
  refine held_s (S := fun u => Box u nx 48 (DA (dw 5))) 20 rfl (by kernel_rfl) hE.hF.2 (fun hHeld => ?_)
  simp only [Array.replicate_succ, Array.replicate_zero, List.push_toArray, List.nil_append, List.cons_append]
  generalize w9.drew = wd at *
  refine wpAnyH_take (i := 0) (oi := ⟨some 37, _, _, _, _, _⟩) (v := (.bool false)) rfl (by kernel_rfl) (by kernel_rfl) (by kernel_rfl) (fun _ _ _ h => h) (Or.inl ⟨by rfl, fun w' hw => by go_simp⟩) hHeld ?_
  try simp only [Act.put, List.setIfInBounds_toArray, List.set_cons_zero, List.set_cons_succ]
  refine wpAnyH_take (i := 1) (oi := ⟨some 38, _, _, _, _, _⟩) (v := (.bool true)) rfl (by kernel_rfl) (by kernel_rfl) (by kernel_rfl) (fun _ _ _ h => h) (Or.inl ⟨by rfl, fun w' hw => by go_simp⟩) hHeld ?_
  try simp only [Act.put, List.setIfInBounds_toArray, List.set_cons_zero, List.set_cons_succ]
  refine wpAnyH_take (i := 2) (oi := ⟨some 39, _, _, _, _, _⟩) (v := (.bool true)) rfl (by kernel_rfl) (by kernel_rfl) (by kernel_rfl) (fun _ _ _ h => h) (Or.inl ⟨by rfl, fun w' hw => by go_simp⟩) hHeld ?_
  try simp only [Act.put, List.setIfInBounds_toArray, List.set_cons_zero, List.set_cons_succ]
  refine wpAnyH_take (i := 3) (oi := ⟨some 40, _, _, _, _, _⟩) (v := (.bool true)) rfl (by kernel_rfl) (by kernel_rfl) (by kernel_rfl) (fun _ _ _ h => h) (Or.inl ⟨by rfl, fun w' hw => by go_simp⟩) hHeld ?_
  try simp only [Act.put, List.setIfInBounds_toArray, List.set_cons_zero, List.set_cons_succ]
  refine wpAnyH_take (i := 4) (oi := ⟨some 41, _, _, _, _, _⟩) (v := (.bool true)) rfl (by kernel_rfl) (by kernel_rfl) (by kernel_rfl) (fun _ _ _ h => h) (Or.inl ⟨by rfl, fun w' hw => by go_simp⟩) hHeld ?_
  try simp only [Act.put, List.setIfInBounds_toArray, List.set_cons_zero, List.set_cons_succ]
  refine wpAnyH_take (i := 5) (oi := ⟨some 42, _, _, _, _, _⟩) (v := (.bool true)) rfl (by kernel_rfl) (by kernel_rfl) (by kernel_rfl) (fun _ _ _ h => h) (Or.inl ⟨by rfl, fun w' hw => by go_simp⟩) hHeld ?_
  try simp only [Act.put, List.setIfInBounds_toArray, List.set_cons_zero, List.set_cons_succ]
  refine take_row 6 (oi := ⟨some 43, _, _, _, _, _⟩) (DA (dw 5)).toList rfl (by kernel_rfl) (by kernel_rfl) (by kernel_rfl) (fun _ _ _ h => h) (by rfl) _ _ rfl _ _ rfl _ (fun w' hw => hw.range) Tryz.underlying48 rfl (infoData (dw 5)) hHeld ?_
  try simp only [Act.put, List.setIfInBounds_toArray, List.set_cons_zero, List.set_cons_succ]
  refine one_ready 7 rfl (by kernel_rfl) (fun K hK => ?_)
  go_simp
  refine (sdata_of 5 _).mono ?_
  rintro e w13 ⟨rfl, hb⟩
  have ho : Only nobody _ w13 := Only.of_below hb
  have hE := hE.nob ho
  refine hK.out _ _ hE.hF.2 (fun hHeld => ?_)
  clear hK K ho hb
  try simp only [Act.put, List.setIfInBounds_toArray, List.set_cons_zero, List.set_cons_succ]
  refine wpAnyH_take (i := 8) (oi := ⟨some 45, _, _, _, _, _⟩) (v := (.bool true)) rfl (by kernel_rfl) (by kernel_rfl) (by kernel_rfl) (fun _ _ _ h => h) (Or.inl ⟨by rfl, fun w' hw => by (have q1 := eql_data (dw 5) (dw 5); rw [deq_self] at q1; go_simp)⟩) hHeld ?_
  try simp only [Act.put, List.setIfInBounds_toArray, List.set_cons_zero, List.set_cons_succ]
  refine wpAnyH_take (i := 9) (oi := ⟨some 46, _, _, _, _, _⟩) (v := (.bool true)) rfl (by kernel_rfl) (by kernel_rfl) (by kernel_rfl) (fun _ _ _ h => h) (Or.inl ⟨by rfl, fun w' hw => by go_simp⟩) hHeld ?_
  try simp only [Act.put, List.setIfInBounds_toArray, List.set_cons_zero, List.set_cons_succ]
  refine wpAnyH_take (i := 10) (oi := ⟨some 47, _, _, _, _, _⟩) (v := (.bool true)) rfl (by kernel_rfl) (by kernel_rfl) (by kernel_rfl) (fun _ _ _ h => h) (Or.inl ⟨by rfl, fun w' hw => by go_simp⟩) hHeld ?_
  try simp only [Act.put, List.setIfInBounds_toArray, List.set_cons_zero, List.set_cons_succ]
  refine wpAnyH_take (i := 11) (oi := ⟨some 48, _, _, _, _, _⟩) (v := (.bool false)) rfl (by kernel_rfl) (by kernel_rfl) (by kernel_rfl) (fun _ _ _ h => h) (Or.inl ⟨by rfl, fun w' hw => by go_simp⟩) hHeld ?_
  try simp only [Act.put, List.setIfInBounds_toArray, List.set_cons_zero, List.set_cons_succ]
  refine wpAnyH_take (i := 12) (oi := ⟨some 49, _, _, _, _, _⟩) (v := (.bool true)) rfl (by kernel_rfl) (by kernel_rfl) (by kernel_rfl) (fun _ _ _ h => h) (Or.inl ⟨by rfl, fun w' hw => by go_simp⟩) hHeld ?_
  try simp only [Act.put, List.setIfInBounds_toArray, List.set_cons_zero, List.set_cons_succ]
  refine wpAnyH_take (i := 13) (oi := ⟨some 50, _, _, _, _, _⟩) (v := (.bool true)) rfl (by kernel_rfl) (by kernel_rfl) (by kernel_rfl) (fun _ _ _ h => h) (Or.inl ⟨by rfl, fun w' hw => by go_simp⟩) hHeld ?_
  try simp only [Act.put, List.setIfInBounds_toArray, List.set_cons_zero, List.set_cons_succ]
  refine wpAnyH_take (i := 14) (oi := ⟨some 51, _, _, _, _, _⟩) (v := (.bool true)) rfl (by kernel_rfl) (by kernel_rfl) (by kernel_rfl) (fun _ _ _ h => h) (Or.inl ⟨by rfl, fun w' hw => by go_simp⟩) hHeld ?_
  try simp only [Act.put, List.setIfInBounds_toArray, List.set_cons_zero, List.set_cons_succ]
  refine wpAnyH_take (i := 15) (oi := ⟨some 52, _, _, _, _, _⟩) (v := (.pointer (some ⟨a.sp, 0, none⟩))) rfl (by kernel_rfl) (by kernel_rfl) (by kernel_rfl) (fun _ _ _ h => h) (Or.inl ⟨by rfl, fun w' hw => by go_simp⟩) hHeld ?_
  try simp only [Act.put, List.setIfInBounds_toArray, List.set_cons_zero, List.set_cons_succ]
  refine one_ready 16 rfl (by kernel_rfl) (fun K hK => ?_)
  go_simp
  refine (hE.over HC.out).mono ?_
  rintro e w13 ⟨rfl, he⟩
  rw [he, HOv.out]
  refine hK.out _ _ hHeld (fun hHeld => ?_)
  clear hK K he w13
  try simp only [Act.put, List.setIfInBounds_toArray, List.set_cons_zero, List.set_cons_succ]
  refine wpAnyH_take (i := 17) (oi := ⟨some 54, _, _, _, _, _⟩) (v := (.bool true)) rfl (by kernel_rfl) (by kernel_rfl) (by kernel_rfl) (fun _ _ _ h => h) (Or.inl ⟨by rfl, fun w' hw => by go_simp⟩) hHeld ?_
  try simp only [Act.put, List.setIfInBounds_toArray, List.set_cons_zero, List.set_cons_succ]
  refine wpAnyH_take (i := 18) (oi := ⟨some 55, _, _, _, _, _⟩) (v := (.bool true)) rfl (by kernel_rfl) (by kernel_rfl) (by kernel_rfl) (fun _ _ _ h => h) (Or.inl ⟨by rfl, fun w' hw => by go_simp⟩) hHeld ?_
  try simp only [Act.put, List.setIfInBounds_toArray, List.set_cons_zero, List.set_cons_succ]
  refine wpAnyH_take (i := 19) (oi := ⟨some 0, _, _, _, _, _⟩) (v := (.bool true)) rfl (by kernel_rfl) (by kernel_rfl) (by kernel_rfl) (fun _ _ _ h => h) (Or.inl ⟨by rfl, fun w' hw => by go_simp⟩) hHeld ?_
  try simp only [Act.put, List.setIfInBounds_toArray, List.set_cons_zero, List.set_cons_succ]
  refine wpAnyH_done (by kernel_rfl) ?_ _
  go_wp2_with fail
  go_ret
  exact ⟨rfl, hE.kp⟩
end Go.Proofs.YtloibfdcahmhjaaGreat


namespace Go.Proofs.YtloibfdcahmhjaaGreat
set_option maxRecDepth 100000
open Go.RowKit Go.ChangeShapes Go.WideShapes Go.ChangeAt Go.Maps Go.Deep

def sfA (c : SC) : Array Value := #[.int .i64 c.B, .int .i64 (c.S : Int), .int .i64 (c.T : Int), .int .i64 (c.n : Int)]
theorem slaw_config (n : Int) (h0 : -9223372036854775808 ≤ n) (h1 : n ≤ 9223372036854775807) : ∃ c : SC, c.Ok ∧ (c.b ≤ 5 ∧ c.S ≤ 3 ∧ c.T ≤ 8 ∧ c.n ≤ 3) ∧
    (∀ w, Calls Tryz.prog 42 #[.int .i64 n] w fun e w' => e = .returned (.agg (sfA c)) ∧ Below w.heap.size w w') ∧
    ∀ (W : World) (A : Option Addr) (nz cz : Nat) (z : Nat → Int), Nums .u64 W W.heap.size A nz z → nz ≤ 1000 → (∀ j, j < nz → 0 ≤ z j ∧ z j ≤ 18446744073709551615) →
      Calls Tryz.prog 43 #[.agg (sfA c), .slice A nz cz] W fun e w' =>
        ∃ a : SA, e = .returned (.tuple #[.pointer (some ⟨a.mp, 0, none⟩), .pointer (some ⟨a.tp, 0, none⟩), .pointer (some ⟨a.sp, 0, none⟩)]) ∧ StoA c a (sg0 c nz z) none 0 (fun i => W.heap.size ≤ i ∧ i < w'.heap.size) 0 w' ∧ Only nobody W w' := by
  obtain ⟨r1, ⟨r2, r3⟩, ⟨r4, r5⟩, r6, r7⟩ := sc_rng n
  obtain ⟨c, hc, hb, hS, hT, hn, hf, hQ⟩ := sc_mk (scb n) (scS n) (scT n) (scn n) 1 (by omega) r2 (by omega) r4 (by omega) r6 (by omega) (by omega)
  have q1 : c.b ≤ 5 := by rw [hb]; exact r1
  have q2 : c.S ≤ 3 := by rw [hS]; exact r3
  have q3 : c.T ≤ 8 := by rw [hT]; exact r5
  have q4 : c.n ≤ 3 := by rw [hn]; exact r7
  have eA : scA (scb n) (scS n : Int) (scT n : Int) (scn n) = sfA c := by
    unfold scA sfA
    rw [← hc.bB, hb, hS, hT, hn]
  refine ⟨c, hc, ⟨q1, q2, q3, q4⟩, fun w => ?_, fun W A nz cz z hz hnz hzr => smade_of hc hf q1 q2 q3 q4 hQ A nz cz z W hz hnz hzr⟩
  have := sconfig_of n w h0 h1
  rw [eA] at this
  exact this
theorem infoCfgS (c : SC) : (Tryz.prog.info? 79).map (·.size) = some (sfA c).size := by kernel_rfl
theorem wpList_store_newS {ops : Array Oper} {rest : List Oper} {op : Oper} {a : Act} {w : World} {Q : Exit → Act → World → Prop} (hgd : op.guard = none) (x y : Operand) (ho : op.op = .store 79 x y)
    (hx : a.eval x = .pointer (some ⟨w.heap.size, 0, none⟩)) (c : SC) (hy : a.eval y = .agg (sfA c)) {cs : Array Value} (hc : cs.size = 4)
    (h : wpList Tryz.prog ops Q rest (a.put op.dst undef) (w.alloc (.cells (sfA c) 79))) : wpList Tryz.prog ops Q (op :: rest) a (w.alloc (.cells cs 79)) := by
  refine wpList_plain hgd fun K hK => ?_
  have hr := run_storeAt_new (P := Tryz.prog) w 79 cs (sfA c) (infoCfgS c) (by rw [hc]; rfl) (by simp [sfA, Value.oneCell'])
  unfold Oper.wp execOp
  simp only [ho, hx, hy, Sem.run_bind, Result.andThen_ok, hr, Sem.run_pure]
  exact hK _ _ h
section
variable {w : World} {cb : Nat} {c : SC}
theorem sc_0 (h : Box w cb 79 (sfA c)) : w.cell? ⟨cb, 0, none⟩ = some (.int .i64 c.B) := h.cell 0
theorem sc_1 (h : Box w cb 79 (sfA c)) : w.cell? ⟨cb, 1, none⟩ = some (.int .i64 (c.S : Int)) := h.cell 1
theorem sc_2 (h : Box w cb 79 (sfA c)) : w.cell? ⟨cb, 2, none⟩ = some (.int .i64 (c.T : Int)) := h.cell 2
theorem sc_3 (h : Box w cb 79 (sfA c)) : w.cell? ⟨cb, 3, none⟩ = some (.int .i64 (c.n : Int)) := h.cell 3
end
theorem sp_cells {w : World} {b o : Nat} {y : Sp3} (h : w.rangeAt b o (s3c y).toList) : w.cell? ⟨b, o, none⟩ = some (.int .i64 y.1) ∧ w.cell? ⟨b, o + 1, none⟩ = some (.int .u64 y.2.1) ∧ w.cell? ⟨b, o + 2, none⟩ = some (.int .u64 y.2.2) := ⟨h 0 _ rfl, h 1 _ rfl, h 2 _ rfl⟩
theorem Sp3Ok.rng {y : Sp3} (h : Sp3Ok y) : (-9223372036854775808 ≤ y.1 ∧ y.1 ≤ 9223372036854775807) ∧ (0 ≤ y.2.1 ∧ y.2.1 ≤ 18446744073709551615) ∧ (0 ≤ y.2.2 ∧ y.2.2 ≤ 18446744073709551615) := ⟨i64_rng h.1, u64_rng h.2.1, u64_rng h.2.2⟩
def idM (c : SC) (x : Int) : Nat := x.toNat % 2 ^ c.b
theorem idM_lt (c : SC) (x : Int) : idM c x < 2 ^ c.b := Nat.mod_lt _ (Nat.two_pow_pos _)
theorem idM_op (c : SC) (n x : Int) : isOp (opI n) (idM c x) (2 ^ c.b) = true := by
  have h1 := idM_lt c x
  unfold isOp
  rcases opI_ok n with e | e | e <;> rw [e] <;> simp [h1]
def RmS (c : SC) (g : SG) : Prop := (∀ h, h < c.n → (difI (g.I h)).length ≤ c.T) → ∃ b, StB c g b
theorem RmS.next {c : SC} {g g' : SG} (h : RmS c g) (hG : Grw g g') {op : Int} {id : Int} {d : Nat → Int} {rr : Nat → Int} {t : Bool}
    (hN : NoO c g' → ∀ b, StB c g b → DA rr = DA (datD (b id)) ∧ t = (b id).isSome ∧ StB c g' (setD b id (nxD op d (b id)))) : RmS c g' := fun hh => by
  obtain ⟨b, hb⟩ := h fun j hj => Nat.le_trans (hG.2 j) (hh j hj)
  exact ⟨_, (hN (.inr hh) b hb).2.2⟩
theorem rmS_new (c : SC) (nz : Nat) (z : Nat → Int) : RmS c (sg0 c nz z) := fun _ => ⟨_, stB_new c nz z⟩
def mxL (g : SG) : Nat → Int
  | 0 => 0
  | k + 1 => max (mxL g k) (ctN g k)
theorem mxL_le (g : SG) : ∀ n j, j < n → ctN g j ≤ mxL g n
  | 0, j, h => absurd h (by omega)
  | n + 1, j, h => by
    rw [mxL]
    by_cases e : j = n
    · subst e; omega
    · have := mxL_le g n j (by omega); omega
theorem RmS.ov {c : SC} {g : SG} (h : RmS c g) (hm : mxL g c.n ≤ (c.T : Int)) : ovN g c.n = false := by
  obtain ⟨b, hb⟩ := h fun j hj => by
    have := mxL_le g c.n j hj
    unfold ctN at this
    omega
  exact hb.ovn
end Go.Proofs.YtloibfdcahmhjaaGreat

