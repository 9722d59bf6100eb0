/- Rows of items that are cut, turned and put together; one that is newer than all goes last. -/
import Derived.Test.YtigifbijmchdcaaPolHelp
import Derived.Test.YtigifbijmchdcaaHeld
namespace Go.Proofs.Ytigifbijmchdcaa
open Go.RowKit Go.ChangeShapes Go.WideShapes Go.ChangeAt

theorem own_none3 (w : World) (base : Nat) (hb : base ≤ w.heap.size) (t : TypeId) : (w.alloc (.cells #[] t)).ownsRow base t 3 (.slice (some ⟨w.heap.size, 0, none⟩) 0 0) 0 [] :=
  ⟨rfl, .inr ⟨w.heap.size, 0, #[], rfl, hb, heap_alloc_new w _, Nat.le_refl _, Nat.zero_le _, rfl, rfl⟩⟩
theorem own_cap3 {w : World} {base : Nat} {t : TypeId} {A : Option Addr} {n cap : Nat} {xs : List Value} (h : w.ownsRow base t 3 (.slice A n cap) n xs) : n ≤ cap := by
  rcases h.2 with ⟨h1, h0⟩ | ⟨g', cap', cur, e, _, _, hc, _⟩
  · omega
  · cases e; exact hc
theorem cut3_at (g off cp p : Nat) : ∃ o, (if cp = p then some (⟨g, off, none⟩ : Addr) else some ⟨g, off + p * 3, none⟩) = some ⟨g, o, none⟩ ∧ (cp ≠ p → o = off + p * 3) := by
  by_cases e : cp = p
  · exact ⟨off, by rw [if_pos e], fun h => absurd e h⟩
  · exact ⟨off + p * 3, by rw [if_neg e], fun _ => rfl⟩
/-- Items in memory, from one on. -/
theorem pits_news {w : World} {B g off n : Nat} {z : Nat → Pi} (h : Pits w B (some ⟨g, off, none⟩) n z) (m p o : Nat) (hm : p + m ≤ n) (ho : 0 < m → o = off + p * 3) : ∀ j u, (pil (lsP m (fun i => z (p + i))))[j]? = some u → w.cell? ((⟨g, o, none⟩ : Addr).add j) = some u := by
  intro j u hu
  have hj : j < m * 3 := by
    have := (List.getElem?_eq_some_iff.1 hu).1
    rwa [pil_len, lsP_len] at this
  have e := ho (by omega)
  subst e
  have hl := pil_at (lsP m (fun i => z (p + i))) (j / 3) (by rw [lsP_len]; omega)
  have e0 : (lsP m (fun i => z (p + i)))[j / 3]'(by rw [lsP_len]; omega) = z (p + j / 3) := by simp [lsP]
  rw [e0] at hl
  obtain ⟨b', off', ea, _, c0, c1, c2⟩ := h.at (j := p + j / 3) (by omega)
  cases ea
  rw [add_plain]
  have h2 : j = j / 3 * 3 ∨ j = j / 3 * 3 + 1 ∨ j = j / 3 * 3 + 2 := by omega
  rcases h2 with h2 | h2 | h2
  · rw [h2, hl.1] at hu
    injection hu with hu
    subst hu
    rw [show off + p * 3 + j = off + (p + j / 3) * 3 by omega]
    exact c0
  · rw [h2, hl.2.1] at hu
    injection hu with hu
    subst hu
    rw [show off + p * 3 + j = off + (p + j / 3) * 3 + 1 by omega]
    exact c1
  · rw [h2, hl.2.2] at hu
    injection hu with hu
    subst hu
    rw [show off + p * 3 + j = off + (p + j / 3) * 3 + 2 by omega]
    exact c2
/-- Turned by t. -/
def trn (y : Nat → Pi) (n t j : Nat) : Pi := if j < n - t then y (t + j) else y (j - (n - t))
theorem lsP_add (a b : Nat) (y : Nat → Pi) : lsP (a + b) y = lsP a y ++ lsP b (fun i => y (a + i)) := by
  unfold lsP
  rw [List.range_add, List.map_append, List.map_map]
  rfl
theorem lsP_trn {n t : Nat} (ht : t ≤ n) (y : Nat → Pi) : lsP n (trn y n t) = lsP (n - t) (fun i => y (t + i)) ++ lsP t (fun i => y (0 + i)) := by
  conv => lhs; rw [show n = (n - t) + t by omega]
  rw [lsP_add]
  congr 1
  · exact lsP_congr fun j hj => by unfold trn; rw [if_pos (by omega)]
  · exact lsP_congr fun j hj => by unfold trn; rw [if_neg (by omega)]; congr 1; omega
theorem lsP_trn_perm {n t : Nat} (ht : t ≤ n) (y : Nat → Pi) : (lsP n (trn y n t)).Perm (lsP n y) := by
  rw [lsP_trn ht]
  have h := lsP_add t (n - t) y
  rw [show t + (n - t) = n by omega] at h
  rw [h, show lsP t (fun i => y (0 + i)) = lsP t y from lsP_congr fun j _ => by rw [Nat.zero_add]]
  exact List.perm_append_comm
theorem kMany_perm {l l' : List Pi} (h : l.Perm l') (c b : Int) : kMany l c b = kMany l' c b := by unfold kMany; rw [h.length_eq, expd_perm h]
theorem vicPost_perm {l l' : List Pi} (h : l.Perm l') (w : World) (c b : Int) : VicPost w l c b = VicPost w l' c b := by
  unfold VicPost
  rw [victims_perm h, kMany_perm h]
/-- One more behind n of them. -/
def snocY (y : Nat → Pi) (n : Nat) (x : Pi) (j : Nat) : Pi := if j < n then y j else x
theorem lsP_snocY (y : Nat → Pi) (n : Nat) (x : Pi) : lsP (n + 1) (snocY y n x) = lsP n y ++ [x] := by
  rw [lsP_succ]
  congr 1
  · exact lsP_congr fun j hj => by unfold snocY; rw [if_pos hj]
  · unfold snocY; rw [if_neg (by omega)]
/-- One more, behind all. -/
theorem ranked_snoc {l : List Pi} {x : Pi} (h : ∀ y ∈ l, kle (kc y) (kc x) = true) : ranked (l ++ [x]) = ranked l ++ [kc x] := by
  refine (ranked_only ?_ ?_).symm
  · rw [List.map_append]
    exact (ranked_perm l).append_right _
  · rw [List.pairwise_append]
    refine ⟨ranked_pw l, by simp, fun p hp q hq => ?_⟩
    rw [List.mem_singleton] at hq
    subst hq
    obtain ⟨y, hy, rfl⟩ := List.mem_map.1 ((ranked_perm l).mem_iff.1 hp)
    exact h y hy
/-- The newest one stays. -/
theorem late_vic {n : Nat} {y : Nat → Pi} {x : Pi} (h : ∀ j, j < n → kle (kc (y j)) (kc x) = true) (hn : n ≤ 1000) : victims (lsP n y ++ [x]) 0 n = (ranked (lsP n y)).map (·.2) ∧ kMany (lsP n y ++ [x]) 0 n = n := by
  have hk : kMany (lsP n y ++ [x]) 0 n = n := by
    unfold kMany manyI
    have hd : dif ((n + 1 : Nat) : Int) 0 = ((n + 1 : Nat) : Int) := by unfold dif; rw [IntKind.wrap_i64]; omega
    rw [List.length_append, lsP_len, List.length_singleton, hd]
    omega
  refine ⟨?_, hk⟩
  unfold victims
  rw [hk, ranked_snoc (fun z hz => ?_), List.take_append_of_le_length (by rw [ranked_len, lsP_len]; exact Nat.le_refl _), List.take_of_length_le (by rw [ranked_len, lsP_len]; exact Nat.le_refl _)]
  obtain ⟨j, hj, rfl⟩ := List.mem_map.1 hz
  exact h j (List.mem_range.1 hj)
end Go.Proofs.Ytigifbijmchdcaa
