/- Texts of ours put together: LevelOrd. -/
import Derived.WalkKit
import Derived.Test.YtmageeohnfomnaaGreatProg
import Derived.Test.YtmageeohnfomnaaGreatG1
import Derived.Test.YtmageeohnfomnaaGreatG6
namespace Go.Proofs.YtmageeohnfomnaaGreat
set_option maxRecDepth 100000

section
variable {D n P : Nat} {dp : Int → Nat} {X : Nat → Cl} {o : List Nat}
theorem TabOk.item_key (h : TabOk D n P dp X) (hD : D ≤ 10) {i j : Nat} (hi : i < 2 ^ P) (hj : j < 2 ^ P) (e : keyOf D n dp X i = keyOf D n dp X j) : itemOf dp (X i) = itemOf dp (X j) := by
  unfold itemOf
  by_cases bi : X i 0 = 1
  · have ni := h.at hi bi
    have r1 := h.id0 i ni bi
    have d1 := h.dep i ni bi
    by_cases bj : X j 0 = 1
    · have nj := h.at hj bj
      have r2 := h.id0 j nj bj
      have d2 := h.dep j nj bj
      unfold keyOf at e
      rw [if_pos ⟨ni, bi⟩, if_pos ⟨nj, bj⟩] at e
      rw [if_pos bi, if_pos bj]
      generalize dp (X i 2) = a at *
      generalize dp (X j 2) = b at *
      have e1 : X i 1 = X j 1 := by omega
      have e2 : a = b := by omega
      rw [e1, e2]
    · exfalso
      unfold keyOf at e
      rw [if_pos ⟨ni, bi⟩, if_neg (fun h => bj h.2)] at e
      omega
  · by_cases bj : X j 0 = 1
    · exfalso
      have nj := h.at hj bj
      have r2 := h.id0 j nj bj
      have d2 := h.dep j nj bj
      unfold keyOf at e
      rw [if_neg (fun h => bi h.2), if_pos ⟨nj, bj⟩] at e
      omega
    · rw [if_neg bi, if_neg bj]
theorem TabOk.key_le (h : TabOk D n P dp X) (hD : D ≤ 10) {i j : Nat} (hi : i < 2 ^ P) (hj : j < 2 ^ P) (hb : bef (fun i => itemOf dp (X i)) i j) : keyOf D n dp X i ≤ keyOf D n dp X j := by
  by_cases bi : X i 0 = 1
  · have ni := h.at hi bi
    have r1 := h.id0 i ni bi
    have d1 := h.dep i ni bi
    by_cases bj : X j 0 = 1
    · have nj := h.at hj bj
      have r2 := h.id0 j nj bj
      have d2 := h.dep j nj bj
      have h2 := (bef_real (f := fun i => itemOf dp (X i)) ((itemOf_real _).2 bi) ((itemOf_real _).2 bj)).1 hb
      unfold keyOf
      rw [if_pos ⟨ni, bi⟩, if_pos ⟨nj, bj⟩]
      unfold itemOf at h2
      rw [if_pos bi, if_pos bj] at h2
      dsimp only at h2
      omega
    · unfold keyOf
      rw [if_pos ⟨ni, bi⟩, if_neg (fun h => bj h.2)]
      omega
  · by_cases bj : X j 0 = 1
    · exfalso
      have := bef_mix (f := fun i => itemOf dp (X i)) (i := j) (j := i) ((itemOf_real _).2 bj) (by
        show (itemOf dp (X i)).2 < 0
        have := (itemOf_real (dp := dp) (X i))
        unfold hasB at this
        omega)
      exact bef_asymm this hb
    · have hno : ∀ k, X k 0 ≠ 1 → (itemOf dp (X k)).2 < 0 := fun k hk => by
        have := (itemOf_real (dp := dp) (X k))
        unfold hasB at this
        omega
      have h2 := (bef_none (f := fun i => itemOf dp (X i)) (hno i bi) (hno j bj)).1 hb
      unfold keyOf
      rw [if_neg (fun h => bi h.2), if_neg (fun h => bj h.2)]
      omega
theorem TabOk.items (h : TabOk D n P dp X) (hD : D ≤ 10) (ho : IsOrd (fun i => itemOf dp (X i)) (2 ^ P) o) {j : Nat} (hj : j < 2 ^ P) : tabI D n P dp X j = itemOf dp (X (o.getD j 0)) := by
  have hl := ho.len
  have hg : lst (2 ^ P) (fun k => keyOf D n dp X (o.getD k 0)) = o.map (keyOf D n dp X) := by
    unfold lst
    refine List.ext_getElem (by simp [hl]) (fun k h1 h2 => ?_)
    simp at h1
    simp [show k < o.length by omega]
  have e1 : lst (2 ^ P) (run (netL P) (keyOf D n dp X)) = lst (2 ^ P) (fun k => keyOf D n dp X (o.getD k 0)) := by
    refine List.Perm.eq_of_pairwise (le := (· ≤ ·)) (fun a b _ _ h1 h2 => by omega) (net_sorted P _) ?_ ?_
    · rw [hg, List.pairwise_map]
      exact ho.srt.imp_of_mem fun {a b} ha hb hab => h.key_le hD ((ho.mem a).1 ha) ((ho.mem b).1 hb) hab
    · rw [hg]
      exact (net_perm P _).trans (ho.perm.map _).symm
  obtain ⟨π, h1, h2, h3⟩ := tab1_from (D := D) (n := n) (P := P) (dp := dp) (X := X)
  have hk : tab1 D n P dp X j 11 = keyOf D n dp X (o.getD j 0) := by
    have hq : tab1 D n P dp X j 11 = run (netL P) (fun i => keyed D n dp X i 11) j := runC_word 11 (netL P) _ j
    have hk2 : (fun i => keyed D n dp X i 11) = keyOf D n dp X := funext fun i => keyed_key i
    rw [hk2] at hq
    have a1 := lst_at (2 ^ P) (run (netL P) (keyOf D n dp X)) j (by rw [lst_len]; exact hj)
    have a2 := lst_at (2 ^ P) (fun k => keyOf D n dp X (o.getD k 0)) j (by rw [lst_len]; exact hj)
    rw [hq, ← a1]
    simp only [e1]
    exact a2
  rw [h1 j, keyed_key] at hk
  have hoj : o.getD j 0 < 2 ^ P := by
    rw [List.getD_eq_getElem?_getD, List.getElem?_eq_getElem (by omega)]
    exact ho.lt j (by omega)
  have := h.item_key hD (h2 j hj) hoj hk
  rw [← this]
  unfold tabI
  rw [h1 j]
  unfold itemOf keyed
  rw [setw_far _ _ _ 0 (by decide), setw_far _ _ _ 1 (by decide), setw_far _ _ _ 2 (by decide)]
end
end Go.Proofs.YtmageeohnfomnaaGreat

