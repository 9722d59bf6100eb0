/- Which go, of items of unlike cells: each once, and none that stays goes ahead of one that goes. Plain mathematics. -/
import Derived.Test.YtigifbijmchdcaaPolMath
namespace Go.Proofs.Ytigifbijmchdcaa
theorem inj_cell {α β : Type} {f : α → β} : ∀ {l : List α}, (l.map f).Nodup → ∀ {x z : α}, x ∈ l → z ∈ l → f x = f z → x = z
  | [], _, _, _, h, _, _ => by simp at h
  | a :: l, hn, x, z, hx, hz, e => by
    rw [List.map_cons, List.nodup_cons] at hn
    rcases List.mem_cons.1 hx with h1 | h1 <;> rcases List.mem_cons.1 hz with h2 | h2
    · rw [h1, h2]
    · subst h1; exact absurd (List.mem_map.2 ⟨z, h2, e.symm⟩) hn.1
    · subst h2; exact absurd (List.mem_map.2 ⟨x, h1, e⟩) hn.1
    · exact inj_cell hn.2 h1 h2 e
theorem ranked_cells (l : List Pi) : ((ranked l).map (·.2)).Perm (l.map (·.1)) := by
  have := (ranked_perm l).map (·.2)
  rw [List.map_map] at this
  exact this
section
variable {l : List Pi} {c b : Int}
theorem vic_take : victims l c b = ((ranked l).map (·.2)).take (kMany l c b) := by unfold victims; rw [List.map_take]
theorem vic_nodup (h : (l.map (·.1)).Nodup) : (victims l c b).Nodup := by
  rw [vic_take]
  exact ((ranked_cells l).nodup_iff.2 h).sublist (List.take_sublist _ _)
theorem vic_mem {v : Int} (h : v ∈ victims l c b) : v ∈ l.map (·.1) := by
  rw [vic_take] at h
  exact (ranked_cells l).mem_iff.1 (List.mem_of_mem_take h)
theorem vic_order (h : (l.map (·.1)).Nodup) {x z : Pi} (hx : x ∈ l) (hz : z ∈ l) (h1 : x.1 ∈ victims l c b) (h2 : z.1 ∉ victims l c b) : kle (kc x) (kc z) = true := by
  have hpw := ranked_pw l
  rw [← List.take_append_drop (kMany l c b) (ranked l), List.pairwise_append] at hpw
  refine hpw.2.2 _ ?_ _ ?_
  · unfold victims at h1
    obtain ⟨p, hp, e⟩ := List.mem_map.1 h1
    obtain ⟨x', hx', rfl⟩ := List.mem_map.1 ((ranked_perm l).mem_iff.1 (List.mem_of_mem_take hp))
    have : x' = x := inj_cell h hx' hx e
    rw [← this]; exact hp
  · have hm : kc z ∈ ranked l := (ranked_perm l).mem_iff.2 (List.mem_map.2 ⟨z, hz, rfl⟩)
    rw [← List.take_append_drop (kMany l c b) (ranked l)] at hm
    rcases List.mem_append.1 hm with h3 | h3
    · exact absurd (by unfold victims; exact List.mem_map.2 ⟨kc z, h3, rfl⟩) h2
    · exact h3
end
theorem dif_ok {r c : Int} (h : -2305843009213693952 ≤ r ∧ r ≤ 2305843009213693952) (h2 : -2305843009213693952 ≤ c ∧ c ≤ 2305843009213693952) : dif r c = r - c := by
  unfold dif; rw [IntKind.wrap_i64]; omega
/-- When there are no more than a batch above the capacity: so many go. -/
theorem many_fits {l : List Pi} {c b : Nat} (hl : l.length ≤ c + b) (hc : c ≤ 1000) (hb : b ≤ 1000) : l.length - kMany l c b ≤ c ∧ kMany l c b ≤ b ∧ min (expd l) b ≤ kMany l c b := by
  have he := expd_le l
  unfold kMany manyI
  rw [dif_ok (by omega) (by omega)]
  omega
end Go.Proofs.Ytigifbijmchdcaa
