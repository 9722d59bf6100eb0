/- What the laws on policy share: pick; rows of items of their own; which cells go. -/
import Derived.Test.YtigifbijmchdcaaPolLaw
namespace Go.Proofs.Ytigifbijmchdcaa
open Go.RowKit Go.ChangeShapes Go.WideShapes Go.ChangeAt
/-- Which of n things a raw number speaks of. -/
def ppik (c : Int) (n : Nat) : Nat := (if c < 0 then -(c + 1) else c).toNat % n
theorem ppik_lt (c : Int) {n : Nat} (h : 0 < n) : ppik c n < n := Nat.mod_lt _ h
set_option maxHeartbeats 1000000 in
theorem ppik_any (c : Int) (n : Nat) (w : World) (hn : 0 < n) (h63 : n ≤ 9223372036854775807) (h0 : -9223372036854775808 ≤ c) (h1 : c ≤ 9223372036854775807) :
    Calls Try.prog 20 #[.int .i64 c, .int .i64 (n : Int)] w fun e w' => e = .returned (.int .i64 (ppik c n : Nat)) ∧ w' = w := by
  by_cases hc : c < 0
  · have hp : ppik c n = (-(c + 1)).toNat % n := by unfold ppik; rw [if_pos hc]
    rw [hp]
    obtain ⟨k, hk⟩ := Int.eq_ofNat_of_zero_le (a := -(c + 1)) (by omega)
    have hkn := Nat.mod_lt k hn
    have hq : (Int.tmod (-(c + 1)) (n : Int)) = ((k % n : Nat) : Int) := by rw [hk]; rfl
    have hk0 : ¬ (n : Int) = 0 := by omega
    have hw1 : IntKind.i64.wrap (c + 1) = c + 1 := by rw [IntKind.wrap_i64]; omega
    have hw2 : IntKind.i64.wrap (-(c + 1)) = -(c + 1) := by rw [IntKind.wrap_i64]; omega
    have hw3 : IntKind.i64.wrap ((k % n : Nat) : Int) = ((k % n : Nat) : Int) := by rw [IntKind.wrap_i64]; omega
    have hk2 : (-(c + 1)).toNat = k := by omega
    rw [hk2]
    clear hkn hk hk2 hp
    go_enter Try.func20, Try.ntmps20
    go_wp2_with fail
    go_ret
    exact ⟨ret_int (by first | rfl | simp [hq]), rfl⟩
  · have hp : ppik c n = c.toNat % n := by unfold ppik; rw [if_neg hc]
    rw [hp]
    obtain ⟨k, rfl⟩ := Int.eq_ofNat_of_zero_le (a := c) (by omega)
    have hkn := Nat.mod_lt k hn
    have hk0 : ¬ (n : Int) = 0 := by omega
    rw [show ((k : Int)).toNat = k from rfl]
    clear hkn hc hp
    go_enter Try.func20, Try.ntmps20
    go_wp2_with fail
    go_ret
    exact ⟨ret_int (by first | rfl | simp), rfl⟩
theorem own_slice3 {w : World} {t : TypeId} {base : Nat} {v : Value} {n : Nat} {xs : List Value} (h : w.ownsRow base t 3 v n xs) : ∃ A cap, v = .slice A n cap ∧ (A = none → n = 0 ∧ cap = 0) := by
  rcases h.2 with ⟨rfl, h0⟩ | ⟨g, cap', cur, e, _⟩
  · exact ⟨none, 0, by rw [h0], fun _ => ⟨h0, rfl⟩⟩
  · exact ⟨_, _, e, fun h => by cases h⟩
theorem new_three (W : World) (t : TypeId) (a b c : Value) {k : Nat} (hk : k = W.heap.size) : ∀ j u, [a, b, c][j]? = some u → (W.alloc (.cells #[a, b, c] t)).cell? ((⟨k, 0, none⟩ : Addr).add j) = some u := by
  subst hk
  intro j u h
  have hb := Box.new W t #[a, b, c]
  have := hb.cell j
  rw [add_plain, Nat.zero_add, this]
  simpa using h
/-- A row of items that was built, as a slice that can be read. -/
theorem PtAt.out {t : TypeId} {w1 wr : World} {v : Value} {n : Nat} {y : Nat → Pi} (h : PtAt t w1 v (lsP n y) wr) : ∃ A cap, v = .slice A n cap ∧ (A = none → n = 0 ∧ cap = 0) ∧ Pits wr wr.heap.size A n y := by
  have ho := h.own
  rw [lsP_len] at ho
  obtain ⟨A, cap, rfl, hA⟩ := own_slice3 ho
  exact ⟨A, cap, rfl, hA, own_pits ho (lsP_len _ _) (fun j hj => by simp [lsP])⟩
/-- What stands at i in the order: its key, and its cell. -/
theorem ranked_mem {n : Nat} {y : Nat → Pi} {i : Nat} (hi : i < n) : ∃ c, c < n ∧ (ranked (lsP n y))[i]? = some (kc (y c)) := by
  have hl : i < (ranked (lsP n y)).length := by rw [ranked_len, lsP_len]; exact hi
  have hm : (ranked (lsP n y))[i] ∈ (lsP n y).map kc := (ranked_perm _).mem_iff.1 (List.getElem_mem hl)
  obtain ⟨x, hx, e⟩ := List.mem_map.1 hm
  obtain ⟨c, hc, rfl⟩ := List.mem_map.1 hx
  exact ⟨c, List.mem_range.1 hc, by rw [List.getElem?_eq_getElem hl, e]⟩
theorem vic_ranked {l : List Pi} {c b : Int} {i : Nat} (hi : i < kMany l c b) {p : Nat × Int} (h : (ranked l)[i]? = some p) : (victims l c b).getD i 0 = p.2 := by
  unfold victims
  rw [List.getD_eq_getElem?_getD, List.getElem?_map, List.getElem?_take, if_pos hi, h]
  rfl
end Go.Proofs.Ytigifbijmchdcaa
