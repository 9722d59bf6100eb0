/- Contract of package mem: Since and Trace: the events behind some of them, in a row of their own. Conditions as before. -/
import Derived.Test.YtgppediikggogaaMemNew
namespace Go.Proofs.Ytgppediikggogaa
open Go.RowKit Go.ChangeShapes Go.WideShapes Go.ChangeAt

/-- A slice of events: where there are any they lie whole in a block from B on. -/
def Told (w : World) (B : Nat) (A : Option Addr) (cap : Nat) (l : List Ev) : Prop := l ≠ [] → w.ownsRow B 54 3 (.slice A l.length cap) l.length (evs l)
/-- What a slice looks like: nil, or somewhere with room. -/
def Shape (A : Option Addr) (n cap : Nat) : Prop := (A = none ∧ n = 0 ∧ cap = 0) ∨ ∃ b o, A = some ⟨b, o, none⟩ ∧ n ≤ cap
theorem own_shape {w : World} {base : Nat} {e : TypeId} {size n cap : Nat} {A : Option Addr} {xs : List Value} (h : w.ownsRow base e size (.slice A n cap) n xs) : Shape A n cap := by
  rcases h.2 with ⟨h0, h1⟩ | ⟨g, cap', cur, h0, _, _, hn, _⟩
  · injection h0 with h0 _ h2
    exact .inl ⟨h0, h1, h2⟩
  · injection h0 with h0 _ h2
    exact .inr ⟨g, 0, h0, by omega⟩
/-- Behind Since. -/
def SincePost (w : World) (l : List Ev) (e : Ending) (w' : World) : Prop :=
  ∃ A cap, e = .returned (.slice A l.length cap) ∧ Told w' w.heap.size A cap l ∧ Only nobody w w' ∧ Shape A l.length cap

/-- A slice of events that lies whole, from its i-th on. -/
theorem own_behind {w : World} {base g cap n : Nat} {l : List Ev} (h : w.ownsRow base 54 3 (.slice (some ⟨g, 0, none⟩) n cap) n (evs l)) (i : Nat) :
    ∀ j u, (evs (l.drop i))[j]? = some u → w.cell? ((⟨g, i * 3, none⟩ : Addr).add j) = some u := by
  intro j u hu
  rw [evs_drop, List.getElem?_drop] at hu
  have := h.cells (g := g) rfl (i * 3 + j) u hu
  rw [add_plain] at this ⊢
  simpa using this

set_option maxHeartbeats 1000000 in
theorem since_walk (p : Nat) (F : Nat → Prop) (M : MS) (fr X : Int) (i : Nat) (w : World) (h : Mm w p F M) (hl : M.es.length < 1000000000)
    (hX : (if fr < 0 then 0 else fr) = X) (hi : (if (M.es.length : Int) < X then (M.es.length : Int) else X) = (i : Int)) (hle : i ≤ M.es.length) :
    Calls Try.prog 28 #[.pointer (some ⟨p, 0, none⟩), .int .i64 fr] w (SincePost w (M.es.drop i)) := by
  obtain ⟨g, bl, A, cap, h⟩ := h
  have c1 : w.cell? ⟨p, 1, none⟩ = some (.slice A M.es.length cap) := h.box.cell 1
  obtain ⟨n, hn⟩ : ∃ n, M.es.length = n := ⟨_, rfl⟩
  have HN := Lib.hid hn
  have HEV := Lib.hid h.ev
  rw [hn] at c1 hl hi hle
  obtain ⟨l, hl'⟩ : ∃ l, M.es = l := ⟨_, rfl⟩
  rw [hl'] at HN HEV ⊢
  rcases h.ev.2 with ⟨h0, h1⟩ | ⟨g', cap', cur, h0, _, hg', hnc, hcm, _, _⟩
  · injection h0 with h0 h2 h3
    subst h0 h3
    rw [hn] at h2
    subst h2
    obtain rfl : i = 0 := by omega
    have e : l = [] := List.eq_nil_of_length_eq_zero HN.out
    subst e
    clear h hn h1 hl'
    go_enter Try.func28, Try.ntmps28
    go_wp2
    go_quiet (fail)
    go_wp2
    all_goals
      go_ret
      exact ⟨none, 0, rfl, fun h => absurd rfl h, (Only.refl _ w).drewN _, .inl ⟨rfl, rfl, rfl⟩⟩
  · injection h0 with h0 h2 h3
    subst h0 h3
    rw [hn] at hnc
    unfold maxLen at hcm
    clear h h2 hn hl' hg'
    have HC := Lib.hid hcm
    clear hcm
    by_cases hin : i < n
    · have hci : ¬ cap = i := by omega
      obtain rfl : X = (i : Int) := by split at hi <;> omega
      go_enter Try.func28, Try.ntmps28
      go_wp2
      go_quiet (fail)
      go_wp2_with (with_reducible refine wpList_append_fresh _ rfl (.tmp 20) (.tmp 21) 43 rfl 54 (.agg #[.int .i64 0, .int .i64 0, .bool false]) 3 24 Try.underlying43 infoEvent rfl ⟨g', i * 3, none⟩ rfl ⟨g', i * 3, none⟩ (n - i) (cap - i) (evs (l.drop i)) rfl ?c1 ?c2 ?c3 ?c4 ?c5 ?_)
      case c1 => rw [evs_len, List.length_drop, HN.out]
      case c2 => exact own_behind (by have := HEV.out; rwa [HN.out] at this) i
      case c3 => unfold maxLen; omega
      case c4 => omega
      case c5 => intro h; omega
      intro _ cap1 w1 hown hg
      go_wp2
      go_ret
      have hlen : (l.drop i).length = n - i := by rw [List.length_drop, HN.out]
      refine ⟨some ⟨w.heap.size, 0, none⟩, cap1, ?_, fun _ => ?_, ((Only.refl _ w).drewN _).grown hg (fun k hk => by cases hk), by rw [hlen]; exact own_shape hown⟩
      · rw [hlen]; rfl
      · rw [hlen]; exact hown
    · obtain rfl : i = n := by omega
      have e : l.drop i = [] := List.eq_nil_of_length_eq_zero (by rw [List.length_drop, HN.out]; omega)
      rw [e]
      clear e
      by_cases hci : cap = i
      all_goals
        go_enter Try.func28, Try.ntmps28
        go_wp2
        go_quiet (fail)
        go_wp2
        go_ret
        exact ⟨_, 0, rfl, fun h => absurd rfl h, (Only.refl _ w).drewN _, .inr ⟨_, _, rfl, Nat.le_refl _⟩⟩

/-- From where on events are told. -/
def cut (n : Nat) (fr : Int) : Nat := (if fr < 0 then 0 else if (n : Int) < fr then (n : Int) else fr).toNat
theorem cut_le (n : Nat) (fr : Int) : cut n fr ≤ n := by unfold cut; split <;> (try split) <;> omega
theorem since_any (p : Nat) (F : Nat → Prop) (M : MS) (fr : Int) (w : World) (h : Mm w p F M) (hl : M.es.length < 1000000000) :
    Calls Try.prog 28 #[.pointer (some ⟨p, 0, none⟩), .int .i64 fr] w (SincePost w (M.es.drop (cut M.es.length fr))) :=
  since_walk p F M fr _ _ w h hl rfl (by unfold cut; split <;> split <;> (try split) <;> omega) (cut_le _ _)
theorem trace_any (p : Nat) (F : Nat → Prop) (M : MS) (w : World) (h : Mm w p F M) (hl : M.es.length < 1000000000) :
    Calls Try.prog 40 #[.pointer (some ⟨p, 0, none⟩)] w (SincePost w M.es) := by
  have HM := Lib.hid h
  clear h
  go_enter Try.func40, Try.ntmps40
  go_wp2_with fail
  refine (since_walk p F M 0 0 0 _ HM.out hl (by decide) (by split <;> omega) (Nat.zero_le _)).mono ?_
  rintro e w1 ⟨A, cap, rfl, ht, ho, hs⟩
  have HSH := Lib.hid hs
  have HT := Lib.hid ht
  have HO := Lib.hid ho
  clear ht ho hs
  rw [List.drop_zero] at HT HSH ⊢
  go_wp2
  go_ret
  exact ⟨A, cap, rfl, HT.out, HO.out, HSH.out⟩
end Go.Proofs.Ytgppediikggogaa
