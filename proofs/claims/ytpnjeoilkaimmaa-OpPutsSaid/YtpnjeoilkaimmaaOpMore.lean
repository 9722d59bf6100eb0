/- More plain facts on operations as bytes: none is the beginning of another one; what is written is read back, what is read is written the same. No program is named here. -/
import Derived.Test.YtpnjeoilkaimmaaOpMath
namespace Go.Proofs.Ytpnjeoilkaimmaa

theorem tex_more {l t q : List UInt8} (h : tex l = some (t, q)) (r : List UInt8) : tex (l ++ r) = some (t, q ++ r) := by
  obtain ⟨b, hb, rfl⟩ := tex_out h
  rw [List.cons_append, List.append_assoc]
  exact tex_in b t (q ++ r) hb
theorem bdy_more {k : Int} {l : List UInt8} {p : Nat × List UInt8 × List UInt8} (h : bdy k l = some p) (c : UInt8) (r : List UInt8) : bdy k (l ++ c :: r) = none := by
  unfold bdy at h ⊢
  by_cases h3 : k = 3
  · rw [if_pos h3] at h ⊢
    match l, h with
    | a :: b :: l, h =>
      simp only at h
      rcases ht : tex l with _ | ⟨t, q⟩
      · rw [ht] at h; cases h
      · rw [ht] at h
        simp only at h
        rcases hu : tex q with _ | ⟨u, s⟩
        · rw [hu] at h; cases h
        · rw [hu] at h
          simp only [List.cons_append]
          rw [tex_more ht]
          simp only
          rw [tex_more hu]
          cases s <;> simp
  · rw [if_neg h3] at h ⊢
    by_cases h5 : k = 5
    · rw [if_pos h5] at h ⊢
      rw [if_neg (by simp)]
    · rw [if_neg h5] at h ⊢
      rcases ht : tex l with _ | ⟨t, q⟩
      · rw [ht] at h; cases h
      · rw [tex_more ht]
        cases q <;> simp
theorem tx_zero : Ls (tx 0) = [] := by decide
theorem bdy_tail (o : Ov) (R : o.R) : bdy o.k (tail o) = some (o.f.toNat, Ls (tx o.val), Ls (tx o.key)) := by
  have h1 := R.lo
  have h2 := R.hi
  unfold bdy tail
  by_cases h3 : o.k = 3
  · rw [if_pos h3, if_pos h3, if_pos (by omega)]
    simp only [List.cons_append]
    rw [tex_cnt _ R.vr]
    simp only
    have hk := tex_cnt _ R.kr []
    rw [List.append_nil] at hk
    rw [hk]
    simp only
    have f0 := R.f0
    have f1 := R.f1
    rw [u8_back _ (by omega), u8_back _ (by omega)]
    congr 2
    omega
  · obtain ⟨hv, hf⟩ := R.put h3
    rw [if_neg h3, if_neg h3, hv, hf, tx_zero]
    by_cases h5 : o.k = 5
    · rw [if_pos h5, if_neg (show ¬ o.k < 5 by omega), R.len h5, tx_zero]; rfl
    · rw [if_neg h5, if_pos (show o.k < 5 by omega)]
      have hk := tex_cnt _ R.kr []
      rw [List.append_nil] at hk
      rw [List.nil_append, hk]; rfl
theorem bts_some (o : Ov) (R : o.R) : bts o = ltr o.k :: tail o := by unfold bts; rw [if_pos ((Ov.r_iff o).2 R)]
theorem bts_none (o : Ov) (h : o.r = false) : bts o = [] := by unfold bts; rw [if_neg (by rw [h]; decide)]
theorem knd_o (o : Ov) (R : o.R) : knd (ltr o.k) = o.k := knd_ltr _ R.lo R.hi
theorem tx_few (n : Nat) (h : rt n = true) : (Ls (tx n)).length ≤ 7 := by rw [tx_len]; exact rt_few h
theorem prs_bts (o : Ov) (R : o.R) : prs (bts o) = (o, 0) := by
  rw [bts_some o R]
  unfold prs
  simp only
  have h1 := R.lo
  rw [knd_o o R, if_neg (show ¬ o.k = 0 by omega), bdy_tail o R]
  simp only
  rw [if_pos ⟨tx_few _ R.vr, tx_few _ R.kr⟩, BA_Ls, BA_Ls, wd_tx _ R.kr, wd_tx _ R.vr]
  obtain ⟨k, x, v, f⟩ := o
  have f0 := R.f0
  simp only at f0
  congr 2
  show ((f.toNat : Nat) : Int) = f
  omega
theorem prs_form {c : UInt8} {r : List UInt8} (h : bdy (knd c) r = none) : prs (c :: r) = (.z, 3) := by
  unfold prs
  simp only
  split
  · rfl
  · rw [h]
/-- A byte more. -/
theorem prs_over (o : Ov) (R : o.R) (c : UInt8) (r : List UInt8) : prs (bts o ++ c :: r) = (.z, 3) := by
  rw [bts_some o R, List.cons_append]
  refine prs_form ?_
  rw [knd_o o R]
  exact bdy_more (bdy_tail o R) c r
/-- A byte less. -/
theorem prs_less (o : Ov) (R : o.R) (l : List UInt8) (c : UInt8) (h : bts o = l ++ [c]) : prs l = (.z, 3) := by
  rw [bts_some o R] at h
  cases l with
  | nil => rfl
  | cons d l =>
    rw [List.cons_append] at h
    injection h with h1 h2
    subst h1
    refine prs_form ?_
    rw [knd_o o R]
    rcases hb : bdy o.k l with _ | p
    · rfl
    · have h3 := bdy_more hb c []
      rw [← h2, bdy_tail o R] at h3
      cases h3
/-- What is read is right, and is written the same. -/
theorem prs_back {l : List UInt8} {o : Ov} (h : prs l = (o, 0)) : o.R ∧ bts o = l := by
  unfold prs at h
  split at h
  · injection h with _ h; cases h
  · rename_i c r
    split at h
    · injection h with _ h; cases h
    · rename_i hk
      split at h
      · injection h with _ h; cases h
      · rename_i f v x hb
        split at h
        · rename_i h7
          injection h with h _
          subst h
          have hlo : 1 ≤ knd c ∧ knd c ≤ 5 := by rcases knd_cases c with h | h | h | h | h | h <;> omega
          have hkey : rt (wd (BA x)) = true := rt_wd _ (by rw [BA_size]; exact h7.2)
          have hval : rt (wd (BA v)) = true := rt_wd _ (by rw [BA_size]; exact h7.1)
          have cw : ∀ l : List UInt8, l.length ≤ 7 → cnt (wd (BA l)) = UInt8.ofNat l.length :: l := fun l hl => by
            unfold cnt; rw [mn_wd, tx_wd _ (by rw [BA_size]; exact hl), BA_size, Ls_BA]
          have back : ∀ (b : UInt8) (n : Nat), b.toNat = n → UInt8.ofNat n = b := fun b n hb => by rw [← hb]; simp
          have z0 : wd (BA []) = 0 := by decide
          unfold bdy at hb
          by_cases h3 : knd c = 3
          · rw [if_pos h3] at hb
            match r, hb with
            | a :: b :: r, hb =>
              simp only at hb
              rcases ht : tex r with _ | ⟨t, q⟩
              · rw [ht] at hb; cases hb
              · rw [ht] at hb
                simp only at hb
                rcases hu : tex q with _ | ⟨u, s⟩
                · rw [hu] at hb; cases hb
                · rw [hu] at hb
                  cases s with
                  | cons _ _ => cases hb
                  | nil =>
                    simp only [Option.some.injEq, Prod.mk.injEq] at hb
                    obtain ⟨rfl, rfl, rfl⟩ := hb
                    obtain ⟨b1, hb1, rfl⟩ := tex_out ht
                    obtain ⟨b2, hb2, rfl⟩ := tex_out hu
                    have ha := UInt8.toNat_lt a
                    have hb' := UInt8.toNat_lt b
                    have R : (⟨knd c, wd (BA u), wd (BA t), ((a.toNat + 256 * b.toNat : Nat) : Int)⟩ : Ov).R := ⟨hlo.1, hlo.2, fun h => by simp only at h; omega, fun h => absurd h3 h, hkey, hval, by simp only; omega, by simp only; omega⟩
                    refine ⟨R, ?_⟩
                    rw [bts_some _ R, ltr_knd c hk]
                    unfold tail
                    rw [if_pos h3, if_pos (by simp only; omega), cw t h7.1, cw u h7.2, back b1 _ hb1, back b2 _ hb2]
                    simp only [Int.toNat_natCast]
                    rw [back a _ (by omega), back b _ (by omega)]
                    simp
          · rw [if_neg h3] at hb
            by_cases h5 : knd c = 5
            · rw [if_pos h5] at hb
              split at hb
              · rename_i hr
                subst hr
                simp only [Option.some.injEq, Prod.mk.injEq] at hb
                obtain ⟨rfl, rfl, rfl⟩ := hb
                have R : (⟨knd c, wd (BA []), wd (BA []), ((0 : Nat) : Int)⟩ : Ov).R := ⟨hlo.1, hlo.2, fun _ => z0, fun _ => ⟨z0, rfl⟩, hkey, hval, by simp, by simp⟩
                refine ⟨R, ?_⟩
                rw [bts_some _ R, ltr_knd c hk]
                unfold tail
                rw [if_neg h3, if_neg (by simp only; omega)]; rfl
              · cases hb
            · rw [if_neg h5] at hb
              rcases ht : tex r with _ | ⟨t, q⟩
              · rw [ht] at hb; cases hb
              · rw [ht] at hb
                cases q with
                | cons _ _ => cases hb
                | nil =>
                  simp only [Option.some.injEq, Prod.mk.injEq] at hb
                  obtain ⟨rfl, rfl, rfl⟩ := hb
                  obtain ⟨b1, hb1, rfl⟩ := tex_out ht
                  have R : (⟨knd c, wd (BA t), wd (BA []), ((0 : Nat) : Int)⟩ : Ov).R := ⟨hlo.1, hlo.2, fun h => absurd h h5, fun _ => ⟨z0, rfl⟩, hkey, hval, by simp, by simp⟩
                  refine ⟨R, ?_⟩
                  rw [bts_some _ R, ltr_knd c hk]
                  unfold tail
                  rw [if_neg h3, if_pos (by simp only; omega), cw t h7.2, back b1 _ hb1]
                  simp
        · injection h with _ h; cases h
/-- An operation's bytes are no other one's beginning. -/
theorem bts_apart (a b : Ov) (ha : a.R) (hb : b.R) (h : (bts b).take (bts a).length = bts a) : a = b := by
  have h1 := List.take_append_drop (bts a).length (bts b)
  rw [h] at h1
  rcases hd : (bts b).drop (bts a).length with _ | ⟨c, r⟩
  · rw [hd, List.append_nil] at h1
    have e1 := prs_bts a ha
    rw [h1, prs_bts b hb] at e1
    injection e1 with e1
    exact e1.symm
  · rw [hd] at h1
    have e1 := prs_over a ha c r
    rw [h1, prs_bts b hb] at e1
    injection e1 with _ e1
    cases e1
theorem bts_same (a b : Ov) (ha : a.R) (hb : b.R) : bts a = bts b ↔ a = b :=
  ⟨fun h => bts_apart a b ha hb (by rw [h, List.take_length]), fun h => by rw [h]⟩
theorem bts_ne (a : Ov) (ha : a.R) : bts a ≠ [] := by rw [bts_some a ha]; simp
theorem bts_empty (a : Ov) : (bts a).isEmpty = !a.r := by
  cases hr : a.r
  · rw [bts_none a hr]; rfl
  · rw [bts_some a ((Ov.r_iff a).1 hr)]; rfl
end Go.Proofs.Ytpnjeoilkaimmaa
