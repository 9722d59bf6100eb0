/- Plain facts on operations as bytes: lists of bytes, a reader that takes parts from the front, what bytes are an operation's. No program is named here. -/
import Derived.Test.YtpnjeoilkaimmaaPackMath
import Derived.Lib.Bytealg
namespace Go.Proofs.Ytpnjeoilkaimmaa

/-- A text of bytes. -/
def BA (l : List UInt8) : ByteArray := ⟨l.toArray⟩
def Ls (s : ByteArray) : List UInt8 := s.data.toList
theorem BA_Ls (s : ByteArray) : BA (Ls s) = s := by obtain ⟨⟨l⟩⟩ := s; rfl
theorem Ls_BA (l : List UInt8) : Ls (BA l) = l := rfl
theorem BA_toList (l : List UInt8) : (BA l).toList = l := by rw [Lib.toList_data]; rfl
theorem BA_size (l : List UInt8) : (BA l).size = l.length := rfl
theorem BA_inj {l m : List UInt8} : BA l = BA m ↔ l = m := ⟨fun h => by have := congrArg Ls h; exact this, fun h => by rw [h]⟩
theorem BA_add (l m : List UInt8) : BA l ++ BA m = BA (l ++ m) := by
  apply ByteArray.ext
  apply Array.toList_inj.1
  simp [BA]
theorem BA_cut (l : List UInt8) (i j : Nat) : (BA l).extract i j = BA ((l.drop i).take (j - i)) := by
  apply ByteArray.ext
  apply Array.toList_inj.1
  rw [Lib.extract_data]; rfl
theorem BA_front (l : List UInt8) (n : Nat) : (BA l).extract 0 n = BA (l.take n) := by rw [BA_cut, Nat.sub_zero, List.drop_zero]
theorem BA_rest (l : List UInt8) (n : Nat) : (BA l).extract n l.length = BA (l.drop n) := by
  rw [BA_cut, List.take_of_length_le (by simp)]
theorem BA_at (l : List UInt8) (k : Nat) (h : k < l.length) : ((BA l)[k]'h) = l[k] := rfl
theorem Ls_len (s : ByteArray) : (Ls s).length = s.size := Array.length_toList

/-- A word's text, how many bytes it has ahead. -/
def cnt (n : Nat) : List UInt8 := UInt8.ofNat (mn n) :: Ls (tx n)
theorem u8_back (n : Nat) (h : n < 256) : (UInt8.ofNat n).toNat = n := by rw [UInt8.toNat_ofNat']; omega
theorem tx_len (n : Nat) : (Ls (tx n)).length = mn n := by rw [Ls_len, tx_size]

/-- An operation. -/
structure Ov where
  k : Int
  key : Nat
  val : Nat
  f : Int
  deriving DecidableEq
def Ov.z : Ov := ⟨0, 0, 0, 0⟩
def Ov.a (o : Ov) : Value := .agg #[.int .i64 o.k, .int .u64 o.key, .int .u64 o.val, .int .i64 o.f]
/-- Is it right? -/
def Ov.r (o : Ov) : Bool :=
  decide (1 ≤ o.k) && decide (o.k ≤ 5) && decide (o.k = 5 → o.key = 0) && decide (o.k ≠ 3 → o.val = 0 ∧ o.f = 0) && (rt o.key && (rt o.val && (decide (0 ≤ o.f) && decide (o.f ≤ 65535))))
structure Ov.R (o : Ov) : Prop where
  lo : 1 ≤ o.k
  hi : o.k ≤ 5
  len : o.k = 5 → o.key = 0
  put : o.k ≠ 3 → o.val = 0 ∧ o.f = 0
  kr : rt o.key = true
  vr : rt o.val = true
  f0 : 0 ≤ o.f
  f1 : o.f ≤ 65535
theorem Ov.r_iff (o : Ov) : o.r = true ↔ o.R := by
  unfold Ov.r
  simp only [Bool.and_eq_true, decide_eq_true_eq]
  exact ⟨fun ⟨⟨⟨⟨a, b⟩, c⟩, d⟩, e, f, g, h⟩ => ⟨a, b, c, d, e, f, g, h⟩, fun ⟨a, b, c, d, e, f, g, h⟩ => ⟨⟨⟨⟨a, b⟩, c⟩, d⟩, e, f, g, h⟩⟩
/-- A kind's letter. -/
def ltr (k : Int) : UInt8 := if k = 1 then 71 else if k = 2 then 75 else if k = 3 then 80 else if k = 4 then 68 else 76
/-- What stands behind the letter. -/
def tail (o : Ov) : List UInt8 :=
  (if o.k = 3 then UInt8.ofNat (o.f.toNat % 256) :: UInt8.ofNat (o.f.toNat / 256) :: cnt o.val else []) ++ (if o.k < 5 then cnt o.key else [])
/-- An operation's bytes. -/
def bts (o : Ov) : List UInt8 := if o.r = true then ltr o.k :: tail o else []

/-- The kind of a letter. -/
def knd (c : UInt8) : Int := if c = 71 then 1 else if c = 75 then 2 else if c = 80 then 3 else if c = 68 then 4 else if c = 76 then 5 else 0
theorem knd_ltr (k : Int) (h1 : 1 ≤ k) (h5 : k ≤ 5) : knd (ltr k) = k := by
  rcases (by omega : k = 1 ∨ k = 2 ∨ k = 3 ∨ k = 4 ∨ k = 5) with h | h | h | h | h <;> subst h <;> rfl
theorem ltr_knd (c : UInt8) (h : knd c ≠ 0) : ltr (knd c) = c := by
  unfold knd at h ⊢
  repeat (split at h; · simp_all [ltr])
  exact absurd rfl h
theorem knd_cases (c : UInt8) : (knd c = 0 ∧ c ≠ 71 ∧ c ≠ 75 ∧ c ≠ 80 ∧ c ≠ 68 ∧ c ≠ 76) ∨ (knd c = 1 ∧ c = 71) ∨ (knd c = 2 ∧ c = 75) ∨ (knd c = 3 ∧ c = 80) ∨ (knd c = 4 ∧ c = 68) ∨ (knd c = 5 ∧ c = 76) := by
  unfold knd
  repeat' split
  all_goals simp_all
/-- The text that bytes begin with, and what is behind. -/
def tex : List UInt8 → Option (List UInt8 × List UInt8)
  | [] => none
  | b :: r => if b.toNat ≤ r.length then some (r.take b.toNat, r.drop b.toNat) else none
theorem tex_cnt (n : Nat) (h : rt n = true) (r : List UInt8) : tex (cnt n ++ r) = some (Ls (tx n), r) := by
  have h7 := rt_few h
  unfold cnt tex
  rw [List.cons_append]
  simp only
  rw [u8_back _ (by omega), if_pos (by rw [List.length_append, tx_len]; omega), ← tx_len n, List.take_left, List.drop_left]
theorem tex_out {l t r : List UInt8} (h : tex l = some (t, r)) : ∃ b : UInt8, b.toNat = t.length ∧ l = b :: (t ++ r) := by
  unfold tex at h
  split at h
  · cases h
  · rename_i b q
    split at h
    · rename_i hb
      injection h with h
      injection h with h1 h2
      refine ⟨b, by rw [← h1, List.length_take]; omega, by rw [← h1, ← h2, List.take_append_drop]⟩
    · cases h
theorem tex_in (b : UInt8) (t r : List UInt8) (h : b.toNat = t.length) : tex (b :: (t ++ r)) = some (t, r) := by
  unfold tex
  simp only
  rw [if_pos (by rw [List.length_append]; omega), h, List.take_left, List.drop_left]
/-- What an operation's bytes say, of kind k: how long, the value, the key; none: they are not an operation's. -/
def bdy (k : Int) (l : List UInt8) : Option (Nat × List UInt8 × List UInt8) :=
  if k = 3 then
    match l with
    | a :: b :: r => match tex r with
      | some (v, r) => match tex r with
        | some (x, []) => some (a.toNat + 256 * b.toNat, v, x)
        | _ => none
      | none => none
    | _ => none
  else if k = 5 then (if l = [] then some (0, [], []) else none)
  else match tex l with
    | some (x, []) => some (0, [], x)
    | _ => none
/-- The operation of bytes, or what is wrong. -/
def prs (l : List UInt8) : Ov × Int :=
  match l with
  | [] => (.z, 3)
  | c :: r => if knd c = 0 then (.z, 3) else
    match bdy (knd c) r with
    | none => (.z, 3)
    | some (f, v, x) => if v.length ≤ 7 ∧ x.length ≤ 7 then (⟨knd c, wd (BA x), wd (BA v), f⟩, 0) else (.z, 4)

/-- A reader: what is left, whether it ended too soon, whether a part was too long. -/
structure Rd where
  l : List UInt8
  c : Bool
  g : Bool
def Rd.take (r : Rd) (n : Nat) : List UInt8 × Rd := if n ≤ r.l.length then (r.l.take n, ⟨r.l.drop n, r.c, r.g⟩) else ([], ⟨r.l, true, r.g⟩)
def Rd.one (r : Rd) : Nat × Rd := match r.l with
  | [] => (0, ⟨[], true, r.g⟩)
  | b :: q => (b.toNat, ⟨q, r.c, r.g⟩)
theorem Rd.one_lt (r : Rd) : r.one.1 < 256 := by
  unfold Rd.one
  split
  · show (0 : Nat) < 256
    omega
  · exact UInt8.toNat_lt _
def Rd.num (r : Rd) : Nat × Rd := (r.one.1 + 256 * r.one.2.one.1, r.one.2.one.2)
/-- A text's word, or nothing. -/
def wv' (l : List UInt8) : Nat := if l.length ≤ 7 then wd (BA l) else 0
def Rd.word (r : Rd) : Nat × Rd :=
  let p := r.one.2.take r.one.1
  (wv' p.1, ⟨p.2.l, p.2.c, p.2.g || decide (7 < p.1.length)⟩)
def Rd.text (r : Rd) : List UInt8 := (r.one.2.take r.one.1).1
theorem Rd.word_some {r : Rd} {t q : List UInt8} (h : tex r.l = some (t, q)) : r.word = (wv' t, ⟨q, r.c, r.g || decide (7 < t.length)⟩) := by
  obtain ⟨b, hb, hl⟩ := tex_out h
  have h1 : r.one = (b.toNat, ⟨t ++ q, r.c, r.g⟩) := by unfold Rd.one; rw [hl]
  unfold Rd.word
  rw [h1]
  simp only [Rd.take]
  rw [if_pos (by rw [List.length_append]; omega), hb]
  simp only [List.take_left, List.drop_left]
/-- What was cut short stays so. -/
theorem Rd.one_cut {r : Rd} (h : r.c = true) : r.one.2.c = true := by
  unfold Rd.one; split
  · rfl
  · exact h
theorem Rd.take_cut {r : Rd} (n : Nat) (h : r.c = true) : (r.take n).2.c = true := by
  unfold Rd.take; split
  · exact h
  · rfl
theorem Rd.word_cut {r : Rd} (h : r.c = true) : r.word.2.c = true := Rd.take_cut _ (Rd.one_cut h)
theorem Rd.num_cut {r : Rd} (h : r.c = true) : r.num.2.c = true := Rd.one_cut (Rd.one_cut h)
theorem Rd.word_none {r : Rd} (h : tex r.l = none) : r.word.2.c = true := by
  unfold tex at h
  split at h
  · rename_i hl
    have h1 : r.one.2.c = true := by unfold Rd.one; rw [hl]
    exact Rd.take_cut _ h1
  · rename_i b q hl
    split at h
    · cases h
    · rename_i hn
      have h1 : r.one = (b.toNat, ⟨q, r.c, r.g⟩) := by unfold Rd.one; rw [hl]
      show (r.one.2.take r.one.1).2.c = true
      rw [h1]
      simp only [Rd.take]
      rw [if_neg hn]
/-- The reader's way behind the letter. -/
def Rd.ways (k : Int) (r : Rd) : Nat × Nat × Nat × Rd :=
  if k = 3 then (r.num.1, r.num.2.word.1, r.num.2.word.2.word.1, r.num.2.word.2.word.2)
  else if k = 1 ∨ k = 2 ∨ k = 4 then (0, 0, r.word.1, r.word.2)
  else (0, 0, 0, r)
/-- What the reader makes of bytes. -/
def Rd.fin (k : Int) (p : Nat × Nat × Nat × Rd) : Ov × Int :=
  if k = 0 ∨ p.2.2.2.c = true ∨ p.2.2.2.l ≠ [] then (.z, 3) else if p.2.2.2.g = true then (.z, 4) else (⟨k, p.2.2.1, p.2.1, p.1⟩, 0)
def Rd.kd (r : Rd) : Int := match r.l with
  | [] => 0
  | c :: _ => knd c
theorem Rd.fin_form {k : Int} {p : Nat × Nat × Nat × Rd} (h : k = 0 ∨ p.2.2.2.c = true ∨ p.2.2.2.l ≠ []) : Rd.fin k p = (.z, 3) := by unfold Rd.fin; rw [if_pos h]
theorem Rd.fin_out {k : Int} {p : Nat × Nat × Nat × Rd} (h0 : k ≠ 0) (hc : p.2.2.2.c = false) (hl : p.2.2.2.l = []) : Rd.fin k p = if p.2.2.2.g = true then (.z, 4) else (⟨k, p.2.2.1, p.2.1, p.1⟩, 0) := by
  unfold Rd.fin; rw [if_neg (by simp [h0, hc, hl])]
theorem wv'_few {l : List UInt8} (h : l.length ≤ 7) : wv' l = wd (BA l) := by unfold wv'; rw [if_pos h]
theorem key_ways (k : Int) (r : List UInt8) (hk : k = 1 ∨ k = 2 ∨ k = 4) : Rd.fin k (Rd.ways k ⟨r, false, false⟩) =
    match bdy k r with
    | none => (.z, 3)
    | some (f, v, x) => if v.length ≤ 7 ∧ x.length ≤ 7 then (⟨k, wd (BA x), wd (BA v), f⟩, 0) else (.z, 4) := by
  have h3 : k ≠ 3 := by omega
  have h5 : k ≠ 5 := by omega
  have h0 : k ≠ 0 := by omega
  unfold Rd.ways bdy
  rw [if_neg h3, if_pos hk, if_neg h3, if_neg h5]
  rcases ht : tex r with _ | ⟨t, q⟩
  · rw [Rd.fin_form (.inr (.inl (Rd.word_none (r := ⟨r, false, false⟩) ht)))]
  · rw [Rd.word_some (r := ⟨r, false, false⟩) ht]
    cases q with
    | cons b q => rw [Rd.fin_form (.inr (.inr (by simp)))]
    | nil =>
      rw [Rd.fin_out h0 rfl rfl]
      simp only [Bool.false_or, decide_eq_true_eq]
      by_cases h7 : t.length ≤ 7
      · rw [if_neg (by omega), if_pos ⟨by simp, h7⟩, wv'_few h7]; rfl
      · rw [if_pos (by omega), if_neg (by simp; omega)]
theorem put_ways (r : List UInt8) : Rd.fin 3 (Rd.ways 3 ⟨r, false, false⟩) =
    match bdy 3 r with
    | none => (.z, 3)
    | some (f, v, x) => if v.length ≤ 7 ∧ x.length ≤ 7 then (⟨3, wd (BA x), wd (BA v), f⟩, 0) else (.z, 4) := by
  unfold Rd.ways bdy
  rw [if_pos rfl, if_pos rfl]
  match r with
  | [] =>
    have h1 : (Rd.mk [] false false).num.2.c = true := rfl
    generalize (Rd.mk [] false false).num = N at h1 ⊢
    rw [Rd.fin_form (.inr (.inl (Rd.word_cut (Rd.word_cut h1))))]
  | [a] =>
    have h1 : (Rd.mk [a] false false).num.2.c = true := rfl
    generalize (Rd.mk [a] false false).num = N at h1 ⊢
    rw [Rd.fin_form (.inr (.inl (Rd.word_cut (Rd.word_cut h1))))]
  | a :: b :: r =>
    have h1 : (Rd.mk (a :: b :: r) false false).num = (a.toNat + 256 * b.toNat, ⟨r, false, false⟩) := rfl
    rw [h1]
    simp only
    rcases ht : tex r with _ | ⟨t, q⟩
    · rw [Rd.fin_form (.inr (.inl (Rd.word_cut (Rd.word_none (r := ⟨r, false, false⟩) ht))))]
    · rw [Rd.word_some (r := ⟨r, false, false⟩) ht]
      simp only
      rcases hu : tex q with _ | ⟨u, p⟩
      · rw [Rd.fin_form (.inr (.inl (Rd.word_none hu)))]
      · rw [Rd.word_some (r := ⟨q, false, false || decide (7 < t.length)⟩) hu]
        cases p with
        | cons b p => rw [Rd.fin_form (.inr (.inr (by simp)))]
        | nil =>
          rw [Rd.fin_out (by decide) rfl rfl]
          simp only [Bool.false_or, Bool.or_eq_true, decide_eq_true_eq]
          by_cases h7 : t.length ≤ 7 ∧ u.length ≤ 7
          · rw [if_neg (by omega), if_pos h7, wv'_few h7.1, wv'_few h7.2]
          · rw [if_pos (by omega), if_neg h7]
/-- The reader reads what the bytes say. -/
theorem ways_prs (l : List UInt8) : Rd.fin (Rd.kd ⟨l, false, false⟩) (Rd.ways (Rd.kd ⟨l, false, false⟩) (Rd.one ⟨l, false, false⟩).2) = prs l := by
  match l with
  | [] => exact Rd.fin_form (.inl rfl)
  | c :: r =>
    show Rd.fin (knd c) (Rd.ways (knd c) ⟨r, false, false⟩) = prs (c :: r)
    unfold prs
    simp only
    rcases knd_cases c with ⟨h, _⟩ | ⟨h, _⟩ | ⟨h, _⟩ | ⟨h, _⟩ | ⟨h, _⟩ | ⟨h, _⟩ <;> rw [h]
    · rw [Rd.fin_form (.inl rfl), if_pos rfl]
    · rw [key_ways 1 r (by decide), if_neg (by decide)]
    · rw [key_ways 2 r (by decide), if_neg (by decide)]
    · rw [put_ways r, if_neg (by decide)]
    · rw [key_ways 4 r (by decide), if_neg (by decide)]
    · rw [if_neg (by decide)]
      have h1 : Rd.ways 5 ⟨r, false, false⟩ = (0, 0, 0, ⟨r, false, false⟩) := by unfold Rd.ways; rw [if_neg (by decide), if_neg (by decide)]
      have h2 : bdy 5 r = if r = [] then some (0, [], []) else none := by unfold bdy; rw [if_neg (by decide), if_pos rfl]
      rw [h1, h2]
      cases r with
      | nil => rw [Rd.fin_out (by decide) rfl rfl, if_neg (by decide), if_pos rfl]; simp only; rw [if_pos (by simp)]; congr 1
      | cons b r => rw [Rd.fin_form (.inr (.inr (by simp))), if_neg (by simp)]
end Go.Proofs.Ytpnjeoilkaimmaa
