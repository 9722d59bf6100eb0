/- The laws on operations: how an operation is told to the document's answer, a text's word, the chapter's example; operations compared. Conditions: words are of 64 bits, lengths are ints. -/
import Derived.Test.YtpnjeoilkaimmaaOpBytes
import Derived.Test.YtpnjeoilkaimmaaOpParse
import Derived.ChangeKeysEq
import Derived.Laws.StructEq
namespace Go.Proofs.Ytpnjeoilkaimmaa
open Go.RowKit Go.ChangeShapes Go.WideShapes Go.ChangeAt

/-- Are two operations one? -/
def Ov.q (a b : Ov) : Bool := (((a.k == b.k) && ((a.key : Int) == (b.key : Int))) && ((a.val : Int) == (b.val : Int))) && (a.f == b.f)
theorem Ov.q_iff (a b : Ov) : a.q b = decide (a = b) := by
  obtain ⟨k, x, v, f⟩ := a
  obtain ⟨k', x', v', f'⟩ := b
  rw [Bool.eq_iff_iff]
  simp only [Ov.q, Bool.and_eq_true, beq_iff_eq, decide_eq_true_eq, Ov.mk.injEq]
  omega
theorem Ov.q_self (a : Ov) : a.q a = true := by rw [Ov.q_iff]; simp
theorem equal_op (a b : Ov) (w : World) : (Op.equalIn 10000 24 a.a b.a).run Try.prog w = .ok (a.q b) w := by
  unfold Ov.a
  rw [run_equalIn_struct w 9999 24 _ _ (by kernel_rfl) (by kernel_rfl)]
  simp [Program.fieldsOf, Try.underlying24, Op.eqFields, Go.part, isAgg, run_underlying Try.underlying3, run_equalIn_int w 9998 3 .i64 .i64 _ _ Try.underlying3, run_underlying Try.underlying22, run_equalIn_int w 9998 22 .u64 .u64 _ _ Try.underlying22]
  unfold Ov.q
  by_cases h1 : a.k = b.k
  · rw [if_pos h1, h1, beq_self_eq_true]
    by_cases h2 : (a.key : Int) = b.key
    · rw [if_pos h2, h2, beq_self_eq_true]
      by_cases h3 : (a.val : Int) = b.val
      · rw [if_pos h3, h3, beq_self_eq_true]
        by_cases h4 : a.f = b.f
        · rw [if_pos h4, h4]; simp
        · rw [if_neg h4, beq_eq_false_iff_ne.2 h4]; simp
      · rw [if_neg h3, beq_eq_false_iff_ne.2 h3]; simp
    · rw [if_neg h2, beq_eq_false_iff_ne.2 h2]; simp
  · rw [if_neg h1, beq_eq_false_iff_ne.2 h1]; simp
theorem eql_op (a b : Ov) (w : World) : (binOp .eql 24 a.a b.a).run Try.prog w = .ok (.bool (a.q b)) w := by
  have h := equal_op a b w
  unfold Ov.a at h ⊢
  rw [run_eql_struct, h]; rfl
theorem neq_op (a b : Ov) (w : World) : (binOp .neq 24 a.a b.a).run Try.prog w = .ok (.bool (!a.q b)) w := by
  have h := equal_op a b w
  unfold Ov.a at h ⊢
  rw [run_neq_struct, h]; rfl
/-- A text's word, by the law's own helper. -/
theorem lword_any (l : List UInt8) (w : World) (hl : l.length ≤ 9223372036854775807) : Calls Try.prog 18 #[.string (BA l)] w fun e w' => e = .returned (.int .u64 (wv' l)) ∧ Below w.heap.size w w' := by
  have H := Lib.hid (fun w => word_any (BA l) w (by rw [BA_size]; exact hl))
  have hw := Lib.hid (wv_wv' l)
  clear hl
  go_enter Try.func18, Try.ntmps18
  go_wp2_with fail
  refine (H.out _).mono ?_
  rintro e w1 ⟨rfl, hb⟩
  rw [hw.out]
  have HB := Lib.hid hb
  clear hb H
  go_wp2
  go_ret
  exact ⟨rfl, HB.out⟩
def kO : Ov := ⟨3, wv' [107], wv' [118, 118], 258⟩
theorem cnt_wd (l : List UInt8) (h : l.length ≤ 7) : cnt (wd (BA l)) = UInt8.ofNat l.length :: l := by
  unfold cnt
  rw [mn_wd, tx_wd _ (by rw [BA_size]; exact h), BA_size, Ls_BA]
theorem wd_small (l : List UInt8) (h : l.length ≤ 7) : wd (BA l) < 18446744073709551616 := by
  have := wd_lt (BA l) (by rw [BA_size]; exact h); omega
theorem rt_word (l : List UInt8) (h : l.length ≤ 7) : rt (wd (BA l)) = true := rt_wd _ (by rw [BA_size]; exact h)
theorem bts_put (key val : List UInt8) (f : Int) (hk : key.length ≤ 7) (hv : val.length ≤ 7) (h0 : 0 ≤ f) (h1 : f ≤ 65535) :
    bts ⟨3, wd (BA key), wd (BA val), f⟩ = 80 :: UInt8.ofNat (f.toNat % 256) :: UInt8.ofNat (f.toNat / 256) :: UInt8.ofNat val.length :: (val ++ UInt8.ofNat key.length :: key) := by
  unfold bts
  rw [if_pos ((Ov.r_iff _).2 ⟨(by decide : (1 : Int) ≤ 3), (by decide : (3 : Int) ≤ 5), fun h => absurd h (by decide : ¬ (3 : Int) = 5), fun h => absurd rfl h, rt_word key hk, rt_word val hv, h0, h1⟩)]
  simp [tail, ltr, cnt_wd key hk, cnt_wd val hv]
theorem bts_key (k : Int) (key : List UInt8) (hk : key.length ≤ 7) (h : k = 1 ∨ k = 2 ∨ k = 4) :
    bts ⟨k, wd (BA key), 0, 0⟩ = ltr k :: UInt8.ofNat key.length :: key := by
  unfold bts
  rw [if_pos ((Ov.r_iff _).2 ⟨(by omega : 1 ≤ k), (by omega : k ≤ 5), fun h5 => absurd h5 (by omega : ¬ k = 5), fun _ => ⟨rfl, rfl⟩, rt_word key hk, rt_nought, (by decide : (0 : Int) ≤ 0), (by decide : (0 : Int) ≤ 65535)⟩)]
  unfold tail
  rw [if_neg (by simp only; omega), if_pos (by simp only; omega), cnt_wd key hk]; rfl
set_option maxHeartbeats 1000000 in
theorem opshown_any (w : World) : Calls Try.prog 9 #[] w fun e w' => e = .returned (.bool true) ∧ Below w.heap.size w w' := by
  have H1 := Lib.hid (fun w => lword_any [107] w (by decide))
  have H2 := Lib.hid (fun w => lword_any [118, 118] w (by decide))
  have g1 : wv' [107] = wd (BA [107]) := wv'_few (by decide)
  have g2 : wv' [118, 118] = wd (BA [118, 118]) := wv'_few (by decide)
  have H3 := Lib.hid (fun w => bytes_any ⟨3, wv' [107], wv' [118, 118], 258⟩ w (by show wv' [107] < _; rw [g1]; exact wd_small _ (by decide)) (by show wv' [118, 118] < _; rw [g2]; exact wd_small _ (by decide)))
  unfold SPost at H3
  rw [show bts ⟨3, wv' [107], wv' [118, 118], 258⟩ = [80, 2, 1, 2, 118, 118, 1, 107] by rw [g1, g2, bts_put _ _ _ (by decide) (by decide) (by decide) (by decide)]; rfl] at H3
  clear g1 g2
  go_enter Try.func9, Try.ntmps9
  go_wp2_with fail
  refine (H1.out _).mono ?_
  rintro e w1 ⟨rfl, hb⟩
  have B1 := Lib.hid hb
  clear hb
  go_wp2_with fail
  refine (H2.out _).mono ?_
  rintro e w2 ⟨rfl, hb⟩
  have B2 := Lib.hid (below3 B1.out hb)
  clear hb B1
  go_wp2_with fail
  refine (H3.out _).mono ?_
  rintro e w3 ⟨rfl, hb⟩
  have B3 := Lib.hid (below3 B2.out hb)
  clear hb B2
  go_wp2
  go_ret
  exact ⟨congrArg (fun x => Ending.returned (.bool x)) (by rw [BA_toList]; rfl), B3.out⟩
end Go.Proofs.Ytpnjeoilkaimmaa
