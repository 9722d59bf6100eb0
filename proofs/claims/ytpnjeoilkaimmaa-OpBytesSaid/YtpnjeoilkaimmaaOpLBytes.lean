/- The walk of the law on operations' bytes: right, bytes and what is read are as the document says. Conditions: words are of 64 bits, lengths are ints. -/
import Derived.Test.YtpnjeoilkaimmaaOpLaw
import Derived.Test.YtpnjeoilkaimmaaOpMore
import Derived.Test.YtpnjeoilkaimmaaOpRefP
import Derived.Test.YtpnjeoilkaimmaaOpRefS
import Derived.Test.YtpnjeoilkaimmaaGrow
namespace Go.Proofs.Ytpnjeoilkaimmaa
open Go.RowKit Go.ChangeShapes Go.WideShapes Go.ChangeAt

theorem equal_rop (a b : Ov) (w : World) : (Op.equalIn 10000 29 a.a b.a).run Try.prog w = .ok (a.q b) w := by
  unfold Ov.a
  rw [run_equalIn_struct w 9999 29 _ _ (by kernel_rfl) (by kernel_rfl)]
  simp [Program.fieldsOf, Try.underlying29, Op.eqFields, Go.part, isAgg, run_underlying Try.underlying3, run_equalIn_int w 9998 3 .i64 .i64 _ _ Try.underlying3, run_underlying Try.underlying22, run_equalIn_int w 9998 22 .u64 .u64 _ _ Try.underlying22]
  unfold Ov.q
  by_cases h1 : a.k = b.k
  · rw [if_pos h1, h1, beq_self_eq_true]
    by_cases h2 : (a.key : Int) = b.key
    · rw [if_pos h2, h2, beq_self_eq_true]
      by_cases h3 : (a.val : Int) = b.val
      · rw [if_pos h3, h3, beq_self_eq_true]
        by_cases h4 : a.f = b.f
        · rw [if_pos h4, h4]; simp
        · rw [if_neg h4, beq_eq_false_iff_ne.2 h4]; simp
      · rw [if_neg h3, beq_eq_false_iff_ne.2 h3]; simp
    · rw [if_neg h2, beq_eq_false_iff_ne.2 h2]; simp
  · rw [if_neg h1, beq_eq_false_iff_ne.2 h1]; simp
theorem eql_rop (a b : Ov) (w : World) : (binOp .eql 29 a.a b.a).run Try.prog w = .ok (.bool (a.q b)) w := by
  have h := equal_rop a b w
  unfold Ov.a at h ⊢
  rw [run_eql_struct, h]; rfl
set_option maxHeartbeats 1000000 in
theorem as_op (k : Int) (x v : Nat) (f : Int) (w : World) : Calls Try.prog 14 #[.agg #[.int .i64 k, .int .u64 (x : Nat), .int .u64 (v : Nat), .int .i64 f]] w fun e w' => e = .returned (.agg #[.int .i64 k, .int .u64 (x : Nat), .int .u64 (v : Nat), .int .i64 f]) ∧ Below w.heap.size w w' := by
  go_enter Try.func14, Try.ntmps14
  go_wp2_with fail
  exact bodyPost_ret (v := .agg #[.int .i64 k, .int .u64 (x : Nat), .int .u64 (v : Nat), .int .i64 f]) (by simp [results, Try.results14, go_sem]) rfl ⟨rfl, ((Below.refl _ w).alloc (Nat.le_refl _) _).alloc (by simp) _⟩
theorem BA_self (l : List UInt8) : ((BA l).toList == (BA l).toList) = true := by simp
set_option maxHeartbeats 4000000 in
theorem lbytes_long (k : Int) (x v : Nat) (f : Int) (l : List UInt8) (w : World) (hl : 2000 < l.length) :
    Calls Try.prog 3 #[.agg #[.int .i64 k, .int .u64 (x : Nat), .int .u64 (v : Nat), .int .i64 f], .string (BA l)] w fun e w' => e = .returned (.bool true) ∧ Below w.heap.size w w' := by
  have zl : (BA l).size = l.length := rfl
  have d1 : decide (2000 < l.length) = true := by simp; omega
  have d2 : decide ((2000 : Int) < (l.length : Int)) = true := by simp; omega
  clear hl
  obtain ⟨p, hp⟩ : ∃ p, w.heap.size = p := ⟨_, rfl⟩
  obtain ⟨w1, hw1⟩ : ∃ w1, w.alloc (.cells #[.int .i64 k, .int .u64 (x : Nat), .int .u64 (v : Nat), .int .i64 f] 24) = w1 := ⟨_, rfl⟩
  have HX_a1 := Lib.hid (show Box w1 p 24 #[.int .i64 k, .int .u64 (x : Nat), .int .u64 (v : Nat), .int .i64 f] by rw [← hw1, ← hp]; exact Box.new _ _ _)
  have HB1 := Lib.hid (show Below w.heap.size w w1 by rw [← hw1]; exact (Below.refl _ _).alloc (Nat.le_refl _) _)
  go_enter Try.func3, Try.ntmps3
  go_upto_region 1 with fail
  try simp only [hw1, hp]
  clear hw1 hp
  go_wp2_with fail
  refine (opshown_any _).mono ?_
  rintro e w2 ⟨rfl, hb⟩
  have HX_a2 := Lib.hid (show Box w2 p 24 #[.int .i64 k, .int .u64 (x : Nat), .int .u64 (v : Nat), .int .i64 f] from HX_a1.out.of (hb.block _ HX_a1.out.lt))
  clear HX_a1
  have HB2 := Lib.hid (HB1.out.trans (hb.mono HB1.out.size))
  clear hb HB1
  go_wp2
  go_ret
  exact ⟨rfl, HB2.out⟩
set_option maxHeartbeats 4000000 in
theorem lbytes_short (k : Int) (x v : Nat) (f : Int) (l : List UInt8) (w : World) (hx : x < 18446744073709551616) (hv : v < 18446744073709551616) (hl : l.length ≤ 2000) :
    Calls Try.prog 3 #[.agg #[.int .i64 k, .int .u64 (x : Nat), .int .u64 (v : Nat), .int .i64 f], .string (BA l)] w fun e w' => e = .returned (.bool true) ∧ Below w.heap.size w w' := by
  have zl : (BA l).size = l.length := rfl
  have d1 : decide (2000 < l.length) = false := by simp; omega
  have d2 : decide ((2000 : Int) < (l.length : Int)) = false := by simp; omega
  have HP := Lib.hid (fun w => parse_any l w (by omega))
  have HQ := Lib.hid (fun w => rparse_any l w (by omega))
  have HR := Lib.hid (fun w => opright_any ⟨k, x, v, f⟩ w hx hv)
  have HS := Lib.hid (fun w => refright_any ⟨k, x, v, f⟩ w hx hv)
  have HY := Lib.hid (fun w => bytes_any ⟨k, x, v, f⟩ w hx hv)
  have HZ := Lib.hid (fun w => rbytes_any ⟨k, x, v, f⟩ w hx hv)
  unfold PsPost at HP HQ
  unfold OrPost at HR HS
  unfold SPost at HY HZ
  generalize prs l = R at *
  obtain ⟨⟨k2, x2, v2, f2⟩, e2⟩ := R
  simp only [Ov.a] at HP HQ HR HS HY HZ
  have HA := Lib.hid (fun w => as_op k x v f w)
  have HA2 := Lib.hid (fun w => as_op k2 x2 v2 f2 w)
  generalize Ov.r ⟨k, x, v, f⟩ = r at *
  generalize bts ⟨k, x, v, f⟩ = S at *
  have q1 : (r == r) = true := by simp
  have q2 := BA_self S
  have q3 : (e2 == e2) = true := by simp
  have q4 : ∀ w, (binOp .eql 29 (.agg #[.int .i64 k2, .int .u64 (x2 : Nat), .int .u64 (v2 : Nat), .int .i64 f2]) (.agg #[.int .i64 k2, .int .u64 (x2 : Nat), .int .u64 (v2 : Nat), .int .i64 f2])).run Try.prog w = .ok (.bool true) w := fun w => by
    have h := eql_rop ⟨k2, x2, v2, f2⟩ ⟨k2, x2, v2, f2⟩ w
    rw [Ov.q_self] at h
    exact h
  clear hx hv hl
  obtain ⟨p, hp⟩ : ∃ p, w.heap.size = p := ⟨_, rfl⟩
  obtain ⟨w1, hw1⟩ : ∃ w1, w.alloc (.cells #[.int .i64 k, .int .u64 (x : Nat), .int .u64 (v : Nat), .int .i64 f] 24) = w1 := ⟨_, rfl⟩
  have HX_a1 := Lib.hid (show Box w1 p 24 #[.int .i64 k, .int .u64 (x : Nat), .int .u64 (v : Nat), .int .i64 f] by rw [← hw1, ← hp]; exact Box.new _ _ _)
  have HB1 := Lib.hid (show Below w.heap.size w w1 by rw [← hw1]; exact (Below.refl _ _).alloc (Nat.le_refl _) _)
  go_enter Try.func3, Try.ntmps3
  go_upto_region 1 with fail
  try simp only [hw1, hp]
  clear hw1 hp
  go_wp2_with fail
  refine (opshown_any _).mono ?_
  rintro e w2 ⟨rfl, hb⟩
  have HX_a2 := Lib.hid (show Box w2 p 24 #[.int .i64 k, .int .u64 (x : Nat), .int .u64 (v : Nat), .int .i64 f] from HX_a1.out.of (hb.block _ HX_a1.out.lt))
  clear HX_a1
  have HB2 := Lib.hid (HB1.out.trans (hb.mono HB1.out.size))
  clear hb HB1
  go_wp2_with fail
  refine (HP.out _).mono ?_
  rintro e w3 ⟨rfl, hb⟩
  have HX_a3 := Lib.hid (show Box w3 p 24 #[.int .i64 k, .int .u64 (x : Nat), .int .u64 (v : Nat), .int .i64 f] from HX_a2.out.of (hb.block _ HX_a2.out.lt))
  clear HX_a2
  have HB3 := Lib.hid (HB2.out.trans (hb.mono HB2.out.size))
  clear hb HB2
  go_upto_region 5 with (fail)
  obtain ⟨q, hq⟩ : ∃ q9, w3.heap.size = q9 := ⟨_, rfl⟩
  obtain ⟨w4, hw9⟩ : ∃ w9, w3.alloc (.cells #[.int .i64 k2, .int .u64 (x2 : Nat), .int .u64 (v2 : Nat), .int .i64 f2] 24) = w9 := ⟨_, rfl⟩
  have HX_a4 := Lib.hid (show Box w4 p 24 #[.int .i64 k, .int .u64 (x : Nat), .int .u64 (v : Nat), .int .i64 f] by rw [← hw9]; exact HX_a3.out.alloc _)
  have HX_b4 := Lib.hid (show Box w4 q 24 #[.int .i64 k2, .int .u64 (x2 : Nat), .int .u64 (v2 : Nat), .int .i64 f2] by rw [← hw9, ← hq]; exact Box.new w3 _ _)
  have HB4 := Lib.hid (show Below w.heap.size w w4 by rw [← hw9]; exact HB3.out.alloc HB3.out.size _)
  have HS_b := Lib.hid (show w.heap.size ≤ q by rw [← hq]; exact HB3.out.size)
  simp only [hw9, hq]
  clear hq hw9 HB3 HX_a3
  go_wp2_with fail
  refine (HQ.out _).mono ?_
  rintro e w5 ⟨rfl, hb⟩
  have HX_a5 := Lib.hid (show Box w5 p 24 #[.int .i64 k, .int .u64 (x : Nat), .int .u64 (v : Nat), .int .i64 f] from HX_a4.out.of (hb.block _ HX_a4.out.lt))
  have HX_b5 := Lib.hid (show Box w5 q 24 #[.int .i64 k2, .int .u64 (x2 : Nat), .int .u64 (v2 : Nat), .int .i64 f2] from HX_b4.out.of (hb.block _ HX_b4.out.lt))
  clear HX_a4 HX_b4
  have HB5 := Lib.hid (HB4.out.trans (hb.mono HB4.out.size))
  clear hb HB4
  go_upto_region 6 with (fail)
  obtain ⟨g, hq⟩ : ∃ q9, w5.heap.size = q9 := ⟨_, rfl⟩
  obtain ⟨w6, hw9⟩ : ∃ w9, w5.alloc (.cells #[.int .i64 k2, .int .u64 (x2 : Nat), .int .u64 (v2 : Nat), .int .i64 f2] 29) = w9 := ⟨_, rfl⟩
  have HX_a6 := Lib.hid (show Box w6 p 24 #[.int .i64 k, .int .u64 (x : Nat), .int .u64 (v : Nat), .int .i64 f] by rw [← hw9]; exact HX_a5.out.alloc _)
  have HX_b6 := Lib.hid (show Box w6 q 24 #[.int .i64 k2, .int .u64 (x2 : Nat), .int .u64 (v2 : Nat), .int .i64 f2] by rw [← hw9]; exact HX_b5.out.alloc _)
  have HX_c6 := Lib.hid (show Box w6 g 29 #[.int .i64 k2, .int .u64 (x2 : Nat), .int .u64 (v2 : Nat), .int .i64 f2] by rw [← hw9, ← hq]; exact Box.new w5 _ _)
  have HB6 := Lib.hid (show Below w.heap.size w w6 by rw [← hw9]; exact HB5.out.alloc HB5.out.size _)
  have HS_c := Lib.hid (show w.heap.size ≤ g by rw [← hq]; exact HB5.out.size)
  simp only [hw9, hq]
  clear hq hw9 HB5 HX_a5 HX_b5
  have c_a0 := Gr.cell (show w6.cell? ⟨p, 0, none⟩ = some (.int .i64 k) from HX_a6.out.cell 0)
  have c_a1 := Gr.cell (show w6.cell? ⟨p, 1, none⟩ = some (.int .u64 (x : Nat)) from HX_a6.out.cell 1)
  have c_a2 := Gr.cell (show w6.cell? ⟨p, 2, none⟩ = some (.int .u64 (v : Nat)) from HX_a6.out.cell 2)
  have c_a3 := Gr.cell (show w6.cell? ⟨p, 3, none⟩ = some (.int .i64 f) from HX_a6.out.cell 3)
  have c_b0 := Gr.cell (show w6.cell? ⟨q, 0, none⟩ = some (.int .i64 k2) from HX_b6.out.cell 0)
  have c_b1 := Gr.cell (show w6.cell? ⟨q, 1, none⟩ = some (.int .u64 (x2 : Nat)) from HX_b6.out.cell 1)
  have c_b2 := Gr.cell (show w6.cell? ⟨q, 2, none⟩ = some (.int .u64 (v2 : Nat)) from HX_b6.out.cell 2)
  have c_b3 := Gr.cell (show w6.cell? ⟨q, 3, none⟩ = some (.int .i64 f2) from HX_b6.out.cell 3)
  have c_c0 := Gr.cell (show w6.cell? ⟨g, 0, none⟩ = some (.int .i64 k2) from HX_c6.out.cell 0)
  have c_c1 := Gr.cell (show w6.cell? ⟨g, 1, none⟩ = some (.int .u64 (x2 : Nat)) from HX_c6.out.cell 1)
  have c_c2 := Gr.cell (show w6.cell? ⟨g, 2, none⟩ = some (.int .u64 (v2 : Nat)) from HX_c6.out.cell 2)
  have c_c3 := Gr.cell (show w6.cell? ⟨g, 3, none⟩ = some (.int .i64 f2) from HX_c6.out.cell 3)
  refine wp_region_grow (by kernel_rfl) (by kernel_rfl) ?_
  repeat (go_big_quiet_step (first | (go_at_call 12; with_reducible exact Gr.blw (HR.out _)) | (go_at_call 14; with_reducible exact Gr.blw (HA.out _)) | (go_at_call 13; with_reducible exact Gr.blw (HS.out _)) | (go_at_call 15; with_reducible exact Gr.blw (HY.out _)) | (go_at_call 16; with_reducible exact Gr.blw (HZ.out _)) | (go_at_call 14; with_reducible exact Gr.blw (HA2.out _))))
  refine wpQuiet_nil ?_
  intro w12 hw12
  obtain ⟨G, hG⟩ := hw12
  subst hG
  have HB9 := Lib.hid (HB6.out.trans (G.ok.none.mono HB6.out.size))
  go_wp2
  go_ret
  exact ⟨rfl, HB9.out⟩
theorem lbytes_law (o : Ov) (s1 : ByteArray) (w : World) (ho : o.key < 18446744073709551616 ∧ o.val < 18446744073709551616) : Calls Try.prog 3 #[o.a, .string s1] w fun e w' => e = .returned (.bool true) ∧ Below w.heap.size w w' := by
  rw [← BA_Ls s1]
  generalize Ls s1 = l
  obtain ⟨k, x, v, f⟩ := o
  by_cases hl : l.length ≤ 2000
  · exact lbytes_short k x v f l w ho.1 ho.2 hl
  · exact lbytes_long k x v f l w (by omega)
end Go.Proofs.Ytpnjeoilkaimmaa
