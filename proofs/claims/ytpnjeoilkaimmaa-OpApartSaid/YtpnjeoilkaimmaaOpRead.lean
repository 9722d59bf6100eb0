/- Contracts of package op's reader: take, one, number, word, kind: what each returns, what the reader is then; else nothing turns. Conditions: lengths are ints. -/
import Derived.Test.YtpnjeoilkaimmaaOpMath
import Derived.Test.YtpnjeoilkaimmaaPackWords
import Derived.Test.YtpnjeoilkaimmaaHeap
import Derived.Lib.Slices
import Derived.Lib.Walk
namespace Go.Proofs.Ytpnjeoilkaimmaa
open Go.RowKit Go.ChangeShapes Go.WideShapes Go.ChangeAt

theorem w64_nat (n : Nat) (h : n < 9223372036854775808) : wrap64 (n : Int) = (n : Int) := by unfold wrap64; omega
theorem w64_u8 (b : UInt8) : wrap64 (b.toNat : Int) = (b.toNat : Int) := w64_nat _ (by have := UInt8.toNat_lt b; omega)
def Rd.cs (r : Rd) : Array Value := #[.string (BA r.l), .bool r.c, .bool r.g]
def RdPost (w : World) (p : Nat) (v : Value) (r : Rd) (e : Ending) (w' : World) : Prop := e = .returned v ∧ Box w' p 48 r.cs ∧ Only (just p) w w'

set_option maxHeartbeats 1000000 in
theorem rd_take (p : Nat) (r : Rd) (n : Nat) (w : World) (hb : Box w p 48 r.cs) :
    Calls Try.prog 33 #[.pointer (some ⟨p, 0, none⟩), .int .i64 n] w (RdPost w p (.string (BA (r.take n).1)) (r.take n).2) := by
  obtain ⟨l, c, g⟩ := r
  have HB := Lib.hid hb
  have c0 : w.cell? ⟨p, 0, none⟩ = some (.string (BA l)) := hb.cell 0
  have c1 : w.cell? ⟨p, 1, none⟩ = some (.bool c) := hb.cell 1
  have f0 := hb.frozen 0
  have f1 := hb.frozen 1
  clear hb
  have hz : (BA l).size = l.length := rfl
  by_cases h : n ≤ l.length
  · have e1 := BA_front l n
    have e2 := BA_rest l n
    have et : Rd.take ⟨l, c, g⟩ n = (l.take n, ⟨l.drop n, c, g⟩) := by unfold Rd.take; rw [if_pos h]
    have hd : decide ((l.length : Int) < (n : Int)) = false := by simp; omega
    go_enter Try.func33, Try.ntmps33
    go_wp2
    go_ret
    rw [et]
    refine ⟨rfl, ?_, ?_⟩
    · exact HB.out.put 0 _
    · exact (Only.refl _ _).setCell (p := ⟨p, 0, none⟩) (.inl (just_self p)) _
  · have et : Rd.take ⟨l, c, g⟩ n = ([], ⟨l, true, g⟩) := by unfold Rd.take; rw [if_neg h]
    have hd : decide ((l.length : Int) < (n : Int)) = true := by simp; omega
    go_enter Try.func33, Try.ntmps33
    go_wp2
    go_ret
    rw [et]
    refine ⟨rfl, ?_, ?_⟩
    · exact HB.out.put 1 _
    · exact (Only.refl _ _).setCell (p := ⟨p, 1, none⟩) (.inl (just_self p)) _

theorem rd_one (p : Nat) (r : Rd) (w : World) (hb : Box w p 48 r.cs) :
    Calls Try.prog 32 #[.pointer (some ⟨p, 0, none⟩)] w (RdPost w p (.int .i64 r.one.1) r.one.2) := by
  have ht := rd_take p r 1 w hb
  have HT := Lib.hid ht
  clear ht hb
  obtain ⟨l, c, g⟩ := r
  cases l with
  | nil =>
    have et : Rd.take ⟨[], c, g⟩ 1 = ([], ⟨[], true, g⟩) := rfl
    rw [et] at HT
    go_enter Try.func32, Try.ntmps32
    go_wp2_with fail
    refine HT.out.mono ?_
    rintro e w1 ⟨rfl, hb, ho⟩
    have HB := Lib.hid hb
    have HO := Lib.hid ho
    clear hb ho HT
    have he : (BA []).toList.isEmpty = true := by rw [BA_toList]; rfl
    go_wp2
    go_ret
    exact ⟨rfl, HB.out, HO.out⟩
  | cons b q =>
    have et : Rd.take ⟨b :: q, c, g⟩ 1 = ([b], ⟨q, c, g⟩) := by unfold Rd.take; rw [if_pos (by simp)]; rfl
    rw [et] at HT
    go_enter Try.func32, Try.ntmps32
    go_wp2_with fail
    refine HT.out.mono ?_
    rintro e w1 ⟨rfl, hb, ho⟩
    have HB := Lib.hid hb
    have HO := Lib.hid ho
    clear hb ho HT
    have he : (BA [b]).toList.isEmpty = false := by rw [BA_toList]; rfl
    have hs : (BA [b]).size = 1 := rfl
    go_wp2
    go_ret
    exact ⟨congrArg (fun x => Ending.returned (.int .i64 x)) (w64_u8 b), HB.out, HO.out⟩

theorem rd_num (p : Nat) (r : Rd) (w : World) (hb : Box w p 48 r.cs) :
    Calls Try.prog 20 #[.pointer (some ⟨p, 0, none⟩)] w (RdPost w p (.int .i64 r.num.1) r.num.2) := by
  have H1 := Lib.hid (rd_one p r w hb)
  have b1 := r.one_lt
  have b2 := r.one.2.one_lt
  have hn := Lib.hid (show wrap64 ((r.one.1 : Int) + wrap64 (256 * (r.one.2.one.1 : Int))) = (r.num.1 : Int) by
    show _ = ((r.one.1 + 256 * r.one.2.one.1 : Nat) : Int)
    unfold wrap64; omega)
  clear hb b1 b2
  go_enter Try.func20, Try.ntmps20
  go_wp2_with fail
  refine H1.out.mono ?_
  rintro e w1 ⟨rfl, hb, ho⟩
  have H2 := Lib.hid (rd_one p r.one.2 w1 hb)
  have HO := Lib.hid ho
  clear hb ho H1
  go_wp2_with fail
  refine H2.out.mono ?_
  rintro e w2 ⟨rfl, hb, ho⟩
  have HB := Lib.hid hb
  have HP := Lib.hid (HO.out.trans ho)
  clear hb ho H2 HO
  go_wp2
  go_ret
  exact ⟨congrArg (fun x => Ending.returned (.int .i64 x)) hn.out, HB.out, HP.out⟩

theorem ib_no (b c : UInt8) (l : List UInt8) (h : c ≠ b) (hl : Lib.indexByte l c = -1) : Lib.indexByte (b :: l) c = -1 := by
  unfold Lib.indexByte
  rw [hl, if_neg (by simp; exact fun e => h e.symm), if_pos (by rfl)]
theorem letters_at (c : UInt8) : wrap64 (1 + Lib.indexByte [71, 75, 80, 68, 76] c) = knd c := by
  by_cases h1 : c = 71
  · subst h1; decide +kernel
  by_cases h2 : c = 75
  · subst h2; decide +kernel
  by_cases h3 : c = 80
  · subst h3; decide +kernel
  by_cases h4 : c = 68
  · subst h4; decide +kernel
  by_cases h5 : c = 76
  · subst h5; decide +kernel
  rw [ib_no _ _ _ h1 (ib_no _ _ _ h2 (ib_no _ _ _ h3 (ib_no _ _ _ h4 (ib_no _ _ _ h5 rfl))))]
  unfold knd
  rw [if_neg h1, if_neg h2, if_neg h3, if_neg h4, if_neg h5]
  decide +kernel
/-- strings.IndexByte. -/
theorem ib_bytealg (s : ByteArray) (c : Int) (w : World) : (callFunc 37 #[.string s, .int .u8 c]).run Try.prog w = .ok (.value (.int .i64 (Lib.indexByte s.data.toList c.toNat.toUInt8))) w := by
  rw [run_callFunc_indexByte Try.func37 (by kernel_rfl) (by kernel_rfl) (by kernel_rfl) (by kernel_rfl), Lib.run_indexByteString]
  rfl
set_option maxRecDepth 100000 in
theorem ib_lite (s : ByteArray) (c : Int) (w : World) :
    Calls Try.prog 36 #[.string s, .int .u8 c] w fun e w' => e = .returned (.int .i64 (Lib.indexByte s.data.toList c.toNat.toUInt8)) ∧ w' = w := by
  go_enter Try.func36, Try.ntmps36
  go_wp2
  rw [run_callFunc_extern Try.func37 (by kernel_rfl) (by kernel_rfl) (by kernel_rfl) (e := Extern.BytealgIndexByte.indexByte) (by kernel_rfl), Lib.run_indexByteString]
  simp only [Result.andThen]
  rw [Oper.upon_value]
  go_wp2
  go_ret
  exact ⟨rfl, rfl⟩
theorem ib_any (s : ByteArray) (c : Int) (w : World) :
    Calls Try.prog 31 #[.string s, .int .u8 c] w fun e w' => e = .returned (.int .i64 (Lib.indexByte s.data.toList c.toNat.toUInt8)) ∧ w' = w := by
  go_enter Try.func31, Try.ntmps31
  go_wp2_with fail
  refine (ib_lite s c _).mono ?_
  rintro e w' ⟨rfl, rfl⟩
  go_wp2
  go_ret
  exact ⟨rfl, rfl⟩
theorem kd_one (r : Rd) : knd (r.one.1 : Int).toNat.toUInt8 = r.kd := by
  unfold Rd.one Rd.kd
  split
  · rfl
  · rename_i b q h
    show knd ((b.toNat : Int).toNat.toUInt8) = knd b
    congr 1
    apply UInt8.toNat_inj.1
    simp
set_option maxHeartbeats 1000000 in
theorem rd_kind (p : Nat) (r : Rd) (w : World) (hb : Box w p 48 r.cs) :
    Calls Try.prog 19 #[.pointer (some ⟨p, 0, none⟩)] w (RdPost w p (.int .i64 r.kd) r.one.2) := by
  have H1 := Lib.hid (rd_one p r w hb)
  have hk := Lib.hid (letters_at (r.one.1 : Int).toNat.toUInt8)
  rw [kd_one] at hk
  have b1 := r.one_lt
  have hw : IntKind.u8.wrap (r.one.1 : Int) = (r.one.1 : Int) := by rw [IntKind.wrap_u8]; omega
  clear hb b1
  go_enter Try.func19, Try.ntmps19
  go_wp2_with fail
  refine H1.out.mono ?_
  rintro e w1 ⟨rfl, hb, ho⟩
  have HB := Lib.hid hb
  have HO := Lib.hid ho
  clear hb ho H1
  go_wp2_with fail
  refine (ib_any _ _ _).mono ?_
  rintro e w2 ⟨rfl, rfl⟩
  go_wp2
  go_ret
  exact ⟨congrArg (fun x => Ending.returned (.int .i64 x)) hk.out, HB.out, HO.out⟩
theorem wv_wv' (l : List UInt8) : wv (BA l) = wv' l := rfl
theorem we_long (l : List UInt8) : (we (BA l) != 0) = decide (7 < l.length) := by
  unfold we
  rw [BA_size]
  by_cases h : l.length ≤ 7
  · rw [if_pos h]; simp; omega
  · rw [if_neg h]; simp; omega
set_option maxHeartbeats 1000000 in
theorem rd_word (p : Nat) (r : Rd) (w : World) (hb : Box w p 48 r.cs) (hl : r.l.length ≤ 9223372036854775807) :
    Calls Try.prog 21 #[.pointer (some ⟨p, 0, none⟩)] w (RdPost w p (.int .u64 r.word.1) r.word.2) := by
  have H1 := Lib.hid (rd_one p r w hb)
  have hq : ((r.one.2.take r.one.1).1).length ≤ r.l.length := by
    have h1 : r.one.2.l.length ≤ r.l.length := by unfold Rd.one; split <;> simp_all
    unfold Rd.take; split
    · simp; omega
    · simp
  have HP : r.word = (wv' (r.one.2.take r.one.1).1, ⟨(r.one.2.take r.one.1).2.l, (r.one.2.take r.one.1).2.c, (r.one.2.take r.one.1).2.g || decide (7 < (r.one.2.take r.one.1).1.length)⟩) := rfl
  rw [HP]
  clear HP hb
  have H2 := fun w1 (h : Box w1 p 48 r.one.2.cs) => rd_take p r.one.2 r.one.1 w1 h
  have H2 := Lib.hid H2
  generalize r.one.2.take r.one.1 = T at *
  obtain ⟨t, q⟩ := T
  have H3 := Lib.hid (fun w => word_any (BA t) w (by rw [BA_size]; simp at hq; omega))
  have hlong := we_long t
  clear hq hl
  go_enter Try.func21, Try.ntmps21
  go_wp2_with fail
  refine H1.out.mono ?_
  rintro e w1 ⟨rfl, hb, ho⟩
  have HB := Lib.hid hb
  have HO := Lib.hid ho
  clear hb ho H1
  go_wp2_with fail
  refine (H2.out _ HB.out).mono ?_
  rintro e w2 ⟨rfl, hb, ho⟩
  have HC := Lib.hid hb
  have HP := Lib.hid (HO.out.trans ho)
  clear hb ho H2 HO HB
  go_wp2_with fail
  refine (H3.out _).mono ?_
  rintro e w3 ⟨rfl, hb⟩
  have HD := Lib.hid (HC.out.only (Only.of_below (S := nobody) hb) (not_nobody _))
  have HQ := Lib.hid (HP.out.trans (Only.of_below hb))
  clear hb HP HC H3
  by_cases h7 : 7 < t.length
  · have hl7 : (we (BA t) != 0) = true := by rw [hlong]; simp; omega
    have c2 : w3.cell? ⟨p, 2, none⟩ = some (.bool q.g) := HD.out.cell 2
    have f2 := HD.out.frozen 2
    clear hlong
    go_wp2
    go_ret
    refine ⟨rfl, ?_, HQ.out.setCell (p := ⟨p, 2, none⟩) (.inl (just_self p)) _⟩
    have := HD.out.put 2 (.bool true)
    rw [decide_eq_true h7, Bool.or_true]
    exact this
  · have hl7 : (we (BA t) != 0) = false := by rw [hlong]; simp; omega
    clear hlong
    go_wp2
    go_ret
    refine ⟨rfl, ?_, HQ.out⟩
    rw [decide_eq_false h7, Bool.or_false]
    exact HD.out
end Go.Proofs.Ytpnjeoilkaimmaa
