/- The walk of the law on a Put's bytes: its time, its value and its key, in this order. Conditions: lengths are ints. -/
import Derived.Test.YtpnjeoilkaimmaaOpLaw
import Derived.Test.YtpnjeoilkaimmaaOpMore
import Derived.Test.YtpnjeoilkaimmaaOpRefB
import Derived.BigQuiet
namespace Go.Proofs.Ytpnjeoilkaimmaa
open Go.RowKit Go.ChangeShapes Go.WideShapes Go.ChangeAt

theorem index_at (l : List UInt8) (i : Nat) (b : UInt8) (h : l[i]? = some b) (W : World) : (Instr.index 9 (.string (BA l)) (.int .i64 (i : Int))).run Try.prog W = .ok (.int .u8 (b.toNat : Int)) W := by
  obtain ⟨hi, hb⟩ := List.getElem?_eq_some_iff.1 h
  rw [run_index_string W 9 (BA l) .i64 (i : Int) Try.underlying9, dif_pos ⟨by omega, by rw [BA_size]; omega⟩]
  have e : ((BA l)[((i : Int)).toNat]'(by rw [BA_size]; omega)) = b := hb
  rw [e]
theorem slice_to (l m : List UInt8) (i j : Nat) (hij : i ≤ j) (hj : j ≤ l.length) (h : (l.drop i).take (j - i) = m) (W : World) : (Instr.slice 9 (.string (BA l)) (some (.int .i64 (i : Int))) (some (.int .i64 (j : Int))) none).run Try.prog W = .ok (.string (BA m)) W := by
  have h9 := run_slice_string (P := Try.prog) W 9 (BA l) .i64 .i64 (i : Int) (j : Int) Try.underlying9 (by omega) (by omega) (by rw [BA_size]; omega)
  rw [h9, ← h, ← BA_cut]; rfl
theorem slice_from (l m : List UInt8) (i : Nat) (hi : i ≤ l.length) (h : l.drop i = m) (W : World) : (Instr.slice 9 (.string (BA l)) (some (.int .i64 (i : Int))) none none).run Try.prog W = .ok (.string (BA m)) W := by
  have h9 := run_slice_string_from_if (P := Try.prog) W 9 (BA l) .i64 (i : Int) Try.underlying9
  rw [h9, if_pos ⟨by omega, by rw [BA_size]; omega⟩, ← h, ← BA_rest]; rfl
theorem w64_in (n : Int) (h0 : -9223372036854775808 ≤ n) (h1 : n ≤ 9223372036854775807) : IntKind.i64.wrap n = n := by rw [IntKind.wrap_i64]; omega
set_option maxHeartbeats 4000000 in
theorem puts_key (key val : List UInt8) (f : Int) (w : World) (hk : 7 < key.length) :
    Calls Try.prog 7 #[.string (BA key), .string (BA val), .int .i64 f] w fun e w' => e = .returned (.bool true) ∧ Below w.heap.size w w' := by
  have z1 : (BA key).size = key.length := rfl
  have z2 : (BA val).size = val.length := rfl
  have d2 : decide (7 < key.length) = true := by simp; omega
  have d2i : decide ((7 : Int) < (key.length : Int)) = true := by simp; omega
  clear hk
  go_enter Try.func7, Try.ntmps7
  go_wp2_with fail
  refine (opshown_any _).mono ?_
  rintro e w1 ⟨rfl, hb⟩
  have HB1 := Lib.hid hb
  clear hb
  go_wp2
  go_ret
  exact ⟨rfl, HB1.out⟩
set_option maxHeartbeats 4000000 in
theorem puts_val (key val : List UInt8) (f : Int) (w : World) (hk : key.length ≤ 7) (hv : 7 < val.length) :
    Calls Try.prog 7 #[.string (BA key), .string (BA val), .int .i64 f] w fun e w' => e = .returned (.bool true) ∧ Below w.heap.size w w' := by
  have z1 : (BA key).size = key.length := rfl
  have z2 : (BA val).size = val.length := rfl
  have d1 : decide (7 < key.length) = false := by simp; omega
  have d1i : decide ((7 : Int) < (key.length : Int)) = false := by simp; omega
  have d2 : decide (7 < val.length) = true := by simp; omega
  have d2i : decide ((7 : Int) < (val.length : Int)) = true := by simp; omega
  clear hk hv
  go_enter Try.func7, Try.ntmps7
  go_wp2_with fail
  refine (opshown_any _).mono ?_
  rintro e w1 ⟨rfl, hb⟩
  have HB1 := Lib.hid hb
  clear hb
  go_wp2
  go_ret
  exact ⟨rfl, HB1.out⟩
set_option maxHeartbeats 4000000 in
theorem puts_neg (key val : List UInt8) (f : Int) (w : World) (hk : key.length ≤ 7) (hv : val.length ≤ 7) (hf : f < 0) :
    Calls Try.prog 7 #[.string (BA key), .string (BA val), .int .i64 f] w fun e w' => e = .returned (.bool true) ∧ Below w.heap.size w w' := by
  have z1 : (BA key).size = key.length := rfl
  have z2 : (BA val).size = val.length := rfl
  have d1 : decide (7 < key.length) = false := by simp; omega
  have d1i : decide ((7 : Int) < (key.length : Int)) = false := by simp; omega
  have d2 : decide (7 < val.length) = false := by simp; omega
  have d2i : decide ((7 : Int) < (val.length : Int)) = false := by simp; omega
  have gk := wv'_few hk
  have gv := wv'_few hv
  have HK := Lib.hid (fun w => lword_any key w (by omega))
  have HV := Lib.hid (fun w => lword_any val w (by omega))
  have HS := Lib.hid (fun w => bytes_any ⟨3, wv' key, wv' val, f⟩ w (by show wv' key < _; rw [gk]; exact wd_small _ hk) (by show wv' val < _; rw [gv]; exact wd_small _ hv))
  unfold SPost at HS
  have e9 : bts ⟨3, wv' key, wv' val, f⟩ = [] := bts_none _ (by
    cases hr : Ov.r ⟨3, wv' key, wv' val, f⟩
    · rfl
    · have R := (Ov.r_iff _).1 hr
      have := R.f0
      have := R.f1
      simp only at *
      omega)
  rw [e9] at HS
  have he := BA_none
  have b1 : decide (f < 0) = true := by simp; omega
  clear gk gv e9 hk hv hf
  go_enter Try.func7, Try.ntmps7
  go_wp2_with fail
  refine (opshown_any _).mono ?_
  rintro e w1 ⟨rfl, hb⟩
  have HB1 := Lib.hid hb
  clear hb
  go_wp2_with fail
  refine (HK.out _).mono ?_
  rintro e w2 ⟨rfl, hb⟩
  have HB2 := Lib.hid (below3 HB1.out hb)
  clear hb HB1 HK
  go_wp2_with fail
  refine (HV.out _).mono ?_
  rintro e w3 ⟨rfl, hb⟩
  have HB3 := Lib.hid (below3 HB2.out hb)
  clear hb HB2 HV
  go_wp2_with fail
  refine (HS.out _).mono ?_
  rintro e w4 ⟨rfl, hb⟩
  have HB4 := Lib.hid (below3 HB3.out hb)
  clear hb HB3 HS
  go_wp2
  go_ret
  exact ⟨rfl, HB4.out⟩
set_option maxHeartbeats 4000000 in
theorem puts_big (key val : List UInt8) (f : Int) (w : World) (hk : key.length ≤ 7) (hv : val.length ≤ 7) (hf : 65535 < f) :
    Calls Try.prog 7 #[.string (BA key), .string (BA val), .int .i64 f] w fun e w' => e = .returned (.bool true) ∧ Below w.heap.size w w' := by
  have z1 : (BA key).size = key.length := rfl
  have z2 : (BA val).size = val.length := rfl
  have d1 : decide (7 < key.length) = false := by simp; omega
  have d1i : decide ((7 : Int) < (key.length : Int)) = false := by simp; omega
  have d2 : decide (7 < val.length) = false := by simp; omega
  have d2i : decide ((7 : Int) < (val.length : Int)) = false := by simp; omega
  have gk := wv'_few hk
  have gv := wv'_few hv
  have HK := Lib.hid (fun w => lword_any key w (by omega))
  have HV := Lib.hid (fun w => lword_any val w (by omega))
  have HS := Lib.hid (fun w => bytes_any ⟨3, wv' key, wv' val, f⟩ w (by show wv' key < _; rw [gk]; exact wd_small _ hk) (by show wv' val < _; rw [gv]; exact wd_small _ hv))
  unfold SPost at HS
  have e9 : bts ⟨3, wv' key, wv' val, f⟩ = [] := bts_none _ (by
    cases hr : Ov.r ⟨3, wv' key, wv' val, f⟩
    · rfl
    · have R := (Ov.r_iff _).1 hr
      have := R.f0
      have := R.f1
      simp only at *
      omega)
  rw [e9] at HS
  have he := BA_none
  have b1 : decide (f < 0) = false := by simp; omega
  have b2 : decide (65535 < f) = true := by simp; omega
  clear gk gv e9 hk hv hf
  go_enter Try.func7, Try.ntmps7
  go_wp2_with fail
  refine (opshown_any _).mono ?_
  rintro e w1 ⟨rfl, hb⟩
  have HB1 := Lib.hid hb
  clear hb
  go_wp2_with fail
  refine (HK.out _).mono ?_
  rintro e w2 ⟨rfl, hb⟩
  have HB2 := Lib.hid (below3 HB1.out hb)
  clear hb HB1 HK
  go_wp2_with fail
  refine (HV.out _).mono ?_
  rintro e w3 ⟨rfl, hb⟩
  have HB3 := Lib.hid (below3 HB2.out hb)
  clear hb HB2 HV
  go_wp2_with fail
  refine (HS.out _).mono ?_
  rintro e w4 ⟨rfl, hb⟩
  have HB4 := Lib.hid (below3 HB3.out hb)
  clear hb HB3 HS
  go_wp2
  go_ret
  exact ⟨rfl, HB4.out⟩
set_option maxHeartbeats 4000000 in
theorem puts_good (key val : List UInt8) (f : Int) (w : World) (hk : key.length ≤ 7) (hv : val.length ≤ 7) (h0 : 0 ≤ f) (h1 : f ≤ 65535) :
    Calls Try.prog 7 #[.string (BA key), .string (BA val), .int .i64 f] w fun e w' => e = .returned (.bool true) ∧ Below w.heap.size w w' := by
  have z1 : (BA key).size = key.length := rfl
  have z2 : (BA val).size = val.length := rfl
  have d1 : decide (7 < key.length) = false := by simp; omega
  have d1i : decide ((7 : Int) < (key.length : Int)) = false := by simp; omega
  have d2 : decide (7 < val.length) = false := by simp; omega
  have d2i : decide ((7 : Int) < (val.length : Int)) = false := by simp; omega
  have gk := wv'_few hk
  have gv := wv'_few hv
  have HK := Lib.hid (fun w => lword_any key w (by omega))
  have HV := Lib.hid (fun w => lword_any val w (by omega))
  have HS := Lib.hid (fun w => bytes_any ⟨3, wv' key, wv' val, f⟩ w (by show wv' key < _; rw [gk]; exact wd_small _ hk) (by show wv' val < _; rw [gv]; exact wd_small _ hv))
  unfold SPost at HS
  have e9 := bts_put key val f hk hv h0 h1
  rw [← gk, ← gv] at e9
  obtain ⟨a, ha⟩ : ∃ a, UInt8.ofNat (f.toNat % 256) = a := ⟨_, rfl⟩
  obtain ⟨b, hb⟩ : ∃ b, UInt8.ofNat (f.toNat / 256) = b := ⟨_, rfl⟩
  obtain ⟨c, hc⟩ : ∃ c, UInt8.ofNat val.length = c := ⟨_, rfl⟩
  obtain ⟨d, hd⟩ : ∃ d, UInt8.ofNat key.length = d := ⟨_, rfl⟩
  have na : a.toNat = f.toNat % 256 := by rw [← ha]; exact u8_back _ (by omega)
  have nb : b.toNat = f.toNat / 256 := by rw [← hb]; exact u8_back _ (by omega)
  have nc : (c.toNat : Int) = (val.length : Int) := by rw [← hc, u8_back _ (by omega)]
  have nd : (d.toNat : Int) = (key.length : Int) := by rw [← hd, u8_back _ (by omega)]
  rw [ha, hb, hc, hd] at e9
  obtain ⟨S, hS⟩ : ∃ S, S = 80 :: a :: b :: c :: (val ++ d :: key) := ⟨_, rfl⟩
  rw [← hS] at e9
  rw [e9] at HS
  obtain ⟨L, hL⟩ : ∃ L, S.length = L := ⟨_, rfl⟩
  have hL2 : L = val.length + key.length + 5 := by rw [← hL, hS]; simp; omega
  obtain ⟨N, hN⟩ : ∃ N, val.length = N := ⟨_, rfl⟩
  obtain ⟨K, hK⟩ : ∃ K, key.length = K := ⟨_, rfl⟩
  obtain ⟨N4, hN4⟩ : ∃ N4, N4 = 4 + N := ⟨_, rfl⟩
  obtain ⟨N5, hN5⟩ : ∃ N5, N5 = 5 + N := ⟨_, rfl⟩
  have zS : (BA S).size = L := hL
  have i0 : ∀ W, (Instr.index 9 (.string (BA S)) (.int .i64 0)).run Try.prog W = .ok (.int .u8 (80 : Int)) W := index_at S 0 80 (by rw [hS]; rfl)
  have i1 : ∀ W, (Instr.index 9 (.string (BA S)) (.int .i64 1)).run Try.prog W = .ok (.int .u8 (a.toNat : Int)) W := index_at S 1 a (by rw [hS]; rfl)
  have i2 : ∀ W, (Instr.index 9 (.string (BA S)) (.int .i64 2)).run Try.prog W = .ok (.int .u8 (b.toNat : Int)) W := index_at S 2 b (by rw [hS]; rfl)
  have i3 : ∀ W, (Instr.index 9 (.string (BA S)) (.int .i64 3)).run Try.prog W = .ok (.int .u8 (c.toNat : Int)) W := index_at S 3 c (by rw [hS]; rfl)
  have i4 := index_at S N4 d (by rw [hS, hN4, ← hN, Nat.add_comm 4]; simp)
  have s1 : ∀ W, (Instr.slice 9 (.string (BA S)) (some (.int .i64 4)) (some (.int .i64 (N4 : Int))) none).run Try.prog W = .ok (.string (BA val)) W := slice_to S val 4 N4 (by omega) (by omega) (by rw [hS, hN4, ← hN]; simp)
  have s2 := slice_from S key N5 (by omega) (by rw [hS, hN5, ← hN, Nat.add_comm 5]; simp)
  have c1 : IntKind.i64.wrap (a.toNat : Int) = (a.toNat : Int) := w64_in _ (by omega) (by have := UInt8.toNat_lt a; omega)
  have c2 : IntKind.i64.wrap (b.toNat : Int) = (b.toNat : Int) := w64_in _ (by omega) (by have := UInt8.toNat_lt b; omega)
  have c3 : IntKind.i64.wrap (c.toNat : Int) = (N : Int) := by rw [nc, hN]; exact w64_in _ (by omega) (by omega)
  have c4 : IntKind.i64.wrap (d.toNat : Int) = (K : Int) := by rw [nd, hK]; exact w64_in _ (by omega) (by omega)
  have c5 : IntKind.i64.wrap (256 * (b.toNat : Int)) = 256 * (b.toNat : Int) := w64_in _ (by omega) (by have := UInt8.toNat_lt b; omega)
  have c6 : IntKind.i64.wrap ((a.toNat : Int) + 256 * (b.toNat : Int)) = f := by rw [na, nb, w64_in _ (by omega) (by omega)]; omega
  have c7 : IntKind.i64.wrap (5 + (N : Int)) = (N5 : Int) := by rw [w64_in _ (by omega) (by omega)]; omega
  have c8 : IntKind.i64.wrap (4 + (N : Int)) = (N4 : Int) := by rw [w64_in _ (by omega) (by omega)]; omega
  have c9 : IntKind.i64.wrap ((N5 : Int) + (K : Int)) = (L : Int) := by rw [w64_in _ (by omega) (by omega)]; omega
  have b1 : decide (f < 0) = false := by simp; omega
  have b2 : decide (65535 < f) = false := by simp; omega
  rw [hK] at z1 d1 d1i
  rw [hN] at z2 d2 d2i
  have q1 : ((BA val).toList == (BA val).toList) = true := by simp
  have q2 : ((BA key).toList == (BA key).toList) = true := by simp
  clear gk gv e9 hk hv h0 h1 ha hb hc hd na nb nc nd hS hL hL2 hN hK hN4 hN5
  go_enter Try.func7, Try.ntmps7
  go_wp2_with fail
  refine (opshown_any _).mono ?_
  rintro e w1 ⟨rfl, hb⟩
  have HB1 := Lib.hid hb
  clear hb
  go_wp2_with fail
  refine (HK.out _).mono ?_
  rintro e w2 ⟨rfl, hb⟩
  have HB2 := Lib.hid (below3 HB1.out hb)
  clear hb HB1 HK
  go_wp2_with fail
  refine (HV.out _).mono ?_
  rintro e w3 ⟨rfl, hb⟩
  have HB3 := Lib.hid (below3 HB2.out hb)
  clear hb HB2 HV
  go_wp2_with fail
  refine (HS.out _).mono ?_
  rintro e w4 ⟨rfl, hb⟩
  have HB4 := Lib.hid (below3 HB3.out hb)
  clear hb HB3 HS
  go_wp2_with fail
  go_quiet (fail)
  go_wp2
  go_ret
  exact ⟨rfl, below_drewN HB4.out _⟩
theorem puts_law (s0 s1 : ByteArray) (m2 : Int) (w : World) : Calls Try.prog 7 #[.string s0, .string s1, .int .i64 m2] w fun e w' => e = .returned (.bool true) ∧ Below w.heap.size w w' := by
  rw [← BA_Ls s0, ← BA_Ls s1]
  generalize Ls s0 = key
  generalize Ls s1 = val
  by_cases hk : key.length ≤ 7
  · by_cases hv : val.length ≤ 7
    · by_cases h0 : m2 < 0
      · exact puts_neg key val m2 w hk hv h0
      · by_cases h1 : 65535 < m2
        · exact puts_big key val m2 w hk hv h1
        · exact puts_good key val m2 w hk hv (by omega) (by omega)
    · exact puts_val key val m2 w hk (by omega)
  · exact puts_key key val m2 w (by omega)
end Go.Proofs.Ytpnjeoilkaimmaa
