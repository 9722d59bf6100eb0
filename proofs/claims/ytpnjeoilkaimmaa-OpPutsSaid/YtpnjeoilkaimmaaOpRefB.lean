/- The document's answer on operations: counted, kind, text. Conditions: words are of 64 bits, lengths are ints. -/
import Derived.Test.YtpnjeoilkaimmaaOpRow
import Derived.Test.YtpnjeoilkaimmaaOpRight
import Derived.BigQuiet
import Derived.OwnWalk
namespace Go.Proofs.Ytpnjeoilkaimmaa
open Go.RowKit Go.ChangeShapes Go.WideShapes Go.ChangeAt

def RcPost (w : World) (l : List UInt8) (e : Ending) (w' : World) : Prop := e = .returned (.string (BA l)) ∧ Below w.heap.size w w'
set_option maxHeartbeats 1000000 in
theorem counted_any (n : Nat) (w : World) (hn : n < 18446744073709551616) (hr : rt n = true) :
    Calls Try.prog 28 #[.int .u64 n] w (RcPost w (cnt n)) := by
  have HT := Lib.hid (fun w => refTextT n w hn)
  have htv : tv n = tx n := by unfold tv; rw [if_pos hr]
  have h7 := rt_few hr
  unfold TPost at HT
  rw [htv] at HT
  clear hr hn htv
  have hsz : (tx n).size = mn n := tx_size n
  have HE := Lib.hid (show BA [UInt8.ofNat (mn n)] ++ tx n = BA (cnt n) by
    have : tx n = BA (Ls (tx n)) := (BA_Ls _).symm
    rw [this, BA_add]; rfl)
  have hq : (BA [UInt8.ofNat (mn n)]).size = 1 := rfl
  go_enter Try.func28, Try.ntmps28
  go_wp2_with fail
  refine (HT.out _).mono ?_
  rintro e w2 ⟨rfl, hb⟩
  have HB := Lib.hid hb
  obtain ⟨g, cap, hv, htx⟩ := (BrAt.made (Below.refl w2.heap.size w2) (Nat.le_refl _) [UInt8.ofNat (mn n)] (by simp)).text (by simp)
  injection hv with e1 e2 e3
  injection e1 with e1
  injection e1 with e1 e4 e5
  subst e1 e3
  clear e2 e4 e5 hb HT
  have e8 := u8_back (mn n) (by omega)
  simp only [brow, List.map_cons, List.map_nil, e8] at htx
  have hcv : (convert 38 9 (.slice (some ⟨w2.heap.size, 0, none⟩) 1 1)).run Try.prog (w2.alloc (.cells #[.int .u8 (mn n : Int)] 5)) = .ok (.string (BA [UInt8.ofNat (mn n)])) (w2.alloc (.cells #[.int .u8 (mn n : Int)] 5)) := htx
  clear e8
  clear htx
  go_wp2
  go_ret
  exact ⟨congrArg (fun x => Ending.returned (.string x)) HE.out, HB.out.alloc HB.out.size _⟩

/-- What the document's kind makes of a text. -/
def Kd (l : List UInt8) : Int := Rd.kd ⟨l, false, false⟩
def KdPost (w : World) (k : Int) (e : Ending) (w' : World) : Prop := e = .returned (.int .i64 k) ∧ Below w.heap.size w w'
set_option maxHeartbeats 1000000 in
theorem rkind_nil (w : World) : Calls Try.prog 22 #[.string (BA [])] w (KdPost w 0) := by
  have he : (BA []).toList.isEmpty = true := by rw [BA_toList]; rfl
  go_enter Try.func22, Try.ntmps22
  go_wp2
  go_loopw [3] (fun i wr => ∃ k m : Nat, 1 ≤ k ∧ k ≤ 6 ∧ i = .int .i64 k ∧ wr = w.drewN m) (fun i _ => 6 - (intOf i).toNat)
  case atStart => exact ⟨1, 0, by decide, by decide, rfl, rfl⟩
  case round =>
    obtain ⟨k, m, hk1, hk, rfl, rfl⟩ := hrel
    by_cases hlt : k < 6
    · have hk2 : Hid (k + 1 ≤ 6) := Lib.hid (by omega)
      go_wp2_with fail
      go_quiet (fail)
      go_wp2
      go_roundw
      case rel => exact ⟨k + 1, _, by omega, hk2.out, by go_num, rfl⟩
      case measure => simp [intOf]; omega
    · go_wp2
      go_ret
      exact ⟨rfl, below_drewN (Below.refl _ _) _⟩
theorem BA_head (c : UInt8) (r : List UInt8) (h : 0 < (BA (c :: r)).size) : ((BA (c :: r))[0]'h) = c := rfl
theorem BA_len (l : List UInt8) : (BA l).size = l.length := rfl
theorem BA_some (c : UInt8) (r : List UInt8) : (BA (c :: r)).toList.isEmpty = false := by rw [BA_toList]; rfl
theorem BA_none : (BA []).toList.isEmpty = true := by rw [BA_toList]; rfl
theorem rlet_1 : ((⟨#[32, 71, 75, 80, 68, 76]⟩ : ByteArray)[1]'(by decide)).toNat = 71 := rfl
theorem rlet_2 : ((⟨#[32, 71, 75, 80, 68, 76]⟩ : ByteArray)[2]'(by decide)).toNat = 75 := rfl
theorem rlet_3 : ((⟨#[32, 71, 75, 80, 68, 76]⟩ : ByteArray)[3]'(by decide)).toNat = 80 := rfl
theorem rlet_4 : ((⟨#[32, 71, 75, 80, 68, 76]⟩ : ByteArray)[4]'(by decide)).toNat = 68 := rfl
theorem rlet_5 : ((⟨#[32, 71, 75, 80, 68, 76]⟩ : ByteArray)[5]'(by decide)).toNat = 76 := rfl
theorem u8_is (c : UInt8) (n : Nat) (h : n < 256) : ((c.toNat : Int) == (n : Int)) = decide (c = UInt8.ofNat n) := by
  by_cases e : c = UInt8.ofNat n
  · subst e; rw [u8_back n h]; simp
  · have : c.toNat ≠ n := fun hh => e (by rw [← hh]; simp)
    rw [decide_eq_false e]; simp; omega
attribute [local go_sem] BA_head BA_len rlet_1 rlet_2 rlet_3 rlet_4 rlet_5
/-- The letters ahead of place k are not the one. -/
def NotYet (c : UInt8) (k : Nat) : Prop := (1 < k → c ≠ 71) ∧ (2 < k → c ≠ 75) ∧ (3 < k → c ≠ 80) ∧ (4 < k → c ≠ 68) ∧ (5 < k → c ≠ 76)
set_option maxHeartbeats 4000000 in
theorem rkind_cons (c : UInt8) (r : List UInt8) (w : World) : Calls Try.prog 22 #[.string (BA (c :: r))] w (KdPost w (knd c)) := by
  have he := BA_some c r
  go_enter Try.func22, Try.ntmps22
  go_wp2
  go_loopw [3] (fun i wr => ∃ k m : Nat, 1 ≤ k ∧ k ≤ 6 ∧ i = .int .i64 k ∧ wr = w.drewN m ∧ NotYet c k) (fun i _ => 6 - (intOf i).toNat)
  case atStart => exact ⟨1, 0, by decide, by decide, rfl, rfl, by unfold NotYet; omega⟩
  case round =>
    obtain ⟨k, m, hk1, hk, rfl, rfl, hn⟩ := hrel
    have HN := Lib.hid hn
    clear hn
    rcases (by omega : k = 1 ∨ k = 2 ∨ k = 3 ∨ k = 4 ∨ k = 5 ∨ k = 6) with h | h | h | h | h | h <;> subst h <;> clear hk1 hk
    · by_cases e : c = 71
      · have HK := Lib.hid (show knd c = 1 by rw [e]; rfl)
        rw [HK.out]
        have hb : ((c.toNat : Int) == 71) = true := by rw [e]; rfl
        clear e
        go_wp2_with fail
        go_quiet (fail)
        go_wp2
        go_ret
        exact ⟨rfl, below_drewN (below_drewN (Below.refl _ _) _) _⟩
      · have hb : ((c.toNat : Int) == 71) = false := (u8_is c 71 (by decide)).trans (decide_eq_false e)
        have HE := Lib.hid e
        clear e
        go_wp2_with fail
        go_quiet (fail)
        go_wp2
        go_roundw
        case rel => exact ⟨2, _, by decide, by decide, by go_num, rfl, by have h1 := HN.out; have h2 := HE.out; unfold NotYet at h1 ⊢; simp_all⟩
        case measure => simp [intOf]
    · by_cases e : c = 75
      · have HK := Lib.hid (show knd c = 2 by rw [e]; rfl)
        rw [HK.out]
        have hb : ((c.toNat : Int) == 75) = true := by rw [e]; rfl
        clear e
        go_wp2_with fail
        go_quiet (fail)
        go_wp2
        go_ret
        exact ⟨rfl, below_drewN (below_drewN (Below.refl _ _) _) _⟩
      · have hb : ((c.toNat : Int) == 75) = false := (u8_is c 75 (by decide)).trans (decide_eq_false e)
        have HE := Lib.hid e
        clear e
        go_wp2_with fail
        go_quiet (fail)
        go_wp2
        go_roundw
        case rel => exact ⟨3, _, by decide, by decide, by go_num, rfl, by have h1 := HN.out; have h2 := HE.out; unfold NotYet at h1 ⊢; simp_all⟩
        case measure => simp [intOf]
    · by_cases e : c = 80
      · have HK := Lib.hid (show knd c = 3 by rw [e]; rfl)
        rw [HK.out]
        have hb : ((c.toNat : Int) == 80) = true := by rw [e]; rfl
        clear e
        go_wp2_with fail
        go_quiet (fail)
        go_wp2
        go_ret
        exact ⟨rfl, below_drewN (below_drewN (Below.refl _ _) _) _⟩
      · have hb : ((c.toNat : Int) == 80) = false := (u8_is c 80 (by decide)).trans (decide_eq_false e)
        have HE := Lib.hid e
        clear e
        go_wp2_with fail
        go_quiet (fail)
        go_wp2
        go_roundw
        case rel => exact ⟨4, _, by decide, by decide, by go_num, rfl, by have h1 := HN.out; have h2 := HE.out; unfold NotYet at h1 ⊢; simp_all⟩
        case measure => simp [intOf]
    · by_cases e : c = 68
      · have HK := Lib.hid (show knd c = 4 by rw [e]; rfl)
        rw [HK.out]
        have hb : ((c.toNat : Int) == 68) = true := by rw [e]; rfl
        clear e
        go_wp2_with fail
        go_quiet (fail)
        go_wp2
        go_ret
        exact ⟨rfl, below_drewN (below_drewN (Below.refl _ _) _) _⟩
      · have hb : ((c.toNat : Int) == 68) = false := (u8_is c 68 (by decide)).trans (decide_eq_false e)
        have HE := Lib.hid e
        clear e
        go_wp2_with fail
        go_quiet (fail)
        go_wp2
        go_roundw
        case rel => exact ⟨5, _, by decide, by decide, by go_num, rfl, by have h1 := HN.out; have h2 := HE.out; unfold NotYet at h1 ⊢; simp_all⟩
        case measure => simp [intOf]
    · by_cases e : c = 76
      · have HK := Lib.hid (show knd c = 5 by rw [e]; rfl)
        rw [HK.out]
        have hb : ((c.toNat : Int) == 76) = true := by rw [e]; rfl
        clear e
        go_wp2_with fail
        go_quiet (fail)
        go_wp2
        go_ret
        exact ⟨rfl, below_drewN (below_drewN (Below.refl _ _) _) _⟩
      · have hb : ((c.toNat : Int) == 76) = false := (u8_is c 76 (by decide)).trans (decide_eq_false e)
        have HE := Lib.hid e
        clear e
        go_wp2_with fail
        go_quiet (fail)
        go_wp2
        go_roundw
        case rel => exact ⟨6, _, by decide, by decide, by go_num, rfl, by have h1 := HN.out; have h2 := HE.out; unfold NotYet at h1 ⊢; simp_all⟩
        case measure => simp [intOf]
    · have HK := Lib.hid (show knd c = 0 by have h := HN.out; unfold NotYet at h; unfold knd; simp_all)
      go_wp2
      go_ret
      exact ⟨congrArg (fun x => Ending.returned (.int .i64 x)) HK.out.symm, below_drewN (Below.refl _ _) _⟩
theorem rkind_any (l : List UInt8) (w : World) : Calls Try.prog 22 #[.string (BA l)] w (KdPost w (Kd l)) := by
  cases l with
  | nil => exact rkind_nil w
  | cons c r => exact rkind_cons c r w

/-- What the document's text makes of bytes. -/
def TxPost (w : World) (l : List UInt8) (e : Ending) (w' : World) : Prop := e = .returned (match tex l with
  | none => .tuple #[.string (BA []), .string (BA []), .bool false]
  | some (t, r) => .tuple #[.string (BA t), .string (BA r), .bool true]) ∧ Below w.heap.size w w'
theorem rtext_nil (w : World) : Calls Try.prog 23 #[.string (BA [])] w (TxPost w []) := by
  have he := BA_none
  go_enter Try.func23, Try.ntmps23
  go_wp2
  go_ret3
  exact ⟨rfl, Below.refl _ _⟩
set_option maxHeartbeats 1000000 in
theorem rtext_few (c : UInt8) (r : List UInt8) (w : World) (h : r.length < c.toNat) : Calls Try.prog 23 #[.string (BA (c :: r))] w (TxPost w (c :: r)) := by
  have he := BA_some c r
  have ht : tex (c :: r) = none := by unfold tex; simp only; rw [if_neg (by omega)]
  have hc := UInt8.toNat_lt c
  unfold TxPost
  rw [ht]
  have hw : wrap64 (1 + (c.toNat : Int)) = 1 + (c.toNat : Int) := by unfold wrap64; omega
  have hd : decide ((r.length : Int) + 1 < 1 + (c.toNat : Int)) = true := by simp; omega
  clear h ht
  go_enter Try.func23, Try.ntmps23
  go_wp2
  go_ret3
  exact ⟨rfl, Below.refl _ _⟩
set_option maxHeartbeats 1000000 in
theorem rtext_some (c : UInt8) (r : List UInt8) (w : World) (h : c.toNat ≤ r.length) : Calls Try.prog 23 #[.string (BA (c :: r))] w (TxPost w (c :: r)) := by
  have he := BA_some c r
  have ht : tex (c :: r) = some (r.take c.toNat, r.drop c.toNat) := by unfold tex; simp only; rw [if_pos (by omega)]
  have hc := UInt8.toNat_lt c
  unfold TxPost
  rw [ht]
  obtain ⟨N, hN⟩ : ∃ N, N = 1 + c.toNat := ⟨_, rfl⟩
  have hw1 : IntKind.i64.wrap (c.toNat : Int) = (c.toNat : Int) := by rw [IntKind.wrap_i64]; omega
  have hw2 : IntKind.i64.wrap (1 + (c.toNat : Int)) = (N : Int) := by rw [IntKind.wrap_i64]; omega
  have e1 : (BA (c :: r)).extract 1 N = BA (r.take c.toNat) := by rw [BA_cut]; congr 1; rw [show N - 1 = c.toNat by omega]; rfl
  have e2 : (BA (c :: r)).extract N (r.length + 1) = BA (r.drop c.toNat) := by rw [show r.length + 1 = (c :: r).length from rfl, BA_rest, show N = c.toNat + 1 by omega]; rfl
  have hd : decide ((r.length : Int) + 1 < (N : Int)) = false := by simp; omega
  have hs1 : ∀ W, (Instr.slice 9 (.string (BA (c :: r))) (some (.int .i64 1)) (some (.int .i64 (N : Int))) none).run Try.prog W = .ok (.string (BA (r.take c.toNat))) W := by
    intro W
    have h9 := run_slice_string (P := Try.prog) W 9 (BA (c :: r)) .i64 .i64 1 (N : Int) Try.underlying9 (by decide) (by omega) (by rw [BA_size, List.length_cons]; omega)
    rw [h9, ← e1]; rfl
  have hs2 : ∀ W, (Instr.slice 9 (.string (BA (c :: r))) (some (.int .i64 (N : Int))) none none).run Try.prog W = .ok (.string (BA (r.drop c.toNat))) W := by
    intro W
    have h9 := run_slice_string_from_if (P := Try.prog) W 9 (BA (c :: r)) .i64 (N : Int) Try.underlying9
    rw [h9, if_pos (by rw [BA_size, List.length_cons]; omega), ← e2]; rfl
  have g2 : (N : Int) ≤ (r.length : Int) + 1 := by omega
  clear ht h hN
  go_enter Try.func23, Try.ntmps23
  go_wp2_with fail
  go_quiet (fail)
  go_wp2
  go_ret3
  exact ⟨rfl, below_drewN (Below.refl _ _) _⟩
theorem rtext_any (l : List UInt8) (w : World) : Calls Try.prog 23 #[.string (BA l)] w (TxPost w l) := by
  cases l with
  | nil => exact rtext_nil w
  | cons c r =>
    by_cases h : c.toNat ≤ r.length
    · exact rtext_some c r w h
    · exact rtext_few c r w (by omega)
end Go.Proofs.Ytpnjeoilkaimmaa
