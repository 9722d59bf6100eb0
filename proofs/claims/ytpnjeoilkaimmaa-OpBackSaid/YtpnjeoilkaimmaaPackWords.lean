/- The walk of the law on words: a text's word, and a word's text, are as the document says. Conditions: the word is one of 64 bits; the text's length is an int. -/
import Derived.Test.YtpnjeoilkaimmaaPackRef
namespace Go.Proofs.Ytpnjeoilkaimmaa
open Go.RowKit Go.ChangeShapes Go.WideShapes Go.ChangeAt

def ab : ByteArray := ⟨#[97, 98]⟩
theorem wd_ab : (wd ab : Int) = 144115188075881057 := by decide
/-- A text's word, or that it is too long. -/
def wv (s : ByteArray) : Nat := if s.size ≤ 7 then wd s else 0
def we (s : ByteArray) : Int := if s.size ≤ 7 then 0 else 4
def WPost (w : World) (s : ByteArray) (e : Ending) (w' : World) : Prop := e = .returned (.tuple #[.int .u64 (wv s), .int .i64 (we s)]) ∧ Below w.heap.size w w'
theorem word_any (s : ByteArray) (w : World) (hm : s.size ≤ 9223372036854775807) : Calls Try.prog 30 #[.string s] w (WPost w s) := by
  unfold WPost wv we
  by_cases h : s.size ≤ 7
  · rw [if_pos h, if_pos h]
    exact word_short s w h
  · rw [if_neg h, if_neg h]
    exact (word_long s w (by omega) hm).mono fun e w' ⟨he, hw⟩ => ⟨he, hw ▸ Below.refl _ _⟩
theorem refWord_any (s : ByteArray) (w : World) (hm : s.size ≤ 9223372036854775807) : Calls Try.prog 24 #[.string s] w (WPost w s) := by
  unfold WPost wv we
  by_cases h : s.size ≤ 7
  · rw [if_pos h, if_pos h]
    exact (refWord_short s w h).mono fun e w' ⟨he, hw⟩ => ⟨he, hw ▸ Below.refl _ _⟩
  · rw [if_neg h, if_neg h]
    exact (refWord_long s w (by omega) hm).mono fun e w' ⟨he, hw⟩ => ⟨he, hw ▸ Below.refl _ _⟩
/-- A word's text, or that it is none. -/
def tv (n : Nat) : ByteArray := if rt n then tx n else ByteArray.empty
def te (n : Nat) : Int := if rt n then 0 else 3
def TPost (w : World) (n : Nat) (e : Ending) (w' : World) : Prop := e = .returned (.tuple #[.string (tv n), .int .i64 (te n)]) ∧ Below w.heap.size w w'
theorem TextPost.two {w w' : World} {n : Nat} {e : Ending} (h : TextPost w n e w') : TPost w n e w' := by
  unfold TextPost at h; unfold TPost tv te
  cases hr : rt n <;> rw [hr] at h <;> exact h
theorem textT (n : Nat) (w : World) (hn : n < 18446744073709551616) : Calls Try.prog 17 #[.int .u64 n] w (TPost w n) := (text_any n w hn).mono fun _ _ h => h.two
theorem refTextT (n : Nat) (w : World) (hn : n < 18446744073709551616) : Calls Try.prog 34 #[.int .u64 n] w (TPost w n) := (refText_any n w hn).mono fun _ _ h => h.two
theorem te_rt (n : Nat) : (te n == 0) = rt n := by unfold te; cases rt n <;> rfl

def Good (w : World) (e : Ending) (w' : World) : Prop := e = .returned (.bool true) ∧ Below w.heap.size w w'
theorem below3 {a b c : World} (h : Below a.heap.size a b) (k : Below b.heap.size b c) : Below a.heap.size a c := h.trans (k.mono h.size)

theorem word_rng {a : Int} (h : (Lit.int .u64 a).wf = true) : ∃ n : Nat, a = (n : Int) ∧ n < 18446744073709551616 := by
  simp only [Lit.wf, IntKind.min, IntKind.max, IntKind.signed, IntKind.bits, Bool.and_eq_true] at h
  exact ⟨a.toNat, by simp at h; omega, by simp at h; omega⟩
theorem text_len {s : ByteArray} (h : s.size ≤ maxLen) : s.size ≤ 9223372036854775807 := by unfold maxLen at h; omega
end Go.Proofs.Ytpnjeoilkaimmaa
