/- An argument that is an operation by value, opened as a plain one. -/
import Derived.Test.YtpnjeoilkaimmaaOpOpen
import Derived.Test.YtpnjeoilkaimmaaOpMath
import Derived.Test.YtpnjeoilkaimmaaPackWords
namespace Go.Proofs.Ytpnjeoilkaimmaa
open Go.RowKit Go.ChangeShapes Go.WideShapes Go.ChangeAt Go.Deep

theorem open_ov {H : Type} {enc : TypeId × Value → H} {W : World} {base : Nat} {v : Value} {d : DataW H} {p : List MemPlace}
    (hv : Value.okWide Try.prog W .any base 24 v) (h : DataW.Trod enc Try.prog W 0 (fun _ => true) true 24 v d p) : ∃ o : Ov, v = o.a ∧ o.key < 18446744073709551616 ∧ o.val < 18446744073709551616 := by
  obtain ⟨k, x, y, f, rfl, _, hx, hy, _⟩ := open_op hv h
  obtain ⟨n, rfl, hn⟩ := word_rng hx
  obtain ⟨m, rfl, hm⟩ := word_rng hy
  exact ⟨⟨k, n, m, f⟩, rfl, hn, hm⟩
end Go.Proofs.Ytpnjeoilkaimmaa
