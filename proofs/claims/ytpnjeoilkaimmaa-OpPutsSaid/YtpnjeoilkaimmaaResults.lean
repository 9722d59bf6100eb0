/- Results of a call that lie in memory. -/
import Derived.Test.YtpnjeoilkaimmaaProg
import Derived.Test.YtpnjeoilkaimmaaHeap
import Derived.WalkKit
import Derived.Deep.MidRow
namespace Go.Proofs.Ytpnjeoilkaimmaa
open Go.RowKit Go.ChangeShapes Go.WideShapes Go.ChangeAt

/-- One result that lies in memory. -/
theorem results_one {fn : Func} {p : Tmp} {ty : TypeId} (h : fn.results = #[.cell p ty]) {tmps : Array Value} {P : Program} {w : World} {ad : Addr} {v : Value} (hp : tmps.getD p undef = .pointer (some ad)) (hl : (loadVar ty ad).run P w = .ok v w) :
    (results fn tmps).run P w = .ok v w := by
  have hp' : tmps[p]?.getD undef = .pointer (some ad) := by simpa using hp
  simp only [results, h]
  simp [asAddr, hp', hl]
/-- Two results, the first one in memory. -/
theorem results_ct {fn : Func} {q s : Tmp} {ty : TypeId} (h : fn.results = #[.cell q ty, .tmp s]) {tmps : Array Value} {P : Program} {w : World} {ad : Addr} {v x : Value} (hq : tmps.getD q undef = .pointer (some ad)) (hs : tmps.getD s undef = x)
    (hl : (loadVar ty ad).run P w = .ok v w) : (results fn tmps).run P w = .ok (.tuple #[v, x]) w := by
  have hq' : tmps[q]?.getD undef = .pointer (some ad) := by simpa using hq
  have hs' : tmps[s]?.getD undef = x := by simpa using hs
  simp only [results, h]
  simp [asAddr, hq', hs', hl]
theorem Box.range {w : World} {b : Nat} {t : TypeId} {cs : Array Value} (h : Box w b t cs) : w.rangeAt b 0 cs.toList := fun j v hv => by
  rw [Nat.zero_add, h.cell j]
  simpa using hv
theorem load_box {w : World} {b : Nat} {t ty : TypeId} {cs : Array Value} (h : Box w b t cs) {u : TypeDesc} (hu : Try.prog.underlying ty = some u) (ha : u.isRow = true) (hi : (Try.prog.info? ty).map (·.size) = some cs.toList.length) :
    (loadVar ty ⟨b, 0, none⟩).run Try.prog w = .ok (.agg cs) w := run_loadVar_mid w b 0 ty cs.toList _ h.range hu ha hi
end Go.Proofs.Ytpnjeoilkaimmaa
