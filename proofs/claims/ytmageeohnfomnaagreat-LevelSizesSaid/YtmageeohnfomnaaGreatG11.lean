/- Texts of ours put together: Results. -/
import Derived.Below
import Derived.ChangeSlices
import Derived.Deep.Draws
import Derived.Deep.MidRow
import Derived.Deep.OwnRows
import Derived.Lib.Hide
import Derived.OpenShut
import Derived.ProofKit
import Derived.RowKit3
import Derived.SizedLaws
import Derived.WalkKit
import Derived.Test.YtmageeohnfomnaaGreatProg
import Derived.Test.YtmageeohnfomnaaGreatG2
namespace Go.Proofs.YtmageeohnfomnaaGreat
set_option maxRecDepth 100000
open Go.RowKit Go.ChangeShapes Go.WideShapes Go.ChangeAt

theorem results_one {fn : Func} {p : Tmp} {ty : TypeId} (h : fn.results = #[.cell p ty]) {tmps : Array Value} {P : Program} {w : World} {ad : Addr} {v : Value} (hp : tmps.getD p undef = .pointer (some ad)) (hl : (loadVar ty ad).run P w = .ok v w) :
    (results fn tmps).run P w = .ok v w := by
  have hp' : tmps[p]?.getD undef = .pointer (some ad) := by simpa using hp
  simp only [results, h]
  simp [asAddr, hp', hl]
theorem results_ct {fn : Func} {q s : Tmp} {ty : TypeId} (h : fn.results = #[.cell q ty, .tmp s]) {tmps : Array Value} {P : Program} {w : World} {ad : Addr} {v x : Value} (hq : tmps.getD q undef = .pointer (some ad)) (hs : tmps.getD s undef = x)
    (hl : (loadVar ty ad).run P w = .ok v w) : (results fn tmps).run P w = .ok (.tuple #[v, x]) w := by
  have hq' : tmps[q]?.getD undef = .pointer (some ad) := by simpa using hq
  have hs' : tmps[s]?.getD undef = x := by simpa using hs
  simp only [results, h]
  simp [asAddr, hq', hs', hl]
theorem Box.range {w : World} {b : Nat} {t : TypeId} {cs : Array Value} (h : Box w b t cs) : w.rangeAt b 0 cs.toList := fun j v hv => by
  rw [Nat.zero_add, h.cell j]
  simpa using hv
theorem load_box {w : World} {b : Nat} {t ty : TypeId} {cs : Array Value} (h : Box w b t cs) {u : TypeDesc} (hu : Tryz.prog.underlying ty = some u) (ha : u.isRow = true) (hi : (Tryz.prog.info? ty).map (·.size) = some cs.toList.length) :
    (loadVar ty ⟨b, 0, none⟩).run Tryz.prog w = .ok (.agg cs) w := run_loadVar_mid w b 0 ty cs.toList _ h.range hu ha hi
end Go.Proofs.YtmageeohnfomnaaGreat

