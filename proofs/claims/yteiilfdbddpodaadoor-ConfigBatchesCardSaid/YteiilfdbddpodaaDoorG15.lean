/- Texts of ours put together: MemCalls, MemLook. -/
import Derived.Deep.QuietTactic
import Derived.BigQuiet
import Derived.OwnWalk
import Derived.RegionTactic
import Derived.BigRegion
import Derived.Test.YteiilfdbddpodaaDoorG14
import Derived.Test.YteiilfdbddpodaaDoorG3
/- Contracts of package mem, one look at a memory: Size, Fault, Many, look, Read, Write: what each returns, and what it makes of the memory; nothing else turns. Conditions: the memory lies as New made it; there are fewer events than memory can hold. -/
namespace Go.Proofs.YteiilfdbddpodaaDoor
set_option maxRecDepth 100000
open Go.RowKit Go.ChangeShapes Go.WideShapes Go.ChangeAt
end Go.Proofs.YteiilfdbddpodaaDoor

/- Contracts of package mem: look, Read and Write at a cell that there is, or not. Conditions as before. -/
namespace Go.Proofs.YteiilfdbddpodaaDoor
set_option maxRecDepth 100000
open Go.RowKit Go.ChangeShapes Go.WideShapes Go.ChangeAt
theorem CA_one (f : Nat → Int) : (CA f).all (·.oneCell') = true := by simp [CA, Value.oneCell']
/-- One result that lies in memory. -/
theorem results_one {fn : Func} {p : Tmp} {ty : TypeId} (h : fn.results = #[.cell p ty]) {tmps : Array Value} {P : Program} {w : World} {ad : Addr} {v : Value} (hp : tmps.getD p undef = .pointer (some ad)) (hl : (loadVar ty ad).run P w = .ok v w) :
    (results fn tmps).run P w = .ok v w := by
  have hp' : tmps[p]?.getD undef = .pointer (some ad) := by simpa using hp
  simp only [results, h]
  simp [asAddr, hp', hl]
end Go.Proofs.YteiilfdbddpodaaDoor
