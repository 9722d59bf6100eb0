/- A word takes one cell. -/
import Derived.WalkKit
import Derived.Test.YtjamfcjglodfeaaProg
import Derived.Test.YtjamfcjglodfeaaProg
namespace Go.Proofs.Ytjamfcjglodfeaa
theorem cellsWord : Try.prog.cellsOf 22 = 1 := by kernel_rfl
end Go.Proofs.Ytjamfcjglodfeaa
