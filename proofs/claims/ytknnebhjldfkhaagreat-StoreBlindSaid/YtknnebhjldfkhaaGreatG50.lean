import Derived.Test.YtknnebhjldfkhaaGreatProg
import Derived.WalkKit
import Derived.Lib.Hide
import Derived.Test.YtknnebhjldfkhaaGreatG0
import Derived.Test.YtknnebhjldfkhaaGreatG4
namespace Go.Proofs.YtknnebhjldfkhaaGreat
set_option maxRecDepth 100000
open Go.RowKit

end Go.Proofs.YtknnebhjldfkhaaGreat

