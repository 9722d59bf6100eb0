/- Texts of ours put together: RefRound. -/
import Derived.Test.YtfonieemodbikaaGreatProg
import Derived.WalkKit
import Derived.Lib.Hide
import Derived.Test.YtfonieemodbikaaGreatG0
import Derived.Test.YtfonieemodbikaaGreatG4
namespace Go.Proofs.YtfonieemodbikaaGreat
set_option maxRecDepth 100000
open Go.RowKit

end Go.Proofs.YtfonieemodbikaaGreat

