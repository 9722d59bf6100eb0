/- Texts of ours put together: MemDuo. -/
import Derived.Deep.Slices
import Derived.Deep.Fields
import Derived.ChangeSame
import Derived.Test.YtfonieemodbikaaGreatG18
namespace Go.Proofs.YtfonieemodbikaaGreat
set_option maxRecDepth 100000
open Go.RowKit Go.ChangeShapes Go.WideShapes Go.ChangeAt Go.Deep

def Duo (w : World) (X : Nat → Prop) (p : Nat) (M : MS) (q : Nat) (N : MS) : Prop := ∃ G, Own w (fun i => X i ∨ G i) p M ∧ Mm w q G N ∧ ∀ i, G i → ¬ X i
section
variable {w w' : World} {X Y : Nat → Prop} {p q : Nat} {M N : MS}
end
section
variable (X : Nat → Prop) (p q : Nat) (M N : MS) (w : World)
end
abbrev Lk := Int × Int × Int × Bool
section
variable {W w1 w2 : World} {X : Nat → Prop} {xb : Nat} {x : Lk}
end
end Go.Proofs.YtfonieemodbikaaGreat

