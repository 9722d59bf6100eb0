/- A region that draws its order, walked operation by operation, with nothing held. No program is named here. -/
import Derived.Test.YtigifbijmchdcaaCell
namespace Go.Proofs.Ytigifbijmchdcaa
open Go

theorem held_t {P : Program} {ops : Array Oper} {Q : Exit → Act → World → Prop} {id : Nat} {a : Act} {w : World} (k : Nat) (hk : ops.size = k) (hm : P.follows .mixedOrders = true)
    (h : wpAnyH P .any ops Q (fun _ => True) k (Array.replicate k false) a w.drew) : (Code.region id ops true).wp P Q a w := by
  subst hk
  exact wp_region_held_drew hm trivial (fun _ => h)
theorem held_s {P : Program} {ops : Array Oper} {Q : Exit → Act → World → Prop} {S : World → Prop} {id : Nat} {a : Act} {w : World} (k : Nat) (hk : ops.size = k) (hm : P.follows .mixedOrders = true) (hS : S w.drew)
    (h : S w.drew → wpAnyH P .any ops Q S k (Array.replicate k false) a w.drew) : (Code.region id ops true).wp P Q a w := by
  subst hk
  exact wp_region_held_drew hm hS h
end Go.Proofs.Ytigifbijmchdcaa
