/-
  No cell of these rows narrows 'for every input' (looked for: loops, veiled, ifaces, maps, wideKeys, modest, calm, conditions, laid).
  DERIVED. THE GIVEN ROWS OF THIS SEAT. 7 by the template 'for every input the law returns true; each argument reads behind the call as it read before'; 0 by the template 'total and deterministic' (their statements: YtceoopkcpkbdaaaTotals.lean).
  GIVEN WITH THE SEED: the statements are not yours to turn. If you find one false, say at which input.
  Laid BY PROGRAM, IN A SANDBOX (cutbox-rows.mjs): the forced cells as the released guide's own fill.sh prints them over the translation 863958c6091a9e26… (all of the seat's roots in one cut). By AI agents, Wed Nov 11 2026. No macro, syntax, notation, axiom, sorry.
-/
import Derived.Test.YtceoopkcpkbdaaaChecked
import GoSem.Claim
import GoSem.ClaimJoined
import GoSem.ClaimMapViews
import Derived.JoinedTies
import Derived.KernelRfl
namespace Go.Proofs.Ytceoopkcpkbdaaa
/- THE CELL 'sum', in the pinned program and in every row, IS THE sha256 OF THE DUMP (.gsa) THAT YtceoopkcpkbdaaaProg.lean LOADS. Nothing in Lean hashes anything: it is a label: what it is worth is what the hold of that sum in a sandbox is worth. -/
noncomputable def Try.pinned : Pinned := { name := "ytceoopkcpkbdaaa", sum := "863958c6091a9e2639a34119f657ad21e504929bdc83196dd1b4df0db858ce8f", checked := Try.checked }
namespace Rows
def none {H : Type} : Left H := { results := [], args := [] }

/-- 'shellgamelaw5.NetPairs': WHATEVER THE INPUT: true; the input reads as it did. -/
def netPairsSpec : ChangeSpec := { name := "netPairs", fn := fun _ => fun
  | [d] => { results := [.lit (.bool true)], args := [d] }
  | _ => none }
def netPairsRow : OpenClaim := { program := "ytceoopkcpkbdaaa", sum := "863958c6091a9e2639a34119f657ad21e504929bdc83196dd1b4df0db858ce8f", func := "shellgame/shellgamelaw5.NetPairs", spec := "netPairs", unfollowed := true, recurses := true, apart := false }
def NetPairsSaid : Prop := netPairsRow.holds Try.pinned (OpenSpec.ofChange netPairsSpec)

/-- ITS FALSE NEIGHBOUR: 'it returns false'. Refute it at one input. -/
def netPairsWrong : ChangeSpec := { name := "netPairs", fn := fun _ => fun
  | [d] => { results := [.lit (.bool false)], args := [d] }
  | _ => none }
def NetPairsWrongFalsely : Prop := netPairsRow.holds Try.pinned (OpenSpec.ofChange netPairsWrong)

/-- 'shellgamelaw5.NetSorts': WHATEVER THE INPUT: true; the input reads as it did. -/
def netSortsSpec : ChangeSpec := { name := "netSorts", fn := fun _ => fun
  | [d] => { results := [.lit (.bool true)], args := [d] }
  | _ => none }
def netSortsRow : OpenClaim := { program := "ytceoopkcpkbdaaa", sum := "863958c6091a9e2639a34119f657ad21e504929bdc83196dd1b4df0db858ce8f", func := "shellgame/shellgamelaw5.NetSorts", spec := "netSorts", inPlace := ["math/bits.Sub64"], unfollowed := true, recurses := true, apart := false }
def NetSortsSaid : Prop := netSortsRow.holds Try.pinned (OpenSpec.ofChange netSortsSpec)

/-- ITS FALSE NEIGHBOUR: 'it returns false'. Refute it at one input. -/
def netSortsWrong : ChangeSpec := { name := "netSorts", fn := fun _ => fun
  | [d] => { results := [.lit (.bool false)], args := [d] }
  | _ => none }
def NetSortsWrongFalsely : Prop := netSortsRow.holds Try.pinned (OpenSpec.ofChange netSortsWrong)

/-- 'shellgamelaw5.NetZeroOne': WHATEVER THE INPUT: true; the input reads as it did. -/
def netZeroOneSpec : ChangeSpec := { name := "netZeroOne", fn := fun _ => fun
  | [d1, d2] => { results := [.lit (.bool true)], args := [d1, d2] }
  | _ => none }
def netZeroOneRow : OpenClaim := { program := "ytceoopkcpkbdaaa", sum := "863958c6091a9e2639a34119f657ad21e504929bdc83196dd1b4df0db858ce8f", func := "shellgame/shellgamelaw5.NetZeroOne", spec := "netZeroOne", inPlace := ["math/bits.Sub64"], unfollowed := true, recurses := true, apart := false }
def NetZeroOneSaid : Prop := netZeroOneRow.holds Try.pinned (OpenSpec.ofChange netZeroOneSpec)

/-- ITS FALSE NEIGHBOUR: 'it returns false'. Refute it at one input. -/
def netZeroOneWrong : ChangeSpec := { name := "netZeroOne", fn := fun _ => fun
  | [d1, d2] => { results := [.lit (.bool false)], args := [d1, d2] }
  | _ => none }
def NetZeroOneWrongFalsely : Prop := netZeroOneRow.holds Try.pinned (OpenSpec.ofChange netZeroOneWrong)

/-- 'shellgamelaw5.NetShape': WHATEVER THE INPUT: true; the input reads as it did. -/
def netShapeSpec : ChangeSpec := { name := "netShape", fn := fun _ => fun
  | [d] => { results := [.lit (.bool true)], args := [d] }
  | _ => none }
def netShapeRow : OpenClaim := { program := "ytceoopkcpkbdaaa", sum := "863958c6091a9e2639a34119f657ad21e504929bdc83196dd1b4df0db858ce8f", func := "shellgame/shellgamelaw5.NetShape", spec := "netShape", unfollowed := true, recurses := true, apart := false }
def NetShapeSaid : Prop := netShapeRow.holds Try.pinned (OpenSpec.ofChange netShapeSpec)

/-- ITS FALSE NEIGHBOUR: 'it returns false'. Refute it at one input. -/
def netShapeWrong : ChangeSpec := { name := "netShape", fn := fun _ => fun
  | [d] => { results := [.lit (.bool false)], args := [d] }
  | _ => none }
def NetShapeWrongFalsely : Prop := netShapeRow.holds Try.pinned (OpenSpec.ofChange netShapeWrong)

/-- 'shellgamelaw5.NetTurns': WHATEVER THE INPUT: true; the input reads as it did. -/
def netTurnsSpec : ChangeSpec := { name := "netTurns", fn := fun _ => fun
  | [d1, d2, d3] => { results := [.lit (.bool true)], args := [d1, d2, d3] }
  | _ => none }
def netTurnsRow : OpenClaim := { program := "ytceoopkcpkbdaaa", sum := "863958c6091a9e2639a34119f657ad21e504929bdc83196dd1b4df0db858ce8f", func := "shellgame/shellgamelaw5.NetTurns", spec := "netTurns", inPlace := ["math/bits.Sub64"], unfollowed := true, recurses := true, apart := false }
def NetTurnsSaid : Prop := netTurnsRow.holds Try.pinned (OpenSpec.ofChange netTurnsSpec)

/-- ITS FALSE NEIGHBOUR: 'it returns false'. Refute it at one input. -/
def netTurnsWrong : ChangeSpec := { name := "netTurns", fn := fun _ => fun
  | [d1, d2, d3] => { results := [.lit (.bool false)], args := [d1, d2, d3] }
  | _ => none }
def NetTurnsWrongFalsely : Prop := netTurnsRow.holds Try.pinned (OpenSpec.ofChange netTurnsWrong)

/-- 'shellgamelaw5.NetHalves': WHATEVER THE INPUT: true; the input reads as it did. -/
def netHalvesSpec : ChangeSpec := { name := "netHalves", fn := fun _ => fun
  | [d] => { results := [.lit (.bool true)], args := [d] }
  | _ => none }
def netHalvesRow : OpenClaim := { program := "ytceoopkcpkbdaaa", sum := "863958c6091a9e2639a34119f657ad21e504929bdc83196dd1b4df0db858ce8f", func := "shellgame/shellgamelaw5.NetHalves", spec := "netHalves", unfollowed := true, recurses := true, apart := false }
def NetHalvesSaid : Prop := netHalvesRow.holds Try.pinned (OpenSpec.ofChange netHalvesSpec)

/-- ITS FALSE NEIGHBOUR: 'it returns false'. Refute it at one input. -/
def netHalvesWrong : ChangeSpec := { name := "netHalves", fn := fun _ => fun
  | [d] => { results := [.lit (.bool false)], args := [d] }
  | _ => none }
def NetHalvesWrongFalsely : Prop := netHalvesRow.holds Try.pinned (OpenSpec.ofChange netHalvesWrong)

/-- 'shellgamelaw5.NetOne': WHATEVER THE INPUT: true; the input reads as it did. -/
def netOneSpec : ChangeSpec := { name := "netOne", fn := fun _ => fun
  | [d1, d2, d3] => { results := [.lit (.bool true)], args := [d1, d2, d3] }
  | _ => none }
def netOneRow : OpenClaim := { program := "ytceoopkcpkbdaaa", sum := "863958c6091a9e2639a34119f657ad21e504929bdc83196dd1b4df0db858ce8f", func := "shellgame/shellgamelaw5.NetOne", spec := "netOne", inPlace := ["math/bits.Sub64"], unfollowed := true, recurses := true, apart := false }
def NetOneSaid : Prop := netOneRow.holds Try.pinned (OpenSpec.ofChange netOneSpec)

/-- ITS FALSE NEIGHBOUR: 'it returns false'. Refute it at one input. -/
def netOneWrong : ChangeSpec := { name := "netOne", fn := fun _ => fun
  | [d1, d2, d3] => { results := [.lit (.bool false)], args := [d1, d2, d3] }
  | _ => none }
def NetOneWrongFalsely : Prop := netOneRow.holds Try.pinned (OpenSpec.ofChange netOneWrong)

/- THE SECOND FORM. 'bulk': how many values and letters a reading holds, each counted each time it is reached (what is shared counts as often as it is met; a slice's spare places count too). A statement '..UptoSaid' is the law's where the arguments, and the package variables that the reading takes, are together of bulk at most 1048576: NARROWER than '..Said'. Prove '..Said' where nothing that the law and all that it calls make is longer than what came in: it says more and counts as full. Else prove '..UptoSaid'. A law counts once. -/
mutual
def uptoBulk {H : Type} : DataW H → Nat
  | .lit (.string bytes) => bytes.length + 1
  | .lit _ => 1
  | .nil => 1
  | .ptr d => uptoBulk d + 1
  | .slice elems spare => uptoBulkAll elems + uptoBulkAll spare + 1
  | .agg parts => uptoBulkAll parts + 1
  | .iface _ d => uptoBulk d + 1
  | .map entries => uptoBulkEntries entries + 1
  | .held _ => 1
def uptoBulkAll {H : Type} : List (DataW H) → Nat
  | [] => 0
  | d :: r => uptoBulk d + uptoBulkAll r
def uptoBulkEntries {H : Type} : List (Lit × DataW H) → Nat
  | [] => 0
  | x :: r => uptoBulkEntry x + uptoBulkEntries r
def uptoBulkEntry {H : Type} : Lit × DataW H → Nat
  | (.string bytes, d) => bytes.length + uptoBulk d + 1
  | (_, d) => uptoBulk d + 1
 end
def uptoSmall : (H : Type) → List (DataW H) → Bool := fun _ ds => decide (uptoBulkAll ds ≤ 1048576)
def OpenSpec.upto (s : _root_.Go.ChangeSpec) : _root_.Go.OpenSpec := { _root_.Go.OpenSpec.ofChange s with cond := some uptoSmall }

/-- 'shellgamelaw5.NetPairs', WHERE WHAT IT READS IS OF BULK AT MOST 1048576: true; the input reads as it did. -/
def netPairsUptoRow : OpenClaim := { program := "ytceoopkcpkbdaaa", sum := "863958c6091a9e2639a34119f657ad21e504929bdc83196dd1b4df0db858ce8f", func := "shellgame/shellgamelaw5.NetPairs", spec := "netPairs", unfollowed := true, recurses := true, apart := false, narrowed := true }
def NetPairsUptoSaid : Prop := netPairsUptoRow.holds Try.pinned (OpenSpec.upto netPairsSpec)

/-- 'shellgamelaw5.NetSorts', WHERE WHAT IT READS IS OF BULK AT MOST 1048576: true; the input reads as it did. -/
def netSortsUptoRow : OpenClaim := { program := "ytceoopkcpkbdaaa", sum := "863958c6091a9e2639a34119f657ad21e504929bdc83196dd1b4df0db858ce8f", func := "shellgame/shellgamelaw5.NetSorts", spec := "netSorts", inPlace := ["math/bits.Sub64"], unfollowed := true, recurses := true, apart := false, narrowed := true }
def NetSortsUptoSaid : Prop := netSortsUptoRow.holds Try.pinned (OpenSpec.upto netSortsSpec)

/-- 'shellgamelaw5.NetZeroOne', WHERE WHAT IT READS IS OF BULK AT MOST 1048576: true; the input reads as it did. -/
def netZeroOneUptoRow : OpenClaim := { program := "ytceoopkcpkbdaaa", sum := "863958c6091a9e2639a34119f657ad21e504929bdc83196dd1b4df0db858ce8f", func := "shellgame/shellgamelaw5.NetZeroOne", spec := "netZeroOne", inPlace := ["math/bits.Sub64"], unfollowed := true, recurses := true, apart := false, narrowed := true }
def NetZeroOneUptoSaid : Prop := netZeroOneUptoRow.holds Try.pinned (OpenSpec.upto netZeroOneSpec)

/-- 'shellgamelaw5.NetShape', WHERE WHAT IT READS IS OF BULK AT MOST 1048576: true; the input reads as it did. -/
def netShapeUptoRow : OpenClaim := { program := "ytceoopkcpkbdaaa", sum := "863958c6091a9e2639a34119f657ad21e504929bdc83196dd1b4df0db858ce8f", func := "shellgame/shellgamelaw5.NetShape", spec := "netShape", unfollowed := true, recurses := true, apart := false, narrowed := true }
def NetShapeUptoSaid : Prop := netShapeUptoRow.holds Try.pinned (OpenSpec.upto netShapeSpec)

/-- 'shellgamelaw5.NetTurns', WHERE WHAT IT READS IS OF BULK AT MOST 1048576: true; the input reads as it did. -/
def netTurnsUptoRow : OpenClaim := { program := "ytceoopkcpkbdaaa", sum := "863958c6091a9e2639a34119f657ad21e504929bdc83196dd1b4df0db858ce8f", func := "shellgame/shellgamelaw5.NetTurns", spec := "netTurns", inPlace := ["math/bits.Sub64"], unfollowed := true, recurses := true, apart := false, narrowed := true }
def NetTurnsUptoSaid : Prop := netTurnsUptoRow.holds Try.pinned (OpenSpec.upto netTurnsSpec)

/-- 'shellgamelaw5.NetHalves', WHERE WHAT IT READS IS OF BULK AT MOST 1048576: true; the input reads as it did. -/
def netHalvesUptoRow : OpenClaim := { program := "ytceoopkcpkbdaaa", sum := "863958c6091a9e2639a34119f657ad21e504929bdc83196dd1b4df0db858ce8f", func := "shellgame/shellgamelaw5.NetHalves", spec := "netHalves", unfollowed := true, recurses := true, apart := false, narrowed := true }
def NetHalvesUptoSaid : Prop := netHalvesUptoRow.holds Try.pinned (OpenSpec.upto netHalvesSpec)

/-- 'shellgamelaw5.NetOne', WHERE WHAT IT READS IS OF BULK AT MOST 1048576: true; the input reads as it did. -/
def netOneUptoRow : OpenClaim := { program := "ytceoopkcpkbdaaa", sum := "863958c6091a9e2639a34119f657ad21e504929bdc83196dd1b4df0db858ce8f", func := "shellgame/shellgamelaw5.NetOne", spec := "netOne", inPlace := ["math/bits.Sub64"], unfollowed := true, recurses := true, apart := false, narrowed := true }
def NetOneUptoSaid : Prop := netOneUptoRow.holds Try.pinned (OpenSpec.upto netOneSpec)

end Rows
end Go.Proofs.Ytceoopkcpkbdaaa
