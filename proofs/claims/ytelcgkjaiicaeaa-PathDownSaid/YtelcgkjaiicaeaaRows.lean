/-
  No cell of these rows narrows 'for every input' (looked for: loops, veiled, ifaces, maps, wideKeys, modest, calm, conditions, laid).
  DERIVED. THE GIVEN ROWS OF THIS SEAT. 6 by the template 'for every input the law returns true; each argument reads behind the call as it read before'; 0 by the template 'total and deterministic' (their statements: YtelcgkjaiicaeaaTotals.lean).
  GIVEN WITH THE SEED: the statements are not yours to turn. If you find one false, say at which input.
  Laid BY PROGRAM, IN A SANDBOX (cutbox-rows.mjs): the forced cells as the released guide's own fill.sh prints them over the translation 795c6b498f0a47d6… (all of the seat's roots in one cut). By AI agents, Wed Nov 11 2026. No macro, syntax, notation, axiom, sorry.
-/
import Derived.Test.YtelcgkjaiicaeaaChecked
import GoSem.Claim
import GoSem.ClaimJoined
import GoSem.ClaimMapViews
import Derived.JoinedTies
import Derived.KernelRfl
namespace Go.Proofs.Ytelcgkjaiicaeaa
/- THE CELL 'sum', in the pinned program and in every row, IS THE sha256 OF THE DUMP (.gsa) THAT YtelcgkjaiicaeaaProg.lean LOADS. Nothing in Lean hashes anything: it is a label: what it is worth is what the hold of that sum in a sandbox is worth. -/
noncomputable def Try.pinned : Pinned := { name := "ytelcgkjaiicaeaa", sum := "795c6b498f0a47d6d9de98f013c6558072e980b901fe8e744fb5047f7df25e62", checked := Try.checked }
namespace Rows
def none {H : Type} : Left H := { results := [], args := [] }

/-- 'shellgamelaw8.PathTrees': WHATEVER THE INPUT: true; the input reads as it did. -/
def pathTreesSpec : ChangeSpec := { name := "pathTrees", fn := fun _ => fun
  | [d1, d2, d3] => { results := [.lit (.bool true)], args := [d1, d2, d3] }
  | _ => none }
def pathTreesRow : OpenClaim := { program := "ytelcgkjaiicaeaa", sum := "795c6b498f0a47d6d9de98f013c6558072e980b901fe8e744fb5047f7df25e62", func := "shellgame/shellgamelaw8.PathTrees", spec := "pathTrees", apart := false }
def PathTreesSaid : Prop := pathTreesRow.holds Try.pinned (OpenSpec.ofChange pathTreesSpec)

/-- ITS FALSE NEIGHBOUR: 'it returns false'. Refute it at one input. -/
def pathTreesWrong : ChangeSpec := { name := "pathTrees", fn := fun _ => fun
  | [d1, d2, d3] => { results := [.lit (.bool false)], args := [d1, d2, d3] }
  | _ => none }
def PathTreesWrongFalsely : Prop := pathTreesRow.holds Try.pinned (OpenSpec.ofChange pathTreesWrong)

/-- 'shellgamelaw8.PathMeets': WHATEVER THE INPUT: true; the input reads as it did. -/
def pathMeetsSpec : ChangeSpec := { name := "pathMeets", fn := fun _ => fun
  | [d1, d2, d3] => { results := [.lit (.bool true)], args := [d1, d2, d3] }
  | _ => none }
def pathMeetsRow : OpenClaim := { program := "ytelcgkjaiicaeaa", sum := "795c6b498f0a47d6d9de98f013c6558072e980b901fe8e744fb5047f7df25e62", func := "shellgame/shellgamelaw8.PathMeets", spec := "pathMeets", apart := false }
def PathMeetsSaid : Prop := pathMeetsRow.holds Try.pinned (OpenSpec.ofChange pathMeetsSpec)

/-- ITS FALSE NEIGHBOUR: 'it returns false'. Refute it at one input. -/
def pathMeetsWrong : ChangeSpec := { name := "pathMeets", fn := fun _ => fun
  | [d1, d2, d3] => { results := [.lit (.bool false)], args := [d1, d2, d3] }
  | _ => none }
def PathMeetsWrongFalsely : Prop := pathMeetsRow.holds Try.pinned (OpenSpec.ofChange pathMeetsWrong)

/-- 'shellgamelaw8.PathDown': WHATEVER THE INPUT: true; the input reads as it did. -/
def pathDownSpec : ChangeSpec := { name := "pathDown", fn := fun _ => fun
  | [d] => { results := [.lit (.bool true)], args := [d] }
  | _ => none }
def pathDownRow : OpenClaim := { program := "ytelcgkjaiicaeaa", sum := "795c6b498f0a47d6d9de98f013c6558072e980b901fe8e744fb5047f7df25e62", func := "shellgame/shellgamelaw8.PathDown", spec := "pathDown", apart := false }
def PathDownSaid : Prop := pathDownRow.holds Try.pinned (OpenSpec.ofChange pathDownSpec)

/-- ITS FALSE NEIGHBOUR: 'it returns false'. Refute it at one input. -/
def pathDownWrong : ChangeSpec := { name := "pathDown", fn := fun _ => fun
  | [d] => { results := [.lit (.bool false)], args := [d] }
  | _ => none }
def PathDownWrongFalsely : Prop := pathDownRow.holds Try.pinned (OpenSpec.ofChange pathDownWrong)

/-- 'shellgamelaw8.PathCommon': WHATEVER THE INPUT: true; the input reads as it did. -/
def pathCommonSpec : ChangeSpec := { name := "pathCommon", fn := fun _ => fun
  | [d1, d2, d3, d4] => { results := [.lit (.bool true)], args := [d1, d2, d3, d4] }
  | _ => none }
def pathCommonRow : OpenClaim := { program := "ytelcgkjaiicaeaa", sum := "795c6b498f0a47d6d9de98f013c6558072e980b901fe8e744fb5047f7df25e62", func := "shellgame/shellgamelaw8.PathCommon", spec := "pathCommon", apart := false }
def PathCommonSaid : Prop := pathCommonRow.holds Try.pinned (OpenSpec.ofChange pathCommonSpec)

/-- ITS FALSE NEIGHBOUR: 'it returns false'. Refute it at one input. -/
def pathCommonWrong : ChangeSpec := { name := "pathCommon", fn := fun _ => fun
  | [d1, d2, d3, d4] => { results := [.lit (.bool false)], args := [d1, d2, d3, d4] }
  | _ => none }
def PathCommonWrongFalsely : Prop := pathCommonRow.holds Try.pinned (OpenSpec.ofChange pathCommonWrong)

/-- 'shellgamelaw8.PathBuckets': WHATEVER THE INPUT: true; the input reads as it did. -/
def pathBucketsSpec : ChangeSpec := { name := "pathBuckets", fn := fun _ => fun
  | [d1, d2, d3] => { results := [.lit (.bool true)], args := [d1, d2, d3] }
  | _ => none }
def pathBucketsRow : OpenClaim := { program := "ytelcgkjaiicaeaa", sum := "795c6b498f0a47d6d9de98f013c6558072e980b901fe8e744fb5047f7df25e62", func := "shellgame/shellgamelaw8.PathBuckets", spec := "pathBuckets", apart := false }
def PathBucketsSaid : Prop := pathBucketsRow.holds Try.pinned (OpenSpec.ofChange pathBucketsSpec)

/-- ITS FALSE NEIGHBOUR: 'it returns false'. Refute it at one input. -/
def pathBucketsWrong : ChangeSpec := { name := "pathBuckets", fn := fun _ => fun
  | [d1, d2, d3] => { results := [.lit (.bool false)], args := [d1, d2, d3] }
  | _ => none }
def PathBucketsWrongFalsely : Prop := pathBucketsRow.holds Try.pinned (OpenSpec.ofChange pathBucketsWrong)

/-- 'shellgamelaw8.PathTwice': WHATEVER THE INPUT: true; the input reads as it did. -/
def pathTwiceSpec : ChangeSpec := { name := "pathTwice", fn := fun _ => fun
  | [d1, d2] => { results := [.lit (.bool true)], args := [d1, d2] }
  | _ => none }
def pathTwiceRow : OpenClaim := { program := "ytelcgkjaiicaeaa", sum := "795c6b498f0a47d6d9de98f013c6558072e980b901fe8e744fb5047f7df25e62", func := "shellgame/shellgamelaw8.PathTwice", spec := "pathTwice", apart := false }
def PathTwiceSaid : Prop := pathTwiceRow.holds Try.pinned (OpenSpec.ofChange pathTwiceSpec)

/-- ITS FALSE NEIGHBOUR: 'it returns false'. Refute it at one input. -/
def pathTwiceWrong : ChangeSpec := { name := "pathTwice", fn := fun _ => fun
  | [d1, d2] => { results := [.lit (.bool false)], args := [d1, d2] }
  | _ => none }
def PathTwiceWrongFalsely : Prop := pathTwiceRow.holds Try.pinned (OpenSpec.ofChange pathTwiceWrong)

/- THE SECOND FORM. 'bulk': how many values and letters a reading holds, each counted each time it is reached (what is shared counts as often as it is met; a slice's spare places count too). A statement '..UptoSaid' is the law's where the arguments, and the package variables that the reading takes, are together of bulk at most 1048576: NARROWER than '..Said'. Prove '..Said' where nothing that the law and all that it calls make is longer than what came in: it says more and counts as full. Else prove '..UptoSaid'. A law counts once. -/
mutual
def uptoBulk {H : Type} : DataW H → Nat
  | .lit (.string bytes) => bytes.length + 1
  | .lit _ => 1
  | .nil => 1
  | .ptr d => uptoBulk d + 1
  | .slice elems spare => uptoBulkAll elems + uptoBulkAll spare + 1
  | .agg parts => uptoBulkAll parts + 1
  | .iface _ d => uptoBulk d + 1
  | .map entries => uptoBulkEntries entries + 1
  | .held _ => 1
def uptoBulkAll {H : Type} : List (DataW H) → Nat
  | [] => 0
  | d :: r => uptoBulk d + uptoBulkAll r
def uptoBulkEntries {H : Type} : List (Lit × DataW H) → Nat
  | [] => 0
  | x :: r => uptoBulkEntry x + uptoBulkEntries r
def uptoBulkEntry {H : Type} : Lit × DataW H → Nat
  | (.string bytes, d) => bytes.length + uptoBulk d + 1
  | (_, d) => uptoBulk d + 1
 end
def uptoSmall : (H : Type) → List (DataW H) → Bool := fun _ ds => decide (uptoBulkAll ds ≤ 1048576)
def OpenSpec.upto (s : _root_.Go.ChangeSpec) : _root_.Go.OpenSpec := { _root_.Go.OpenSpec.ofChange s with cond := some uptoSmall }

/-- 'shellgamelaw8.PathTrees', WHERE WHAT IT READS IS OF BULK AT MOST 1048576: true; the input reads as it did. -/
def pathTreesUptoRow : OpenClaim := { program := "ytelcgkjaiicaeaa", sum := "795c6b498f0a47d6d9de98f013c6558072e980b901fe8e744fb5047f7df25e62", func := "shellgame/shellgamelaw8.PathTrees", spec := "pathTrees", apart := false, narrowed := true }
def PathTreesUptoSaid : Prop := pathTreesUptoRow.holds Try.pinned (OpenSpec.upto pathTreesSpec)

/-- 'shellgamelaw8.PathMeets', WHERE WHAT IT READS IS OF BULK AT MOST 1048576: true; the input reads as it did. -/
def pathMeetsUptoRow : OpenClaim := { program := "ytelcgkjaiicaeaa", sum := "795c6b498f0a47d6d9de98f013c6558072e980b901fe8e744fb5047f7df25e62", func := "shellgame/shellgamelaw8.PathMeets", spec := "pathMeets", apart := false, narrowed := true }
def PathMeetsUptoSaid : Prop := pathMeetsUptoRow.holds Try.pinned (OpenSpec.upto pathMeetsSpec)

/-- 'shellgamelaw8.PathDown', WHERE WHAT IT READS IS OF BULK AT MOST 1048576: true; the input reads as it did. -/
def pathDownUptoRow : OpenClaim := { program := "ytelcgkjaiicaeaa", sum := "795c6b498f0a47d6d9de98f013c6558072e980b901fe8e744fb5047f7df25e62", func := "shellgame/shellgamelaw8.PathDown", spec := "pathDown", apart := false, narrowed := true }
def PathDownUptoSaid : Prop := pathDownUptoRow.holds Try.pinned (OpenSpec.upto pathDownSpec)

/-- 'shellgamelaw8.PathCommon', WHERE WHAT IT READS IS OF BULK AT MOST 1048576: true; the input reads as it did. -/
def pathCommonUptoRow : OpenClaim := { program := "ytelcgkjaiicaeaa", sum := "795c6b498f0a47d6d9de98f013c6558072e980b901fe8e744fb5047f7df25e62", func := "shellgame/shellgamelaw8.PathCommon", spec := "pathCommon", apart := false, narrowed := true }
def PathCommonUptoSaid : Prop := pathCommonUptoRow.holds Try.pinned (OpenSpec.upto pathCommonSpec)

/-- 'shellgamelaw8.PathBuckets', WHERE WHAT IT READS IS OF BULK AT MOST 1048576: true; the input reads as it did. -/
def pathBucketsUptoRow : OpenClaim := { program := "ytelcgkjaiicaeaa", sum := "795c6b498f0a47d6d9de98f013c6558072e980b901fe8e744fb5047f7df25e62", func := "shellgame/shellgamelaw8.PathBuckets", spec := "pathBuckets", apart := false, narrowed := true }
def PathBucketsUptoSaid : Prop := pathBucketsUptoRow.holds Try.pinned (OpenSpec.upto pathBucketsSpec)

/-- 'shellgamelaw8.PathTwice', WHERE WHAT IT READS IS OF BULK AT MOST 1048576: true; the input reads as it did. -/
def pathTwiceUptoRow : OpenClaim := { program := "ytelcgkjaiicaeaa", sum := "795c6b498f0a47d6d9de98f013c6558072e980b901fe8e744fb5047f7df25e62", func := "shellgame/shellgamelaw8.PathTwice", spec := "pathTwice", apart := false, narrowed := true }
def PathTwiceUptoSaid : Prop := pathTwiceUptoRow.holds Try.pinned (OpenSpec.upto pathTwiceSpec)

end Rows
end Go.Proofs.Ytelcgkjaiicaeaa
