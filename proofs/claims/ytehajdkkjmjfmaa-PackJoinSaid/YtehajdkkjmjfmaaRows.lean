/-
  No cell of these rows narrows 'for every input' (looked for: loops, veiled, ifaces, maps, wideKeys, modest, calm, conditions, laid).
  DERIVED. THE GIVEN ROWS OF THIS SEAT. 4 by the template 'for every input the law returns true; each argument reads behind the call as it read before'; 0 by the template 'total and deterministic' (their statements: YtehajdkkjmjfmaaTotals.lean).
  GIVEN WITH THE SEED: the statements are not yours to turn. If you find one false, say at which input.
  Laid BY PROGRAM, IN A SANDBOX (cutbox-rows.mjs): the forced cells as the released guide's own fill.sh prints them over the translation f23ad487e87dba95… (all of the seat's roots in one cut). By AI agents, Wed Nov 11 2026. No macro, syntax, notation, axiom, sorry.
-/
import Derived.Test.YtehajdkkjmjfmaaChecked
import GoSem.Claim
import GoSem.ClaimJoined
import GoSem.ClaimMapViews
import Derived.JoinedTies
import Derived.KernelRfl
namespace Go.Proofs.Ytehajdkkjmjfmaa
/- THE CELL 'sum', in the pinned program and in every row, IS THE sha256 OF THE DUMP (.gsa) THAT YtehajdkkjmjfmaaProg.lean LOADS. Nothing in Lean hashes anything: it is a label: what it is worth is what the hold of that sum in a sandbox is worth. -/
noncomputable def Try.pinned : Pinned := { name := "ytehajdkkjmjfmaa", sum := "f23ad487e87dba95f0fb5fc29f7ca5ffd907d8331a19eca7f82cb8767206b9d7", checked := Try.checked }
namespace Rows
def none {H : Type} : Left H := { results := [], args := [] }

/-- 'shellgamelaw4.PackWords': WHATEVER THE INPUT: true; the input reads as it did. -/
def packWordsSpec : ChangeSpec := { name := "packWords", fn := fun _ => fun
  | [d1, d2] => { results := [.lit (.bool true)], args := [d1, d2] }
  | _ => none }
def packWordsRow : OpenClaim := { program := "ytehajdkkjmjfmaa", sum := "f23ad487e87dba95f0fb5fc29f7ca5ffd907d8331a19eca7f82cb8767206b9d7", func := "shellgame/shellgamelaw4.PackWords", spec := "packWords", apart := false }
def PackWordsSaid : Prop := packWordsRow.holds Try.pinned (OpenSpec.ofChange packWordsSpec)

/-- ITS FALSE NEIGHBOUR: 'it returns false'. Refute it at one input. -/
def packWordsWrong : ChangeSpec := { name := "packWords", fn := fun _ => fun
  | [d1, d2] => { results := [.lit (.bool false)], args := [d1, d2] }
  | _ => none }
def PackWordsWrongFalsely : Prop := packWordsRow.holds Try.pinned (OpenSpec.ofChange packWordsWrong)

/-- 'shellgamelaw4.PackBack': WHATEVER THE INPUT: true; the input reads as it did. -/
def packBackSpec : ChangeSpec := { name := "packBack", fn := fun _ => fun
  | [d1, d2, d3] => { results := [.lit (.bool true)], args := [d1, d2, d3] }
  | _ => none }
def packBackRow : OpenClaim := { program := "ytehajdkkjmjfmaa", sum := "f23ad487e87dba95f0fb5fc29f7ca5ffd907d8331a19eca7f82cb8767206b9d7", func := "shellgame/shellgamelaw4.PackBack", spec := "packBack", apart := false }
def PackBackSaid : Prop := packBackRow.holds Try.pinned (OpenSpec.ofChange packBackSpec)

/-- ITS FALSE NEIGHBOUR: 'it returns false'. Refute it at one input. -/
def packBackWrong : ChangeSpec := { name := "packBack", fn := fun _ => fun
  | [d1, d2, d3] => { results := [.lit (.bool false)], args := [d1, d2, d3] }
  | _ => none }
def PackBackWrongFalsely : Prop := packBackRow.holds Try.pinned (OpenSpec.ofChange packBackWrong)

/-- 'shellgamelaw4.PackRight': WHATEVER THE INPUT: true; the input reads as it did. -/
def packRightSpec : ChangeSpec := { name := "packRight", fn := fun _ => fun
  | [d1, d2, d3] => { results := [.lit (.bool true)], args := [d1, d2, d3] }
  | _ => none }
def packRightRow : OpenClaim := { program := "ytehajdkkjmjfmaa", sum := "f23ad487e87dba95f0fb5fc29f7ca5ffd907d8331a19eca7f82cb8767206b9d7", func := "shellgame/shellgamelaw4.PackRight", spec := "packRight", apart := false }
def PackRightSaid : Prop := packRightRow.holds Try.pinned (OpenSpec.ofChange packRightSpec)

/-- ITS FALSE NEIGHBOUR: 'it returns false'. Refute it at one input. -/
def packRightWrong : ChangeSpec := { name := "packRight", fn := fun _ => fun
  | [d1, d2, d3] => { results := [.lit (.bool false)], args := [d1, d2, d3] }
  | _ => none }
def PackRightWrongFalsely : Prop := packRightRow.holds Try.pinned (OpenSpec.ofChange packRightWrong)

/-- 'shellgamelaw4.PackJoin': WHATEVER THE INPUT: true; the input reads as it did. -/
def packJoinSpec : ChangeSpec := { name := "packJoin", fn := fun _ => fun
  | [d1, d2] => { results := [.lit (.bool true)], args := [d1, d2] }
  | _ => none }
def packJoinRow : OpenClaim := { program := "ytehajdkkjmjfmaa", sum := "f23ad487e87dba95f0fb5fc29f7ca5ffd907d8331a19eca7f82cb8767206b9d7", func := "shellgame/shellgamelaw4.PackJoin", spec := "packJoin", apart := false }
def PackJoinSaid : Prop := packJoinRow.holds Try.pinned (OpenSpec.ofChange packJoinSpec)

/-- ITS FALSE NEIGHBOUR: 'it returns false'. Refute it at one input. -/
def packJoinWrong : ChangeSpec := { name := "packJoin", fn := fun _ => fun
  | [d1, d2] => { results := [.lit (.bool false)], args := [d1, d2] }
  | _ => none }
def PackJoinWrongFalsely : Prop := packJoinRow.holds Try.pinned (OpenSpec.ofChange packJoinWrong)

/- THE SECOND FORM. 'bulk': how many values and letters a reading holds, each counted each time it is reached (what is shared counts as often as it is met; a slice's spare places count too). A statement '..UptoSaid' is the law's where the arguments, and the package variables that the reading takes, are together of bulk at most 1048576: NARROWER than '..Said'. Prove '..Said' where nothing that the law and all that it calls make is longer than what came in: it says more and counts as full. Else prove '..UptoSaid'. A law counts once. -/
mutual
def uptoBulk {H : Type} : DataW H → Nat
  | .lit (.string bytes) => bytes.length + 1
  | .lit _ => 1
  | .nil => 1
  | .ptr d => uptoBulk d + 1
  | .slice elems spare => uptoBulkAll elems + uptoBulkAll spare + 1
  | .agg parts => uptoBulkAll parts + 1
  | .iface _ d => uptoBulk d + 1
  | .map entries => uptoBulkEntries entries + 1
  | .held _ => 1
def uptoBulkAll {H : Type} : List (DataW H) → Nat
  | [] => 0
  | d :: r => uptoBulk d + uptoBulkAll r
def uptoBulkEntries {H : Type} : List (Lit × DataW H) → Nat
  | [] => 0
  | x :: r => uptoBulkEntry x + uptoBulkEntries r
def uptoBulkEntry {H : Type} : Lit × DataW H → Nat
  | (.string bytes, d) => bytes.length + uptoBulk d + 1
  | (_, d) => uptoBulk d + 1
 end
def uptoSmall : (H : Type) → List (DataW H) → Bool := fun _ ds => decide (uptoBulkAll ds ≤ 1048576)
def OpenSpec.upto (s : _root_.Go.ChangeSpec) : _root_.Go.OpenSpec := { _root_.Go.OpenSpec.ofChange s with cond := some uptoSmall }

/-- 'shellgamelaw4.PackWords', WHERE WHAT IT READS IS OF BULK AT MOST 1048576: true; the input reads as it did. -/
def packWordsUptoRow : OpenClaim := { program := "ytehajdkkjmjfmaa", sum := "f23ad487e87dba95f0fb5fc29f7ca5ffd907d8331a19eca7f82cb8767206b9d7", func := "shellgame/shellgamelaw4.PackWords", spec := "packWords", apart := false, narrowed := true }
def PackWordsUptoSaid : Prop := packWordsUptoRow.holds Try.pinned (OpenSpec.upto packWordsSpec)

/-- 'shellgamelaw4.PackBack', WHERE WHAT IT READS IS OF BULK AT MOST 1048576: true; the input reads as it did. -/
def packBackUptoRow : OpenClaim := { program := "ytehajdkkjmjfmaa", sum := "f23ad487e87dba95f0fb5fc29f7ca5ffd907d8331a19eca7f82cb8767206b9d7", func := "shellgame/shellgamelaw4.PackBack", spec := "packBack", apart := false, narrowed := true }
def PackBackUptoSaid : Prop := packBackUptoRow.holds Try.pinned (OpenSpec.upto packBackSpec)

/-- 'shellgamelaw4.PackRight', WHERE WHAT IT READS IS OF BULK AT MOST 1048576: true; the input reads as it did. -/
def packRightUptoRow : OpenClaim := { program := "ytehajdkkjmjfmaa", sum := "f23ad487e87dba95f0fb5fc29f7ca5ffd907d8331a19eca7f82cb8767206b9d7", func := "shellgame/shellgamelaw4.PackRight", spec := "packRight", apart := false, narrowed := true }
def PackRightUptoSaid : Prop := packRightUptoRow.holds Try.pinned (OpenSpec.upto packRightSpec)

/-- 'shellgamelaw4.PackJoin', WHERE WHAT IT READS IS OF BULK AT MOST 1048576: true; the input reads as it did. -/
def packJoinUptoRow : OpenClaim := { program := "ytehajdkkjmjfmaa", sum := "f23ad487e87dba95f0fb5fc29f7ca5ffd907d8331a19eca7f82cb8767206b9d7", func := "shellgame/shellgamelaw4.PackJoin", spec := "packJoin", apart := false, narrowed := true }
def PackJoinUptoSaid : Prop := packJoinUptoRow.holds Try.pinned (OpenSpec.upto packJoinSpec)

end Rows
end Go.Proofs.Ytehajdkkjmjfmaa
