/-
  No cell of these rows narrows 'for every input' (looked for: loops, veiled, ifaces, maps, wideKeys, modest, calm, conditions, laid).
  DERIVED. THE GIVEN ROWS OF THIS SEAT. 5 by the template 'for every input the law returns true; each argument reads behind the call as it read before'; 0 by the template 'total and deterministic' (their statements: YtdfnnljfihlniaaTotals.lean).
  GIVEN WITH THE SEED: the statements are not yours to turn. If you find one false, say at which input.
  Laid BY PROGRAM, IN A SANDBOX (cutbox-rows.mjs): the forced cells as the released guide's own fill.sh prints them over the translation 0ac9f839aae9d33f… (all of the seat's roots in one cut). By AI agents, Wed Nov 11 2026. No macro, syntax, notation, axiom, sorry.
-/
import Derived.Test.YtdfnnljfihlniaaChecked
import GoSem.Claim
import GoSem.ClaimJoined
import GoSem.ClaimMapViews
import Derived.JoinedTies
import Derived.KernelRfl
namespace Go.Proofs.Ytdfnnljfihlniaa
/- THE CELL 'sum', in the pinned program and in every row, IS THE sha256 OF THE DUMP (.gsa) THAT YtdfnnljfihlniaaProg.lean LOADS. Nothing in Lean hashes anything: it is a label: what it is worth is what the hold of that sum in a sandbox is worth. -/
noncomputable def Try.pinned : Pinned := { name := "ytdfnnljfihlniaa", sum := "0ac9f839aae9d33f304faacdcc89abc43869277e1899453e8133d19bbdb75885", checked := Try.checked }
namespace Rows
def none {H : Type} : Left H := { results := [], args := [] }

/-- 'shellgamelaw12.HashPlaces': WHATEVER THE INPUT: true; the input reads as it did. -/
def hashPlacesSpec : ChangeSpec := { name := "hashPlaces", fn := fun _ => fun
  | [d1, d2, d3, d4] => { results := [.lit (.bool true)], args := [d1, d2, d3, d4] }
  | _ => none }
def hashPlacesRow : OpenClaim := { program := "ytdfnnljfihlniaa", sum := "0ac9f839aae9d33f304faacdcc89abc43869277e1899453e8133d19bbdb75885", func := "shellgame/shellgamelaw12.HashPlaces", spec := "hashPlaces", apart := false }
def HashPlacesSaid : Prop := hashPlacesRow.holds Try.pinned (OpenSpec.ofChange hashPlacesSpec)

/-- ITS FALSE NEIGHBOUR: 'it returns false'. Refute it at one input. -/
def hashPlacesWrong : ChangeSpec := { name := "hashPlaces", fn := fun _ => fun
  | [d1, d2, d3, d4] => { results := [.lit (.bool false)], args := [d1, d2, d3, d4] }
  | _ => none }
def HashPlacesWrongFalsely : Prop := hashPlacesRow.holds Try.pinned (OpenSpec.ofChange hashPlacesWrong)

/-- 'shellgamelaw12.HashSpread': WHATEVER THE INPUT: true; the input reads as it did. -/
def hashSpreadSpec : ChangeSpec := { name := "hashSpread", fn := fun _ => fun
  | [d1, d2, d3] => { results := [.lit (.bool true)], args := [d1, d2, d3] }
  | _ => none }
def hashSpreadRow : OpenClaim := { program := "ytdfnnljfihlniaa", sum := "0ac9f839aae9d33f304faacdcc89abc43869277e1899453e8133d19bbdb75885", func := "shellgame/shellgamelaw12.HashSpread", spec := "hashSpread", apart := false }
def HashSpreadSaid : Prop := hashSpreadRow.holds Try.pinned (OpenSpec.ofChange hashSpreadSpec)

/-- ITS FALSE NEIGHBOUR: 'it returns false'. Refute it at one input. -/
def hashSpreadWrong : ChangeSpec := { name := "hashSpread", fn := fun _ => fun
  | [d1, d2, d3] => { results := [.lit (.bool false)], args := [d1, d2, d3] }
  | _ => none }
def HashSpreadWrongFalsely : Prop := hashSpreadRow.holds Try.pinned (OpenSpec.ofChange hashSpreadWrong)

/-- 'shellgamelaw12.HashStirs': WHATEVER THE INPUT: true; the input reads as it did. -/
def hashStirsSpec : ChangeSpec := { name := "hashStirs", fn := fun _ => fun
  | [d1, d2] => { results := [.lit (.bool true)], args := [d1, d2] }
  | _ => none }
def hashStirsRow : OpenClaim := { program := "ytdfnnljfihlniaa", sum := "0ac9f839aae9d33f304faacdcc89abc43869277e1899453e8133d19bbdb75885", func := "shellgame/shellgamelaw12.HashStirs", spec := "hashStirs", apart := false }
def HashStirsSaid : Prop := hashStirsRow.holds Try.pinned (OpenSpec.ofChange hashStirsSpec)

/-- ITS FALSE NEIGHBOUR: 'it returns false'. Refute it at one input. -/
def hashStirsWrong : ChangeSpec := { name := "hashStirs", fn := fun _ => fun
  | [d1, d2] => { results := [.lit (.bool false)], args := [d1, d2] }
  | _ => none }
def HashStirsWrongFalsely : Prop := hashStirsRow.holds Try.pinned (OpenSpec.ofChange hashStirsWrong)

/-- 'shellgamelaw12.HashMoves': WHATEVER THE INPUT: true; the input reads as it did. -/
def hashMovesSpec : ChangeSpec := { name := "hashMoves", fn := fun _ => fun
  | [d1, d2, d3, d4, d5, d6] => { results := [.lit (.bool true)], args := [d1, d2, d3, d4, d5, d6] }
  | _ => none }
def hashMovesRow : OpenClaim := { program := "ytdfnnljfihlniaa", sum := "0ac9f839aae9d33f304faacdcc89abc43869277e1899453e8133d19bbdb75885", func := "shellgame/shellgamelaw12.HashMoves", spec := "hashMoves", apart := false }
def HashMovesSaid : Prop := hashMovesRow.holds Try.pinned (OpenSpec.ofChange hashMovesSpec)

/-- ITS FALSE NEIGHBOUR: 'it returns false'. Refute it at one input. -/
def hashMovesWrong : ChangeSpec := { name := "hashMoves", fn := fun _ => fun
  | [d1, d2, d3, d4, d5, d6] => { results := [.lit (.bool false)], args := [d1, d2, d3, d4, d5, d6] }
  | _ => none }
def HashMovesWrongFalsely : Prop := hashMovesRow.holds Try.pinned (OpenSpec.ofChange hashMovesWrong)

/-- 'shellgamelaw12.HashFew': WHATEVER THE INPUT: true; the input reads as it did. -/
def hashFewSpec : ChangeSpec := { name := "hashFew", fn := fun _ => fun
  | [d1, d2, d3] => { results := [.lit (.bool true)], args := [d1, d2, d3] }
  | _ => none }
def hashFewRow : OpenClaim := { program := "ytdfnnljfihlniaa", sum := "0ac9f839aae9d33f304faacdcc89abc43869277e1899453e8133d19bbdb75885", func := "shellgame/shellgamelaw12.HashFew", spec := "hashFew", apart := false }
def HashFewSaid : Prop := hashFewRow.holds Try.pinned (OpenSpec.ofChange hashFewSpec)

/-- ITS FALSE NEIGHBOUR: 'it returns false'. Refute it at one input. -/
def hashFewWrong : ChangeSpec := { name := "hashFew", fn := fun _ => fun
  | [d1, d2, d3] => { results := [.lit (.bool false)], args := [d1, d2, d3] }
  | _ => none }
def HashFewWrongFalsely : Prop := hashFewRow.holds Try.pinned (OpenSpec.ofChange hashFewWrong)

/- THE SECOND FORM. 'bulk': how many values and letters a reading holds, each counted each time it is reached (what is shared counts as often as it is met; a slice's spare places count too). A statement '..UptoSaid' is the law's where the arguments, and the package variables that the reading takes, are together of bulk at most 1048576: NARROWER than '..Said'. Prove '..Said' where nothing that the law and all that it calls make is longer than what came in: it says more and counts as full. Else prove '..UptoSaid'. A law counts once. -/
mutual
def uptoBulk {H : Type} : DataW H → Nat
  | .lit (.string bytes) => bytes.length + 1
  | .lit _ => 1
  | .nil => 1
  | .ptr d => uptoBulk d + 1
  | .slice elems spare => uptoBulkAll elems + uptoBulkAll spare + 1
  | .agg parts => uptoBulkAll parts + 1
  | .iface _ d => uptoBulk d + 1
  | .map entries => uptoBulkEntries entries + 1
  | .held _ => 1
def uptoBulkAll {H : Type} : List (DataW H) → Nat
  | [] => 0
  | d :: r => uptoBulk d + uptoBulkAll r
def uptoBulkEntries {H : Type} : List (Lit × DataW H) → Nat
  | [] => 0
  | x :: r => uptoBulkEntry x + uptoBulkEntries r
def uptoBulkEntry {H : Type} : Lit × DataW H → Nat
  | (.string bytes, d) => bytes.length + uptoBulk d + 1
  | (_, d) => uptoBulk d + 1
 end
def uptoSmall : (H : Type) → List (DataW H) → Bool := fun _ ds => decide (uptoBulkAll ds ≤ 1048576)
def OpenSpec.upto (s : _root_.Go.ChangeSpec) : _root_.Go.OpenSpec := { _root_.Go.OpenSpec.ofChange s with cond := some uptoSmall }

/-- 'shellgamelaw12.HashPlaces', WHERE WHAT IT READS IS OF BULK AT MOST 1048576: true; the input reads as it did. -/
def hashPlacesUptoRow : OpenClaim := { program := "ytdfnnljfihlniaa", sum := "0ac9f839aae9d33f304faacdcc89abc43869277e1899453e8133d19bbdb75885", func := "shellgame/shellgamelaw12.HashPlaces", spec := "hashPlaces", apart := false, narrowed := true }
def HashPlacesUptoSaid : Prop := hashPlacesUptoRow.holds Try.pinned (OpenSpec.upto hashPlacesSpec)

/-- 'shellgamelaw12.HashSpread', WHERE WHAT IT READS IS OF BULK AT MOST 1048576: true; the input reads as it did. -/
def hashSpreadUptoRow : OpenClaim := { program := "ytdfnnljfihlniaa", sum := "0ac9f839aae9d33f304faacdcc89abc43869277e1899453e8133d19bbdb75885", func := "shellgame/shellgamelaw12.HashSpread", spec := "hashSpread", apart := false, narrowed := true }
def HashSpreadUptoSaid : Prop := hashSpreadUptoRow.holds Try.pinned (OpenSpec.upto hashSpreadSpec)

/-- 'shellgamelaw12.HashStirs', WHERE WHAT IT READS IS OF BULK AT MOST 1048576: true; the input reads as it did. -/
def hashStirsUptoRow : OpenClaim := { program := "ytdfnnljfihlniaa", sum := "0ac9f839aae9d33f304faacdcc89abc43869277e1899453e8133d19bbdb75885", func := "shellgame/shellgamelaw12.HashStirs", spec := "hashStirs", apart := false, narrowed := true }
def HashStirsUptoSaid : Prop := hashStirsUptoRow.holds Try.pinned (OpenSpec.upto hashStirsSpec)

/-- 'shellgamelaw12.HashMoves', WHERE WHAT IT READS IS OF BULK AT MOST 1048576: true; the input reads as it did. -/
def hashMovesUptoRow : OpenClaim := { program := "ytdfnnljfihlniaa", sum := "0ac9f839aae9d33f304faacdcc89abc43869277e1899453e8133d19bbdb75885", func := "shellgame/shellgamelaw12.HashMoves", spec := "hashMoves", apart := false, narrowed := true }
def HashMovesUptoSaid : Prop := hashMovesUptoRow.holds Try.pinned (OpenSpec.upto hashMovesSpec)

/-- 'shellgamelaw12.HashFew', WHERE WHAT IT READS IS OF BULK AT MOST 1048576: true; the input reads as it did. -/
def hashFewUptoRow : OpenClaim := { program := "ytdfnnljfihlniaa", sum := "0ac9f839aae9d33f304faacdcc89abc43869277e1899453e8133d19bbdb75885", func := "shellgame/shellgamelaw12.HashFew", spec := "hashFew", apart := false, narrowed := true }
def HashFewUptoSaid : Prop := hashFewUptoRow.holds Try.pinned (OpenSpec.upto hashFewSpec)

end Rows
end Go.Proofs.Ytdfnnljfihlniaa
