/-
  No cell of these rows narrows 'for every input' (looked for: loops, veiled, ifaces, maps, wideKeys, modest, calm, conditions, laid).
  DERIVED. THE GIVEN ROWS OF THIS SEAT. 5 by the template 'for every input the law returns true; each argument reads behind the call as it read before'; 0 by the template 'total and deterministic' (their statements: YtjamfcjglodfeaaTotals.lean).
  GIVEN WITH THE SEED: the statements are not yours to turn. If you find one false, say at which input.
  Laid BY PROGRAM, IN A SANDBOX (cutbox-rows.mjs): the forced cells as the released guide's own fill.sh prints them over the translation d3c7d43ed4b6fbaf… (all of the seat's roots in one cut). By AI agents, Wed Nov 11 2026. No macro, syntax, notation, axiom, sorry.
-/
import Derived.Test.YtjamfcjglodfeaaChecked
import GoSem.Claim
import GoSem.ClaimJoined
import GoSem.ClaimMapViews
import Derived.JoinedTies
import Derived.KernelRfl
namespace Go.Proofs.Ytjamfcjglodfeaa
/- THE CELL 'sum', in the pinned program and in every row, IS THE sha256 OF THE DUMP (.gsa) THAT YtjamfcjglodfeaaProg.lean LOADS. Nothing in Lean hashes anything: it is a label: what it is worth is what the hold of that sum in a sandbox is worth. -/
noncomputable def Try.pinned : Pinned := { name := "ytjamfcjglodfeaa", sum := "d3c7d43ed4b6fbaf07c3e244253386d3d047de56976edb03b64503260dae9b50", checked := Try.checked }
namespace Rows
def none {H : Type} : Left H := { results := [], args := [] }

/-- 'shellgamelaw15.SlotBlocks': WHATEVER THE INPUT: true; the input reads as it did. -/
def slotBlocksSpec : ChangeSpec := { name := "slotBlocks", fn := fun _ => fun
  | [d1, d2, d3, d4] => { results := [.lit (.bool true)], args := [d1, d2, d3, d4] }
  | _ => none }
def slotBlocksRow : OpenClaim := { program := "ytjamfcjglodfeaa", sum := "d3c7d43ed4b6fbaf07c3e244253386d3d047de56976edb03b64503260dae9b50", func := "shellgame/shellgamelaw15.SlotBlocks", spec := "slotBlocks", apart := false }
def SlotBlocksSaid : Prop := slotBlocksRow.holds Try.pinned (OpenSpec.ofChange slotBlocksSpec)

/-- ITS FALSE NEIGHBOUR: 'it returns false'. Refute it at one input. -/
def slotBlocksWrong : ChangeSpec := { name := "slotBlocks", fn := fun _ => fun
  | [d1, d2, d3, d4] => { results := [.lit (.bool false)], args := [d1, d2, d3, d4] }
  | _ => none }
def SlotBlocksWrongFalsely : Prop := slotBlocksRow.holds Try.pinned (OpenSpec.ofChange slotBlocksWrong)

/-- 'shellgamelaw15.SlotBack': WHATEVER THE INPUT: true; the input reads as it did. -/
def slotBackSpec : ChangeSpec := { name := "slotBack", fn := fun _ => fun
  | [d1, d2] => { results := [.lit (.bool true)], args := [d1, d2] }
  | _ => none }
def slotBackRow : OpenClaim := { program := "ytjamfcjglodfeaa", sum := "d3c7d43ed4b6fbaf07c3e244253386d3d047de56976edb03b64503260dae9b50", func := "shellgame/shellgamelaw15.SlotBack", spec := "slotBack", apart := false }
def SlotBackSaid : Prop := slotBackRow.holds Try.pinned (OpenSpec.ofChange slotBackSpec)

/-- ITS FALSE NEIGHBOUR: 'it returns false'. Refute it at one input. -/
def slotBackWrong : ChangeSpec := { name := "slotBack", fn := fun _ => fun
  | [d1, d2] => { results := [.lit (.bool false)], args := [d1, d2] }
  | _ => none }
def SlotBackWrongFalsely : Prop := slotBackRow.holds Try.pinned (OpenSpec.ofChange slotBackWrong)

/-- 'shellgamelaw15.SlotRises': WHATEVER THE INPUT: true; the input reads as it did. -/
def slotRisesSpec : ChangeSpec := { name := "slotRises", fn := fun _ => fun
  | [d1, d2] => { results := [.lit (.bool true)], args := [d1, d2] }
  | _ => none }
def slotRisesRow : OpenClaim := { program := "ytjamfcjglodfeaa", sum := "d3c7d43ed4b6fbaf07c3e244253386d3d047de56976edb03b64503260dae9b50", func := "shellgame/shellgamelaw15.SlotRises", spec := "slotRises", apart := false }
def SlotRisesSaid : Prop := slotRisesRow.holds Try.pinned (OpenSpec.ofChange slotRisesSpec)

/-- ITS FALSE NEIGHBOUR: 'it returns false'. Refute it at one input. -/
def slotRisesWrong : ChangeSpec := { name := "slotRises", fn := fun _ => fun
  | [d1, d2] => { results := [.lit (.bool false)], args := [d1, d2] }
  | _ => none }
def SlotRisesWrongFalsely : Prop := slotRisesRow.holds Try.pinned (OpenSpec.ofChange slotRisesWrong)

/-- 'shellgamelaw15.SlotOnce': WHATEVER THE INPUT: true; the input reads as it did. -/
def slotOnceSpec : ChangeSpec := { name := "slotOnce", fn := fun _ => fun
  | [d1, d2] => { results := [.lit (.bool true)], args := [d1, d2] }
  | _ => none }
def slotOnceRow : OpenClaim := { program := "ytjamfcjglodfeaa", sum := "d3c7d43ed4b6fbaf07c3e244253386d3d047de56976edb03b64503260dae9b50", func := "shellgame/shellgamelaw15.SlotOnce", spec := "slotOnce", apart := false }
def SlotOnceSaid : Prop := slotOnceRow.holds Try.pinned (OpenSpec.ofChange slotOnceSpec)

/-- ITS FALSE NEIGHBOUR: 'it returns false'. Refute it at one input. -/
def slotOnceWrong : ChangeSpec := { name := "slotOnce", fn := fun _ => fun
  | [d1, d2] => { results := [.lit (.bool false)], args := [d1, d2] }
  | _ => none }
def SlotOnceWrongFalsely : Prop := slotOnceRow.holds Try.pinned (OpenSpec.ofChange slotOnceWrong)

/-- 'shellgamelaw15.SlotTimes': WHATEVER THE INPUT: true; the input reads as it did. -/
def slotTimesSpec : ChangeSpec := { name := "slotTimes", fn := fun _ => fun
  | [d1, d2, d3] => { results := [.lit (.bool true)], args := [d1, d2, d3] }
  | _ => none }
def slotTimesRow : OpenClaim := { program := "ytjamfcjglodfeaa", sum := "d3c7d43ed4b6fbaf07c3e244253386d3d047de56976edb03b64503260dae9b50", func := "shellgame/shellgamelaw15.SlotTimes", spec := "slotTimes", apart := false }
def SlotTimesSaid : Prop := slotTimesRow.holds Try.pinned (OpenSpec.ofChange slotTimesSpec)

/-- ITS FALSE NEIGHBOUR: 'it returns false'. Refute it at one input. -/
def slotTimesWrong : ChangeSpec := { name := "slotTimes", fn := fun _ => fun
  | [d1, d2, d3] => { results := [.lit (.bool false)], args := [d1, d2, d3] }
  | _ => none }
def SlotTimesWrongFalsely : Prop := slotTimesRow.holds Try.pinned (OpenSpec.ofChange slotTimesWrong)

/- THE SECOND FORM. 'bulk': how many values and letters a reading holds, each counted each time it is reached (what is shared counts as often as it is met; a slice's spare places count too). A statement '..UptoSaid' is the law's where the arguments, and the package variables that the reading takes, are together of bulk at most 1048576: NARROWER than '..Said'. Prove '..Said' where nothing that the law and all that it calls make is longer than what came in: it says more and counts as full. Else prove '..UptoSaid'. A law counts once. -/
mutual
def uptoBulk {H : Type} : DataW H → Nat
  | .lit (.string bytes) => bytes.length + 1
  | .lit _ => 1
  | .nil => 1
  | .ptr d => uptoBulk d + 1
  | .slice elems spare => uptoBulkAll elems + uptoBulkAll spare + 1
  | .agg parts => uptoBulkAll parts + 1
  | .iface _ d => uptoBulk d + 1
  | .map entries => uptoBulkEntries entries + 1
  | .held _ => 1
def uptoBulkAll {H : Type} : List (DataW H) → Nat
  | [] => 0
  | d :: r => uptoBulk d + uptoBulkAll r
def uptoBulkEntries {H : Type} : List (Lit × DataW H) → Nat
  | [] => 0
  | x :: r => uptoBulkEntry x + uptoBulkEntries r
def uptoBulkEntry {H : Type} : Lit × DataW H → Nat
  | (.string bytes, d) => bytes.length + uptoBulk d + 1
  | (_, d) => uptoBulk d + 1
 end
def uptoSmall : (H : Type) → List (DataW H) → Bool := fun _ ds => decide (uptoBulkAll ds ≤ 1048576)
def OpenSpec.upto (s : _root_.Go.ChangeSpec) : _root_.Go.OpenSpec := { _root_.Go.OpenSpec.ofChange s with cond := some uptoSmall }

/-- 'shellgamelaw15.SlotBlocks', WHERE WHAT IT READS IS OF BULK AT MOST 1048576: true; the input reads as it did. -/
def slotBlocksUptoRow : OpenClaim := { program := "ytjamfcjglodfeaa", sum := "d3c7d43ed4b6fbaf07c3e244253386d3d047de56976edb03b64503260dae9b50", func := "shellgame/shellgamelaw15.SlotBlocks", spec := "slotBlocks", apart := false, narrowed := true }
def SlotBlocksUptoSaid : Prop := slotBlocksUptoRow.holds Try.pinned (OpenSpec.upto slotBlocksSpec)

/-- 'shellgamelaw15.SlotBack', WHERE WHAT IT READS IS OF BULK AT MOST 1048576: true; the input reads as it did. -/
def slotBackUptoRow : OpenClaim := { program := "ytjamfcjglodfeaa", sum := "d3c7d43ed4b6fbaf07c3e244253386d3d047de56976edb03b64503260dae9b50", func := "shellgame/shellgamelaw15.SlotBack", spec := "slotBack", apart := false, narrowed := true }
def SlotBackUptoSaid : Prop := slotBackUptoRow.holds Try.pinned (OpenSpec.upto slotBackSpec)

/-- 'shellgamelaw15.SlotRises', WHERE WHAT IT READS IS OF BULK AT MOST 1048576: true; the input reads as it did. -/
def slotRisesUptoRow : OpenClaim := { program := "ytjamfcjglodfeaa", sum := "d3c7d43ed4b6fbaf07c3e244253386d3d047de56976edb03b64503260dae9b50", func := "shellgame/shellgamelaw15.SlotRises", spec := "slotRises", apart := false, narrowed := true }
def SlotRisesUptoSaid : Prop := slotRisesUptoRow.holds Try.pinned (OpenSpec.upto slotRisesSpec)

/-- 'shellgamelaw15.SlotOnce', WHERE WHAT IT READS IS OF BULK AT MOST 1048576: true; the input reads as it did. -/
def slotOnceUptoRow : OpenClaim := { program := "ytjamfcjglodfeaa", sum := "d3c7d43ed4b6fbaf07c3e244253386d3d047de56976edb03b64503260dae9b50", func := "shellgame/shellgamelaw15.SlotOnce", spec := "slotOnce", apart := false, narrowed := true }
def SlotOnceUptoSaid : Prop := slotOnceUptoRow.holds Try.pinned (OpenSpec.upto slotOnceSpec)

/-- 'shellgamelaw15.SlotTimes', WHERE WHAT IT READS IS OF BULK AT MOST 1048576: true; the input reads as it did. -/
def slotTimesUptoRow : OpenClaim := { program := "ytjamfcjglodfeaa", sum := "d3c7d43ed4b6fbaf07c3e244253386d3d047de56976edb03b64503260dae9b50", func := "shellgame/shellgamelaw15.SlotTimes", spec := "slotTimes", apart := false, narrowed := true }
def SlotTimesUptoSaid : Prop := slotTimesUptoRow.holds Try.pinned (OpenSpec.upto slotTimesSpec)

end Rows
end Go.Proofs.Ytjamfcjglodfeaa
