/-
  No cell of these rows narrows 'for every input' (looked for: loops, veiled, ifaces, maps, wideKeys, modest, calm, conditions, laid).
  DERIVED. THE GIVEN ROWS OF THIS SEAT. 6 by the template 'for every input the law returns true; each argument reads behind the call as it read before'; 0 by the template 'total and deterministic' (their statements: YtigifbijmchdcaaTotals.lean).
  GIVEN WITH THE SEED: the statements are not yours to turn. If you find one false, say at which input.
  Laid BY PROGRAM, IN A SANDBOX (cutbox-rows.mjs): the forced cells as the released guide's own fill.sh prints them over the translation 5c5aeb0372eac93e… (all of the seat's roots in one cut). By AI agents, Wed Nov 11 2026. No macro, syntax, notation, axiom, sorry.
-/
import Derived.Test.YtigifbijmchdcaaChecked
import GoSem.Claim
import GoSem.ClaimJoined
import GoSem.ClaimMapViews
import Derived.JoinedTies
import Derived.KernelRfl
namespace Go.Proofs.Ytigifbijmchdcaa
/- THE CELL 'sum', in the pinned program and in every row, IS THE sha256 OF THE DUMP (.gsa) THAT YtigifbijmchdcaaProg.lean LOADS. Nothing in Lean hashes anything: it is a label: what it is worth is what the hold of that sum in a sandbox is worth. -/
noncomputable def Try.pinned : Pinned := { name := "ytigifbijmchdcaa", sum := "5c5aeb0372eac93e85bcc8a036c0a4a538d565d48688e781f9f6084716d1b9db", checked := Try.checked }
namespace Rows
def none {H : Type} : Left H := { results := [], args := [] }

/-- 'shellgamelaw16.PolicyPicks': WHATEVER THE INPUT: true; the input reads as it did. -/
def policyPicksSpec : ChangeSpec := { name := "policyPicks", fn := fun _ => fun
  | [d1, d2, d3] => { results := [.lit (.bool true)], args := [d1, d2, d3] }
  | _ => none }
def policyPicksRow : OpenClaim := { program := "ytigifbijmchdcaa", sum := "5c5aeb0372eac93e85bcc8a036c0a4a538d565d48688e781f9f6084716d1b9db", func := "shellgame/shellgamelaw16.PolicyPicks", spec := "policyPicks", unfollowed := true, recurses := true, apart := false }
def PolicyPicksSaid : Prop := policyPicksRow.holds Try.pinned (OpenSpec.ofChange policyPicksSpec)

/-- ITS FALSE NEIGHBOUR: 'it returns false'. Refute it at one input. -/
def policyPicksWrong : ChangeSpec := { name := "policyPicks", fn := fun _ => fun
  | [d1, d2, d3] => { results := [.lit (.bool false)], args := [d1, d2, d3] }
  | _ => none }
def PolicyPicksWrongFalsely : Prop := policyPicksRow.holds Try.pinned (OpenSpec.ofChange policyPicksWrong)

/-- 'shellgamelaw16.PolicyLeaves': WHATEVER THE INPUT: true; the input reads as it did. -/
def policyLeavesSpec : ChangeSpec := { name := "policyLeaves", fn := fun _ => fun
  | [d1, d2, d3, d4] => { results := [.lit (.bool true)], args := [d1, d2, d3, d4] }
  | _ => none }
def policyLeavesRow : OpenClaim := { program := "ytigifbijmchdcaa", sum := "5c5aeb0372eac93e85bcc8a036c0a4a538d565d48688e781f9f6084716d1b9db", func := "shellgame/shellgamelaw16.PolicyLeaves", spec := "policyLeaves", unfollowed := true, recurses := true, apart := false }
def PolicyLeavesSaid : Prop := policyLeavesRow.holds Try.pinned (OpenSpec.ofChange policyLeavesSpec)

/-- ITS FALSE NEIGHBOUR: 'it returns false'. Refute it at one input. -/
def policyLeavesWrong : ChangeSpec := { name := "policyLeaves", fn := fun _ => fun
  | [d1, d2, d3, d4] => { results := [.lit (.bool false)], args := [d1, d2, d3, d4] }
  | _ => none }
def PolicyLeavesWrongFalsely : Prop := policyLeavesRow.holds Try.pinned (OpenSpec.ofChange policyLeavesWrong)

/-- 'shellgamelaw16.PolicyKeys': WHATEVER THE INPUT: true; the input reads as it did. -/
def policyKeysSpec : ChangeSpec := { name := "policyKeys", fn := fun _ => fun
  | [d1, d2, d3] => { results := [.lit (.bool true)], args := [d1, d2, d3] }
  | _ => none }
def policyKeysRow : OpenClaim := { program := "ytigifbijmchdcaa", sum := "5c5aeb0372eac93e85bcc8a036c0a4a538d565d48688e781f9f6084716d1b9db", func := "shellgame/shellgamelaw16.PolicyKeys", spec := "policyKeys", unfollowed := true, recurses := true, apart := false }
def PolicyKeysSaid : Prop := policyKeysRow.holds Try.pinned (OpenSpec.ofChange policyKeysSpec)

/-- ITS FALSE NEIGHBOUR: 'it returns false'. Refute it at one input. -/
def policyKeysWrong : ChangeSpec := { name := "policyKeys", fn := fun _ => fun
  | [d1, d2, d3] => { results := [.lit (.bool false)], args := [d1, d2, d3] }
  | _ => none }
def PolicyKeysWrongFalsely : Prop := policyKeysRow.holds Try.pinned (OpenSpec.ofChange policyKeysWrong)

/-- 'shellgamelaw16.PolicyBatches': WHATEVER THE INPUT: true; the input reads as it did. -/
def policyBatchesSpec : ChangeSpec := { name := "policyBatches", fn := fun _ => fun
  | [d1, d2, d3, d4] => { results := [.lit (.bool true)], args := [d1, d2, d3, d4] }
  | _ => none }
def policyBatchesRow : OpenClaim := { program := "ytigifbijmchdcaa", sum := "5c5aeb0372eac93e85bcc8a036c0a4a538d565d48688e781f9f6084716d1b9db", func := "shellgame/shellgamelaw16.PolicyBatches", spec := "policyBatches", unfollowed := true, recurses := true, apart := false }
def PolicyBatchesSaid : Prop := policyBatchesRow.holds Try.pinned (OpenSpec.ofChange policyBatchesSpec)

/-- ITS FALSE NEIGHBOUR: 'it returns false'. Refute it at one input. -/
def policyBatchesWrong : ChangeSpec := { name := "policyBatches", fn := fun _ => fun
  | [d1, d2, d3, d4] => { results := [.lit (.bool false)], args := [d1, d2, d3, d4] }
  | _ => none }
def PolicyBatchesWrongFalsely : Prop := policyBatchesRow.holds Try.pinned (OpenSpec.ofChange policyBatchesWrong)

/-- 'shellgamelaw16.PolicyMoved': WHATEVER THE INPUT: true; the input reads as it did. -/
def policyMovedSpec : ChangeSpec := { name := "policyMoved", fn := fun _ => fun
  | [d1, d2, d3, d4] => { results := [.lit (.bool true)], args := [d1, d2, d3, d4] }
  | _ => none }
def policyMovedRow : OpenClaim := { program := "ytigifbijmchdcaa", sum := "5c5aeb0372eac93e85bcc8a036c0a4a538d565d48688e781f9f6084716d1b9db", func := "shellgame/shellgamelaw16.PolicyMoved", spec := "policyMoved", unfollowed := true, recurses := true, apart := false }
def PolicyMovedSaid : Prop := policyMovedRow.holds Try.pinned (OpenSpec.ofChange policyMovedSpec)

/-- ITS FALSE NEIGHBOUR: 'it returns false'. Refute it at one input. -/
def policyMovedWrong : ChangeSpec := { name := "policyMoved", fn := fun _ => fun
  | [d1, d2, d3, d4] => { results := [.lit (.bool false)], args := [d1, d2, d3, d4] }
  | _ => none }
def PolicyMovedWrongFalsely : Prop := policyMovedRow.holds Try.pinned (OpenSpec.ofChange policyMovedWrong)

/-- 'shellgamelaw16.PolicyLate': WHATEVER THE INPUT: true; the input reads as it did. -/
def policyLateSpec : ChangeSpec := { name := "policyLate", fn := fun _ => fun
  | [d1, d2] => { results := [.lit (.bool true)], args := [d1, d2] }
  | _ => none }
def policyLateRow : OpenClaim := { program := "ytigifbijmchdcaa", sum := "5c5aeb0372eac93e85bcc8a036c0a4a538d565d48688e781f9f6084716d1b9db", func := "shellgame/shellgamelaw16.PolicyLate", spec := "policyLate", unfollowed := true, recurses := true, apart := false }
def PolicyLateSaid : Prop := policyLateRow.holds Try.pinned (OpenSpec.ofChange policyLateSpec)

/-- ITS FALSE NEIGHBOUR: 'it returns false'. Refute it at one input. -/
def policyLateWrong : ChangeSpec := { name := "policyLate", fn := fun _ => fun
  | [d1, d2] => { results := [.lit (.bool false)], args := [d1, d2] }
  | _ => none }
def PolicyLateWrongFalsely : Prop := policyLateRow.holds Try.pinned (OpenSpec.ofChange policyLateWrong)

/- THE SECOND FORM. 'bulk': how many values and letters a reading holds, each counted each time it is reached (what is shared counts as often as it is met; a slice's spare places count too). A statement '..UptoSaid' is the law's where the arguments, and the package variables that the reading takes, are together of bulk at most 1048576: NARROWER than '..Said'. Prove '..Said' where nothing that the law and all that it calls make is longer than what came in: it says more and counts as full. Else prove '..UptoSaid'. A law counts once. -/
mutual
def uptoBulk {H : Type} : DataW H → Nat
  | .lit (.string bytes) => bytes.length + 1
  | .lit _ => 1
  | .nil => 1
  | .ptr d => uptoBulk d + 1
  | .slice elems spare => uptoBulkAll elems + uptoBulkAll spare + 1
  | .agg parts => uptoBulkAll parts + 1
  | .iface _ d => uptoBulk d + 1
  | .map entries => uptoBulkEntries entries + 1
  | .held _ => 1
def uptoBulkAll {H : Type} : List (DataW H) → Nat
  | [] => 0
  | d :: r => uptoBulk d + uptoBulkAll r
def uptoBulkEntries {H : Type} : List (Lit × DataW H) → Nat
  | [] => 0
  | x :: r => uptoBulkEntry x + uptoBulkEntries r
def uptoBulkEntry {H : Type} : Lit × DataW H → Nat
  | (.string bytes, d) => bytes.length + uptoBulk d + 1
  | (_, d) => uptoBulk d + 1
 end
def uptoSmall : (H : Type) → List (DataW H) → Bool := fun _ ds => decide (uptoBulkAll ds ≤ 1048576)
def OpenSpec.upto (s : _root_.Go.ChangeSpec) : _root_.Go.OpenSpec := { _root_.Go.OpenSpec.ofChange s with cond := some uptoSmall }

/-- 'shellgamelaw16.PolicyPicks', WHERE WHAT IT READS IS OF BULK AT MOST 1048576: true; the input reads as it did. -/
def policyPicksUptoRow : OpenClaim := { program := "ytigifbijmchdcaa", sum := "5c5aeb0372eac93e85bcc8a036c0a4a538d565d48688e781f9f6084716d1b9db", func := "shellgame/shellgamelaw16.PolicyPicks", spec := "policyPicks", unfollowed := true, recurses := true, apart := false, narrowed := true }
def PolicyPicksUptoSaid : Prop := policyPicksUptoRow.holds Try.pinned (OpenSpec.upto policyPicksSpec)

/-- 'shellgamelaw16.PolicyLeaves', WHERE WHAT IT READS IS OF BULK AT MOST 1048576: true; the input reads as it did. -/
def policyLeavesUptoRow : OpenClaim := { program := "ytigifbijmchdcaa", sum := "5c5aeb0372eac93e85bcc8a036c0a4a538d565d48688e781f9f6084716d1b9db", func := "shellgame/shellgamelaw16.PolicyLeaves", spec := "policyLeaves", unfollowed := true, recurses := true, apart := false, narrowed := true }
def PolicyLeavesUptoSaid : Prop := policyLeavesUptoRow.holds Try.pinned (OpenSpec.upto policyLeavesSpec)

/-- 'shellgamelaw16.PolicyKeys', WHERE WHAT IT READS IS OF BULK AT MOST 1048576: true; the input reads as it did. -/
def policyKeysUptoRow : OpenClaim := { program := "ytigifbijmchdcaa", sum := "5c5aeb0372eac93e85bcc8a036c0a4a538d565d48688e781f9f6084716d1b9db", func := "shellgame/shellgamelaw16.PolicyKeys", spec := "policyKeys", unfollowed := true, recurses := true, apart := false, narrowed := true }
def PolicyKeysUptoSaid : Prop := policyKeysUptoRow.holds Try.pinned (OpenSpec.upto policyKeysSpec)

/-- 'shellgamelaw16.PolicyBatches', WHERE WHAT IT READS IS OF BULK AT MOST 1048576: true; the input reads as it did. -/
def policyBatchesUptoRow : OpenClaim := { program := "ytigifbijmchdcaa", sum := "5c5aeb0372eac93e85bcc8a036c0a4a538d565d48688e781f9f6084716d1b9db", func := "shellgame/shellgamelaw16.PolicyBatches", spec := "policyBatches", unfollowed := true, recurses := true, apart := false, narrowed := true }
def PolicyBatchesUptoSaid : Prop := policyBatchesUptoRow.holds Try.pinned (OpenSpec.upto policyBatchesSpec)

/-- 'shellgamelaw16.PolicyMoved', WHERE WHAT IT READS IS OF BULK AT MOST 1048576: true; the input reads as it did. -/
def policyMovedUptoRow : OpenClaim := { program := "ytigifbijmchdcaa", sum := "5c5aeb0372eac93e85bcc8a036c0a4a538d565d48688e781f9f6084716d1b9db", func := "shellgame/shellgamelaw16.PolicyMoved", spec := "policyMoved", unfollowed := true, recurses := true, apart := false, narrowed := true }
def PolicyMovedUptoSaid : Prop := policyMovedUptoRow.holds Try.pinned (OpenSpec.upto policyMovedSpec)

/-- 'shellgamelaw16.PolicyLate', WHERE WHAT IT READS IS OF BULK AT MOST 1048576: true; the input reads as it did. -/
def policyLateUptoRow : OpenClaim := { program := "ytigifbijmchdcaa", sum := "5c5aeb0372eac93e85bcc8a036c0a4a538d565d48688e781f9f6084716d1b9db", func := "shellgame/shellgamelaw16.PolicyLate", spec := "policyLate", unfollowed := true, recurses := true, apart := false, narrowed := true }
def PolicyLateUptoSaid : Prop := policyLateUptoRow.holds Try.pinned (OpenSpec.upto policyLateSpec)

end Rows
end Go.Proofs.Ytigifbijmchdcaa
