/-
  No cell of these rows narrows 'for every input' (looked for: loops, veiled, ifaces, maps, wideKeys, modest, calm, conditions, laid).
  DERIVED. THE GIVEN ROWS OF THIS SEAT. 6 by the template 'for every input the law returns true; each argument reads behind the call as it read before'; 0 by the template 'total and deterministic' (their statements: YtpnjeoilkaimmaaTotals.lean).
  GIVEN WITH THE SEED: the statements are not yours to turn. If you find one false, say at which input.
  Laid BY PROGRAM, IN A SANDBOX (cutbox-rows.mjs): the forced cells as the released guide's own fill.sh prints them over the translation 68307b8983e55a68… (all of the seat's roots in one cut). By AI agents, Wed Nov 11 2026. No macro, syntax, notation, axiom, sorry.
-/
import Derived.Test.YtpnjeoilkaimmaaChecked
import GoSem.Claim
import GoSem.ClaimJoined
import GoSem.ClaimMapViews
import Derived.JoinedTies
import Derived.KernelRfl
namespace Go.Proofs.Ytpnjeoilkaimmaa
/- THE CELL 'sum', in the pinned program and in every row, IS THE sha256 OF THE DUMP (.gsa) THAT YtpnjeoilkaimmaaProg.lean LOADS. Nothing in Lean hashes anything: it is a label: what it is worth is what the hold of that sum in a sandbox is worth. -/
noncomputable def Try.pinned : Pinned := { name := "ytpnjeoilkaimmaa", sum := "68307b8983e55a6864affca4257b288d9abec492d9125fc3b478242456b08cda", checked := Try.checked }
namespace Rows
def none {H : Type} : Left H := { results := [], args := [] }

/-- 'shellgamelaw17.OpBytes': WHATEVER THE INPUT: true; the input reads as it did. -/
def opBytesSpec : ChangeSpec := { name := "opBytes", fn := fun _ => fun
  | [d1, d2] => { results := [.lit (.bool true)], args := [d1, d2] }
  | _ => none }
def opBytesRow : OpenClaim := { program := "ytpnjeoilkaimmaa", sum := "68307b8983e55a6864affca4257b288d9abec492d9125fc3b478242456b08cda", func := "shellgame/shellgamelaw17.OpBytes", spec := "opBytes", inPlace := ["internal/bytealg.IndexByteString"], apart := false }
def OpBytesSaid : Prop := opBytesRow.holds Try.pinned (OpenSpec.ofChange opBytesSpec)

/-- ITS FALSE NEIGHBOUR: 'it returns false'. Refute it at one input. -/
def opBytesWrong : ChangeSpec := { name := "opBytes", fn := fun _ => fun
  | [d1, d2] => { results := [.lit (.bool false)], args := [d1, d2] }
  | _ => none }
def OpBytesWrongFalsely : Prop := opBytesRow.holds Try.pinned (OpenSpec.ofChange opBytesWrong)

/-- 'shellgamelaw17.OpBack': WHATEVER THE INPUT: true; the input reads as it did. -/
def opBackSpec : ChangeSpec := { name := "opBack", fn := fun _ => fun
  | [d1, d2, d3] => { results := [.lit (.bool true)], args := [d1, d2, d3] }
  | _ => none }
def opBackRow : OpenClaim := { program := "ytpnjeoilkaimmaa", sum := "68307b8983e55a6864affca4257b288d9abec492d9125fc3b478242456b08cda", func := "shellgame/shellgamelaw17.OpBack", spec := "opBack", inPlace := ["internal/bytealg.IndexByteString"], apart := false }
def OpBackSaid : Prop := opBackRow.holds Try.pinned (OpenSpec.ofChange opBackSpec)

/-- ITS FALSE NEIGHBOUR: 'it returns false'. Refute it at one input. -/
def opBackWrong : ChangeSpec := { name := "opBack", fn := fun _ => fun
  | [d1, d2, d3] => { results := [.lit (.bool false)], args := [d1, d2, d3] }
  | _ => none }
def OpBackWrongFalsely : Prop := opBackRow.holds Try.pinned (OpenSpec.ofChange opBackWrong)

/-- 'shellgamelaw17.OpLong': WHATEVER THE INPUT: true; the input reads as it did. -/
def opLongSpec : ChangeSpec := { name := "opLong", fn := fun _ => fun
  | [d1, d2, d3, d4] => { results := [.lit (.bool true)], args := [d1, d2, d3, d4] }
  | _ => none }
def opLongRow : OpenClaim := { program := "ytpnjeoilkaimmaa", sum := "68307b8983e55a6864affca4257b288d9abec492d9125fc3b478242456b08cda", func := "shellgame/shellgamelaw17.OpLong", spec := "opLong", inPlace := ["internal/bytealg.IndexByteString"], apart := false }
def OpLongSaid : Prop := opLongRow.holds Try.pinned (OpenSpec.ofChange opLongSpec)

/-- ITS FALSE NEIGHBOUR: 'it returns false'. Refute it at one input. -/
def opLongWrong : ChangeSpec := { name := "opLong", fn := fun _ => fun
  | [d1, d2, d3, d4] => { results := [.lit (.bool false)], args := [d1, d2, d3, d4] }
  | _ => none }
def OpLongWrongFalsely : Prop := opLongRow.holds Try.pinned (OpenSpec.ofChange opLongWrong)

/-- 'shellgamelaw17.OpKinds': WHATEVER THE INPUT: true; the input reads as it did. -/
def opKindsSpec : ChangeSpec := { name := "opKinds", fn := fun _ => fun
  | [d1, d2] => { results := [.lit (.bool true)], args := [d1, d2] }
  | _ => none }
def opKindsRow : OpenClaim := { program := "ytpnjeoilkaimmaa", sum := "68307b8983e55a6864affca4257b288d9abec492d9125fc3b478242456b08cda", func := "shellgame/shellgamelaw17.OpKinds", spec := "opKinds", inPlace := ["internal/bytealg.IndexByteString"], apart := false }
def OpKindsSaid : Prop := opKindsRow.holds Try.pinned (OpenSpec.ofChange opKindsSpec)

/-- ITS FALSE NEIGHBOUR: 'it returns false'. Refute it at one input. -/
def opKindsWrong : ChangeSpec := { name := "opKinds", fn := fun _ => fun
  | [d1, d2] => { results := [.lit (.bool false)], args := [d1, d2] }
  | _ => none }
def OpKindsWrongFalsely : Prop := opKindsRow.holds Try.pinned (OpenSpec.ofChange opKindsWrong)

/-- 'shellgamelaw17.OpPuts': WHATEVER THE INPUT: true; the input reads as it did. -/
def opPutsSpec : ChangeSpec := { name := "opPuts", fn := fun _ => fun
  | [d1, d2, d3] => { results := [.lit (.bool true)], args := [d1, d2, d3] }
  | _ => none }
def opPutsRow : OpenClaim := { program := "ytpnjeoilkaimmaa", sum := "68307b8983e55a6864affca4257b288d9abec492d9125fc3b478242456b08cda", func := "shellgame/shellgamelaw17.OpPuts", spec := "opPuts", apart := false }
def OpPutsSaid : Prop := opPutsRow.holds Try.pinned (OpenSpec.ofChange opPutsSpec)

/-- ITS FALSE NEIGHBOUR: 'it returns false'. Refute it at one input. -/
def opPutsWrong : ChangeSpec := { name := "opPuts", fn := fun _ => fun
  | [d1, d2, d3] => { results := [.lit (.bool false)], args := [d1, d2, d3] }
  | _ => none }
def OpPutsWrongFalsely : Prop := opPutsRow.holds Try.pinned (OpenSpec.ofChange opPutsWrong)

/-- 'shellgamelaw17.OpApart': WHATEVER THE INPUT: true; the input reads as it did. -/
def opApartSpec : ChangeSpec := { name := "opApart", fn := fun _ => fun
  | [d1, d2] => { results := [.lit (.bool true)], args := [d1, d2] }
  | _ => none }
def opApartRow : OpenClaim := { program := "ytpnjeoilkaimmaa", sum := "68307b8983e55a6864affca4257b288d9abec492d9125fc3b478242456b08cda", func := "shellgame/shellgamelaw17.OpApart", spec := "opApart", apart := false }
def OpApartSaid : Prop := opApartRow.holds Try.pinned (OpenSpec.ofChange opApartSpec)

/-- ITS FALSE NEIGHBOUR: 'it returns false'. Refute it at one input. -/
def opApartWrong : ChangeSpec := { name := "opApart", fn := fun _ => fun
  | [d1, d2] => { results := [.lit (.bool false)], args := [d1, d2] }
  | _ => none }
def OpApartWrongFalsely : Prop := opApartRow.holds Try.pinned (OpenSpec.ofChange opApartWrong)

/- THE SECOND FORM. 'bulk': how many values and letters a reading holds, each counted each time it is reached (what is shared counts as often as it is met; a slice's spare places count too). A statement '..UptoSaid' is the law's where the arguments, and the package variables that the reading takes, are together of bulk at most 1048576: NARROWER than '..Said'. Prove '..Said' where nothing that the law and all that it calls make is longer than what came in: it says more and counts as full. Else prove '..UptoSaid'. A law counts once. -/
mutual
def uptoBulk {H : Type} : DataW H → Nat
  | .lit (.string bytes) => bytes.length + 1
  | .lit _ => 1
  | .nil => 1
  | .ptr d => uptoBulk d + 1
  | .slice elems spare => uptoBulkAll elems + uptoBulkAll spare + 1
  | .agg parts => uptoBulkAll parts + 1
  | .iface _ d => uptoBulk d + 1
  | .map entries => uptoBulkEntries entries + 1
  | .held _ => 1
def uptoBulkAll {H : Type} : List (DataW H) → Nat
  | [] => 0
  | d :: r => uptoBulk d + uptoBulkAll r
def uptoBulkEntries {H : Type} : List (Lit × DataW H) → Nat
  | [] => 0
  | x :: r => uptoBulkEntry x + uptoBulkEntries r
def uptoBulkEntry {H : Type} : Lit × DataW H → Nat
  | (.string bytes, d) => bytes.length + uptoBulk d + 1
  | (_, d) => uptoBulk d + 1
 end
def uptoSmall : (H : Type) → List (DataW H) → Bool := fun _ ds => decide (uptoBulkAll ds ≤ 1048576)
def OpenSpec.upto (s : _root_.Go.ChangeSpec) : _root_.Go.OpenSpec := { _root_.Go.OpenSpec.ofChange s with cond := some uptoSmall }

/-- 'shellgamelaw17.OpBytes', WHERE WHAT IT READS IS OF BULK AT MOST 1048576: true; the input reads as it did. -/
def opBytesUptoRow : OpenClaim := { program := "ytpnjeoilkaimmaa", sum := "68307b8983e55a6864affca4257b288d9abec492d9125fc3b478242456b08cda", func := "shellgame/shellgamelaw17.OpBytes", spec := "opBytes", inPlace := ["internal/bytealg.IndexByteString"], apart := false, narrowed := true }
def OpBytesUptoSaid : Prop := opBytesUptoRow.holds Try.pinned (OpenSpec.upto opBytesSpec)

/-- 'shellgamelaw17.OpBack', WHERE WHAT IT READS IS OF BULK AT MOST 1048576: true; the input reads as it did. -/
def opBackUptoRow : OpenClaim := { program := "ytpnjeoilkaimmaa", sum := "68307b8983e55a6864affca4257b288d9abec492d9125fc3b478242456b08cda", func := "shellgame/shellgamelaw17.OpBack", spec := "opBack", inPlace := ["internal/bytealg.IndexByteString"], apart := false, narrowed := true }
def OpBackUptoSaid : Prop := opBackUptoRow.holds Try.pinned (OpenSpec.upto opBackSpec)

/-- 'shellgamelaw17.OpLong', WHERE WHAT IT READS IS OF BULK AT MOST 1048576: true; the input reads as it did. -/
def opLongUptoRow : OpenClaim := { program := "ytpnjeoilkaimmaa", sum := "68307b8983e55a6864affca4257b288d9abec492d9125fc3b478242456b08cda", func := "shellgame/shellgamelaw17.OpLong", spec := "opLong", inPlace := ["internal/bytealg.IndexByteString"], apart := false, narrowed := true }
def OpLongUptoSaid : Prop := opLongUptoRow.holds Try.pinned (OpenSpec.upto opLongSpec)

/-- 'shellgamelaw17.OpKinds', WHERE WHAT IT READS IS OF BULK AT MOST 1048576: true; the input reads as it did. -/
def opKindsUptoRow : OpenClaim := { program := "ytpnjeoilkaimmaa", sum := "68307b8983e55a6864affca4257b288d9abec492d9125fc3b478242456b08cda", func := "shellgame/shellgamelaw17.OpKinds", spec := "opKinds", inPlace := ["internal/bytealg.IndexByteString"], apart := false, narrowed := true }
def OpKindsUptoSaid : Prop := opKindsUptoRow.holds Try.pinned (OpenSpec.upto opKindsSpec)

/-- 'shellgamelaw17.OpPuts', WHERE WHAT IT READS IS OF BULK AT MOST 1048576: true; the input reads as it did. -/
def opPutsUptoRow : OpenClaim := { program := "ytpnjeoilkaimmaa", sum := "68307b8983e55a6864affca4257b288d9abec492d9125fc3b478242456b08cda", func := "shellgame/shellgamelaw17.OpPuts", spec := "opPuts", apart := false, narrowed := true }
def OpPutsUptoSaid : Prop := opPutsUptoRow.holds Try.pinned (OpenSpec.upto opPutsSpec)

/-- 'shellgamelaw17.OpApart', WHERE WHAT IT READS IS OF BULK AT MOST 1048576: true; the input reads as it did. -/
def opApartUptoRow : OpenClaim := { program := "ytpnjeoilkaimmaa", sum := "68307b8983e55a6864affca4257b288d9abec492d9125fc3b478242456b08cda", func := "shellgame/shellgamelaw17.OpApart", spec := "opApart", apart := false, narrowed := true }
def OpApartUptoSaid : Prop := opApartUptoRow.holds Try.pinned (OpenSpec.upto opApartSpec)

end Rows
end Go.Proofs.Ytpnjeoilkaimmaa
