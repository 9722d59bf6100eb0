/-
  No cell of these rows narrows 'for every input' (looked for: loops, veiled, ifaces, maps, wideKeys, modest, calm, conditions, laid).
  DERIVED. THE GIVEN ROWS OF THIS SEAT. 5 by the template 'for every input the law returns true; each argument reads behind the call as it read before'; 0 by the template 'total and deterministic' (their statements: YtknnebhjldfkhaaGreatTotals.lean).
  GIVEN WITH THE SEED: the statements are not yours to turn. If you find one false, say at which input.
  Laid BY PROGRAM, IN A SANDBOX (cutbox-rows.mjs): the forced cells as the released guide's own fill.sh prints them over the translation b2278d6775bd757f… (all of the seat's roots in one cut). By AI agents, Wed Nov 11 2026. No macro, syntax, notation, axiom, sorry.
-/
import Derived.Test.YtknnebhjldfkhaaGreatChecked
import GoSem.Claim
import GoSem.ClaimJoined
import GoSem.ClaimMapViews
import Derived.JoinedTies
import Derived.KernelRfl
namespace Go.Proofs.YtknnebhjldfkhaaGreat
/- THE CELL 'sum', in the pinned program and in every row, IS THE sha256 OF THE DUMP (.gsa) THAT YtknnebhjldfkhaaGreatProg.lean LOADS. Nothing in Lean hashes anything: it is a label: what it is worth is what the hold of that sum in a sandbox is worth. -/
noncomputable def Tryz.pinned : Pinned := { name := "ytknnebhjldfkhaagreat", sum := "b2278d6775bd757fec78897ceb478114aff1584b844795cf0759d6567511b977", checked := Tryz.checked }
namespace Rows
def none {H : Type} : Left H := { results := [], args := [] }

/-- 'shellgamelaw10.LevelPlays': WHATEVER THE INPUT: true; the input reads as it did. -/
def levelPlaysSpec : ChangeSpec := { name := "levelPlays", fn := fun _ => fun
  | [d1, d2] => { results := [.lit (.bool true)], args := [d1, d2] }
  | _ => none }
def levelPlaysRow : OpenClaim := { program := "ytknnebhjldfkhaagreat", sum := "b2278d6775bd757fec78897ceb478114aff1584b844795cf0759d6567511b977", func := "shellgame/shellgamelaw10.LevelPlays", spec := "levelPlays", inPlace := ["math/bits.Sub64"], unfollowed := true, recurses := true, apart := false }
def LevelPlaysSaid : Prop := levelPlaysRow.holds Tryz.pinned (OpenSpec.ofChange levelPlaysSpec)

/-- ITS FALSE NEIGHBOUR: 'it returns false'. Refute it at one input. -/
def levelPlaysWrong : ChangeSpec := { name := "levelPlays", fn := fun _ => fun
  | [d1, d2] => { results := [.lit (.bool false)], args := [d1, d2] }
  | _ => none }
def LevelPlaysWrongFalsely : Prop := levelPlaysRow.holds Tryz.pinned (OpenSpec.ofChange levelPlaysWrong)

/-- 'shellgamelaw10.LevelSizes': WHATEVER THE INPUT: true; the input reads as it did. -/
def levelSizesSpec : ChangeSpec := { name := "levelSizes", fn := fun _ => fun
  | [d1, d2, d3, d4] => { results := [.lit (.bool true)], args := [d1, d2, d3, d4] }
  | _ => none }
def levelSizesRow : OpenClaim := { program := "ytknnebhjldfkhaagreat", sum := "b2278d6775bd757fec78897ceb478114aff1584b844795cf0759d6567511b977", func := "shellgame/shellgamelaw10.LevelSizes", spec := "levelSizes", inPlace := ["math/bits.Sub64"], unfollowed := true, recurses := true, apart := false }
def LevelSizesSaid : Prop := levelSizesRow.holds Tryz.pinned (OpenSpec.ofChange levelSizesSpec)

/-- ITS FALSE NEIGHBOUR: 'it returns false'. Refute it at one input. -/
def levelSizesWrong : ChangeSpec := { name := "levelSizes", fn := fun _ => fun
  | [d1, d2, d3, d4] => { results := [.lit (.bool false)], args := [d1, d2, d3, d4] }
  | _ => none }
def LevelSizesWrongFalsely : Prop := levelSizesRow.holds Tryz.pinned (OpenSpec.ofChange levelSizesWrong)

/-- 'shellgamelaw11.StorePlays': WHATEVER THE INPUT: true; the input reads as it did. -/
def storePlaysSpec : ChangeSpec := { name := "storePlays", fn := fun _ => fun
  | [d1, d2, d3] => { results := [.lit (.bool true)], args := [d1, d2, d3] }
  | _ => none }
def storePlaysRow : OpenClaim := { program := "ytknnebhjldfkhaagreat", sum := "b2278d6775bd757fec78897ceb478114aff1584b844795cf0759d6567511b977", func := "shellgame/shellgamelaw11.StorePlays", spec := "storePlays", inPlace := ["math/bits.Sub64"], unfollowed := true, recurses := true, apart := false }
def StorePlaysSaid : Prop := storePlaysRow.holds Tryz.pinned (OpenSpec.ofChange storePlaysSpec)

/-- ITS FALSE NEIGHBOUR: 'it returns false'. Refute it at one input. -/
def storePlaysWrong : ChangeSpec := { name := "storePlays", fn := fun _ => fun
  | [d1, d2, d3] => { results := [.lit (.bool false)], args := [d1, d2, d3] }
  | _ => none }
def StorePlaysWrongFalsely : Prop := storePlaysRow.holds Tryz.pinned (OpenSpec.ofChange storePlaysWrong)

/-- 'shellgamelaw11.StoreSizes': WHATEVER THE INPUT: true; the input reads as it did. -/
def storeSizesSpec : ChangeSpec := { name := "storeSizes", fn := fun _ => fun
  | [d1, d2, d3, d4] => { results := [.lit (.bool true)], args := [d1, d2, d3, d4] }
  | _ => none }
def storeSizesRow : OpenClaim := { program := "ytknnebhjldfkhaagreat", sum := "b2278d6775bd757fec78897ceb478114aff1584b844795cf0759d6567511b977", func := "shellgame/shellgamelaw11.StoreSizes", spec := "storeSizes", inPlace := ["math/bits.Sub64"], unfollowed := true, recurses := true, apart := false }
def StoreSizesSaid : Prop := storeSizesRow.holds Tryz.pinned (OpenSpec.ofChange storeSizesSpec)

/-- ITS FALSE NEIGHBOUR: 'it returns false'. Refute it at one input. -/
def storeSizesWrong : ChangeSpec := { name := "storeSizes", fn := fun _ => fun
  | [d1, d2, d3, d4] => { results := [.lit (.bool false)], args := [d1, d2, d3, d4] }
  | _ => none }
def StoreSizesWrongFalsely : Prop := storeSizesRow.holds Tryz.pinned (OpenSpec.ofChange storeSizesWrong)

/-- 'shellgamelaw11.StoreBlind': WHATEVER THE INPUT: true; the input reads as it did. -/
def storeBlindSpec : ChangeSpec := { name := "storeBlind", fn := fun _ => fun
  | [d1, d2, d3] => { results := [.lit (.bool true)], args := [d1, d2, d3] }
  | _ => none }
def storeBlindRow : OpenClaim := { program := "ytknnebhjldfkhaagreat", sum := "b2278d6775bd757fec78897ceb478114aff1584b844795cf0759d6567511b977", func := "shellgame/shellgamelaw11.StoreBlind", spec := "storeBlind", inPlace := ["math/bits.Sub64"], unfollowed := true, recurses := true, apart := false }
def StoreBlindSaid : Prop := storeBlindRow.holds Tryz.pinned (OpenSpec.ofChange storeBlindSpec)

/-- ITS FALSE NEIGHBOUR: 'it returns false'. Refute it at one input. -/
def storeBlindWrong : ChangeSpec := { name := "storeBlind", fn := fun _ => fun
  | [d1, d2, d3] => { results := [.lit (.bool false)], args := [d1, d2, d3] }
  | _ => none }
def StoreBlindWrongFalsely : Prop := storeBlindRow.holds Tryz.pinned (OpenSpec.ofChange storeBlindWrong)

/- THE SECOND FORM. 'bulk': how many values and letters a reading holds, each counted each time it is reached (what is shared counts as often as it is met; a slice's spare places count too). A statement '..UptoSaid' is the law's where the arguments, and the package variables that the reading takes, are together of bulk at most 1048576: NARROWER than '..Said'. Prove '..Said' where nothing that the law and all that it calls make is longer than what came in: it says more and counts as full. Else prove '..UptoSaid'. A law counts once. -/
mutual
def uptoBulk {H : Type} : DataW H → Nat
  | .lit (.string bytes) => bytes.length + 1
  | .lit _ => 1
  | .nil => 1
  | .ptr d => uptoBulk d + 1
  | .slice elems spare => uptoBulkAll elems + uptoBulkAll spare + 1
  | .agg parts => uptoBulkAll parts + 1
  | .iface _ d => uptoBulk d + 1
  | .map entries => uptoBulkEntries entries + 1
  | .held _ => 1
def uptoBulkAll {H : Type} : List (DataW H) → Nat
  | [] => 0
  | d :: r => uptoBulk d + uptoBulkAll r
def uptoBulkEntries {H : Type} : List (Lit × DataW H) → Nat
  | [] => 0
  | x :: r => uptoBulkEntry x + uptoBulkEntries r
def uptoBulkEntry {H : Type} : Lit × DataW H → Nat
  | (.string bytes, d) => bytes.length + uptoBulk d + 1
  | (_, d) => uptoBulk d + 1
 end
def uptoSmall : (H : Type) → List (DataW H) → Bool := fun _ ds => decide (uptoBulkAll ds ≤ 1048576)
def OpenSpec.upto (s : _root_.Go.ChangeSpec) : _root_.Go.OpenSpec := { _root_.Go.OpenSpec.ofChange s with cond := some uptoSmall }

/-- 'shellgamelaw10.LevelPlays', WHERE WHAT IT READS IS OF BULK AT MOST 1048576: true; the input reads as it did. -/
def levelPlaysUptoRow : OpenClaim := { program := "ytknnebhjldfkhaagreat", sum := "b2278d6775bd757fec78897ceb478114aff1584b844795cf0759d6567511b977", func := "shellgame/shellgamelaw10.LevelPlays", spec := "levelPlays", inPlace := ["math/bits.Sub64"], unfollowed := true, recurses := true, apart := false, narrowed := true }
def LevelPlaysUptoSaid : Prop := levelPlaysUptoRow.holds Tryz.pinned (OpenSpec.upto levelPlaysSpec)

/-- 'shellgamelaw10.LevelSizes', WHERE WHAT IT READS IS OF BULK AT MOST 1048576: true; the input reads as it did. -/
def levelSizesUptoRow : OpenClaim := { program := "ytknnebhjldfkhaagreat", sum := "b2278d6775bd757fec78897ceb478114aff1584b844795cf0759d6567511b977", func := "shellgame/shellgamelaw10.LevelSizes", spec := "levelSizes", inPlace := ["math/bits.Sub64"], unfollowed := true, recurses := true, apart := false, narrowed := true }
def LevelSizesUptoSaid : Prop := levelSizesUptoRow.holds Tryz.pinned (OpenSpec.upto levelSizesSpec)

/-- 'shellgamelaw11.StorePlays', WHERE WHAT IT READS IS OF BULK AT MOST 1048576: true; the input reads as it did. -/
def storePlaysUptoRow : OpenClaim := { program := "ytknnebhjldfkhaagreat", sum := "b2278d6775bd757fec78897ceb478114aff1584b844795cf0759d6567511b977", func := "shellgame/shellgamelaw11.StorePlays", spec := "storePlays", inPlace := ["math/bits.Sub64"], unfollowed := true, recurses := true, apart := false, narrowed := true }
def StorePlaysUptoSaid : Prop := storePlaysUptoRow.holds Tryz.pinned (OpenSpec.upto storePlaysSpec)

/-- 'shellgamelaw11.StoreSizes', WHERE WHAT IT READS IS OF BULK AT MOST 1048576: true; the input reads as it did. -/
def storeSizesUptoRow : OpenClaim := { program := "ytknnebhjldfkhaagreat", sum := "b2278d6775bd757fec78897ceb478114aff1584b844795cf0759d6567511b977", func := "shellgame/shellgamelaw11.StoreSizes", spec := "storeSizes", inPlace := ["math/bits.Sub64"], unfollowed := true, recurses := true, apart := false, narrowed := true }
def StoreSizesUptoSaid : Prop := storeSizesUptoRow.holds Tryz.pinned (OpenSpec.upto storeSizesSpec)

/-- 'shellgamelaw11.StoreBlind', WHERE WHAT IT READS IS OF BULK AT MOST 1048576: true; the input reads as it did. -/
def storeBlindUptoRow : OpenClaim := { program := "ytknnebhjldfkhaagreat", sum := "b2278d6775bd757fec78897ceb478114aff1584b844795cf0759d6567511b977", func := "shellgame/shellgamelaw11.StoreBlind", spec := "storeBlind", inPlace := ["math/bits.Sub64"], unfollowed := true, recurses := true, apart := false, narrowed := true }
def StoreBlindUptoSaid : Prop := storeBlindUptoRow.holds Tryz.pinned (OpenSpec.upto storeBlindSpec)

end Rows
end Go.Proofs.YtknnebhjldfkhaaGreat
