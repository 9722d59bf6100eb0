/-
  No cell of these rows narrows 'for every input' (looked for: loops, veiled, ifaces, maps, wideKeys, modest, calm, conditions, laid).
  DERIVED. THE GIVEN ROWS OF THIS SEAT. 5 by the template 'for every input the law returns true; each argument reads behind the call as it read before'; 0 by the template 'total and deterministic' (their statements: YtojdefaplekieaaTotals.lean).
  GIVEN WITH THE SEED: the statements are not yours to turn. If you find one false, say at which input.
  Laid BY PROGRAM, IN A SANDBOX (cutbox-rows.mjs): the forced cells as the released guide's own fill.sh prints them over the translation 37662144e22b7346… (all of the seat's roots in one cut). By AI agents, Wed Nov 11 2026. No macro, syntax, notation, axiom, sorry.
-/
import Derived.Test.YtojdefaplekieaaChecked
import GoSem.Claim
import GoSem.ClaimJoined
import GoSem.ClaimMapViews
import Derived.JoinedTies
import Derived.KernelRfl
namespace Go.Proofs.Ytojdefaplekieaa
/- THE CELL 'sum', in the pinned program and in every row, IS THE sha256 OF THE DUMP (.gsa) THAT YtojdefaplekieaaProg.lean LOADS. Nothing in Lean hashes anything: it is a label: what it is worth is what the hold of that sum in a sandbox is worth. -/
noncomputable def Try.pinned : Pinned := { name := "ytojdefaplekieaa", sum := "37662144e22b73462c9d6f38d4fe4ca93f27567ba718be2df10910b8f330825e", checked := Try.checked }
namespace Rows
def none {H : Type} : Left H := { results := [], args := [] }

/-- 'shellgamelaw6.SortRuns': WHATEVER THE INPUT: true; the input reads as it did. -/
def sortRunsSpec : ChangeSpec := { name := "sortRuns", fn := fun _ => fun
  | [d1, d2, d3, d4, d5] => { results := [.lit (.bool true)], args := [d1, d2, d3, d4, d5] }
  | _ => none }
def sortRunsRow : OpenClaim := { program := "ytojdefaplekieaa", sum := "37662144e22b73462c9d6f38d4fe4ca93f27567ba718be2df10910b8f330825e", func := "shellgame/shellgamelaw6.SortRuns", spec := "sortRuns", inPlace := ["math/bits.Sub64"], unfollowed := true, recurses := true, apart := false }
def SortRunsSaid : Prop := sortRunsRow.holds Try.pinned (OpenSpec.ofChange sortRunsSpec)

/-- ITS FALSE NEIGHBOUR: 'it returns false'. Refute it at one input. -/
def sortRunsWrong : ChangeSpec := { name := "sortRuns", fn := fun _ => fun
  | [d1, d2, d3, d4, d5] => { results := [.lit (.bool false)], args := [d1, d2, d3, d4, d5] }
  | _ => none }
def SortRunsWrongFalsely : Prop := sortRunsRow.holds Try.pinned (OpenSpec.ofChange sortRunsWrong)

/-- 'shellgamelaw6.SortOrders': WHATEVER THE INPUT: true; the input reads as it did. -/
def sortOrdersSpec : ChangeSpec := { name := "sortOrders", fn := fun _ => fun
  | [d1, d2] => { results := [.lit (.bool true)], args := [d1, d2] }
  | _ => none }
def sortOrdersRow : OpenClaim := { program := "ytojdefaplekieaa", sum := "37662144e22b73462c9d6f38d4fe4ca93f27567ba718be2df10910b8f330825e", func := "shellgame/shellgamelaw6.SortOrders", spec := "sortOrders", inPlace := ["math/bits.Sub64"], unfollowed := true, recurses := true, apart := false }
def SortOrdersSaid : Prop := sortOrdersRow.holds Try.pinned (OpenSpec.ofChange sortOrdersSpec)

/-- ITS FALSE NEIGHBOUR: 'it returns false'. Refute it at one input. -/
def sortOrdersWrong : ChangeSpec := { name := "sortOrders", fn := fun _ => fun
  | [d1, d2] => { results := [.lit (.bool false)], args := [d1, d2] }
  | _ => none }
def SortOrdersWrongFalsely : Prop := sortOrdersRow.holds Try.pinned (OpenSpec.ofChange sortOrdersWrong)

/-- 'shellgamelaw6.SortBlind': WHATEVER THE INPUT: true; the input reads as it did. -/
def sortBlindSpec : ChangeSpec := { name := "sortBlind", fn := fun _ => fun
  | [d1, d2, d3, d4] => { results := [.lit (.bool true)], args := [d1, d2, d3, d4] }
  | _ => none }
def sortBlindRow : OpenClaim := { program := "ytojdefaplekieaa", sum := "37662144e22b73462c9d6f38d4fe4ca93f27567ba718be2df10910b8f330825e", func := "shellgame/shellgamelaw6.SortBlind", spec := "sortBlind", inPlace := ["math/bits.Sub64"], unfollowed := true, recurses := true, apart := false }
def SortBlindSaid : Prop := sortBlindRow.holds Try.pinned (OpenSpec.ofChange sortBlindSpec)

/-- ITS FALSE NEIGHBOUR: 'it returns false'. Refute it at one input. -/
def sortBlindWrong : ChangeSpec := { name := "sortBlind", fn := fun _ => fun
  | [d1, d2, d3, d4] => { results := [.lit (.bool false)], args := [d1, d2, d3, d4] }
  | _ => none }
def SortBlindWrongFalsely : Prop := sortBlindRow.holds Try.pinned (OpenSpec.ofChange sortBlindWrong)

/-- 'shellgamelaw6.SortStays': WHATEVER THE INPUT: true; the input reads as it did. -/
def sortStaysSpec : ChangeSpec := { name := "sortStays", fn := fun _ => fun
  | [d1, d2, d3] => { results := [.lit (.bool true)], args := [d1, d2, d3] }
  | _ => none }
def sortStaysRow : OpenClaim := { program := "ytojdefaplekieaa", sum := "37662144e22b73462c9d6f38d4fe4ca93f27567ba718be2df10910b8f330825e", func := "shellgame/shellgamelaw6.SortStays", spec := "sortStays", inPlace := ["math/bits.Sub64"], unfollowed := true, recurses := true, apart := false }
def SortStaysSaid : Prop := sortStaysRow.holds Try.pinned (OpenSpec.ofChange sortStaysSpec)

/-- ITS FALSE NEIGHBOUR: 'it returns false'. Refute it at one input. -/
def sortStaysWrong : ChangeSpec := { name := "sortStays", fn := fun _ => fun
  | [d1, d2, d3] => { results := [.lit (.bool false)], args := [d1, d2, d3] }
  | _ => none }
def SortStaysWrongFalsely : Prop := sortStaysRow.holds Try.pinned (OpenSpec.ofChange sortStaysWrong)

/-- 'shellgamelaw6.SortOther': WHATEVER THE INPUT: true; the input reads as it did. -/
def sortOtherSpec : ChangeSpec := { name := "sortOther", fn := fun _ => fun
  | [d1, d2, d3, d4] => { results := [.lit (.bool true)], args := [d1, d2, d3, d4] }
  | _ => none }
def sortOtherRow : OpenClaim := { program := "ytojdefaplekieaa", sum := "37662144e22b73462c9d6f38d4fe4ca93f27567ba718be2df10910b8f330825e", func := "shellgame/shellgamelaw6.SortOther", spec := "sortOther", inPlace := ["math/bits.Sub64"], unfollowed := true, recurses := true, apart := false }
def SortOtherSaid : Prop := sortOtherRow.holds Try.pinned (OpenSpec.ofChange sortOtherSpec)

/-- ITS FALSE NEIGHBOUR: 'it returns false'. Refute it at one input. -/
def sortOtherWrong : ChangeSpec := { name := "sortOther", fn := fun _ => fun
  | [d1, d2, d3, d4] => { results := [.lit (.bool false)], args := [d1, d2, d3, d4] }
  | _ => none }
def SortOtherWrongFalsely : Prop := sortOtherRow.holds Try.pinned (OpenSpec.ofChange sortOtherWrong)

/- THE SECOND FORM. 'bulk': how many values and letters a reading holds, each counted each time it is reached (what is shared counts as often as it is met; a slice's spare places count too). A statement '..UptoSaid' is the law's where the arguments, and the package variables that the reading takes, are together of bulk at most 1048576: NARROWER than '..Said'. Prove '..Said' where nothing that the law and all that it calls make is longer than what came in: it says more and counts as full. Else prove '..UptoSaid'. A law counts once. -/
mutual
def uptoBulk {H : Type} : DataW H → Nat
  | .lit (.string bytes) => bytes.length + 1
  | .lit _ => 1
  | .nil => 1
  | .ptr d => uptoBulk d + 1
  | .slice elems spare => uptoBulkAll elems + uptoBulkAll spare + 1
  | .agg parts => uptoBulkAll parts + 1
  | .iface _ d => uptoBulk d + 1
  | .map entries => uptoBulkEntries entries + 1
  | .held _ => 1
def uptoBulkAll {H : Type} : List (DataW H) → Nat
  | [] => 0
  | d :: r => uptoBulk d + uptoBulkAll r
def uptoBulkEntries {H : Type} : List (Lit × DataW H) → Nat
  | [] => 0
  | x :: r => uptoBulkEntry x + uptoBulkEntries r
def uptoBulkEntry {H : Type} : Lit × DataW H → Nat
  | (.string bytes, d) => bytes.length + uptoBulk d + 1
  | (_, d) => uptoBulk d + 1
 end
def uptoSmall : (H : Type) → List (DataW H) → Bool := fun _ ds => decide (uptoBulkAll ds ≤ 1048576)
def OpenSpec.upto (s : _root_.Go.ChangeSpec) : _root_.Go.OpenSpec := { _root_.Go.OpenSpec.ofChange s with cond := some uptoSmall }

/-- 'shellgamelaw6.SortRuns', WHERE WHAT IT READS IS OF BULK AT MOST 1048576: true; the input reads as it did. -/
def sortRunsUptoRow : OpenClaim := { program := "ytojdefaplekieaa", sum := "37662144e22b73462c9d6f38d4fe4ca93f27567ba718be2df10910b8f330825e", func := "shellgame/shellgamelaw6.SortRuns", spec := "sortRuns", inPlace := ["math/bits.Sub64"], unfollowed := true, recurses := true, apart := false, narrowed := true }
def SortRunsUptoSaid : Prop := sortRunsUptoRow.holds Try.pinned (OpenSpec.upto sortRunsSpec)

/-- 'shellgamelaw6.SortOrders', WHERE WHAT IT READS IS OF BULK AT MOST 1048576: true; the input reads as it did. -/
def sortOrdersUptoRow : OpenClaim := { program := "ytojdefaplekieaa", sum := "37662144e22b73462c9d6f38d4fe4ca93f27567ba718be2df10910b8f330825e", func := "shellgame/shellgamelaw6.SortOrders", spec := "sortOrders", inPlace := ["math/bits.Sub64"], unfollowed := true, recurses := true, apart := false, narrowed := true }
def SortOrdersUptoSaid : Prop := sortOrdersUptoRow.holds Try.pinned (OpenSpec.upto sortOrdersSpec)

/-- 'shellgamelaw6.SortBlind', WHERE WHAT IT READS IS OF BULK AT MOST 1048576: true; the input reads as it did. -/
def sortBlindUptoRow : OpenClaim := { program := "ytojdefaplekieaa", sum := "37662144e22b73462c9d6f38d4fe4ca93f27567ba718be2df10910b8f330825e", func := "shellgame/shellgamelaw6.SortBlind", spec := "sortBlind", inPlace := ["math/bits.Sub64"], unfollowed := true, recurses := true, apart := false, narrowed := true }
def SortBlindUptoSaid : Prop := sortBlindUptoRow.holds Try.pinned (OpenSpec.upto sortBlindSpec)

/-- 'shellgamelaw6.SortStays', WHERE WHAT IT READS IS OF BULK AT MOST 1048576: true; the input reads as it did. -/
def sortStaysUptoRow : OpenClaim := { program := "ytojdefaplekieaa", sum := "37662144e22b73462c9d6f38d4fe4ca93f27567ba718be2df10910b8f330825e", func := "shellgame/shellgamelaw6.SortStays", spec := "sortStays", inPlace := ["math/bits.Sub64"], unfollowed := true, recurses := true, apart := false, narrowed := true }
def SortStaysUptoSaid : Prop := sortStaysUptoRow.holds Try.pinned (OpenSpec.upto sortStaysSpec)

/-- 'shellgamelaw6.SortOther', WHERE WHAT IT READS IS OF BULK AT MOST 1048576: true; the input reads as it did. -/
def sortOtherUptoRow : OpenClaim := { program := "ytojdefaplekieaa", sum := "37662144e22b73462c9d6f38d4fe4ca93f27567ba718be2df10910b8f330825e", func := "shellgame/shellgamelaw6.SortOther", spec := "sortOther", inPlace := ["math/bits.Sub64"], unfollowed := true, recurses := true, apart := false, narrowed := true }
def SortOtherUptoSaid : Prop := sortOtherUptoRow.holds Try.pinned (OpenSpec.upto sortOtherSpec)

end Rows
end Go.Proofs.Ytojdefaplekieaa
