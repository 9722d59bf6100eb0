/-
  DERIVED. GIVEN WITH THE SEED: THE CARDS: each row of YteiilfdbddpodaaDoorRows.lean that lists a variable, with what it lists TIED to the program's text (the seventh form; the later family's looks); each row that meets fmt, with fmt's text TOLD by the authors' own Lean function (tested against real Go, not proved from fmt's source: count such statements apart). THE CARD IS WHAT COUNTS. Prove the row's statement (the work); the ties are given (YteiilfdbddpodaaDoorTie.lean); close each card by the builder's one call (the guide's Derived/Test/ToyasCard.lean, 'card_holds'). Laid BY PROGRAM, IN A SANDBOX (cutbox-door.mjs). By AI agents, Wed Nov 11 2026. No macro, syntax, notation, axiom, sorry.
-/
import Derived.Test.YteiilfdbddpodaaDoorRows
import GoSem.ClaimSeven
namespace Go.Proofs.YteiilfdbddpodaaDoor
namespace Rows

/-- THE TIED CARD OF 'shellgamelaw13.ConfigChecks'. -/
def configChecksCard : Claim7 := { stood := { row := configChecksRow, standIns := [], harness := (true, "04ffc0f18ea1dcc991b4a6877aa267abd9622d48c5d0d345f1075f1fe949c0be"), looks := true }, kinds := [], alts := [], laidByText := true, laidKinds := [.handle], laidTests := true, laidLooks := .later }
def ConfigChecksCardSaid : Prop := Claim7.holds Tryd.pinned (.plain (OpenSpec.ofChange configChecksSpec)) configChecksCard

/-- THE TIED CARD OF 'shellgamelaw13.ConfigFits'. -/
def configFitsCard : Claim7 := { stood := { row := configFitsRow, standIns := [], harness := (true, "04ffc0f18ea1dcc991b4a6877aa267abd9622d48c5d0d345f1075f1fe949c0be"), looks := true }, kinds := [], alts := [], laidByText := true, laidKinds := [.handle], laidTests := true, laidLooks := .later }
def ConfigFitsCardSaid : Prop := Claim7.holds Tryd.pinned (.plain (OpenSpec.ofChange configFitsSpec)) configFitsCard

/-- THE TIED CARD OF 'shellgamelaw13.ConfigFirst'. -/
def configFirstCard : Claim7 := { stood := { row := configFirstRow, standIns := [], harness := (true, "04ffc0f18ea1dcc991b4a6877aa267abd9622d48c5d0d345f1075f1fe949c0be"), looks := true }, kinds := [], alts := [], laidByText := true, laidKinds := [.handle], laidTests := true, laidLooks := .later }
def ConfigFirstCardSaid : Prop := Claim7.holds Tryd.pinned (.plain (OpenSpec.ofChange configFirstSpec)) configFirstCard

/-- THE TIED CARD OF 'shellgamelaw13.ConfigTables'. -/
def configTablesCard : Claim7 := { stood := { row := configTablesRow, standIns := [], harness := (true, "04ffc0f18ea1dcc991b4a6877aa267abd9622d48c5d0d345f1075f1fe949c0be"), looks := true }, kinds := [], alts := [], laidByText := true, laidKinds := [.handle], laidTests := true, laidLooks := .later }
def ConfigTablesCardSaid : Prop := Claim7.holds Tryd.pinned (.plain (OpenSpec.ofChange configTablesSpec)) configTablesCard

/-- THE TIED CARD OF 'shellgamelaw13.ConfigMore'. -/
def configMoreCard : Claim7 := { stood := { row := configMoreRow, standIns := [], harness := (true, "04ffc0f18ea1dcc991b4a6877aa267abd9622d48c5d0d345f1075f1fe949c0be"), looks := true }, kinds := [], alts := [], laidByText := true, laidKinds := [.handle], laidTests := true, laidLooks := .later }
def ConfigMoreCardSaid : Prop := Claim7.holds Tryd.pinned (.plain (OpenSpec.ofChange configMoreSpec)) configMoreCard

/-- THE TIED CARD OF 'shellgamelaw13.ConfigBatches'. -/
def configBatchesCard : Claim7 := { stood := { row := configBatchesRow, standIns := [], harness := (true, "04ffc0f18ea1dcc991b4a6877aa267abd9622d48c5d0d345f1075f1fe949c0be"), looks := true }, kinds := [], alts := [], laidByText := true, laidKinds := [.handle], laidTests := true, laidLooks := .later }
def ConfigBatchesCardSaid : Prop := Claim7.holds Tryd.pinned (.plain (OpenSpec.ofChange configBatchesSpec)) configBatchesCard

/-- THE SECOND FORM's CARD OF 'shellgamelaw13.ConfigChecks'. -/
def configChecksUptoCard : Claim7 := { stood := { row := configChecksUptoRow, standIns := [], harness := (true, "04ffc0f18ea1dcc991b4a6877aa267abd9622d48c5d0d345f1075f1fe949c0be"), looks := true }, kinds := [], alts := [], laidByText := true, laidKinds := [.handle], laidTests := true, laidLooks := .later }
def ConfigChecksUptoCardSaid : Prop := Claim7.holds Tryd.pinned (.plain (OpenSpec.upto configChecksSpec)) configChecksUptoCard

/-- THE SECOND FORM's CARD OF 'shellgamelaw13.ConfigFits'. -/
def configFitsUptoCard : Claim7 := { stood := { row := configFitsUptoRow, standIns := [], harness := (true, "04ffc0f18ea1dcc991b4a6877aa267abd9622d48c5d0d345f1075f1fe949c0be"), looks := true }, kinds := [], alts := [], laidByText := true, laidKinds := [.handle], laidTests := true, laidLooks := .later }
def ConfigFitsUptoCardSaid : Prop := Claim7.holds Tryd.pinned (.plain (OpenSpec.upto configFitsSpec)) configFitsUptoCard

/-- THE SECOND FORM's CARD OF 'shellgamelaw13.ConfigFirst'. -/
def configFirstUptoCard : Claim7 := { stood := { row := configFirstUptoRow, standIns := [], harness := (true, "04ffc0f18ea1dcc991b4a6877aa267abd9622d48c5d0d345f1075f1fe949c0be"), looks := true }, kinds := [], alts := [], laidByText := true, laidKinds := [.handle], laidTests := true, laidLooks := .later }
def ConfigFirstUptoCardSaid : Prop := Claim7.holds Tryd.pinned (.plain (OpenSpec.upto configFirstSpec)) configFirstUptoCard

/-- THE SECOND FORM's CARD OF 'shellgamelaw13.ConfigTables'. -/
def configTablesUptoCard : Claim7 := { stood := { row := configTablesUptoRow, standIns := [], harness := (true, "04ffc0f18ea1dcc991b4a6877aa267abd9622d48c5d0d345f1075f1fe949c0be"), looks := true }, kinds := [], alts := [], laidByText := true, laidKinds := [.handle], laidTests := true, laidLooks := .later }
def ConfigTablesUptoCardSaid : Prop := Claim7.holds Tryd.pinned (.plain (OpenSpec.upto configTablesSpec)) configTablesUptoCard

/-- THE SECOND FORM's CARD OF 'shellgamelaw13.ConfigMore'. -/
def configMoreUptoCard : Claim7 := { stood := { row := configMoreUptoRow, standIns := [], harness := (true, "04ffc0f18ea1dcc991b4a6877aa267abd9622d48c5d0d345f1075f1fe949c0be"), looks := true }, kinds := [], alts := [], laidByText := true, laidKinds := [.handle], laidTests := true, laidLooks := .later }
def ConfigMoreUptoCardSaid : Prop := Claim7.holds Tryd.pinned (.plain (OpenSpec.upto configMoreSpec)) configMoreUptoCard

/-- THE SECOND FORM's CARD OF 'shellgamelaw13.ConfigBatches'. -/
def configBatchesUptoCard : Claim7 := { stood := { row := configBatchesUptoRow, standIns := [], harness := (true, "04ffc0f18ea1dcc991b4a6877aa267abd9622d48c5d0d345f1075f1fe949c0be"), looks := true }, kinds := [], alts := [], laidByText := true, laidKinds := [.handle], laidTests := true, laidLooks := .later }
def ConfigBatchesUptoCardSaid : Prop := Claim7.holds Tryd.pinned (.plain (OpenSpec.upto configBatchesSpec)) configBatchesUptoCard
end Rows
end Go.Proofs.YteiilfdbddpodaaDoor
