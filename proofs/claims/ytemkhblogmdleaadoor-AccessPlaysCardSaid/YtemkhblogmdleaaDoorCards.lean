/-
  DERIVED. GIVEN WITH THE SEED: THE CARDS: each row of YtemkhblogmdleaaDoorRows.lean that lists a variable, with what it lists TIED to the program's text (the seventh form; the later family's looks); each row that meets fmt, with fmt's text TOLD by the authors' own Lean function (tested against real Go, not proved from fmt's source: count such statements apart). THE CARD IS WHAT COUNTS. Prove the row's statement (the work); the ties are given (YtemkhblogmdleaaDoorTie.lean); close each card by the builder's one call (the guide's Derived/Test/ToyasCard.lean, 'card_holds'). Laid BY PROGRAM, IN A SANDBOX (cutbox-door.mjs). By AI agents, Wed Nov 11 2026. No macro, syntax, notation, axiom, sorry.
-/
import Derived.Test.YtemkhblogmdleaaDoorRows
import GoSem.ClaimSeven
namespace Go.Proofs.YtemkhblogmdleaaDoor
namespace Rows

/-- THE TIED CARD OF 'deedholdlaw18.AccessLevels'. -/
def accessLevelsCard : Claim7 := { stood := { row := accessLevelsRow, standIns := [], harness := (true, "c5a6c94db611c994ed21313dd613ed719fb4a00a0ac3b9b40b8850beb8d09754"), looks := false }, kinds := [], alts := [], laidByText := true, laidKinds := [.data], laidTests := true, laidLooks := .later }
def AccessLevelsCardSaid : Prop := Claim7.holds Tryd.pinned (.plain (OpenSpec.ofChange accessLevelsSpec)) accessLevelsCard

/-- THE TIED CARD OF 'deedholdlaw18.AccessRight'. -/
def accessRightCard : Claim7 := { stood := { row := accessRightRow, standIns := [], harness := (true, "c5a6c94db611c994ed21313dd613ed719fb4a00a0ac3b9b40b8850beb8d09754"), looks := false }, kinds := [], alts := [], laidByText := true, laidKinds := [.data], laidTests := true, laidLooks := .later }
def AccessRightCardSaid : Prop := Claim7.holds Tryd.pinned (.plain (OpenSpec.ofChange accessRightSpec)) accessRightCard

/-- THE TIED CARD OF 'deedholdlaw18.AccessSets'. -/
def accessSetsCard : Claim7 := { stood := { row := accessSetsRow, standIns := [], harness := (true, "c5a6c94db611c994ed21313dd613ed719fb4a00a0ac3b9b40b8850beb8d09754"), looks := false }, kinds := [], alts := [], laidByText := true, laidKinds := [.data], laidTests := true, laidLooks := .later }
def AccessSetsCardSaid : Prop := Claim7.holds Tryd.pinned (.plain (OpenSpec.ofChange accessSetsSpec)) accessSetsCard

/-- THE TIED CARD OF 'deedholdlaw18.AccessPlays'. -/
def accessPlaysCard : Claim7 := { stood := { row := accessPlaysRow, standIns := [], harness := (true, "c5a6c94db611c994ed21313dd613ed719fb4a00a0ac3b9b40b8850beb8d09754"), looks := false }, kinds := [], alts := [], laidByText := true, laidKinds := [.data], laidTests := true, laidLooks := .later }
def AccessPlaysCardSaid : Prop := Claim7.holds Tryd.pinned (.plain (OpenSpec.ofChange accessPlaysSpec)) accessPlaysCard

/-- THE SECOND FORM's CARD OF 'deedholdlaw18.AccessLevels'. -/
def accessLevelsUptoCard : Claim7 := { stood := { row := accessLevelsUptoRow, standIns := [], harness := (true, "c5a6c94db611c994ed21313dd613ed719fb4a00a0ac3b9b40b8850beb8d09754"), looks := false }, kinds := [], alts := [], laidByText := true, laidKinds := [.data], laidTests := true, laidLooks := .later }
def AccessLevelsUptoCardSaid : Prop := Claim7.holds Tryd.pinned (.plain (OpenSpec.upto accessLevelsSpec)) accessLevelsUptoCard

/-- THE SECOND FORM's CARD OF 'deedholdlaw18.AccessRight'. -/
def accessRightUptoCard : Claim7 := { stood := { row := accessRightUptoRow, standIns := [], harness := (true, "c5a6c94db611c994ed21313dd613ed719fb4a00a0ac3b9b40b8850beb8d09754"), looks := false }, kinds := [], alts := [], laidByText := true, laidKinds := [.data], laidTests := true, laidLooks := .later }
def AccessRightUptoCardSaid : Prop := Claim7.holds Tryd.pinned (.plain (OpenSpec.upto accessRightSpec)) accessRightUptoCard

/-- THE SECOND FORM's CARD OF 'deedholdlaw18.AccessSets'. -/
def accessSetsUptoCard : Claim7 := { stood := { row := accessSetsUptoRow, standIns := [], harness := (true, "c5a6c94db611c994ed21313dd613ed719fb4a00a0ac3b9b40b8850beb8d09754"), looks := false }, kinds := [], alts := [], laidByText := true, laidKinds := [.data], laidTests := true, laidLooks := .later }
def AccessSetsUptoCardSaid : Prop := Claim7.holds Tryd.pinned (.plain (OpenSpec.upto accessSetsSpec)) accessSetsUptoCard

/-- THE SECOND FORM's CARD OF 'deedholdlaw18.AccessPlays'. -/
def accessPlaysUptoCard : Claim7 := { stood := { row := accessPlaysUptoRow, standIns := [], harness := (true, "c5a6c94db611c994ed21313dd613ed719fb4a00a0ac3b9b40b8850beb8d09754"), looks := false }, kinds := [], alts := [], laidByText := true, laidKinds := [.data], laidTests := true, laidLooks := .later }
def AccessPlaysUptoCardSaid : Prop := Claim7.holds Tryd.pinned (.plain (OpenSpec.upto accessPlaysSpec)) accessPlaysUptoCard
end Rows
end Go.Proofs.YtemkhblogmdleaaDoor
