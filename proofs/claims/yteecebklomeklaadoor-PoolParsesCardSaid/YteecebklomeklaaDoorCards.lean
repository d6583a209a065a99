/-
  DERIVED. GIVEN WITH THE SEED: THE CARDS: each row of YteecebklomeklaaDoorRows.lean that lists a variable, with what it lists TIED to the program's text (the seventh form; the later family's looks); each row that meets fmt, with fmt's text TOLD by the authors' own Lean function (tested against real Go, not proved from fmt's source: count such statements apart). THE CARD IS WHAT COUNTS. Prove the row's statement (the work); the ties are given (YteecebklomeklaaDoorTie.lean); close each card by the builder's one call (the guide's Derived/Test/ToyasCard.lean, 'card_holds'). Laid BY PROGRAM, IN A SANDBOX (cutbox-door.mjs). By AI agents, Wed Nov 11 2026. No macro, syntax, notation, axiom, sorry.
-/
import Derived.Test.YteecebklomeklaaDoorRows
import GoSem.ClaimSeven
namespace Go.Proofs.YteecebklomeklaaDoor
namespace Rows

/-- THE TIED CARD OF 'deedholdlaw07.PoolPlays'. -/
def poolPlaysCard : Claim7 := { stood := { row := poolPlaysRow, standIns := [], harness := (true, "463be7c6aaa513b85a9481da3a8dab6121640f9f1692953e97260484d92df341"), looks := false }, kinds := [], alts := [], laidByText := true, laidKinds := [.data], laidTests := true, laidLooks := .later }
def PoolPlaysCardSaid : Prop := Claim7.holds Tryd.pinned (.plain (OpenSpec.ofChange poolPlaysSpec)) poolPlaysCard

/-- THE TIED CARD OF 'deedholdlaw07.PoolNext'. -/
def poolNextCard : Claim7 := { stood := { row := poolNextRow, standIns := [], harness := (true, "463be7c6aaa513b85a9481da3a8dab6121640f9f1692953e97260484d92df341"), looks := false }, kinds := [], alts := [], laidByText := true, laidKinds := [.data], laidTests := true, laidLooks := .later }
def PoolNextCardSaid : Prop := Claim7.holds Tryd.pinned (.plain (OpenSpec.ofChange poolNextSpec)) poolNextCard

/-- THE TIED CARD OF 'deedholdlaw07.PoolRuns'. -/
def poolRunsCard : Claim7 := { stood := { row := poolRunsRow, standIns := [], harness := (true, "463be7c6aaa513b85a9481da3a8dab6121640f9f1692953e97260484d92df341"), looks := false }, kinds := [], alts := [], laidByText := true, laidKinds := [.data], laidTests := true, laidLooks := .later }
def PoolRunsCardSaid : Prop := Claim7.holds Tryd.pinned (.plain (OpenSpec.ofChange poolRunsSpec)) poolRunsCard

/-- THE TIED CARD OF 'deedholdlaw07.PoolParses'. -/
def poolParsesCard : Claim7 := { stood := { row := poolParsesRow, standIns := [], harness := (true, "463be7c6aaa513b85a9481da3a8dab6121640f9f1692953e97260484d92df341"), looks := false }, kinds := [], alts := [], laidByText := true, laidKinds := [.data], laidTests := true, laidLooks := .later }
def PoolParsesCardSaid : Prop := Claim7.holds Tryd.pinned (.plain (OpenSpec.ofChange poolParsesSpec)) poolParsesCard

/-- THE TIED CARD OF 'deedholdlaw07.PoolTakes'. -/
def poolTakesCard : Claim7 := { stood := { row := poolTakesRow, standIns := [], harness := (true, "463be7c6aaa513b85a9481da3a8dab6121640f9f1692953e97260484d92df341"), looks := false }, kinds := [], alts := [], laidByText := true, laidKinds := [.data], laidTests := true, laidLooks := .later }
def PoolTakesCardSaid : Prop := Claim7.holds Tryd.pinned (.plain (OpenSpec.ofChange poolTakesSpec)) poolTakesCard

/-- THE SECOND FORM's CARD OF 'deedholdlaw07.PoolPlays'. -/
def poolPlaysUptoCard : Claim7 := { stood := { row := poolPlaysUptoRow, standIns := [], harness := (true, "463be7c6aaa513b85a9481da3a8dab6121640f9f1692953e97260484d92df341"), looks := false }, kinds := [], alts := [], laidByText := true, laidKinds := [.data], laidTests := true, laidLooks := .later }
def PoolPlaysUptoCardSaid : Prop := Claim7.holds Tryd.pinned (.plain (OpenSpec.upto poolPlaysSpec)) poolPlaysUptoCard

/-- THE SECOND FORM's CARD OF 'deedholdlaw07.PoolNext'. -/
def poolNextUptoCard : Claim7 := { stood := { row := poolNextUptoRow, standIns := [], harness := (true, "463be7c6aaa513b85a9481da3a8dab6121640f9f1692953e97260484d92df341"), looks := false }, kinds := [], alts := [], laidByText := true, laidKinds := [.data], laidTests := true, laidLooks := .later }
def PoolNextUptoCardSaid : Prop := Claim7.holds Tryd.pinned (.plain (OpenSpec.upto poolNextSpec)) poolNextUptoCard

/-- THE SECOND FORM's CARD OF 'deedholdlaw07.PoolRuns'. -/
def poolRunsUptoCard : Claim7 := { stood := { row := poolRunsUptoRow, standIns := [], harness := (true, "463be7c6aaa513b85a9481da3a8dab6121640f9f1692953e97260484d92df341"), looks := false }, kinds := [], alts := [], laidByText := true, laidKinds := [.data], laidTests := true, laidLooks := .later }
def PoolRunsUptoCardSaid : Prop := Claim7.holds Tryd.pinned (.plain (OpenSpec.upto poolRunsSpec)) poolRunsUptoCard

/-- THE SECOND FORM's CARD OF 'deedholdlaw07.PoolParses'. -/
def poolParsesUptoCard : Claim7 := { stood := { row := poolParsesUptoRow, standIns := [], harness := (true, "463be7c6aaa513b85a9481da3a8dab6121640f9f1692953e97260484d92df341"), looks := false }, kinds := [], alts := [], laidByText := true, laidKinds := [.data], laidTests := true, laidLooks := .later }
def PoolParsesUptoCardSaid : Prop := Claim7.holds Tryd.pinned (.plain (OpenSpec.upto poolParsesSpec)) poolParsesUptoCard

/-- THE SECOND FORM's CARD OF 'deedholdlaw07.PoolTakes'. -/
def poolTakesUptoCard : Claim7 := { stood := { row := poolTakesUptoRow, standIns := [], harness := (true, "463be7c6aaa513b85a9481da3a8dab6121640f9f1692953e97260484d92df341"), looks := false }, kinds := [], alts := [], laidByText := true, laidKinds := [.data], laidTests := true, laidLooks := .later }
def PoolTakesUptoCardSaid : Prop := Claim7.holds Tryd.pinned (.plain (OpenSpec.upto poolTakesSpec)) poolTakesUptoCard
end Rows
end Go.Proofs.YteecebklomeklaaDoor
