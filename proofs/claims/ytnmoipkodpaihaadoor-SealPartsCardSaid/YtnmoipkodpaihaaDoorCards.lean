/-
  DERIVED. GIVEN WITH THE SEED: THE CARDS: each row of YtnmoipkodpaihaaDoorRows.lean that lists a variable, with what it lists TIED to the program's text (the seventh form; the later family's looks); each row that meets fmt, with fmt's text TOLD by the authors' own Lean function (tested against real Go, not proved from fmt's source: count such statements apart). THE CARD IS WHAT COUNTS. Prove the row's statement (the work); the ties are given (YtnmoipkodpaihaaDoorTie.lean); close each card by the builder's one call (the guide's Derived/Test/ToyasCard.lean, 'card_holds'). Laid BY PROGRAM, IN A SANDBOX (cutbox-door.mjs). By AI agents, Wed Nov 11 2026. No macro, syntax, notation, axiom, sorry.
-/
import Derived.Test.YtnmoipkodpaihaaDoorRows
import GoSem.ClaimSeven
namespace Go.Proofs.YtnmoipkodpaihaaDoor
namespace Rows

/-- THE TIED CARD OF 'deedholdlaw03.SealSums'. -/
def sealSumsCard : Claim7 := { stood := { row := sealSumsRow, standIns := [], harness := (true, "b403b13a970a2c30ab21c1a4ba7170d74ed052a0d398e929df3d84efb9dd2ef4"), looks := false }, kinds := [], alts := [], laidByText := true, laidKinds := [.data], laidTests := true, laidLooks := .later }
def SealSumsCardSaid : Prop := Claim7.holds Tryd.pinned (.plain (OpenSpec.ofChange sealSumsSpec)) sealSumsCard

/-- THE TIED CARD OF 'deedholdlaw03.SealOpens'. -/
def sealOpensCard : Claim7 := { stood := { row := sealOpensRow, standIns := [], harness := (true, "b403b13a970a2c30ab21c1a4ba7170d74ed052a0d398e929df3d84efb9dd2ef4"), looks := false }, kinds := [], alts := [], laidByText := true, laidKinds := [.data], laidTests := true, laidLooks := .later }
def SealOpensCardSaid : Prop := Claim7.holds Tryd.pinned (.plain (OpenSpec.ofChange sealOpensSpec)) sealOpensCard

/-- THE TIED CARD OF 'deedholdlaw03.SealFits'. -/
def sealFitsCard : Claim7 := { stood := { row := sealFitsRow, standIns := [], harness := (true, "b403b13a970a2c30ab21c1a4ba7170d74ed052a0d398e929df3d84efb9dd2ef4"), looks := false }, kinds := [], alts := [], laidByText := true, laidKinds := [.data], laidTests := true, laidLooks := .later }
def SealFitsCardSaid : Prop := Claim7.holds Tryd.pinned (.plain (OpenSpec.ofChange sealFitsSpec)) sealFitsCard

/-- THE TIED CARD OF 'deedholdlaw03.SealParts'. -/
def sealPartsCard : Claim7 := { stood := { row := sealPartsRow, standIns := [], harness := (true, "b403b13a970a2c30ab21c1a4ba7170d74ed052a0d398e929df3d84efb9dd2ef4"), looks := false }, kinds := [], alts := [], laidByText := true, laidKinds := [.data], laidTests := true, laidLooks := .later }
def SealPartsCardSaid : Prop := Claim7.holds Tryd.pinned (.plain (OpenSpec.ofChange sealPartsSpec)) sealPartsCard

/-- THE TIED CARD OF 'deedholdlaw03.SealOwn'. -/
def sealOwnCard : Claim7 := { stood := { row := sealOwnRow, standIns := [], harness := (true, "b403b13a970a2c30ab21c1a4ba7170d74ed052a0d398e929df3d84efb9dd2ef4"), looks := false }, kinds := [], alts := [], laidByText := true, laidKinds := [.data], laidTests := true, laidLooks := .later }
def SealOwnCardSaid : Prop := Claim7.holds Tryd.pinned (.plain (OpenSpec.ofChange sealOwnSpec)) sealOwnCard

/-- THE SECOND FORM's CARD OF 'deedholdlaw03.SealSums'. -/
def sealSumsUptoCard : Claim7 := { stood := { row := sealSumsUptoRow, standIns := [], harness := (true, "b403b13a970a2c30ab21c1a4ba7170d74ed052a0d398e929df3d84efb9dd2ef4"), looks := false }, kinds := [], alts := [], laidByText := true, laidKinds := [.data], laidTests := true, laidLooks := .later }
def SealSumsUptoCardSaid : Prop := Claim7.holds Tryd.pinned (.plain (OpenSpec.upto sealSumsSpec)) sealSumsUptoCard

/-- THE SECOND FORM's CARD OF 'deedholdlaw03.SealOpens'. -/
def sealOpensUptoCard : Claim7 := { stood := { row := sealOpensUptoRow, standIns := [], harness := (true, "b403b13a970a2c30ab21c1a4ba7170d74ed052a0d398e929df3d84efb9dd2ef4"), looks := false }, kinds := [], alts := [], laidByText := true, laidKinds := [.data], laidTests := true, laidLooks := .later }
def SealOpensUptoCardSaid : Prop := Claim7.holds Tryd.pinned (.plain (OpenSpec.upto sealOpensSpec)) sealOpensUptoCard

/-- THE SECOND FORM's CARD OF 'deedholdlaw03.SealFits'. -/
def sealFitsUptoCard : Claim7 := { stood := { row := sealFitsUptoRow, standIns := [], harness := (true, "b403b13a970a2c30ab21c1a4ba7170d74ed052a0d398e929df3d84efb9dd2ef4"), looks := false }, kinds := [], alts := [], laidByText := true, laidKinds := [.data], laidTests := true, laidLooks := .later }
def SealFitsUptoCardSaid : Prop := Claim7.holds Tryd.pinned (.plain (OpenSpec.upto sealFitsSpec)) sealFitsUptoCard

/-- THE SECOND FORM's CARD OF 'deedholdlaw03.SealParts'. -/
def sealPartsUptoCard : Claim7 := { stood := { row := sealPartsUptoRow, standIns := [], harness := (true, "b403b13a970a2c30ab21c1a4ba7170d74ed052a0d398e929df3d84efb9dd2ef4"), looks := false }, kinds := [], alts := [], laidByText := true, laidKinds := [.data], laidTests := true, laidLooks := .later }
def SealPartsUptoCardSaid : Prop := Claim7.holds Tryd.pinned (.plain (OpenSpec.upto sealPartsSpec)) sealPartsUptoCard

/-- THE SECOND FORM's CARD OF 'deedholdlaw03.SealOwn'. -/
def sealOwnUptoCard : Claim7 := { stood := { row := sealOwnUptoRow, standIns := [], harness := (true, "b403b13a970a2c30ab21c1a4ba7170d74ed052a0d398e929df3d84efb9dd2ef4"), looks := false }, kinds := [], alts := [], laidByText := true, laidKinds := [.data], laidTests := true, laidLooks := .later }
def SealOwnUptoCardSaid : Prop := Claim7.holds Tryd.pinned (.plain (OpenSpec.upto sealOwnSpec)) sealOwnUptoCard
end Rows
end Go.Proofs.YtnmoipkodpaihaaDoor
