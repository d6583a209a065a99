/-
  DERIVED. GIVEN WITH THE SEED: THE CARDS: each row of YtigjfmfhmoabiaaDoorRows.lean that lists a variable, with what it lists TIED to the program's text (the seventh form; the later family's looks); each row that meets fmt, with fmt's text TOLD by the authors' own Lean function (tested against real Go, not proved from fmt's source: count such statements apart). THE CARD IS WHAT COUNTS. Prove the row's statement (the work); the ties are given (YtigjfmfhmoabiaaDoorTie.lean); close each card by the builder's one call (the guide's Derived/Test/ToyasCard.lean, 'card_holds'). Laid BY PROGRAM, IN A SANDBOX (cutbox-door.mjs). By AI agents, Wed Nov 11 2026. No macro, syntax, notation, axiom, sorry.
-/
import Derived.Test.YtigjfmfhmoabiaaDoorRows
import GoSem.ClaimSeven
namespace Go.Proofs.YtigjfmfhmoabiaaDoor
namespace Rows

/-- THE TIED CARD OF 'deedholdlaw06.SlotsBytes'. -/
def slotsBytesCard : Claim7 := { stood := { row := slotsBytesRow, standIns := [], harness := (true, "a37ef71f5e679ad9c65774b92b89c99152301b7d344ff6be156573450d0d2a32"), looks := false }, kinds := [], alts := [], laidByText := true, laidKinds := [.data], laidTests := true, laidLooks := .later }
def SlotsBytesCardSaid : Prop := Claim7.holds Tryd.pinned (.plain (OpenSpec.ofChange slotsBytesSpec)) slotsBytesCard

/-- THE TIED CARD OF 'deedholdlaw06.SlotsParses'. -/
def slotsParsesCard : Claim7 := { stood := { row := slotsParsesRow, standIns := [], harness := (true, "a37ef71f5e679ad9c65774b92b89c99152301b7d344ff6be156573450d0d2a32"), looks := false }, kinds := [], alts := [], laidByText := true, laidKinds := [.data], laidTests := true, laidLooks := .later }
def SlotsParsesCardSaid : Prop := Claim7.holds Tryd.pinned (.plain (OpenSpec.ofChange slotsParsesSpec)) slotsParsesCard

/-- THE TIED CARD OF 'deedholdlaw06.SlotsLoads'. -/
def slotsLoadsCard : Claim7 := { stood := { row := slotsLoadsRow, standIns := [], harness := (true, "a37ef71f5e679ad9c65774b92b89c99152301b7d344ff6be156573450d0d2a32"), looks := false }, kinds := [], alts := [], laidByText := true, laidKinds := [.data], laidTests := true, laidLooks := .later }
def SlotsLoadsCardSaid : Prop := Claim7.holds Tryd.pinned (.plain (OpenSpec.ofChange slotsLoadsSpec)) slotsLoadsCard

/-- THE TIED CARD OF 'deedholdlaw06.SlotsCrashes'. -/
def slotsCrashesCard : Claim7 := { stood := { row := slotsCrashesRow, standIns := [], harness := (true, "a37ef71f5e679ad9c65774b92b89c99152301b7d344ff6be156573450d0d2a32"), looks := false }, kinds := [], alts := [], laidByText := true, laidKinds := [.data], laidTests := true, laidLooks := .later }
def SlotsCrashesCardSaid : Prop := Claim7.holds Tryd.pinned (.plain (OpenSpec.ofChange slotsCrashesSpec)) slotsCrashesCard

/-- THE SECOND FORM's CARD OF 'deedholdlaw06.SlotsBytes'. -/
def slotsBytesUptoCard : Claim7 := { stood := { row := slotsBytesUptoRow, standIns := [], harness := (true, "a37ef71f5e679ad9c65774b92b89c99152301b7d344ff6be156573450d0d2a32"), looks := false }, kinds := [], alts := [], laidByText := true, laidKinds := [.data], laidTests := true, laidLooks := .later }
def SlotsBytesUptoCardSaid : Prop := Claim7.holds Tryd.pinned (.plain (OpenSpec.upto slotsBytesSpec)) slotsBytesUptoCard

/-- THE SECOND FORM's CARD OF 'deedholdlaw06.SlotsParses'. -/
def slotsParsesUptoCard : Claim7 := { stood := { row := slotsParsesUptoRow, standIns := [], harness := (true, "a37ef71f5e679ad9c65774b92b89c99152301b7d344ff6be156573450d0d2a32"), looks := false }, kinds := [], alts := [], laidByText := true, laidKinds := [.data], laidTests := true, laidLooks := .later }
def SlotsParsesUptoCardSaid : Prop := Claim7.holds Tryd.pinned (.plain (OpenSpec.upto slotsParsesSpec)) slotsParsesUptoCard

/-- THE SECOND FORM's CARD OF 'deedholdlaw06.SlotsLoads'. -/
def slotsLoadsUptoCard : Claim7 := { stood := { row := slotsLoadsUptoRow, standIns := [], harness := (true, "a37ef71f5e679ad9c65774b92b89c99152301b7d344ff6be156573450d0d2a32"), looks := false }, kinds := [], alts := [], laidByText := true, laidKinds := [.data], laidTests := true, laidLooks := .later }
def SlotsLoadsUptoCardSaid : Prop := Claim7.holds Tryd.pinned (.plain (OpenSpec.upto slotsLoadsSpec)) slotsLoadsUptoCard

/-- THE SECOND FORM's CARD OF 'deedholdlaw06.SlotsCrashes'. -/
def slotsCrashesUptoCard : Claim7 := { stood := { row := slotsCrashesUptoRow, standIns := [], harness := (true, "a37ef71f5e679ad9c65774b92b89c99152301b7d344ff6be156573450d0d2a32"), looks := false }, kinds := [], alts := [], laidByText := true, laidKinds := [.data], laidTests := true, laidLooks := .later }
def SlotsCrashesUptoCardSaid : Prop := Claim7.holds Tryd.pinned (.plain (OpenSpec.upto slotsCrashesSpec)) slotsCrashesUptoCard
end Rows
end Go.Proofs.YtigjfmfhmoabiaaDoor
