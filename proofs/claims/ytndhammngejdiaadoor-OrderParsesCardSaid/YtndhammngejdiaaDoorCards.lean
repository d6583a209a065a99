/-
  DERIVED. GIVEN WITH THE SEED: THE CARDS: each row of YtndhammngejdiaaDoorRows.lean that lists a variable, with what it lists TIED to the program's text (the seventh form; the later family's looks); each row that meets fmt, with fmt's text TOLD by the authors' own Lean function (tested against real Go, not proved from fmt's source: count such statements apart). THE CARD IS WHAT COUNTS. Prove the row's statement (the work); the ties are given (YtndhammngejdiaaDoorTie.lean); close each card by the builder's one call (the guide's Derived/Test/ToyasCard.lean, 'card_holds'). Laid BY PROGRAM, IN A SANDBOX (cutbox-door.mjs). By AI agents, Wed Nov 11 2026. No macro, syntax, notation, axiom, sorry.
-/
import Derived.Test.YtndhammngejdiaaDoorRows
import GoSem.ClaimSeven
namespace Go.Proofs.YtndhammngejdiaaDoor
namespace Rows

/-- THE TIED CARD OF 'deedholdlaw27.OrderBytes'. -/
def orderBytesCard : Claim7 := { stood := { row := orderBytesRow, standIns := [], harness := (true, "1d896f719eef665b49acb4c9a2d51aa271fee9b49725f83b7f7b4d49b41d0bf1"), looks := false }, kinds := [], alts := [], laidByText := true, laidKinds := [.data], laidTests := true, laidLooks := .later }
def OrderBytesCardSaid : Prop := Claim7.holds Tryd.pinned (.plain (OpenSpec.ofChange orderBytesSpec)) orderBytesCard

/-- THE TIED CARD OF 'deedholdlaw27.OrderParses'. -/
def orderParsesCard : Claim7 := { stood := { row := orderParsesRow, standIns := [], harness := (true, "1d896f719eef665b49acb4c9a2d51aa271fee9b49725f83b7f7b4d49b41d0bf1"), looks := false }, kinds := [], alts := [], laidByText := true, laidKinds := [.data], laidTests := true, laidLooks := .later }
def OrderParsesCardSaid : Prop := Claim7.holds Tryd.pinned (.plain (OpenSpec.ofChange orderParsesSpec)) orderParsesCard

/-- THE TIED CARD OF 'deedholdlaw27.OrderApart'. -/
def orderApartCard : Claim7 := { stood := { row := orderApartRow, standIns := [], harness := (true, "1d896f719eef665b49acb4c9a2d51aa271fee9b49725f83b7f7b4d49b41d0bf1"), looks := false }, kinds := [], alts := [], laidByText := true, laidKinds := [.data], laidTests := true, laidLooks := .later }
def OrderApartCardSaid : Prop := Claim7.holds Tryd.pinned (.plain (OpenSpec.ofChange orderApartSpec)) orderApartCard

/-- THE TIED CARD OF 'deedholdlaw27.OrderReplies'. -/
def orderRepliesCard : Claim7 := { stood := { row := orderRepliesRow, standIns := [], harness := (true, "1d896f719eef665b49acb4c9a2d51aa271fee9b49725f83b7f7b4d49b41d0bf1"), looks := false }, kinds := [], alts := [], laidByText := true, laidKinds := [.data], laidTests := true, laidLooks := .later }
def OrderRepliesCardSaid : Prop := Claim7.holds Tryd.pinned (.plain (OpenSpec.ofChange orderRepliesSpec)) orderRepliesCard

/-- THE TIED CARD OF 'deedholdlaw27.OrderFields'. -/
def orderFieldsCard : Claim7 := { stood := { row := orderFieldsRow, standIns := [], harness := (true, "1d896f719eef665b49acb4c9a2d51aa271fee9b49725f83b7f7b4d49b41d0bf1"), looks := false }, kinds := [], alts := [], laidByText := true, laidKinds := [.data], laidTests := true, laidLooks := .later }
def OrderFieldsCardSaid : Prop := Claim7.holds Tryd.pinned (.plain (OpenSpec.ofChange orderFieldsSpec)) orderFieldsCard

/-- THE SECOND FORM's CARD OF 'deedholdlaw27.OrderBytes'. -/
def orderBytesUptoCard : Claim7 := { stood := { row := orderBytesUptoRow, standIns := [], harness := (true, "1d896f719eef665b49acb4c9a2d51aa271fee9b49725f83b7f7b4d49b41d0bf1"), looks := false }, kinds := [], alts := [], laidByText := true, laidKinds := [.data], laidTests := true, laidLooks := .later }
def OrderBytesUptoCardSaid : Prop := Claim7.holds Tryd.pinned (.plain (OpenSpec.upto orderBytesSpec)) orderBytesUptoCard

/-- THE SECOND FORM's CARD OF 'deedholdlaw27.OrderParses'. -/
def orderParsesUptoCard : Claim7 := { stood := { row := orderParsesUptoRow, standIns := [], harness := (true, "1d896f719eef665b49acb4c9a2d51aa271fee9b49725f83b7f7b4d49b41d0bf1"), looks := false }, kinds := [], alts := [], laidByText := true, laidKinds := [.data], laidTests := true, laidLooks := .later }
def OrderParsesUptoCardSaid : Prop := Claim7.holds Tryd.pinned (.plain (OpenSpec.upto orderParsesSpec)) orderParsesUptoCard

/-- THE SECOND FORM's CARD OF 'deedholdlaw27.OrderApart'. -/
def orderApartUptoCard : Claim7 := { stood := { row := orderApartUptoRow, standIns := [], harness := (true, "1d896f719eef665b49acb4c9a2d51aa271fee9b49725f83b7f7b4d49b41d0bf1"), looks := false }, kinds := [], alts := [], laidByText := true, laidKinds := [.data], laidTests := true, laidLooks := .later }
def OrderApartUptoCardSaid : Prop := Claim7.holds Tryd.pinned (.plain (OpenSpec.upto orderApartSpec)) orderApartUptoCard

/-- THE SECOND FORM's CARD OF 'deedholdlaw27.OrderReplies'. -/
def orderRepliesUptoCard : Claim7 := { stood := { row := orderRepliesUptoRow, standIns := [], harness := (true, "1d896f719eef665b49acb4c9a2d51aa271fee9b49725f83b7f7b4d49b41d0bf1"), looks := false }, kinds := [], alts := [], laidByText := true, laidKinds := [.data], laidTests := true, laidLooks := .later }
def OrderRepliesUptoCardSaid : Prop := Claim7.holds Tryd.pinned (.plain (OpenSpec.upto orderRepliesSpec)) orderRepliesUptoCard

/-- THE SECOND FORM's CARD OF 'deedholdlaw27.OrderFields'. -/
def orderFieldsUptoCard : Claim7 := { stood := { row := orderFieldsUptoRow, standIns := [], harness := (true, "1d896f719eef665b49acb4c9a2d51aa271fee9b49725f83b7f7b4d49b41d0bf1"), looks := false }, kinds := [], alts := [], laidByText := true, laidKinds := [.data], laidTests := true, laidLooks := .later }
def OrderFieldsUptoCardSaid : Prop := Claim7.holds Tryd.pinned (.plain (OpenSpec.upto orderFieldsSpec)) orderFieldsUptoCard
end Rows
end Go.Proofs.YtndhammngejdiaaDoor
