/-
  NARROWER THAN 'FOR EVERY INPUT', by the rows' own cells (each row's printed sentence says how): OrderBytes: laid · OrderParses: laid · OrderApart: laid · OrderReplies: laid · OrderFields: laid.
  DERIVED. THE GIVEN ROWS OF THIS SEAT. 5 by the template 'for every input the law returns true; each argument reads behind the call as it read before'; 0 by the template 'total and deterministic' (their statements: YtndhammngejdiaaDoorTotals.lean).
  GIVEN WITH THE SEED: the statements are not yours to turn. If you find one false, say at which input.
  Laid BY PROGRAM, IN A SANDBOX (cutbox-rows.mjs): the forced cells as the released guide's own fill.sh prints them over the translation fd9752d00fbed6e2… (all of the seat's roots in one cut). By AI agents, Wed Nov 11 2026. No macro, syntax, notation, axiom, sorry.
-/
import Derived.Test.YtndhammngejdiaaDoorChecked
import GoSem.Claim
import GoSem.ClaimJoined
import GoSem.ClaimMapViews
import Derived.JoinedTies
import Derived.KernelRfl
namespace Go.Proofs.YtndhammngejdiaaDoor
/- THE CELL 'sum', in the pinned program and in every row, IS THE sha256 OF THE DUMP (.gsa) THAT YtndhammngejdiaaDoorProg.lean LOADS. Nothing in Lean hashes anything: it is a label: what it is worth is what the hold of that sum in a sandbox is worth. -/
noncomputable def Tryd.pinned : Pinned := { name := "ytndhammngejdiaadoor", sum := "fd9752d00fbed6e2fb1e87ab650d1067fb5e7b864377bec11d095d622560a8b6", checked := Tryd.checked }
namespace Rows
def none {H : Type} : Left H := { results := [], args := [] }

/- WHAT THE LISTED PACKAGE-LEVEL VARIABLES READ AS WHEN THE CALL BEGINS. Each datum BY PROGRAM (the guide's laid-datum.mjs) off the statement by which the dump's own 'gosem.cut.vars' lays the variable. In a bare row this is a premise. The card (YtndhammngejdiaaDoorCards.lean) ties it to the program's text. -/
def laid_deedhold_order_fields {H : Type} : DataW H := .agg [.lit (.string []), .lit (.string [84]), .lit (.string [65, 66]), .lit (.string [65, 66]), .lit (.string [65, 66, 67, 68]), .lit (.string [65]), .lit (.string [65, 66]), .lit (.string [65, 66, 67, 68]), .lit (.string [84]), .lit (.string [65]), .lit (.string [65, 66]), .lit (.string [65, 66, 67]), .lit (.string [65]), .lit (.string [65]), .lit (.string [65, 66, 67]), .lit (.string [65]), .lit (.string [65]), .lit (.string [65]), .lit (.string [65, 66]), .lit (.string [65, 66, 67]), .lit (.string [65, 66]), .lit (.string [65, 66]), .lit (.string [65, 66, 67, 68]), .lit (.string [65]), .lit (.string []), .lit (.string [65]), .lit (.string [65, 66]), .lit (.string [])]

/-- 'deedholdlaw27.OrderBytes': WHATEVER THE INPUT: true; the input reads as it did. -/
def orderBytesSpec : ChangeSpec := { name := "orderBytes", fn := fun _ => fun
  | [d] => { results := [.lit (.bool true)], args := [d] }
  | _ => none }
def orderBytesRow : OpenClaim := { program := "ytndhammngejdiaadoor", sum := "fd9752d00fbed6e2fb1e87ab650d1067fb5e7b864377bec11d095d622560a8b6", func := "deedhold/deedholdlaw27.OrderBytes", spec := "orderBytes", named := ["deedhold/order.fields"], apart := false, laid := [("deedhold/order.fields", laid_deedhold_order_fields)] }
def OrderBytesSaid : Prop := orderBytesRow.holds Tryd.pinned (OpenSpec.ofChange orderBytesSpec)

/-- ITS FALSE NEIGHBOUR: 'it returns false'. Refute it at one input. -/
def orderBytesWrong : ChangeSpec := { name := "orderBytes", fn := fun _ => fun
  | [d] => { results := [.lit (.bool false)], args := [d] }
  | _ => none }
def OrderBytesWrongFalsely : Prop := orderBytesRow.holds Tryd.pinned (OpenSpec.ofChange orderBytesWrong)

/-- 'deedholdlaw27.OrderParses': WHATEVER THE INPUT: true; the input reads as it did. -/
def orderParsesSpec : ChangeSpec := { name := "orderParses", fn := fun _ => fun
  | [d] => { results := [.lit (.bool true)], args := [d] }
  | _ => none }
def orderParsesRow : OpenClaim := { program := "ytndhammngejdiaadoor", sum := "fd9752d00fbed6e2fb1e87ab650d1067fb5e7b864377bec11d095d622560a8b6", func := "deedhold/deedholdlaw27.OrderParses", spec := "orderParses", named := ["deedhold/order.fields"], apart := false, laid := [("deedhold/order.fields", laid_deedhold_order_fields)] }
def OrderParsesSaid : Prop := orderParsesRow.holds Tryd.pinned (OpenSpec.ofChange orderParsesSpec)

/-- ITS FALSE NEIGHBOUR: 'it returns false'. Refute it at one input. -/
def orderParsesWrong : ChangeSpec := { name := "orderParses", fn := fun _ => fun
  | [d] => { results := [.lit (.bool false)], args := [d] }
  | _ => none }
def OrderParsesWrongFalsely : Prop := orderParsesRow.holds Tryd.pinned (OpenSpec.ofChange orderParsesWrong)

/-- 'deedholdlaw27.OrderApart': WHATEVER THE INPUT: true; the input reads as it did. -/
def orderApartSpec : ChangeSpec := { name := "orderApart", fn := fun _ => fun
  | [d1, d2] => { results := [.lit (.bool true)], args := [d1, d2] }
  | _ => none }
def orderApartRow : OpenClaim := { program := "ytndhammngejdiaadoor", sum := "fd9752d00fbed6e2fb1e87ab650d1067fb5e7b864377bec11d095d622560a8b6", func := "deedhold/deedholdlaw27.OrderApart", spec := "orderApart", named := ["deedhold/order.fields"], apart := false, laid := [("deedhold/order.fields", laid_deedhold_order_fields)] }
def OrderApartSaid : Prop := orderApartRow.holds Tryd.pinned (OpenSpec.ofChange orderApartSpec)

/-- ITS FALSE NEIGHBOUR: 'it returns false'. Refute it at one input. -/
def orderApartWrong : ChangeSpec := { name := "orderApart", fn := fun _ => fun
  | [d1, d2] => { results := [.lit (.bool false)], args := [d1, d2] }
  | _ => none }
def OrderApartWrongFalsely : Prop := orderApartRow.holds Tryd.pinned (OpenSpec.ofChange orderApartWrong)

/-- 'deedholdlaw27.OrderReplies': WHATEVER THE INPUT: true; the input reads as it did. -/
def orderRepliesSpec : ChangeSpec := { name := "orderReplies", fn := fun _ => fun
  | [d1, d2] => { results := [.lit (.bool true)], args := [d1, d2] }
  | _ => none }
def orderRepliesRow : OpenClaim := { program := "ytndhammngejdiaadoor", sum := "fd9752d00fbed6e2fb1e87ab650d1067fb5e7b864377bec11d095d622560a8b6", func := "deedhold/deedholdlaw27.OrderReplies", spec := "orderReplies", named := ["deedhold/order.fields"], apart := false, laid := [("deedhold/order.fields", laid_deedhold_order_fields)] }
def OrderRepliesSaid : Prop := orderRepliesRow.holds Tryd.pinned (OpenSpec.ofChange orderRepliesSpec)

/-- ITS FALSE NEIGHBOUR: 'it returns false'. Refute it at one input. -/
def orderRepliesWrong : ChangeSpec := { name := "orderReplies", fn := fun _ => fun
  | [d1, d2] => { results := [.lit (.bool false)], args := [d1, d2] }
  | _ => none }
def OrderRepliesWrongFalsely : Prop := orderRepliesRow.holds Tryd.pinned (OpenSpec.ofChange orderRepliesWrong)

/-- 'deedholdlaw27.OrderFields': WHATEVER THE INPUT: true; the input reads as it did. -/
def orderFieldsSpec : ChangeSpec := { name := "orderFields", fn := fun _ => fun
  | [d] => { results := [.lit (.bool true)], args := [d] }
  | _ => none }
def orderFieldsRow : OpenClaim := { program := "ytndhammngejdiaadoor", sum := "fd9752d00fbed6e2fb1e87ab650d1067fb5e7b864377bec11d095d622560a8b6", func := "deedhold/deedholdlaw27.OrderFields", spec := "orderFields", named := ["deedhold/order.fields"], apart := false, laid := [("deedhold/order.fields", laid_deedhold_order_fields)] }
def OrderFieldsSaid : Prop := orderFieldsRow.holds Tryd.pinned (OpenSpec.ofChange orderFieldsSpec)

/-- ITS FALSE NEIGHBOUR: 'it returns false'. Refute it at one input. -/
def orderFieldsWrong : ChangeSpec := { name := "orderFields", fn := fun _ => fun
  | [d] => { results := [.lit (.bool false)], args := [d] }
  | _ => none }
def OrderFieldsWrongFalsely : Prop := orderFieldsRow.holds Tryd.pinned (OpenSpec.ofChange orderFieldsWrong)

/- THE SECOND FORM. 'bulk': how many values and letters a reading holds, each counted each time it is reached (what is shared counts as often as it is met; a slice's spare places count too). A statement '..UptoSaid' is the law's where the arguments, and the package variables that the reading takes, are together of bulk at most 1048576: NARROWER than '..Said'. Prove '..Said' where nothing that the law and all that it calls make is longer than what came in: it says more and counts as full. Else prove '..UptoSaid'. A law counts once. -/
mutual
def uptoBulk {H : Type} : DataW H → Nat
  | .lit (.string bytes) => bytes.length + 1
  | .lit _ => 1
  | .nil => 1
  | .ptr d => uptoBulk d + 1
  | .slice elems spare => uptoBulkAll elems + uptoBulkAll spare + 1
  | .agg parts => uptoBulkAll parts + 1
  | .iface _ d => uptoBulk d + 1
  | .map entries => uptoBulkEntries entries + 1
  | .held _ => 1
def uptoBulkAll {H : Type} : List (DataW H) → Nat
  | [] => 0
  | d :: r => uptoBulk d + uptoBulkAll r
def uptoBulkEntries {H : Type} : List (Lit × DataW H) → Nat
  | [] => 0
  | x :: r => uptoBulkEntry x + uptoBulkEntries r
def uptoBulkEntry {H : Type} : Lit × DataW H → Nat
  | (.string bytes, d) => bytes.length + uptoBulk d + 1
  | (_, d) => uptoBulk d + 1
 end
def uptoSmall : (H : Type) → List (DataW H) → Bool := fun _ ds => decide (uptoBulkAll ds ≤ 1048576)
def OpenSpec.upto (s : _root_.Go.ChangeSpec) : _root_.Go.OpenSpec := { _root_.Go.OpenSpec.ofChange s with cond := some uptoSmall }

/-- 'deedholdlaw27.OrderBytes', WHERE WHAT IT READS IS OF BULK AT MOST 1048576: true; the input reads as it did. -/
def orderBytesUptoRow : OpenClaim := { program := "ytndhammngejdiaadoor", sum := "fd9752d00fbed6e2fb1e87ab650d1067fb5e7b864377bec11d095d622560a8b6", func := "deedhold/deedholdlaw27.OrderBytes", spec := "orderBytes", named := ["deedhold/order.fields"], apart := false, laid := [("deedhold/order.fields", laid_deedhold_order_fields)], narrowed := true }
def OrderBytesUptoSaid : Prop := orderBytesUptoRow.holds Tryd.pinned (OpenSpec.upto orderBytesSpec)

/-- 'deedholdlaw27.OrderParses', WHERE WHAT IT READS IS OF BULK AT MOST 1048576: true; the input reads as it did. -/
def orderParsesUptoRow : OpenClaim := { program := "ytndhammngejdiaadoor", sum := "fd9752d00fbed6e2fb1e87ab650d1067fb5e7b864377bec11d095d622560a8b6", func := "deedhold/deedholdlaw27.OrderParses", spec := "orderParses", named := ["deedhold/order.fields"], apart := false, laid := [("deedhold/order.fields", laid_deedhold_order_fields)], narrowed := true }
def OrderParsesUptoSaid : Prop := orderParsesUptoRow.holds Tryd.pinned (OpenSpec.upto orderParsesSpec)

/-- 'deedholdlaw27.OrderApart', WHERE WHAT IT READS IS OF BULK AT MOST 1048576: true; the input reads as it did. -/
def orderApartUptoRow : OpenClaim := { program := "ytndhammngejdiaadoor", sum := "fd9752d00fbed6e2fb1e87ab650d1067fb5e7b864377bec11d095d622560a8b6", func := "deedhold/deedholdlaw27.OrderApart", spec := "orderApart", named := ["deedhold/order.fields"], apart := false, laid := [("deedhold/order.fields", laid_deedhold_order_fields)], narrowed := true }
def OrderApartUptoSaid : Prop := orderApartUptoRow.holds Tryd.pinned (OpenSpec.upto orderApartSpec)

/-- 'deedholdlaw27.OrderReplies', WHERE WHAT IT READS IS OF BULK AT MOST 1048576: true; the input reads as it did. -/
def orderRepliesUptoRow : OpenClaim := { program := "ytndhammngejdiaadoor", sum := "fd9752d00fbed6e2fb1e87ab650d1067fb5e7b864377bec11d095d622560a8b6", func := "deedhold/deedholdlaw27.OrderReplies", spec := "orderReplies", named := ["deedhold/order.fields"], apart := false, laid := [("deedhold/order.fields", laid_deedhold_order_fields)], narrowed := true }
def OrderRepliesUptoSaid : Prop := orderRepliesUptoRow.holds Tryd.pinned (OpenSpec.upto orderRepliesSpec)

/-- 'deedholdlaw27.OrderFields', WHERE WHAT IT READS IS OF BULK AT MOST 1048576: true; the input reads as it did. -/
def orderFieldsUptoRow : OpenClaim := { program := "ytndhammngejdiaadoor", sum := "fd9752d00fbed6e2fb1e87ab650d1067fb5e7b864377bec11d095d622560a8b6", func := "deedhold/deedholdlaw27.OrderFields", spec := "orderFields", named := ["deedhold/order.fields"], apart := false, laid := [("deedhold/order.fields", laid_deedhold_order_fields)], narrowed := true }
def OrderFieldsUptoSaid : Prop := orderFieldsUptoRow.holds Tryd.pinned (OpenSpec.upto orderFieldsSpec)

end Rows
end Go.Proofs.YtndhammngejdiaaDoor
