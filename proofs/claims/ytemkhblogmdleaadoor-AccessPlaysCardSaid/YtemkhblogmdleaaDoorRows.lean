/-
  NARROWER THAN 'FOR EVERY INPUT', by the rows' own cells (each row's printed sentence says how): AccessLevels: laid · AccessRight: laid · AccessSets: laid · AccessPlays: laid.
  DERIVED. THE GIVEN ROWS OF THIS SEAT. 4 by the template 'for every input the law returns true; each argument reads behind the call as it read before'; 0 by the template 'total and deterministic' (their statements: YtemkhblogmdleaaDoorTotals.lean).
  GIVEN WITH THE SEED: the statements are not yours to turn. If you find one false, say at which input.
  Laid BY PROGRAM, IN A SANDBOX (cutbox-rows.mjs): the forced cells as the released guide's own fill.sh prints them over the translation 94d3a8da0897c908… (all of the seat's roots in one cut). By AI agents, Wed Nov 11 2026. No macro, syntax, notation, axiom, sorry.
-/
import Derived.Test.YtemkhblogmdleaaDoorChecked
import GoSem.Claim
import GoSem.ClaimJoined
import GoSem.ClaimMapViews
import Derived.JoinedTies
import Derived.KernelRfl
namespace Go.Proofs.YtemkhblogmdleaaDoor
/- THE CELL 'sum', in the pinned program and in every row, IS THE sha256 OF THE DUMP (.gsa) THAT YtemkhblogmdleaaDoorProg.lean LOADS. Nothing in Lean hashes anything: it is a label: what it is worth is what the hold of that sum in a sandbox is worth. -/
noncomputable def Tryd.pinned : Pinned := { name := "ytemkhblogmdleaadoor", sum := "94d3a8da0897c9087bb123a4965282f04564a09c34e8fa2f25d4be234def3ff0", checked := Tryd.checked }
namespace Rows
def none {H : Type} : Left H := { results := [], args := [] }

/- WHAT THE LISTED PACKAGE-LEVEL VARIABLES READ AS WHEN THE CALL BEGINS. Each datum BY PROGRAM (the guide's laid-datum.mjs) off the statement by which the dump's own 'gosem.cut.vars' lays the variable. In a bare row this is a premise. The card (YtemkhblogmdleaaDoorCards.lean) ties it to the program's text. -/
def laid_deedhold_access_needs {H : Type} : DataW H := .agg [.lit (.int .i64 1), .lit (.int .i64 2), .lit (.int .i64 3), .lit (.int .i64 3), .lit (.int .i64 3), .lit (.int .i64 4), .lit (.int .i64 4), .lit (.int .i64 4), .lit (.int .i64 4), .lit (.int .i64 4), .lit (.int .i64 4)]

/-- 'deedholdlaw18.AccessLevels': WHATEVER THE INPUT: true; the input reads as it did. -/
def accessLevelsSpec : ChangeSpec := { name := "accessLevels", fn := fun _ => fun
  | [d1, d2, d3] => { results := [.lit (.bool true)], args := [d1, d2, d3] }
  | _ => none }
def accessLevelsRow : OpenClaim := { program := "ytemkhblogmdleaadoor", sum := "94d3a8da0897c9087bb123a4965282f04564a09c34e8fa2f25d4be234def3ff0", func := "deedhold/deedholdlaw18.AccessLevels", spec := "accessLevels", inPlace := ["slices.overlaps[int]"], named := ["deedhold/access.needs"], apart := false, laid := [("deedhold/access.needs", laid_deedhold_access_needs)] }
def AccessLevelsSaid : Prop := accessLevelsRow.holds Tryd.pinned (OpenSpec.ofChange accessLevelsSpec)

/-- ITS FALSE NEIGHBOUR: 'it returns false'. Refute it at one input. -/
def accessLevelsWrong : ChangeSpec := { name := "accessLevels", fn := fun _ => fun
  | [d1, d2, d3] => { results := [.lit (.bool false)], args := [d1, d2, d3] }
  | _ => none }
def AccessLevelsWrongFalsely : Prop := accessLevelsRow.holds Tryd.pinned (OpenSpec.ofChange accessLevelsWrong)

/-- 'deedholdlaw18.AccessRight': WHATEVER THE INPUT: true; the input reads as it did. -/
def accessRightSpec : ChangeSpec := { name := "accessRight", fn := fun _ => fun
  | [d1, d2] => { results := [.lit (.bool true)], args := [d1, d2] }
  | _ => none }
def accessRightRow : OpenClaim := { program := "ytemkhblogmdleaadoor", sum := "94d3a8da0897c9087bb123a4965282f04564a09c34e8fa2f25d4be234def3ff0", func := "deedhold/deedholdlaw18.AccessRight", spec := "accessRight", inPlace := ["slices.overlaps[int]"], named := ["deedhold/access.needs"], apart := false, laid := [("deedhold/access.needs", laid_deedhold_access_needs)] }
def AccessRightSaid : Prop := accessRightRow.holds Tryd.pinned (OpenSpec.ofChange accessRightSpec)

/-- ITS FALSE NEIGHBOUR: 'it returns false'. Refute it at one input. -/
def accessRightWrong : ChangeSpec := { name := "accessRight", fn := fun _ => fun
  | [d1, d2] => { results := [.lit (.bool false)], args := [d1, d2] }
  | _ => none }
def AccessRightWrongFalsely : Prop := accessRightRow.holds Tryd.pinned (OpenSpec.ofChange accessRightWrong)

/-- 'deedholdlaw18.AccessSets': WHATEVER THE INPUT: true; the input reads as it did. -/
def accessSetsSpec : ChangeSpec := { name := "accessSets", fn := fun _ => fun
  | [d1, d2, d3] => { results := [.lit (.bool true)], args := [d1, d2, d3] }
  | _ => none }
def accessSetsRow : OpenClaim := { program := "ytemkhblogmdleaadoor", sum := "94d3a8da0897c9087bb123a4965282f04564a09c34e8fa2f25d4be234def3ff0", func := "deedhold/deedholdlaw18.AccessSets", spec := "accessSets", inPlace := ["slices.overlaps[int]"], named := ["deedhold/access.needs"], apart := false, laid := [("deedhold/access.needs", laid_deedhold_access_needs)] }
def AccessSetsSaid : Prop := accessSetsRow.holds Tryd.pinned (OpenSpec.ofChange accessSetsSpec)

/-- ITS FALSE NEIGHBOUR: 'it returns false'. Refute it at one input. -/
def accessSetsWrong : ChangeSpec := { name := "accessSets", fn := fun _ => fun
  | [d1, d2, d3] => { results := [.lit (.bool false)], args := [d1, d2, d3] }
  | _ => none }
def AccessSetsWrongFalsely : Prop := accessSetsRow.holds Tryd.pinned (OpenSpec.ofChange accessSetsWrong)

/-- 'deedholdlaw18.AccessPlays': WHATEVER THE INPUT: true; the input reads as it did. -/
def accessPlaysSpec : ChangeSpec := { name := "accessPlays", fn := fun _ => fun
  | [d1, d2] => { results := [.lit (.bool true)], args := [d1, d2] }
  | _ => none }
def accessPlaysRow : OpenClaim := { program := "ytemkhblogmdleaadoor", sum := "94d3a8da0897c9087bb123a4965282f04564a09c34e8fa2f25d4be234def3ff0", func := "deedhold/deedholdlaw18.AccessPlays", spec := "accessPlays", inPlace := ["slices.overlaps[int]"], named := ["deedhold/access.needs"], apart := false, laid := [("deedhold/access.needs", laid_deedhold_access_needs)] }
def AccessPlaysSaid : Prop := accessPlaysRow.holds Tryd.pinned (OpenSpec.ofChange accessPlaysSpec)

/-- ITS FALSE NEIGHBOUR: 'it returns false'. Refute it at one input. -/
def accessPlaysWrong : ChangeSpec := { name := "accessPlays", fn := fun _ => fun
  | [d1, d2] => { results := [.lit (.bool false)], args := [d1, d2] }
  | _ => none }
def AccessPlaysWrongFalsely : Prop := accessPlaysRow.holds Tryd.pinned (OpenSpec.ofChange accessPlaysWrong)

/- THE SECOND FORM. 'bulk': how many values and letters a reading holds, each counted each time it is reached (what is shared counts as often as it is met; a slice's spare places count too). A statement '..UptoSaid' is the law's where the arguments, and the package variables that the reading takes, are together of bulk at most 1048576: NARROWER than '..Said'. Prove '..Said' where nothing that the law and all that it calls make is longer than what came in: it says more and counts as full. Else prove '..UptoSaid'. A law counts once. -/
mutual
def uptoBulk {H : Type} : DataW H → Nat
  | .lit (.string bytes) => bytes.length + 1
  | .lit _ => 1
  | .nil => 1
  | .ptr d => uptoBulk d + 1
  | .slice elems spare => uptoBulkAll elems + uptoBulkAll spare + 1
  | .agg parts => uptoBulkAll parts + 1
  | .iface _ d => uptoBulk d + 1
  | .map entries => uptoBulkEntries entries + 1
  | .held _ => 1
def uptoBulkAll {H : Type} : List (DataW H) → Nat
  | [] => 0
  | d :: r => uptoBulk d + uptoBulkAll r
def uptoBulkEntries {H : Type} : List (Lit × DataW H) → Nat
  | [] => 0
  | x :: r => uptoBulkEntry x + uptoBulkEntries r
def uptoBulkEntry {H : Type} : Lit × DataW H → Nat
  | (.string bytes, d) => bytes.length + uptoBulk d + 1
  | (_, d) => uptoBulk d + 1
 end
def uptoSmall : (H : Type) → List (DataW H) → Bool := fun _ ds => decide (uptoBulkAll ds ≤ 1048576)
def OpenSpec.upto (s : _root_.Go.ChangeSpec) : _root_.Go.OpenSpec := { _root_.Go.OpenSpec.ofChange s with cond := some uptoSmall }

/-- 'deedholdlaw18.AccessLevels', WHERE WHAT IT READS IS OF BULK AT MOST 1048576: true; the input reads as it did. -/
def accessLevelsUptoRow : OpenClaim := { program := "ytemkhblogmdleaadoor", sum := "94d3a8da0897c9087bb123a4965282f04564a09c34e8fa2f25d4be234def3ff0", func := "deedhold/deedholdlaw18.AccessLevels", spec := "accessLevels", inPlace := ["slices.overlaps[int]"], named := ["deedhold/access.needs"], apart := false, laid := [("deedhold/access.needs", laid_deedhold_access_needs)], narrowed := true }
def AccessLevelsUptoSaid : Prop := accessLevelsUptoRow.holds Tryd.pinned (OpenSpec.upto accessLevelsSpec)

/-- 'deedholdlaw18.AccessRight', WHERE WHAT IT READS IS OF BULK AT MOST 1048576: true; the input reads as it did. -/
def accessRightUptoRow : OpenClaim := { program := "ytemkhblogmdleaadoor", sum := "94d3a8da0897c9087bb123a4965282f04564a09c34e8fa2f25d4be234def3ff0", func := "deedhold/deedholdlaw18.AccessRight", spec := "accessRight", inPlace := ["slices.overlaps[int]"], named := ["deedhold/access.needs"], apart := false, laid := [("deedhold/access.needs", laid_deedhold_access_needs)], narrowed := true }
def AccessRightUptoSaid : Prop := accessRightUptoRow.holds Tryd.pinned (OpenSpec.upto accessRightSpec)

/-- 'deedholdlaw18.AccessSets', WHERE WHAT IT READS IS OF BULK AT MOST 1048576: true; the input reads as it did. -/
def accessSetsUptoRow : OpenClaim := { program := "ytemkhblogmdleaadoor", sum := "94d3a8da0897c9087bb123a4965282f04564a09c34e8fa2f25d4be234def3ff0", func := "deedhold/deedholdlaw18.AccessSets", spec := "accessSets", inPlace := ["slices.overlaps[int]"], named := ["deedhold/access.needs"], apart := false, laid := [("deedhold/access.needs", laid_deedhold_access_needs)], narrowed := true }
def AccessSetsUptoSaid : Prop := accessSetsUptoRow.holds Tryd.pinned (OpenSpec.upto accessSetsSpec)

/-- 'deedholdlaw18.AccessPlays', WHERE WHAT IT READS IS OF BULK AT MOST 1048576: true; the input reads as it did. -/
def accessPlaysUptoRow : OpenClaim := { program := "ytemkhblogmdleaadoor", sum := "94d3a8da0897c9087bb123a4965282f04564a09c34e8fa2f25d4be234def3ff0", func := "deedhold/deedholdlaw18.AccessPlays", spec := "accessPlays", inPlace := ["slices.overlaps[int]"], named := ["deedhold/access.needs"], apart := false, laid := [("deedhold/access.needs", laid_deedhold_access_needs)], narrowed := true }
def AccessPlaysUptoSaid : Prop := accessPlaysUptoRow.holds Tryd.pinned (OpenSpec.upto accessPlaysSpec)

end Rows
end Go.Proofs.YtemkhblogmdleaaDoor
