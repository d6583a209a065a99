/-
  No cell of these rows narrows 'for every input' (looked for: loops, veiled, ifaces, maps, wideKeys, modest, calm, conditions, laid).
  DERIVED. THE GIVEN ROWS OF THIS SEAT. 4 by the template 'for every input the law returns true; each argument reads behind the call as it read before'; 0 by the template 'total and deterministic' (their statements: YtknkcdhdfojifaaTotals.lean).
  GIVEN WITH THE SEED: the statements are not yours to turn. If you find one false, say at which input.
  Laid BY PROGRAM, IN A SANDBOX (cutbox-rows.mjs): the forced cells as the released guide's own fill.sh prints them over the translation a4339f181bc58643… (all of the seat's roots in one cut). By AI agents, Wed Nov 11 2026. No macro, syntax, notation, axiom, sorry.
-/
import Derived.Test.YtknkcdhdfojifaaChecked
import GoSem.Claim
import GoSem.ClaimJoined
import GoSem.ClaimMapViews
import Derived.JoinedTies
import Derived.KernelRfl
namespace Go.Proofs.Ytknkcdhdfojifaa
/- THE CELL 'sum', in the pinned program and in every row, IS THE sha256 OF THE DUMP (.gsa) THAT YtknkcdhdfojifaaProg.lean LOADS. Nothing in Lean hashes anything: it is a label: what it is worth is what the hold of that sum in a sandbox is worth. -/
noncomputable def Try.pinned : Pinned := { name := "ytknkcdhdfojifaa", sum := "a4339f181bc5864378f60b314f95d25e05f063b24cbe0f85d00c05f66424268e", checked := Try.checked }
namespace Rows
def none {H : Type} : Left H := { results := [], args := [] }

/-- 'deedholdlaw22.ChestPlays': WHATEVER THE INPUT: true; the input reads as it did. -/
def chestPlaysSpec : ChangeSpec := { name := "chestPlays", fn := fun _ => fun
  | [d] => { results := [.lit (.bool true)], args := [d] }
  | _ => none }
def chestPlaysRow : OpenClaim := { program := "ytknkcdhdfojifaa", sum := "a4339f181bc5864378f60b314f95d25e05f063b24cbe0f85d00c05f66424268e", func := "deedhold/deedholdlaw22.ChestPlays", spec := "chestPlays", unfollowed := true, recurses := true, apart := false }
def ChestPlaysSaid : Prop := chestPlaysRow.holds Try.pinned (OpenSpec.ofChange chestPlaysSpec)

/-- ITS FALSE NEIGHBOUR: 'it returns false'. Refute it at one input. -/
def chestPlaysWrong : ChangeSpec := { name := "chestPlays", fn := fun _ => fun
  | [d] => { results := [.lit (.bool false)], args := [d] }
  | _ => none }
def ChestPlaysWrongFalsely : Prop := chestPlaysRow.holds Try.pinned (OpenSpec.ofChange chestPlaysWrong)

/-- 'deedholdlaw22.ChestMay': WHATEVER THE INPUT: true; the input reads as it did. -/
def chestMaySpec : ChangeSpec := { name := "chestMay", fn := fun _ => fun
  | [d1, d2, d3] => { results := [.lit (.bool true)], args := [d1, d2, d3] }
  | _ => none }
def chestMayRow : OpenClaim := { program := "ytknkcdhdfojifaa", sum := "a4339f181bc5864378f60b314f95d25e05f063b24cbe0f85d00c05f66424268e", func := "deedhold/deedholdlaw22.ChestMay", spec := "chestMay", apart := false }
def ChestMaySaid : Prop := chestMayRow.holds Try.pinned (OpenSpec.ofChange chestMaySpec)

/-- ITS FALSE NEIGHBOUR: 'it returns false'. Refute it at one input. -/
def chestMayWrong : ChangeSpec := { name := "chestMay", fn := fun _ => fun
  | [d1, d2, d3] => { results := [.lit (.bool false)], args := [d1, d2, d3] }
  | _ => none }
def ChestMayWrongFalsely : Prop := chestMayRow.holds Try.pinned (OpenSpec.ofChange chestMayWrong)

/-- 'deedholdlaw22.ChestRestores': WHATEVER THE INPUT: true; the input reads as it did. -/
def chestRestoresSpec : ChangeSpec := { name := "chestRestores", fn := fun _ => fun
  | [d] => { results := [.lit (.bool true)], args := [d] }
  | _ => none }
def chestRestoresRow : OpenClaim := { program := "ytknkcdhdfojifaa", sum := "a4339f181bc5864378f60b314f95d25e05f063b24cbe0f85d00c05f66424268e", func := "deedhold/deedholdlaw22.ChestRestores", spec := "chestRestores", unfollowed := true, recurses := true, apart := false }
def ChestRestoresSaid : Prop := chestRestoresRow.holds Try.pinned (OpenSpec.ofChange chestRestoresSpec)

/-- ITS FALSE NEIGHBOUR: 'it returns false'. Refute it at one input. -/
def chestRestoresWrong : ChangeSpec := { name := "chestRestores", fn := fun _ => fun
  | [d] => { results := [.lit (.bool false)], args := [d] }
  | _ => none }
def ChestRestoresWrongFalsely : Prop := chestRestoresRow.holds Try.pinned (OpenSpec.ofChange chestRestoresWrong)

/-- 'deedholdlaw22.ChestCopies': WHATEVER THE INPUT: true; the input reads as it did. -/
def chestCopiesSpec : ChangeSpec := { name := "chestCopies", fn := fun _ => fun
  | [d1, d2] => { results := [.lit (.bool true)], args := [d1, d2] }
  | _ => none }
def chestCopiesRow : OpenClaim := { program := "ytknkcdhdfojifaa", sum := "a4339f181bc5864378f60b314f95d25e05f063b24cbe0f85d00c05f66424268e", func := "deedhold/deedholdlaw22.ChestCopies", spec := "chestCopies", unfollowed := true, recurses := true, apart := false }
def ChestCopiesSaid : Prop := chestCopiesRow.holds Try.pinned (OpenSpec.ofChange chestCopiesSpec)

/-- ITS FALSE NEIGHBOUR: 'it returns false'. Refute it at one input. -/
def chestCopiesWrong : ChangeSpec := { name := "chestCopies", fn := fun _ => fun
  | [d1, d2] => { results := [.lit (.bool false)], args := [d1, d2] }
  | _ => none }
def ChestCopiesWrongFalsely : Prop := chestCopiesRow.holds Try.pinned (OpenSpec.ofChange chestCopiesWrong)

/- THE SECOND FORM. 'bulk': how many values and letters a reading holds, each counted each time it is reached (what is shared counts as often as it is met; a slice's spare places count too). A statement '..UptoSaid' is the law's where the arguments, and the package variables that the reading takes, are together of bulk at most 1048576: NARROWER than '..Said'. Prove '..Said' where nothing that the law and all that it calls make is longer than what came in: it says more and counts as full. Else prove '..UptoSaid'. A law counts once. -/
mutual
def uptoBulk {H : Type} : DataW H → Nat
  | .lit (.string bytes) => bytes.length + 1
  | .lit _ => 1
  | .nil => 1
  | .ptr d => uptoBulk d + 1
  | .slice elems spare => uptoBulkAll elems + uptoBulkAll spare + 1
  | .agg parts => uptoBulkAll parts + 1
  | .iface _ d => uptoBulk d + 1
  | .map entries => uptoBulkEntries entries + 1
  | .held _ => 1
def uptoBulkAll {H : Type} : List (DataW H) → Nat
  | [] => 0
  | d :: r => uptoBulk d + uptoBulkAll r
def uptoBulkEntries {H : Type} : List (Lit × DataW H) → Nat
  | [] => 0
  | x :: r => uptoBulkEntry x + uptoBulkEntries r
def uptoBulkEntry {H : Type} : Lit × DataW H → Nat
  | (.string bytes, d) => bytes.length + uptoBulk d + 1
  | (_, d) => uptoBulk d + 1
 end
def uptoSmall : (H : Type) → List (DataW H) → Bool := fun _ ds => decide (uptoBulkAll ds ≤ 1048576)
def OpenSpec.upto (s : _root_.Go.ChangeSpec) : _root_.Go.OpenSpec := { _root_.Go.OpenSpec.ofChange s with cond := some uptoSmall }

/-- 'deedholdlaw22.ChestPlays', WHERE WHAT IT READS IS OF BULK AT MOST 1048576: true; the input reads as it did. -/
def chestPlaysUptoRow : OpenClaim := { program := "ytknkcdhdfojifaa", sum := "a4339f181bc5864378f60b314f95d25e05f063b24cbe0f85d00c05f66424268e", func := "deedhold/deedholdlaw22.ChestPlays", spec := "chestPlays", unfollowed := true, recurses := true, apart := false, narrowed := true }
def ChestPlaysUptoSaid : Prop := chestPlaysUptoRow.holds Try.pinned (OpenSpec.upto chestPlaysSpec)

/-- 'deedholdlaw22.ChestMay', WHERE WHAT IT READS IS OF BULK AT MOST 1048576: true; the input reads as it did. -/
def chestMayUptoRow : OpenClaim := { program := "ytknkcdhdfojifaa", sum := "a4339f181bc5864378f60b314f95d25e05f063b24cbe0f85d00c05f66424268e", func := "deedhold/deedholdlaw22.ChestMay", spec := "chestMay", apart := false, narrowed := true }
def ChestMayUptoSaid : Prop := chestMayUptoRow.holds Try.pinned (OpenSpec.upto chestMaySpec)

/-- 'deedholdlaw22.ChestRestores', WHERE WHAT IT READS IS OF BULK AT MOST 1048576: true; the input reads as it did. -/
def chestRestoresUptoRow : OpenClaim := { program := "ytknkcdhdfojifaa", sum := "a4339f181bc5864378f60b314f95d25e05f063b24cbe0f85d00c05f66424268e", func := "deedhold/deedholdlaw22.ChestRestores", spec := "chestRestores", unfollowed := true, recurses := true, apart := false, narrowed := true }
def ChestRestoresUptoSaid : Prop := chestRestoresUptoRow.holds Try.pinned (OpenSpec.upto chestRestoresSpec)

/-- 'deedholdlaw22.ChestCopies', WHERE WHAT IT READS IS OF BULK AT MOST 1048576: true; the input reads as it did. -/
def chestCopiesUptoRow : OpenClaim := { program := "ytknkcdhdfojifaa", sum := "a4339f181bc5864378f60b314f95d25e05f063b24cbe0f85d00c05f66424268e", func := "deedhold/deedholdlaw22.ChestCopies", spec := "chestCopies", unfollowed := true, recurses := true, apart := false, narrowed := true }
def ChestCopiesUptoSaid : Prop := chestCopiesUptoRow.holds Try.pinned (OpenSpec.upto chestCopiesSpec)

end Rows
end Go.Proofs.Ytknkcdhdfojifaa
