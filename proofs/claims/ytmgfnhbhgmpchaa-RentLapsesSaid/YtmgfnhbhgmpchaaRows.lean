/-
  No cell of these rows narrows 'for every input' (looked for: loops, veiled, ifaces, maps, wideKeys, modest, calm, conditions, laid).
  DERIVED. THE GIVEN ROWS OF THIS SEAT. 5 by the template 'for every input the law returns true; each argument reads behind the call as it read before'; 0 by the template 'total and deterministic' (their statements: YtmgfnhbhgmpchaaTotals.lean).
  GIVEN WITH THE SEED: the statements are not yours to turn. If you find one false, say at which input.
  Laid BY PROGRAM, IN A SANDBOX (cutbox-rows.mjs): the forced cells as the released guide's own fill.sh prints them over the translation bf6a30300da78f6b… (all of the seat's roots in one cut). By AI agents, Wed Nov 11 2026. No macro, syntax, notation, axiom, sorry.
-/
import Derived.Test.YtmgfnhbhgmpchaaChecked
import GoSem.Claim
import GoSem.ClaimJoined
import GoSem.ClaimMapViews
import Derived.JoinedTies
import Derived.KernelRfl
namespace Go.Proofs.Ytmgfnhbhgmpchaa
/- THE CELL 'sum', in the pinned program and in every row, IS THE sha256 OF THE DUMP (.gsa) THAT YtmgfnhbhgmpchaaProg.lean LOADS. Nothing in Lean hashes anything: it is a label: what it is worth is what the hold of that sum in a sandbox is worth. -/
noncomputable def Try.pinned : Pinned := { name := "ytmgfnhbhgmpchaa", sum := "bf6a30300da78f6b90f4b4b1b0773c5398c8299ff5d962574e3d2dca3d40c980", checked := Try.checked }
namespace Rows
def none {H : Type} : Left H := { results := [], args := [] }

/-- 'deedholdlaw24.RentPlays': WHATEVER THE INPUT: true; the input reads as it did. -/
def rentPlaysSpec : ChangeSpec := { name := "rentPlays", fn := fun _ => fun
  | [d] => { results := [.lit (.bool true)], args := [d] }
  | _ => none }
def rentPlaysRow : OpenClaim := { program := "ytmgfnhbhgmpchaa", sum := "bf6a30300da78f6b90f4b4b1b0773c5398c8299ff5d962574e3d2dca3d40c980", func := "deedhold/deedholdlaw24.RentPlays", spec := "rentPlays", unfollowed := true, recurses := true, apart := false }
def RentPlaysSaid : Prop := rentPlaysRow.holds Try.pinned (OpenSpec.ofChange rentPlaysSpec)

/-- ITS FALSE NEIGHBOUR: 'it returns false'. Refute it at one input. -/
def rentPlaysWrong : ChangeSpec := { name := "rentPlays", fn := fun _ => fun
  | [d] => { results := [.lit (.bool false)], args := [d] }
  | _ => none }
def RentPlaysWrongFalsely : Prop := rentPlaysRow.holds Try.pinned (OpenSpec.ofChange rentPlaysWrong)

/-- 'deedholdlaw24.RentStages': WHATEVER THE INPUT: true; the input reads as it did. -/
def rentStagesSpec : ChangeSpec := { name := "rentStages", fn := fun _ => fun
  | [d1, d2] => { results := [.lit (.bool true)], args := [d1, d2] }
  | _ => none }
def rentStagesRow : OpenClaim := { program := "ytmgfnhbhgmpchaa", sum := "bf6a30300da78f6b90f4b4b1b0773c5398c8299ff5d962574e3d2dca3d40c980", func := "deedhold/deedholdlaw24.RentStages", spec := "rentStages", apart := false }
def RentStagesSaid : Prop := rentStagesRow.holds Try.pinned (OpenSpec.ofChange rentStagesSpec)

/-- ITS FALSE NEIGHBOUR: 'it returns false'. Refute it at one input. -/
def rentStagesWrong : ChangeSpec := { name := "rentStages", fn := fun _ => fun
  | [d1, d2] => { results := [.lit (.bool false)], args := [d1, d2] }
  | _ => none }
def RentStagesWrongFalsely : Prop := rentStagesRow.holds Try.pinned (OpenSpec.ofChange rentStagesWrong)

/-- 'deedholdlaw24.RentLapses': WHATEVER THE INPUT: true; the input reads as it did. -/
def rentLapsesSpec : ChangeSpec := { name := "rentLapses", fn := fun _ => fun
  | [d1, d2, d3] => { results := [.lit (.bool true)], args := [d1, d2, d3] }
  | _ => none }
def rentLapsesRow : OpenClaim := { program := "ytmgfnhbhgmpchaa", sum := "bf6a30300da78f6b90f4b4b1b0773c5398c8299ff5d962574e3d2dca3d40c980", func := "deedhold/deedholdlaw24.RentLapses", spec := "rentLapses", unfollowed := true, recurses := true, apart := false }
def RentLapsesSaid : Prop := rentLapsesRow.holds Try.pinned (OpenSpec.ofChange rentLapsesSpec)

/-- ITS FALSE NEIGHBOUR: 'it returns false'. Refute it at one input. -/
def rentLapsesWrong : ChangeSpec := { name := "rentLapses", fn := fun _ => fun
  | [d1, d2, d3] => { results := [.lit (.bool false)], args := [d1, d2, d3] }
  | _ => none }
def RentLapsesWrongFalsely : Prop := rentLapsesRow.holds Try.pinned (OpenSpec.ofChange rentLapsesWrong)

/-- 'deedholdlaw24.RentRestores': WHATEVER THE INPUT: true; the input reads as it did. -/
def rentRestoresSpec : ChangeSpec := { name := "rentRestores", fn := fun _ => fun
  | [d1, d2] => { results := [.lit (.bool true)], args := [d1, d2] }
  | _ => none }
def rentRestoresRow : OpenClaim := { program := "ytmgfnhbhgmpchaa", sum := "bf6a30300da78f6b90f4b4b1b0773c5398c8299ff5d962574e3d2dca3d40c980", func := "deedhold/deedholdlaw24.RentRestores", spec := "rentRestores", inPlace := ["maps.clone"], unfollowed := true, recurses := true, apart := false }
def RentRestoresSaid : Prop := rentRestoresRow.holds Try.pinned (OpenSpec.ofChange rentRestoresSpec)

/-- ITS FALSE NEIGHBOUR: 'it returns false'. Refute it at one input. -/
def rentRestoresWrong : ChangeSpec := { name := "rentRestores", fn := fun _ => fun
  | [d1, d2] => { results := [.lit (.bool false)], args := [d1, d2] }
  | _ => none }
def RentRestoresWrongFalsely : Prop := rentRestoresRow.holds Try.pinned (OpenSpec.ofChange rentRestoresWrong)

/-- 'deedholdlaw24.RentPays': WHATEVER THE INPUT: true; the input reads as it did. -/
def rentPaysSpec : ChangeSpec := { name := "rentPays", fn := fun _ => fun
  | [d1, d2, d3] => { results := [.lit (.bool true)], args := [d1, d2, d3] }
  | _ => none }
def rentPaysRow : OpenClaim := { program := "ytmgfnhbhgmpchaa", sum := "bf6a30300da78f6b90f4b4b1b0773c5398c8299ff5d962574e3d2dca3d40c980", func := "deedhold/deedholdlaw24.RentPays", spec := "rentPays", apart := false }
def RentPaysSaid : Prop := rentPaysRow.holds Try.pinned (OpenSpec.ofChange rentPaysSpec)

/-- ITS FALSE NEIGHBOUR: 'it returns false'. Refute it at one input. -/
def rentPaysWrong : ChangeSpec := { name := "rentPays", fn := fun _ => fun
  | [d1, d2, d3] => { results := [.lit (.bool false)], args := [d1, d2, d3] }
  | _ => none }
def RentPaysWrongFalsely : Prop := rentPaysRow.holds Try.pinned (OpenSpec.ofChange rentPaysWrong)

/- THE SECOND FORM. 'bulk': how many values and letters a reading holds, each counted each time it is reached (what is shared counts as often as it is met; a slice's spare places count too). A statement '..UptoSaid' is the law's where the arguments, and the package variables that the reading takes, are together of bulk at most 1048576: NARROWER than '..Said'. Prove '..Said' where nothing that the law and all that it calls make is longer than what came in: it says more and counts as full. Else prove '..UptoSaid'. A law counts once. -/
mutual
def uptoBulk {H : Type} : DataW H → Nat
  | .lit (.string bytes) => bytes.length + 1
  | .lit _ => 1
  | .nil => 1
  | .ptr d => uptoBulk d + 1
  | .slice elems spare => uptoBulkAll elems + uptoBulkAll spare + 1
  | .agg parts => uptoBulkAll parts + 1
  | .iface _ d => uptoBulk d + 1
  | .map entries => uptoBulkEntries entries + 1
  | .held _ => 1
def uptoBulkAll {H : Type} : List (DataW H) → Nat
  | [] => 0
  | d :: r => uptoBulk d + uptoBulkAll r
def uptoBulkEntries {H : Type} : List (Lit × DataW H) → Nat
  | [] => 0
  | x :: r => uptoBulkEntry x + uptoBulkEntries r
def uptoBulkEntry {H : Type} : Lit × DataW H → Nat
  | (.string bytes, d) => bytes.length + uptoBulk d + 1
  | (_, d) => uptoBulk d + 1
 end
def uptoSmall : (H : Type) → List (DataW H) → Bool := fun _ ds => decide (uptoBulkAll ds ≤ 1048576)
def OpenSpec.upto (s : _root_.Go.ChangeSpec) : _root_.Go.OpenSpec := { _root_.Go.OpenSpec.ofChange s with cond := some uptoSmall }

/-- 'deedholdlaw24.RentPlays', WHERE WHAT IT READS IS OF BULK AT MOST 1048576: true; the input reads as it did. -/
def rentPlaysUptoRow : OpenClaim := { program := "ytmgfnhbhgmpchaa", sum := "bf6a30300da78f6b90f4b4b1b0773c5398c8299ff5d962574e3d2dca3d40c980", func := "deedhold/deedholdlaw24.RentPlays", spec := "rentPlays", unfollowed := true, recurses := true, apart := false, narrowed := true }
def RentPlaysUptoSaid : Prop := rentPlaysUptoRow.holds Try.pinned (OpenSpec.upto rentPlaysSpec)

/-- 'deedholdlaw24.RentStages', WHERE WHAT IT READS IS OF BULK AT MOST 1048576: true; the input reads as it did. -/
def rentStagesUptoRow : OpenClaim := { program := "ytmgfnhbhgmpchaa", sum := "bf6a30300da78f6b90f4b4b1b0773c5398c8299ff5d962574e3d2dca3d40c980", func := "deedhold/deedholdlaw24.RentStages", spec := "rentStages", apart := false, narrowed := true }
def RentStagesUptoSaid : Prop := rentStagesUptoRow.holds Try.pinned (OpenSpec.upto rentStagesSpec)

/-- 'deedholdlaw24.RentLapses', WHERE WHAT IT READS IS OF BULK AT MOST 1048576: true; the input reads as it did. -/
def rentLapsesUptoRow : OpenClaim := { program := "ytmgfnhbhgmpchaa", sum := "bf6a30300da78f6b90f4b4b1b0773c5398c8299ff5d962574e3d2dca3d40c980", func := "deedhold/deedholdlaw24.RentLapses", spec := "rentLapses", unfollowed := true, recurses := true, apart := false, narrowed := true }
def RentLapsesUptoSaid : Prop := rentLapsesUptoRow.holds Try.pinned (OpenSpec.upto rentLapsesSpec)

/-- 'deedholdlaw24.RentRestores', WHERE WHAT IT READS IS OF BULK AT MOST 1048576: true; the input reads as it did. -/
def rentRestoresUptoRow : OpenClaim := { program := "ytmgfnhbhgmpchaa", sum := "bf6a30300da78f6b90f4b4b1b0773c5398c8299ff5d962574e3d2dca3d40c980", func := "deedhold/deedholdlaw24.RentRestores", spec := "rentRestores", inPlace := ["maps.clone"], unfollowed := true, recurses := true, apart := false, narrowed := true }
def RentRestoresUptoSaid : Prop := rentRestoresUptoRow.holds Try.pinned (OpenSpec.upto rentRestoresSpec)

/-- 'deedholdlaw24.RentPays', WHERE WHAT IT READS IS OF BULK AT MOST 1048576: true; the input reads as it did. -/
def rentPaysUptoRow : OpenClaim := { program := "ytmgfnhbhgmpchaa", sum := "bf6a30300da78f6b90f4b4b1b0773c5398c8299ff5d962574e3d2dca3d40c980", func := "deedhold/deedholdlaw24.RentPays", spec := "rentPays", apart := false, narrowed := true }
def RentPaysUptoSaid : Prop := rentPaysUptoRow.holds Try.pinned (OpenSpec.upto rentPaysSpec)

end Rows
end Go.Proofs.Ytmgfnhbhgmpchaa
