/-
  No cell of these rows narrows 'for every input' (looked for: loops, veiled, ifaces, maps, wideKeys, modest, calm, conditions, laid).
  DERIVED. THE GIVEN ROWS OF THIS SEAT. 4 by the template 'for every input the law returns true; each argument reads behind the call as it read before'; 0 by the template 'total and deterministic' (their statements: YtognbljpmhhbkaaTotals.lean).
  GIVEN WITH THE SEED: the statements are not yours to turn. If you find one false, say at which input.
  Laid BY PROGRAM, IN A SANDBOX (cutbox-rows.mjs): the forced cells as the released guide's own fill.sh prints them over the translation d34ec03641fc70fb… (all of the seat's roots in one cut). By AI agents, Wed Nov 11 2026. No macro, syntax, notation, axiom, sorry.
-/
import Derived.Test.YtognbljpmhhbkaaChecked
import GoSem.Claim
import GoSem.ClaimJoined
import GoSem.ClaimMapViews
import Derived.JoinedTies
import Derived.KernelRfl
namespace Go.Proofs.Ytognbljpmhhbkaa
/- THE CELL 'sum', in the pinned program and in every row, IS THE sha256 OF THE DUMP (.gsa) THAT YtognbljpmhhbkaaProg.lean LOADS. Nothing in Lean hashes anything: it is a label: what it is worth is what the hold of that sum in a sandbox is worth. -/
noncomputable def Try.pinned : Pinned := { name := "ytognbljpmhhbkaa", sum := "d34ec03641fc70fb30393cd8d4add95bbf87b044f82e9c8621000c7e0c8f0e2a", checked := Try.checked }
namespace Rows
def none {H : Type} : Left H := { results := [], args := [] }

/-- 'deedholdlaw02.RectTiles': WHATEVER THE INPUT: true; the input reads as it did. -/
def rectTilesSpec : ChangeSpec := { name := "rectTiles", fn := fun _ => fun
  | [d1, d2, d3] => { results := [.lit (.bool true)], args := [d1, d2, d3] }
  | _ => none }
def rectTilesRow : OpenClaim := { program := "ytognbljpmhhbkaa", sum := "d34ec03641fc70fb30393cd8d4add95bbf87b044f82e9c8621000c7e0c8f0e2a", func := "deedhold/deedholdlaw02.RectTiles", spec := "rectTiles", unfollowed := true, recurses := true, apart := false }
def RectTilesSaid : Prop := rectTilesRow.holds Try.pinned (OpenSpec.ofChange rectTilesSpec)

/-- ITS FALSE NEIGHBOUR: 'it returns false'. Refute it at one input. -/
def rectTilesWrong : ChangeSpec := { name := "rectTiles", fn := fun _ => fun
  | [d1, d2, d3] => { results := [.lit (.bool false)], args := [d1, d2, d3] }
  | _ => none }
def RectTilesWrongFalsely : Prop := rectTilesRow.holds Try.pinned (OpenSpec.ofChange rectTilesWrong)

/-- 'deedholdlaw02.RectMeets': WHATEVER THE INPUT: true; the input reads as it did. -/
def rectMeetsSpec : ChangeSpec := { name := "rectMeets", fn := fun _ => fun
  | [d1, d2] => { results := [.lit (.bool true)], args := [d1, d2] }
  | _ => none }
def rectMeetsRow : OpenClaim := { program := "ytognbljpmhhbkaa", sum := "d34ec03641fc70fb30393cd8d4add95bbf87b044f82e9c8621000c7e0c8f0e2a", func := "deedhold/deedholdlaw02.RectMeets", spec := "rectMeets", unfollowed := true, recurses := true, apart := false }
def RectMeetsSaid : Prop := rectMeetsRow.holds Try.pinned (OpenSpec.ofChange rectMeetsSpec)

/-- ITS FALSE NEIGHBOUR: 'it returns false'. Refute it at one input. -/
def rectMeetsWrong : ChangeSpec := { name := "rectMeets", fn := fun _ => fun
  | [d1, d2] => { results := [.lit (.bool false)], args := [d1, d2] }
  | _ => none }
def RectMeetsWrongFalsely : Prop := rectMeetsRow.holds Try.pinned (OpenSpec.ofChange rectMeetsWrong)

/-- 'deedholdlaw02.RectJoins': WHATEVER THE INPUT: true; the input reads as it did. -/
def rectJoinsSpec : ChangeSpec := { name := "rectJoins", fn := fun _ => fun
  | [d1, d2] => { results := [.lit (.bool true)], args := [d1, d2] }
  | _ => none }
def rectJoinsRow : OpenClaim := { program := "ytognbljpmhhbkaa", sum := "d34ec03641fc70fb30393cd8d4add95bbf87b044f82e9c8621000c7e0c8f0e2a", func := "deedhold/deedholdlaw02.RectJoins", spec := "rectJoins", unfollowed := true, recurses := true, apart := false }
def RectJoinsSaid : Prop := rectJoinsRow.holds Try.pinned (OpenSpec.ofChange rectJoinsSpec)

/-- ITS FALSE NEIGHBOUR: 'it returns false'. Refute it at one input. -/
def rectJoinsWrong : ChangeSpec := { name := "rectJoins", fn := fun _ => fun
  | [d1, d2] => { results := [.lit (.bool false)], args := [d1, d2] }
  | _ => none }
def RectJoinsWrongFalsely : Prop := rectJoinsRow.holds Try.pinned (OpenSpec.ofChange rectJoinsWrong)

/-- 'deedholdlaw02.RectQuarters': WHATEVER THE INPUT: true; the input reads as it did. -/
def rectQuartersSpec : ChangeSpec := { name := "rectQuarters", fn := fun _ => fun
  | [d] => { results := [.lit (.bool true)], args := [d] }
  | _ => none }
def rectQuartersRow : OpenClaim := { program := "ytognbljpmhhbkaa", sum := "d34ec03641fc70fb30393cd8d4add95bbf87b044f82e9c8621000c7e0c8f0e2a", func := "deedhold/deedholdlaw02.RectQuarters", spec := "rectQuarters", unfollowed := true, recurses := true, apart := false }
def RectQuartersSaid : Prop := rectQuartersRow.holds Try.pinned (OpenSpec.ofChange rectQuartersSpec)

/-- ITS FALSE NEIGHBOUR: 'it returns false'. Refute it at one input. -/
def rectQuartersWrong : ChangeSpec := { name := "rectQuarters", fn := fun _ => fun
  | [d] => { results := [.lit (.bool false)], args := [d] }
  | _ => none }
def RectQuartersWrongFalsely : Prop := rectQuartersRow.holds Try.pinned (OpenSpec.ofChange rectQuartersWrong)

/- THE SECOND FORM. 'bulk': how many values and letters a reading holds, each counted each time it is reached (what is shared counts as often as it is met; a slice's spare places count too). A statement '..UptoSaid' is the law's where the arguments, and the package variables that the reading takes, are together of bulk at most 1048576: NARROWER than '..Said'. Prove '..Said' where nothing that the law and all that it calls make is longer than what came in: it says more and counts as full. Else prove '..UptoSaid'. A law counts once. -/
mutual
def uptoBulk {H : Type} : DataW H → Nat
  | .lit (.string bytes) => bytes.length + 1
  | .lit _ => 1
  | .nil => 1
  | .ptr d => uptoBulk d + 1
  | .slice elems spare => uptoBulkAll elems + uptoBulkAll spare + 1
  | .agg parts => uptoBulkAll parts + 1
  | .iface _ d => uptoBulk d + 1
  | .map entries => uptoBulkEntries entries + 1
  | .held _ => 1
def uptoBulkAll {H : Type} : List (DataW H) → Nat
  | [] => 0
  | d :: r => uptoBulk d + uptoBulkAll r
def uptoBulkEntries {H : Type} : List (Lit × DataW H) → Nat
  | [] => 0
  | x :: r => uptoBulkEntry x + uptoBulkEntries r
def uptoBulkEntry {H : Type} : Lit × DataW H → Nat
  | (.string bytes, d) => bytes.length + uptoBulk d + 1
  | (_, d) => uptoBulk d + 1
 end
def uptoSmall : (H : Type) → List (DataW H) → Bool := fun _ ds => decide (uptoBulkAll ds ≤ 1048576)
def OpenSpec.upto (s : _root_.Go.ChangeSpec) : _root_.Go.OpenSpec := { _root_.Go.OpenSpec.ofChange s with cond := some uptoSmall }

/-- 'deedholdlaw02.RectTiles', WHERE WHAT IT READS IS OF BULK AT MOST 1048576: true; the input reads as it did. -/
def rectTilesUptoRow : OpenClaim := { program := "ytognbljpmhhbkaa", sum := "d34ec03641fc70fb30393cd8d4add95bbf87b044f82e9c8621000c7e0c8f0e2a", func := "deedhold/deedholdlaw02.RectTiles", spec := "rectTiles", unfollowed := true, recurses := true, apart := false, narrowed := true }
def RectTilesUptoSaid : Prop := rectTilesUptoRow.holds Try.pinned (OpenSpec.upto rectTilesSpec)

/-- 'deedholdlaw02.RectMeets', WHERE WHAT IT READS IS OF BULK AT MOST 1048576: true; the input reads as it did. -/
def rectMeetsUptoRow : OpenClaim := { program := "ytognbljpmhhbkaa", sum := "d34ec03641fc70fb30393cd8d4add95bbf87b044f82e9c8621000c7e0c8f0e2a", func := "deedhold/deedholdlaw02.RectMeets", spec := "rectMeets", unfollowed := true, recurses := true, apart := false, narrowed := true }
def RectMeetsUptoSaid : Prop := rectMeetsUptoRow.holds Try.pinned (OpenSpec.upto rectMeetsSpec)

/-- 'deedholdlaw02.RectJoins', WHERE WHAT IT READS IS OF BULK AT MOST 1048576: true; the input reads as it did. -/
def rectJoinsUptoRow : OpenClaim := { program := "ytognbljpmhhbkaa", sum := "d34ec03641fc70fb30393cd8d4add95bbf87b044f82e9c8621000c7e0c8f0e2a", func := "deedhold/deedholdlaw02.RectJoins", spec := "rectJoins", unfollowed := true, recurses := true, apart := false, narrowed := true }
def RectJoinsUptoSaid : Prop := rectJoinsUptoRow.holds Try.pinned (OpenSpec.upto rectJoinsSpec)

/-- 'deedholdlaw02.RectQuarters', WHERE WHAT IT READS IS OF BULK AT MOST 1048576: true; the input reads as it did. -/
def rectQuartersUptoRow : OpenClaim := { program := "ytognbljpmhhbkaa", sum := "d34ec03641fc70fb30393cd8d4add95bbf87b044f82e9c8621000c7e0c8f0e2a", func := "deedhold/deedholdlaw02.RectQuarters", spec := "rectQuarters", unfollowed := true, recurses := true, apart := false, narrowed := true }
def RectQuartersUptoSaid : Prop := rectQuartersUptoRow.holds Try.pinned (OpenSpec.upto rectQuartersSpec)

end Rows
end Go.Proofs.Ytognbljpmhhbkaa
