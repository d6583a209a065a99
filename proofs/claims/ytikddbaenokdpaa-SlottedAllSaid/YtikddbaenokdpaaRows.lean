/-
  No cell of these rows narrows 'for every input' (looked for: loops, veiled, ifaces, maps, wideKeys, modest, calm, conditions, laid).
  DERIVED. THE GIVEN ROWS OF THIS SEAT. 5 by the template 'for every input the law returns true; each argument reads behind the call as it read before'; 0 by the template 'total and deterministic' (their statements: YtikddbaenokdpaaTotals.lean).
  GIVEN WITH THE SEED: the statements are not yours to turn. If you find one false, say at which input.
  Laid BY PROGRAM, IN A SANDBOX (cutbox-rows.mjs): the forced cells as the released guide's own fill.sh prints them over the translation bfff3b0b0d6876a6… (all of the seat's roots in one cut). By AI agents, Wed Nov 11 2026. No macro, syntax, notation, axiom, sorry.
-/
import Derived.Test.YtikddbaenokdpaaChecked
import GoSem.Claim
import GoSem.ClaimJoined
import GoSem.ClaimMapViews
import Derived.JoinedTies
import Derived.KernelRfl
namespace Go.Proofs.Ytikddbaenokdpaa
/- THE CELL 'sum', in the pinned program and in every row, IS THE sha256 OF THE DUMP (.gsa) THAT YtikddbaenokdpaaProg.lean LOADS. Nothing in Lean hashes anything: it is a label: what it is worth is what the hold of that sum in a sandbox is worth. -/
noncomputable def Try.pinned : Pinned := { name := "ytikddbaenokdpaa", sum := "bfff3b0b0d6876a678424c108d171d86a47c7b4cfbaffc78e60c47ced4345123", checked := Try.checked }
namespace Rows
def none {H : Type} : Left H := { results := [], args := [] }

/-- 'deedholdlaw09.SlottedPlays': WHATEVER THE INPUT: true; the input reads as it did. -/
def slottedPlaysSpec : ChangeSpec := { name := "slottedPlays", fn := fun _ => fun
  | [d1, d2] => { results := [.lit (.bool true)], args := [d1, d2] }
  | _ => none }
def slottedPlaysRow : OpenClaim := { program := "ytikddbaenokdpaa", sum := "bfff3b0b0d6876a678424c108d171d86a47c7b4cfbaffc78e60c47ced4345123", func := "deedhold/deedholdlaw09.SlottedPlays", spec := "slottedPlays", unfollowed := true, recurses := true, apart := false }
def SlottedPlaysSaid : Prop := slottedPlaysRow.holds Try.pinned (OpenSpec.ofChange slottedPlaysSpec)

/-- ITS FALSE NEIGHBOUR: 'it returns false'. Refute it at one input. -/
def slottedPlaysWrong : ChangeSpec := { name := "slottedPlays", fn := fun _ => fun
  | [d1, d2] => { results := [.lit (.bool false)], args := [d1, d2] }
  | _ => none }
def SlottedPlaysWrongFalsely : Prop := slottedPlaysRow.holds Try.pinned (OpenSpec.ofChange slottedPlaysWrong)

/-- 'deedholdlaw09.SlottedRoom': WHATEVER THE INPUT: true; the input reads as it did. -/
def slottedRoomSpec : ChangeSpec := { name := "slottedRoom", fn := fun _ => fun
  | [d1, d2] => { results := [.lit (.bool true)], args := [d1, d2] }
  | _ => none }
def slottedRoomRow : OpenClaim := { program := "ytikddbaenokdpaa", sum := "bfff3b0b0d6876a678424c108d171d86a47c7b4cfbaffc78e60c47ced4345123", func := "deedhold/deedholdlaw09.SlottedRoom", spec := "slottedRoom", unfollowed := true, recurses := true, apart := false }
def SlottedRoomSaid : Prop := slottedRoomRow.holds Try.pinned (OpenSpec.ofChange slottedRoomSpec)

/-- ITS FALSE NEIGHBOUR: 'it returns false'. Refute it at one input. -/
def slottedRoomWrong : ChangeSpec := { name := "slottedRoom", fn := fun _ => fun
  | [d1, d2] => { results := [.lit (.bool false)], args := [d1, d2] }
  | _ => none }
def SlottedRoomWrongFalsely : Prop := slottedRoomRow.holds Try.pinned (OpenSpec.ofChange slottedRoomWrong)

/-- 'deedholdlaw09.SlottedLoads': WHATEVER THE INPUT: true; the input reads as it did. -/
def slottedLoadsSpec : ChangeSpec := { name := "slottedLoads", fn := fun _ => fun
  | [d] => { results := [.lit (.bool true)], args := [d] }
  | _ => none }
def slottedLoadsRow : OpenClaim := { program := "ytikddbaenokdpaa", sum := "bfff3b0b0d6876a678424c108d171d86a47c7b4cfbaffc78e60c47ced4345123", func := "deedhold/deedholdlaw09.SlottedLoads", spec := "slottedLoads", unfollowed := true, recurses := true, apart := false }
def SlottedLoadsSaid : Prop := slottedLoadsRow.holds Try.pinned (OpenSpec.ofChange slottedLoadsSpec)

/-- ITS FALSE NEIGHBOUR: 'it returns false'. Refute it at one input. -/
def slottedLoadsWrong : ChangeSpec := { name := "slottedLoads", fn := fun _ => fun
  | [d] => { results := [.lit (.bool false)], args := [d] }
  | _ => none }
def SlottedLoadsWrongFalsely : Prop := slottedLoadsRow.holds Try.pinned (OpenSpec.ofChange slottedLoadsWrong)

/-- 'deedholdlaw09.SlottedAll': WHATEVER THE INPUT: true; the input reads as it did. -/
def slottedAllSpec : ChangeSpec := { name := "slottedAll", fn := fun _ => fun
  | [d1, d2] => { results := [.lit (.bool true)], args := [d1, d2] }
  | _ => none }
def slottedAllRow : OpenClaim := { program := "ytikddbaenokdpaa", sum := "bfff3b0b0d6876a678424c108d171d86a47c7b4cfbaffc78e60c47ced4345123", func := "deedhold/deedholdlaw09.SlottedAll", spec := "slottedAll", unfollowed := true, recurses := true, apart := false }
def SlottedAllSaid : Prop := slottedAllRow.holds Try.pinned (OpenSpec.ofChange slottedAllSpec)

/-- ITS FALSE NEIGHBOUR: 'it returns false'. Refute it at one input. -/
def slottedAllWrong : ChangeSpec := { name := "slottedAll", fn := fun _ => fun
  | [d1, d2] => { results := [.lit (.bool false)], args := [d1, d2] }
  | _ => none }
def SlottedAllWrongFalsely : Prop := slottedAllRow.holds Try.pinned (OpenSpec.ofChange slottedAllWrong)

/-- 'deedholdlaw09.SlottedMost': WHATEVER THE INPUT: true; the input reads as it did. -/
def slottedMostSpec : ChangeSpec := { name := "slottedMost", fn := fun _ => fun
  | [d1, d2] => { results := [.lit (.bool true)], args := [d1, d2] }
  | _ => none }
def slottedMostRow : OpenClaim := { program := "ytikddbaenokdpaa", sum := "bfff3b0b0d6876a678424c108d171d86a47c7b4cfbaffc78e60c47ced4345123", func := "deedhold/deedholdlaw09.SlottedMost", spec := "slottedMost", unfollowed := true, recurses := true, apart := false }
def SlottedMostSaid : Prop := slottedMostRow.holds Try.pinned (OpenSpec.ofChange slottedMostSpec)

/-- ITS FALSE NEIGHBOUR: 'it returns false'. Refute it at one input. -/
def slottedMostWrong : ChangeSpec := { name := "slottedMost", fn := fun _ => fun
  | [d1, d2] => { results := [.lit (.bool false)], args := [d1, d2] }
  | _ => none }
def SlottedMostWrongFalsely : Prop := slottedMostRow.holds Try.pinned (OpenSpec.ofChange slottedMostWrong)

/- THE SECOND FORM. 'bulk': how many values and letters a reading holds, each counted each time it is reached (what is shared counts as often as it is met; a slice's spare places count too). A statement '..UptoSaid' is the law's where the arguments, and the package variables that the reading takes, are together of bulk at most 1048576: NARROWER than '..Said'. Prove '..Said' where nothing that the law and all that it calls make is longer than what came in: it says more and counts as full. Else prove '..UptoSaid'. A law counts once. -/
mutual
def uptoBulk {H : Type} : DataW H → Nat
  | .lit (.string bytes) => bytes.length + 1
  | .lit _ => 1
  | .nil => 1
  | .ptr d => uptoBulk d + 1
  | .slice elems spare => uptoBulkAll elems + uptoBulkAll spare + 1
  | .agg parts => uptoBulkAll parts + 1
  | .iface _ d => uptoBulk d + 1
  | .map entries => uptoBulkEntries entries + 1
  | .held _ => 1
def uptoBulkAll {H : Type} : List (DataW H) → Nat
  | [] => 0
  | d :: r => uptoBulk d + uptoBulkAll r
def uptoBulkEntries {H : Type} : List (Lit × DataW H) → Nat
  | [] => 0
  | x :: r => uptoBulkEntry x + uptoBulkEntries r
def uptoBulkEntry {H : Type} : Lit × DataW H → Nat
  | (.string bytes, d) => bytes.length + uptoBulk d + 1
  | (_, d) => uptoBulk d + 1
 end
def uptoSmall : (H : Type) → List (DataW H) → Bool := fun _ ds => decide (uptoBulkAll ds ≤ 1048576)
def OpenSpec.upto (s : _root_.Go.ChangeSpec) : _root_.Go.OpenSpec := { _root_.Go.OpenSpec.ofChange s with cond := some uptoSmall }

/-- 'deedholdlaw09.SlottedPlays', WHERE WHAT IT READS IS OF BULK AT MOST 1048576: true; the input reads as it did. -/
def slottedPlaysUptoRow : OpenClaim := { program := "ytikddbaenokdpaa", sum := "bfff3b0b0d6876a678424c108d171d86a47c7b4cfbaffc78e60c47ced4345123", func := "deedhold/deedholdlaw09.SlottedPlays", spec := "slottedPlays", unfollowed := true, recurses := true, apart := false, narrowed := true }
def SlottedPlaysUptoSaid : Prop := slottedPlaysUptoRow.holds Try.pinned (OpenSpec.upto slottedPlaysSpec)

/-- 'deedholdlaw09.SlottedRoom', WHERE WHAT IT READS IS OF BULK AT MOST 1048576: true; the input reads as it did. -/
def slottedRoomUptoRow : OpenClaim := { program := "ytikddbaenokdpaa", sum := "bfff3b0b0d6876a678424c108d171d86a47c7b4cfbaffc78e60c47ced4345123", func := "deedhold/deedholdlaw09.SlottedRoom", spec := "slottedRoom", unfollowed := true, recurses := true, apart := false, narrowed := true }
def SlottedRoomUptoSaid : Prop := slottedRoomUptoRow.holds Try.pinned (OpenSpec.upto slottedRoomSpec)

/-- 'deedholdlaw09.SlottedLoads', WHERE WHAT IT READS IS OF BULK AT MOST 1048576: true; the input reads as it did. -/
def slottedLoadsUptoRow : OpenClaim := { program := "ytikddbaenokdpaa", sum := "bfff3b0b0d6876a678424c108d171d86a47c7b4cfbaffc78e60c47ced4345123", func := "deedhold/deedholdlaw09.SlottedLoads", spec := "slottedLoads", unfollowed := true, recurses := true, apart := false, narrowed := true }
def SlottedLoadsUptoSaid : Prop := slottedLoadsUptoRow.holds Try.pinned (OpenSpec.upto slottedLoadsSpec)

/-- 'deedholdlaw09.SlottedAll', WHERE WHAT IT READS IS OF BULK AT MOST 1048576: true; the input reads as it did. -/
def slottedAllUptoRow : OpenClaim := { program := "ytikddbaenokdpaa", sum := "bfff3b0b0d6876a678424c108d171d86a47c7b4cfbaffc78e60c47ced4345123", func := "deedhold/deedholdlaw09.SlottedAll", spec := "slottedAll", unfollowed := true, recurses := true, apart := false, narrowed := true }
def SlottedAllUptoSaid : Prop := slottedAllUptoRow.holds Try.pinned (OpenSpec.upto slottedAllSpec)

/-- 'deedholdlaw09.SlottedMost', WHERE WHAT IT READS IS OF BULK AT MOST 1048576: true; the input reads as it did. -/
def slottedMostUptoRow : OpenClaim := { program := "ytikddbaenokdpaa", sum := "bfff3b0b0d6876a678424c108d171d86a47c7b4cfbaffc78e60c47ced4345123", func := "deedhold/deedholdlaw09.SlottedMost", spec := "slottedMost", unfollowed := true, recurses := true, apart := false, narrowed := true }
def SlottedMostUptoSaid : Prop := slottedMostUptoRow.holds Try.pinned (OpenSpec.upto slottedMostSpec)

end Rows
end Go.Proofs.Ytikddbaenokdpaa
