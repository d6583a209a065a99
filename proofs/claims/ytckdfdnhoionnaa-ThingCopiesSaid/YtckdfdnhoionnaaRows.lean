/-
  No cell of these rows narrows 'for every input' (looked for: loops, veiled, ifaces, maps, wideKeys, modest, calm, conditions, laid).
  DERIVED. THE GIVEN ROWS OF THIS SEAT. 5 by the template 'for every input the law returns true; each argument reads behind the call as it read before'; 0 by the template 'total and deterministic' (their statements: YtckdfdnhoionnaaTotals.lean).
  GIVEN WITH THE SEED: the statements are not yours to turn. If you find one false, say at which input.
  Laid BY PROGRAM, IN A SANDBOX (cutbox-rows.mjs): the forced cells as the released guide's own fill.sh prints them over the translation 4550576536559445… (all of the seat's roots in one cut). By AI agents, Wed Nov 11 2026. No macro, syntax, notation, axiom, sorry.
-/
import Derived.Test.YtckdfdnhoionnaaChecked
import GoSem.Claim
import GoSem.ClaimJoined
import GoSem.ClaimMapViews
import Derived.JoinedTies
import Derived.KernelRfl
namespace Go.Proofs.Ytckdfdnhoionnaa
/- THE CELL 'sum', in the pinned program and in every row, IS THE sha256 OF THE DUMP (.gsa) THAT YtckdfdnhoionnaaProg.lean LOADS. Nothing in Lean hashes anything: it is a label: what it is worth is what the hold of that sum in a sandbox is worth. -/
noncomputable def Try.pinned : Pinned := { name := "ytckdfdnhoionnaa", sum := "4550576536559445561763a38d7696ec9636aae7e33396bacca1e33520f72975", checked := Try.checked }
namespace Rows
def none {H : Type} : Left H := { results := [], args := [] }

/-- 'deedholdlaw21.ThingPlays': WHATEVER THE INPUT: true; the input reads as it did. -/
def thingPlaysSpec : ChangeSpec := { name := "thingPlays", fn := fun _ => fun
  | [d] => { results := [.lit (.bool true)], args := [d] }
  | _ => none }
def thingPlaysRow : OpenClaim := { program := "ytckdfdnhoionnaa", sum := "4550576536559445561763a38d7696ec9636aae7e33396bacca1e33520f72975", func := "deedhold/deedholdlaw21.ThingPlays", spec := "thingPlays", inPlace := ["slices.overlaps[int]"], unfollowed := true, recurses := true, plainKeys := false, apart := false }
def ThingPlaysSaid : Prop := thingPlaysRow.holds Try.pinned (OpenSpec.ofChange thingPlaysSpec)

/-- ITS FALSE NEIGHBOUR: 'it returns false'. Refute it at one input. -/
def thingPlaysWrong : ChangeSpec := { name := "thingPlays", fn := fun _ => fun
  | [d] => { results := [.lit (.bool false)], args := [d] }
  | _ => none }
def ThingPlaysWrongFalsely : Prop := thingPlaysRow.holds Try.pinned (OpenSpec.ofChange thingPlaysWrong)

/-- 'deedholdlaw21.ThingFinds': WHATEVER THE INPUT: true; the input reads as it did. -/
def thingFindsSpec : ChangeSpec := { name := "thingFinds", fn := fun _ => fun
  | [d1, d2] => { results := [.lit (.bool true)], args := [d1, d2] }
  | _ => none }
def thingFindsRow : OpenClaim := { program := "ytckdfdnhoionnaa", sum := "4550576536559445561763a38d7696ec9636aae7e33396bacca1e33520f72975", func := "deedhold/deedholdlaw21.ThingFinds", spec := "thingFinds", inPlace := ["slices.overlaps[int]"], unfollowed := true, recurses := true, plainKeys := false, apart := false }
def ThingFindsSaid : Prop := thingFindsRow.holds Try.pinned (OpenSpec.ofChange thingFindsSpec)

/-- ITS FALSE NEIGHBOUR: 'it returns false'. Refute it at one input. -/
def thingFindsWrong : ChangeSpec := { name := "thingFinds", fn := fun _ => fun
  | [d1, d2] => { results := [.lit (.bool false)], args := [d1, d2] }
  | _ => none }
def ThingFindsWrongFalsely : Prop := thingFindsRow.holds Try.pinned (OpenSpec.ofChange thingFindsWrong)

/-- 'deedholdlaw21.ThingPlaces': WHATEVER THE INPUT: true; the input reads as it did. -/
def thingPlacesSpec : ChangeSpec := { name := "thingPlaces", fn := fun _ => fun
  | [d] => { results := [.lit (.bool true)], args := [d] }
  | _ => none }
def thingPlacesRow : OpenClaim := { program := "ytckdfdnhoionnaa", sum := "4550576536559445561763a38d7696ec9636aae7e33396bacca1e33520f72975", func := "deedhold/deedholdlaw21.ThingPlaces", spec := "thingPlaces", inPlace := ["slices.overlaps[int]"], unfollowed := true, recurses := true, plainKeys := false, apart := false }
def ThingPlacesSaid : Prop := thingPlacesRow.holds Try.pinned (OpenSpec.ofChange thingPlacesSpec)

/-- ITS FALSE NEIGHBOUR: 'it returns false'. Refute it at one input. -/
def thingPlacesWrong : ChangeSpec := { name := "thingPlaces", fn := fun _ => fun
  | [d] => { results := [.lit (.bool false)], args := [d] }
  | _ => none }
def ThingPlacesWrongFalsely : Prop := thingPlacesRow.holds Try.pinned (OpenSpec.ofChange thingPlacesWrong)

/-- 'deedholdlaw21.ThingRestores': WHATEVER THE INPUT: true; the input reads as it did. -/
def thingRestoresSpec : ChangeSpec := { name := "thingRestores", fn := fun _ => fun
  | [d1, d2] => { results := [.lit (.bool true)], args := [d1, d2] }
  | _ => none }
def thingRestoresRow : OpenClaim := { program := "ytckdfdnhoionnaa", sum := "4550576536559445561763a38d7696ec9636aae7e33396bacca1e33520f72975", func := "deedhold/deedholdlaw21.ThingRestores", spec := "thingRestores", inPlace := ["slices.overlaps[int]"], unfollowed := true, recurses := true, plainKeys := false, apart := false }
def ThingRestoresSaid : Prop := thingRestoresRow.holds Try.pinned (OpenSpec.ofChange thingRestoresSpec)

/-- ITS FALSE NEIGHBOUR: 'it returns false'. Refute it at one input. -/
def thingRestoresWrong : ChangeSpec := { name := "thingRestores", fn := fun _ => fun
  | [d1, d2] => { results := [.lit (.bool false)], args := [d1, d2] }
  | _ => none }
def ThingRestoresWrongFalsely : Prop := thingRestoresRow.holds Try.pinned (OpenSpec.ofChange thingRestoresWrong)

/-- 'deedholdlaw21.ThingCopies': WHATEVER THE INPUT: true; the input reads as it did. -/
def thingCopiesSpec : ChangeSpec := { name := "thingCopies", fn := fun _ => fun
  | [d1, d2] => { results := [.lit (.bool true)], args := [d1, d2] }
  | _ => none }
def thingCopiesRow : OpenClaim := { program := "ytckdfdnhoionnaa", sum := "4550576536559445561763a38d7696ec9636aae7e33396bacca1e33520f72975", func := "deedhold/deedholdlaw21.ThingCopies", spec := "thingCopies", inPlace := ["slices.overlaps[int]"], unfollowed := true, recurses := true, plainKeys := false, apart := false }
def ThingCopiesSaid : Prop := thingCopiesRow.holds Try.pinned (OpenSpec.ofChange thingCopiesSpec)

/-- ITS FALSE NEIGHBOUR: 'it returns false'. Refute it at one input. -/
def thingCopiesWrong : ChangeSpec := { name := "thingCopies", fn := fun _ => fun
  | [d1, d2] => { results := [.lit (.bool false)], args := [d1, d2] }
  | _ => none }
def ThingCopiesWrongFalsely : Prop := thingCopiesRow.holds Try.pinned (OpenSpec.ofChange thingCopiesWrong)

/- THE SECOND FORM. 'bulk': how many values and letters a reading holds, each counted each time it is reached (what is shared counts as often as it is met; a slice's spare places count too). A statement '..UptoSaid' is the law's where the arguments, and the package variables that the reading takes, are together of bulk at most 1048576: NARROWER than '..Said'. Prove '..Said' where nothing that the law and all that it calls make is longer than what came in: it says more and counts as full. Else prove '..UptoSaid'. A law counts once. -/
mutual
def uptoBulk {H : Type} : DataW H → Nat
  | .lit (.string bytes) => bytes.length + 1
  | .lit _ => 1
  | .nil => 1
  | .ptr d => uptoBulk d + 1
  | .slice elems spare => uptoBulkAll elems + uptoBulkAll spare + 1
  | .agg parts => uptoBulkAll parts + 1
  | .iface _ d => uptoBulk d + 1
  | .map entries => uptoBulkEntries entries + 1
  | .held _ => 1
def uptoBulkAll {H : Type} : List (DataW H) → Nat
  | [] => 0
  | d :: r => uptoBulk d + uptoBulkAll r
def uptoBulkEntries {H : Type} : List (Lit × DataW H) → Nat
  | [] => 0
  | x :: r => uptoBulkEntry x + uptoBulkEntries r
def uptoBulkEntry {H : Type} : Lit × DataW H → Nat
  | (.string bytes, d) => bytes.length + uptoBulk d + 1
  | (_, d) => uptoBulk d + 1
 end
def uptoSmall : (H : Type) → List (DataW H) → Bool := fun _ ds => decide (uptoBulkAll ds ≤ 1048576)
def OpenSpec.upto (s : _root_.Go.ChangeSpec) : _root_.Go.OpenSpec := { _root_.Go.OpenSpec.ofChange s with cond := some uptoSmall }

/-- 'deedholdlaw21.ThingPlays', WHERE WHAT IT READS IS OF BULK AT MOST 1048576: true; the input reads as it did. -/
def thingPlaysUptoRow : OpenClaim := { program := "ytckdfdnhoionnaa", sum := "4550576536559445561763a38d7696ec9636aae7e33396bacca1e33520f72975", func := "deedhold/deedholdlaw21.ThingPlays", spec := "thingPlays", inPlace := ["slices.overlaps[int]"], unfollowed := true, recurses := true, plainKeys := false, apart := false, narrowed := true }
def ThingPlaysUptoSaid : Prop := thingPlaysUptoRow.holds Try.pinned (OpenSpec.upto thingPlaysSpec)

/-- 'deedholdlaw21.ThingFinds', WHERE WHAT IT READS IS OF BULK AT MOST 1048576: true; the input reads as it did. -/
def thingFindsUptoRow : OpenClaim := { program := "ytckdfdnhoionnaa", sum := "4550576536559445561763a38d7696ec9636aae7e33396bacca1e33520f72975", func := "deedhold/deedholdlaw21.ThingFinds", spec := "thingFinds", inPlace := ["slices.overlaps[int]"], unfollowed := true, recurses := true, plainKeys := false, apart := false, narrowed := true }
def ThingFindsUptoSaid : Prop := thingFindsUptoRow.holds Try.pinned (OpenSpec.upto thingFindsSpec)

/-- 'deedholdlaw21.ThingPlaces', WHERE WHAT IT READS IS OF BULK AT MOST 1048576: true; the input reads as it did. -/
def thingPlacesUptoRow : OpenClaim := { program := "ytckdfdnhoionnaa", sum := "4550576536559445561763a38d7696ec9636aae7e33396bacca1e33520f72975", func := "deedhold/deedholdlaw21.ThingPlaces", spec := "thingPlaces", inPlace := ["slices.overlaps[int]"], unfollowed := true, recurses := true, plainKeys := false, apart := false, narrowed := true }
def ThingPlacesUptoSaid : Prop := thingPlacesUptoRow.holds Try.pinned (OpenSpec.upto thingPlacesSpec)

/-- 'deedholdlaw21.ThingRestores', WHERE WHAT IT READS IS OF BULK AT MOST 1048576: true; the input reads as it did. -/
def thingRestoresUptoRow : OpenClaim := { program := "ytckdfdnhoionnaa", sum := "4550576536559445561763a38d7696ec9636aae7e33396bacca1e33520f72975", func := "deedhold/deedholdlaw21.ThingRestores", spec := "thingRestores", inPlace := ["slices.overlaps[int]"], unfollowed := true, recurses := true, plainKeys := false, apart := false, narrowed := true }
def ThingRestoresUptoSaid : Prop := thingRestoresUptoRow.holds Try.pinned (OpenSpec.upto thingRestoresSpec)

/-- 'deedholdlaw21.ThingCopies', WHERE WHAT IT READS IS OF BULK AT MOST 1048576: true; the input reads as it did. -/
def thingCopiesUptoRow : OpenClaim := { program := "ytckdfdnhoionnaa", sum := "4550576536559445561763a38d7696ec9636aae7e33396bacca1e33520f72975", func := "deedhold/deedholdlaw21.ThingCopies", spec := "thingCopies", inPlace := ["slices.overlaps[int]"], unfollowed := true, recurses := true, plainKeys := false, apart := false, narrowed := true }
def ThingCopiesUptoSaid : Prop := thingCopiesUptoRow.holds Try.pinned (OpenSpec.upto thingCopiesSpec)

end Rows
end Go.Proofs.Ytckdfdnhoionnaa
