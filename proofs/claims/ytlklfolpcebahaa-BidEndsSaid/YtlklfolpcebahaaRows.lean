/-
  No cell of these rows narrows 'for every input' (looked for: loops, veiled, ifaces, maps, wideKeys, modest, calm, conditions, laid).
  DERIVED. THE GIVEN ROWS OF THIS SEAT. 4 by the template 'for every input the law returns true; each argument reads behind the call as it read before'; 0 by the template 'total and deterministic' (their statements: YtlklfolpcebahaaTotals.lean).
  GIVEN WITH THE SEED: the statements are not yours to turn. If you find one false, say at which input.
  Laid BY PROGRAM, IN A SANDBOX (cutbox-rows.mjs): the forced cells as the released guide's own fill.sh prints them over the translation 2029ab16f9d231f5… (all of the seat's roots in one cut). By AI agents, Wed Nov 11 2026. No macro, syntax, notation, axiom, sorry.
-/
import Derived.Test.YtlklfolpcebahaaChecked
import GoSem.Claim
import GoSem.ClaimJoined
import GoSem.ClaimMapViews
import Derived.JoinedTies
import Derived.KernelRfl
namespace Go.Proofs.Ytlklfolpcebahaa
/- THE CELL 'sum', in the pinned program and in every row, IS THE sha256 OF THE DUMP (.gsa) THAT YtlklfolpcebahaaProg.lean LOADS. Nothing in Lean hashes anything: it is a label: what it is worth is what the hold of that sum in a sandbox is worth. -/
noncomputable def Try.pinned : Pinned := { name := "ytlklfolpcebahaa", sum := "2029ab16f9d231f5441d23556bf7126f6fd8c167641eb475d4aaecceeb09ae60", checked := Try.checked }
namespace Rows
def none {H : Type} : Left H := { results := [], args := [] }

/-- 'deedholdlaw25.BidPlays': WHATEVER THE INPUT: true; the input reads as it did. -/
def bidPlaysSpec : ChangeSpec := { name := "bidPlays", fn := fun _ => fun
  | [d] => { results := [.lit (.bool true)], args := [d] }
  | _ => none }
def bidPlaysRow : OpenClaim := { program := "ytlklfolpcebahaa", sum := "2029ab16f9d231f5441d23556bf7126f6fd8c167641eb475d4aaecceeb09ae60", func := "deedhold/deedholdlaw25.BidPlays", spec := "bidPlays", unfollowed := true, recurses := true, apart := false }
def BidPlaysSaid : Prop := bidPlaysRow.holds Try.pinned (OpenSpec.ofChange bidPlaysSpec)

/-- ITS FALSE NEIGHBOUR: 'it returns false'. Refute it at one input. -/
def bidPlaysWrong : ChangeSpec := { name := "bidPlays", fn := fun _ => fun
  | [d] => { results := [.lit (.bool false)], args := [d] }
  | _ => none }
def BidPlaysWrongFalsely : Prop := bidPlaysRow.holds Try.pinned (OpenSpec.ofChange bidPlaysWrong)

/-- 'deedholdlaw25.BidRises': WHATEVER THE INPUT: true; the input reads as it did. -/
def bidRisesSpec : ChangeSpec := { name := "bidRises", fn := fun _ => fun
  | [d1, d2] => { results := [.lit (.bool true)], args := [d1, d2] }
  | _ => none }
def bidRisesRow : OpenClaim := { program := "ytlklfolpcebahaa", sum := "2029ab16f9d231f5441d23556bf7126f6fd8c167641eb475d4aaecceeb09ae60", func := "deedhold/deedholdlaw25.BidRises", spec := "bidRises", unfollowed := true, recurses := true, apart := false }
def BidRisesSaid : Prop := bidRisesRow.holds Try.pinned (OpenSpec.ofChange bidRisesSpec)

/-- ITS FALSE NEIGHBOUR: 'it returns false'. Refute it at one input. -/
def bidRisesWrong : ChangeSpec := { name := "bidRises", fn := fun _ => fun
  | [d1, d2] => { results := [.lit (.bool false)], args := [d1, d2] }
  | _ => none }
def BidRisesWrongFalsely : Prop := bidRisesRow.holds Try.pinned (OpenSpec.ofChange bidRisesWrong)

/-- 'deedholdlaw25.BidEnds': WHATEVER THE INPUT: true; the input reads as it did. -/
def bidEndsSpec : ChangeSpec := { name := "bidEnds", fn := fun _ => fun
  | [d1, d2, d3] => { results := [.lit (.bool true)], args := [d1, d2, d3] }
  | _ => none }
def bidEndsRow : OpenClaim := { program := "ytlklfolpcebahaa", sum := "2029ab16f9d231f5441d23556bf7126f6fd8c167641eb475d4aaecceeb09ae60", func := "deedhold/deedholdlaw25.BidEnds", spec := "bidEnds", unfollowed := true, recurses := true, apart := false }
def BidEndsSaid : Prop := bidEndsRow.holds Try.pinned (OpenSpec.ofChange bidEndsSpec)

/-- ITS FALSE NEIGHBOUR: 'it returns false'. Refute it at one input. -/
def bidEndsWrong : ChangeSpec := { name := "bidEnds", fn := fun _ => fun
  | [d1, d2, d3] => { results := [.lit (.bool false)], args := [d1, d2, d3] }
  | _ => none }
def BidEndsWrongFalsely : Prop := bidEndsRow.holds Try.pinned (OpenSpec.ofChange bidEndsWrong)

/-- 'deedholdlaw25.BidCopies': WHATEVER THE INPUT: true; the input reads as it did. -/
def bidCopiesSpec : ChangeSpec := { name := "bidCopies", fn := fun _ => fun
  | [d1, d2] => { results := [.lit (.bool true)], args := [d1, d2] }
  | _ => none }
def bidCopiesRow : OpenClaim := { program := "ytlklfolpcebahaa", sum := "2029ab16f9d231f5441d23556bf7126f6fd8c167641eb475d4aaecceeb09ae60", func := "deedhold/deedholdlaw25.BidCopies", spec := "bidCopies", unfollowed := true, recurses := true, apart := false }
def BidCopiesSaid : Prop := bidCopiesRow.holds Try.pinned (OpenSpec.ofChange bidCopiesSpec)

/-- ITS FALSE NEIGHBOUR: 'it returns false'. Refute it at one input. -/
def bidCopiesWrong : ChangeSpec := { name := "bidCopies", fn := fun _ => fun
  | [d1, d2] => { results := [.lit (.bool false)], args := [d1, d2] }
  | _ => none }
def BidCopiesWrongFalsely : Prop := bidCopiesRow.holds Try.pinned (OpenSpec.ofChange bidCopiesWrong)

/- THE SECOND FORM. 'bulk': how many values and letters a reading holds, each counted each time it is reached (what is shared counts as often as it is met; a slice's spare places count too). A statement '..UptoSaid' is the law's where the arguments, and the package variables that the reading takes, are together of bulk at most 1048576: NARROWER than '..Said'. Prove '..Said' where nothing that the law and all that it calls make is longer than what came in: it says more and counts as full. Else prove '..UptoSaid'. A law counts once. -/
mutual
def uptoBulk {H : Type} : DataW H → Nat
  | .lit (.string bytes) => bytes.length + 1
  | .lit _ => 1
  | .nil => 1
  | .ptr d => uptoBulk d + 1
  | .slice elems spare => uptoBulkAll elems + uptoBulkAll spare + 1
  | .agg parts => uptoBulkAll parts + 1
  | .iface _ d => uptoBulk d + 1
  | .map entries => uptoBulkEntries entries + 1
  | .held _ => 1
def uptoBulkAll {H : Type} : List (DataW H) → Nat
  | [] => 0
  | d :: r => uptoBulk d + uptoBulkAll r
def uptoBulkEntries {H : Type} : List (Lit × DataW H) → Nat
  | [] => 0
  | x :: r => uptoBulkEntry x + uptoBulkEntries r
def uptoBulkEntry {H : Type} : Lit × DataW H → Nat
  | (.string bytes, d) => bytes.length + uptoBulk d + 1
  | (_, d) => uptoBulk d + 1
 end
def uptoSmall : (H : Type) → List (DataW H) → Bool := fun _ ds => decide (uptoBulkAll ds ≤ 1048576)
def OpenSpec.upto (s : _root_.Go.ChangeSpec) : _root_.Go.OpenSpec := { _root_.Go.OpenSpec.ofChange s with cond := some uptoSmall }

/-- 'deedholdlaw25.BidPlays', WHERE WHAT IT READS IS OF BULK AT MOST 1048576: true; the input reads as it did. -/
def bidPlaysUptoRow : OpenClaim := { program := "ytlklfolpcebahaa", sum := "2029ab16f9d231f5441d23556bf7126f6fd8c167641eb475d4aaecceeb09ae60", func := "deedhold/deedholdlaw25.BidPlays", spec := "bidPlays", unfollowed := true, recurses := true, apart := false, narrowed := true }
def BidPlaysUptoSaid : Prop := bidPlaysUptoRow.holds Try.pinned (OpenSpec.upto bidPlaysSpec)

/-- 'deedholdlaw25.BidRises', WHERE WHAT IT READS IS OF BULK AT MOST 1048576: true; the input reads as it did. -/
def bidRisesUptoRow : OpenClaim := { program := "ytlklfolpcebahaa", sum := "2029ab16f9d231f5441d23556bf7126f6fd8c167641eb475d4aaecceeb09ae60", func := "deedhold/deedholdlaw25.BidRises", spec := "bidRises", unfollowed := true, recurses := true, apart := false, narrowed := true }
def BidRisesUptoSaid : Prop := bidRisesUptoRow.holds Try.pinned (OpenSpec.upto bidRisesSpec)

/-- 'deedholdlaw25.BidEnds', WHERE WHAT IT READS IS OF BULK AT MOST 1048576: true; the input reads as it did. -/
def bidEndsUptoRow : OpenClaim := { program := "ytlklfolpcebahaa", sum := "2029ab16f9d231f5441d23556bf7126f6fd8c167641eb475d4aaecceeb09ae60", func := "deedhold/deedholdlaw25.BidEnds", spec := "bidEnds", unfollowed := true, recurses := true, apart := false, narrowed := true }
def BidEndsUptoSaid : Prop := bidEndsUptoRow.holds Try.pinned (OpenSpec.upto bidEndsSpec)

/-- 'deedholdlaw25.BidCopies', WHERE WHAT IT READS IS OF BULK AT MOST 1048576: true; the input reads as it did. -/
def bidCopiesUptoRow : OpenClaim := { program := "ytlklfolpcebahaa", sum := "2029ab16f9d231f5441d23556bf7126f6fd8c167641eb475d4aaecceeb09ae60", func := "deedhold/deedholdlaw25.BidCopies", spec := "bidCopies", unfollowed := true, recurses := true, apart := false, narrowed := true }
def BidCopiesUptoSaid : Prop := bidCopiesUptoRow.holds Try.pinned (OpenSpec.upto bidCopiesSpec)

end Rows
end Go.Proofs.Ytlklfolpcebahaa
