/-
  No cell of these rows narrows 'for every input' (looked for: loops, veiled, ifaces, maps, wideKeys, modest, calm, conditions, laid).
  DERIVED. THE GIVEN ROWS OF THIS SEAT. 5 by the template 'for every input the law returns true; each argument reads behind the call as it read before'; 0 by the template 'total and deterministic' (their statements: YtpfnkmlfpkjkpaaTotals.lean).
  GIVEN WITH THE SEED: the statements are not yours to turn. If you find one false, say at which input.
  Laid BY PROGRAM, IN A SANDBOX (cutbox-rows.mjs): the forced cells as the released guide's own fill.sh prints them over the translation b25008d574af12ac… (all of the seat's roots in one cut). By AI agents, Wed Nov 11 2026. No macro, syntax, notation, axiom, sorry.
-/
import Derived.Test.YtpfnkmlfpkjkpaaChecked
import GoSem.Claim
import GoSem.ClaimJoined
import GoSem.ClaimMapViews
import Derived.JoinedTies
import Derived.KernelRfl
namespace Go.Proofs.Ytpfnkmlfpkjkpaa
/- THE CELL 'sum', in the pinned program and in every row, IS THE sha256 OF THE DUMP (.gsa) THAT YtpfnkmlfpkjkpaaProg.lean LOADS. Nothing in Lean hashes anything: it is a label: what it is worth is what the hold of that sum in a sandbox is worth. -/
noncomputable def Try.pinned : Pinned := { name := "ytpfnkmlfpkjkpaa", sum := "b25008d574af12ac5cb961a7f27d41c11186fcce2c055aa6c4423b5c09489685", checked := Try.checked }
namespace Rows
def none {H : Type} : Left H := { results := [], args := [] }

/-- 'deedholdlaw15.QuadPlays': WHATEVER THE INPUT: true; the input reads as it did. -/
def quadPlaysSpec : ChangeSpec := { name := "quadPlays", fn := fun _ => fun
  | [d1, d2] => { results := [.lit (.bool true)], args := [d1, d2] }
  | _ => none }
def quadPlaysRow : OpenClaim := { program := "ytpfnkmlfpkjkpaa", sum := "b25008d574af12ac5cb961a7f27d41c11186fcce2c055aa6c4423b5c09489685", func := "deedhold/deedholdlaw15.QuadPlays", spec := "quadPlays", unfollowed := true, recurses := true, apart := false }
def QuadPlaysSaid : Prop := quadPlaysRow.holds Try.pinned (OpenSpec.ofChange quadPlaysSpec)

/-- ITS FALSE NEIGHBOUR: 'it returns false'. Refute it at one input. -/
def quadPlaysWrong : ChangeSpec := { name := "quadPlays", fn := fun _ => fun
  | [d1, d2] => { results := [.lit (.bool false)], args := [d1, d2] }
  | _ => none }
def QuadPlaysWrongFalsely : Prop := quadPlaysRow.holds Try.pinned (OpenSpec.ofChange quadPlaysWrong)

/-- 'deedholdlaw15.QuadAsks': WHATEVER THE INPUT: true; the input reads as it did. -/
def quadAsksSpec : ChangeSpec := { name := "quadAsks", fn := fun _ => fun
  | [d1, d2, d3] => { results := [.lit (.bool true)], args := [d1, d2, d3] }
  | _ => none }
def quadAsksRow : OpenClaim := { program := "ytpfnkmlfpkjkpaa", sum := "b25008d574af12ac5cb961a7f27d41c11186fcce2c055aa6c4423b5c09489685", func := "deedhold/deedholdlaw15.QuadAsks", spec := "quadAsks", unfollowed := true, recurses := true, apart := false }
def QuadAsksSaid : Prop := quadAsksRow.holds Try.pinned (OpenSpec.ofChange quadAsksSpec)

/-- ITS FALSE NEIGHBOUR: 'it returns false'. Refute it at one input. -/
def quadAsksWrong : ChangeSpec := { name := "quadAsks", fn := fun _ => fun
  | [d1, d2, d3] => { results := [.lit (.bool false)], args := [d1, d2, d3] }
  | _ => none }
def QuadAsksWrongFalsely : Prop := quadAsksRow.holds Try.pinned (OpenSpec.ofChange quadAsksWrong)

/-- 'deedholdlaw15.QuadParses': WHATEVER THE INPUT: true; the input reads as it did. -/
def quadParsesSpec : ChangeSpec := { name := "quadParses", fn := fun _ => fun
  | [d1, d2] => { results := [.lit (.bool true)], args := [d1, d2] }
  | _ => none }
def quadParsesRow : OpenClaim := { program := "ytpfnkmlfpkjkpaa", sum := "b25008d574af12ac5cb961a7f27d41c11186fcce2c055aa6c4423b5c09489685", func := "deedhold/deedholdlaw15.QuadParses", spec := "quadParses", unfollowed := true, recurses := true, apart := false }
def QuadParsesSaid : Prop := quadParsesRow.holds Try.pinned (OpenSpec.ofChange quadParsesSpec)

/-- ITS FALSE NEIGHBOUR: 'it returns false'. Refute it at one input. -/
def quadParsesWrong : ChangeSpec := { name := "quadParses", fn := fun _ => fun
  | [d1, d2] => { results := [.lit (.bool false)], args := [d1, d2] }
  | _ => none }
def QuadParsesWrongFalsely : Prop := quadParsesRow.holds Try.pinned (OpenSpec.ofChange quadParsesWrong)

/-- 'deedholdlaw15.QuadSame': WHATEVER THE INPUT: true; the input reads as it did. -/
def quadSameSpec : ChangeSpec := { name := "quadSame", fn := fun _ => fun
  | [d1, d2, d3] => { results := [.lit (.bool true)], args := [d1, d2, d3] }
  | _ => none }
def quadSameRow : OpenClaim := { program := "ytpfnkmlfpkjkpaa", sum := "b25008d574af12ac5cb961a7f27d41c11186fcce2c055aa6c4423b5c09489685", func := "deedhold/deedholdlaw15.QuadSame", spec := "quadSame", unfollowed := true, recurses := true, apart := false }
def QuadSameSaid : Prop := quadSameRow.holds Try.pinned (OpenSpec.ofChange quadSameSpec)

/-- ITS FALSE NEIGHBOUR: 'it returns false'. Refute it at one input. -/
def quadSameWrong : ChangeSpec := { name := "quadSame", fn := fun _ => fun
  | [d1, d2, d3] => { results := [.lit (.bool false)], args := [d1, d2, d3] }
  | _ => none }
def QuadSameWrongFalsely : Prop := quadSameRow.holds Try.pinned (OpenSpec.ofChange quadSameWrong)

/-- 'deedholdlaw15.QuadMakes': WHATEVER THE INPUT: true; the input reads as it did. -/
def quadMakesSpec : ChangeSpec := { name := "quadMakes", fn := fun _ => fun
  | [d] => { results := [.lit (.bool true)], args := [d] }
  | _ => none }
def quadMakesRow : OpenClaim := { program := "ytpfnkmlfpkjkpaa", sum := "b25008d574af12ac5cb961a7f27d41c11186fcce2c055aa6c4423b5c09489685", func := "deedhold/deedholdlaw15.QuadMakes", spec := "quadMakes", unfollowed := true, recurses := true, apart := false }
def QuadMakesSaid : Prop := quadMakesRow.holds Try.pinned (OpenSpec.ofChange quadMakesSpec)

/-- ITS FALSE NEIGHBOUR: 'it returns false'. Refute it at one input. -/
def quadMakesWrong : ChangeSpec := { name := "quadMakes", fn := fun _ => fun
  | [d] => { results := [.lit (.bool false)], args := [d] }
  | _ => none }
def QuadMakesWrongFalsely : Prop := quadMakesRow.holds Try.pinned (OpenSpec.ofChange quadMakesWrong)

/- THE SECOND FORM. 'bulk': how many values and letters a reading holds, each counted each time it is reached (what is shared counts as often as it is met; a slice's spare places count too). A statement '..UptoSaid' is the law's where the arguments, and the package variables that the reading takes, are together of bulk at most 1048576: NARROWER than '..Said'. Prove '..Said' where nothing that the law and all that it calls make is longer than what came in: it says more and counts as full. Else prove '..UptoSaid'. A law counts once. -/
mutual
def uptoBulk {H : Type} : DataW H → Nat
  | .lit (.string bytes) => bytes.length + 1
  | .lit _ => 1
  | .nil => 1
  | .ptr d => uptoBulk d + 1
  | .slice elems spare => uptoBulkAll elems + uptoBulkAll spare + 1
  | .agg parts => uptoBulkAll parts + 1
  | .iface _ d => uptoBulk d + 1
  | .map entries => uptoBulkEntries entries + 1
  | .held _ => 1
def uptoBulkAll {H : Type} : List (DataW H) → Nat
  | [] => 0
  | d :: r => uptoBulk d + uptoBulkAll r
def uptoBulkEntries {H : Type} : List (Lit × DataW H) → Nat
  | [] => 0
  | x :: r => uptoBulkEntry x + uptoBulkEntries r
def uptoBulkEntry {H : Type} : Lit × DataW H → Nat
  | (.string bytes, d) => bytes.length + uptoBulk d + 1
  | (_, d) => uptoBulk d + 1
 end
def uptoSmall : (H : Type) → List (DataW H) → Bool := fun _ ds => decide (uptoBulkAll ds ≤ 1048576)
def OpenSpec.upto (s : _root_.Go.ChangeSpec) : _root_.Go.OpenSpec := { _root_.Go.OpenSpec.ofChange s with cond := some uptoSmall }

/-- 'deedholdlaw15.QuadPlays', WHERE WHAT IT READS IS OF BULK AT MOST 1048576: true; the input reads as it did. -/
def quadPlaysUptoRow : OpenClaim := { program := "ytpfnkmlfpkjkpaa", sum := "b25008d574af12ac5cb961a7f27d41c11186fcce2c055aa6c4423b5c09489685", func := "deedhold/deedholdlaw15.QuadPlays", spec := "quadPlays", unfollowed := true, recurses := true, apart := false, narrowed := true }
def QuadPlaysUptoSaid : Prop := quadPlaysUptoRow.holds Try.pinned (OpenSpec.upto quadPlaysSpec)

/-- 'deedholdlaw15.QuadAsks', WHERE WHAT IT READS IS OF BULK AT MOST 1048576: true; the input reads as it did. -/
def quadAsksUptoRow : OpenClaim := { program := "ytpfnkmlfpkjkpaa", sum := "b25008d574af12ac5cb961a7f27d41c11186fcce2c055aa6c4423b5c09489685", func := "deedhold/deedholdlaw15.QuadAsks", spec := "quadAsks", unfollowed := true, recurses := true, apart := false, narrowed := true }
def QuadAsksUptoSaid : Prop := quadAsksUptoRow.holds Try.pinned (OpenSpec.upto quadAsksSpec)

/-- 'deedholdlaw15.QuadParses', WHERE WHAT IT READS IS OF BULK AT MOST 1048576: true; the input reads as it did. -/
def quadParsesUptoRow : OpenClaim := { program := "ytpfnkmlfpkjkpaa", sum := "b25008d574af12ac5cb961a7f27d41c11186fcce2c055aa6c4423b5c09489685", func := "deedhold/deedholdlaw15.QuadParses", spec := "quadParses", unfollowed := true, recurses := true, apart := false, narrowed := true }
def QuadParsesUptoSaid : Prop := quadParsesUptoRow.holds Try.pinned (OpenSpec.upto quadParsesSpec)

/-- 'deedholdlaw15.QuadSame', WHERE WHAT IT READS IS OF BULK AT MOST 1048576: true; the input reads as it did. -/
def quadSameUptoRow : OpenClaim := { program := "ytpfnkmlfpkjkpaa", sum := "b25008d574af12ac5cb961a7f27d41c11186fcce2c055aa6c4423b5c09489685", func := "deedhold/deedholdlaw15.QuadSame", spec := "quadSame", unfollowed := true, recurses := true, apart := false, narrowed := true }
def QuadSameUptoSaid : Prop := quadSameUptoRow.holds Try.pinned (OpenSpec.upto quadSameSpec)

/-- 'deedholdlaw15.QuadMakes', WHERE WHAT IT READS IS OF BULK AT MOST 1048576: true; the input reads as it did. -/
def quadMakesUptoRow : OpenClaim := { program := "ytpfnkmlfpkjkpaa", sum := "b25008d574af12ac5cb961a7f27d41c11186fcce2c055aa6c4423b5c09489685", func := "deedhold/deedholdlaw15.QuadMakes", spec := "quadMakes", unfollowed := true, recurses := true, apart := false, narrowed := true }
def QuadMakesUptoSaid : Prop := quadMakesUptoRow.holds Try.pinned (OpenSpec.upto quadMakesSpec)

end Rows
end Go.Proofs.Ytpfnkmlfpkjkpaa
