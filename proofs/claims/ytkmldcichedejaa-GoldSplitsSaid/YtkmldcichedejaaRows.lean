/-
  No cell of these rows narrows 'for every input' (looked for: loops, veiled, ifaces, maps, wideKeys, modest, calm, conditions, laid).
  DERIVED. THE GIVEN ROWS OF THIS SEAT. 6 by the template 'for every input the law returns true; each argument reads behind the call as it read before'; 0 by the template 'total and deterministic' (their statements: YtkmldcichedejaaTotals.lean).
  GIVEN WITH THE SEED: the statements are not yours to turn. If you find one false, say at which input.
  Laid BY PROGRAM, IN A SANDBOX (cutbox-rows.mjs): the forced cells as the released guide's own fill.sh prints them over the translation a133d7b0c483e6b1… (all of the seat's roots in one cut). By AI agents, Wed Nov 11 2026. No macro, syntax, notation, axiom, sorry.
-/
import Derived.Test.YtkmldcichedejaaChecked
import GoSem.Claim
import GoSem.ClaimJoined
import GoSem.ClaimMapViews
import Derived.JoinedTies
import Derived.KernelRfl
namespace Go.Proofs.Ytkmldcichedejaa
/- THE CELL 'sum', in the pinned program and in every row, IS THE sha256 OF THE DUMP (.gsa) THAT YtkmldcichedejaaProg.lean LOADS. Nothing in Lean hashes anything: it is a label: what it is worth is what the hold of that sum in a sandbox is worth. -/
noncomputable def Try.pinned : Pinned := { name := "ytkmldcichedejaa", sum := "a133d7b0c483e6b17b117b9281554a09573079ab4e6683a32760ef2761776a49", checked := Try.checked }
namespace Rows
def none {H : Type} : Left H := { results := [], args := [] }

/-- 'deedholdlaw01.GoldAdds': WHATEVER THE INPUT: true; the input reads as it did. -/
def goldAddsSpec : ChangeSpec := { name := "goldAdds", fn := fun _ => fun
  | [d1, d2] => { results := [.lit (.bool true)], args := [d1, d2] }
  | _ => none }
def goldAddsRow : OpenClaim := { program := "ytkmldcichedejaa", sum := "a133d7b0c483e6b17b117b9281554a09573079ab4e6683a32760ef2761776a49", func := "deedhold/deedholdlaw01.GoldAdds", spec := "goldAdds", apart := false }
def GoldAddsSaid : Prop := goldAddsRow.holds Try.pinned (OpenSpec.ofChange goldAddsSpec)

/-- ITS FALSE NEIGHBOUR: 'it returns false'. Refute it at one input. -/
def goldAddsWrong : ChangeSpec := { name := "goldAdds", fn := fun _ => fun
  | [d1, d2] => { results := [.lit (.bool false)], args := [d1, d2] }
  | _ => none }
def GoldAddsWrongFalsely : Prop := goldAddsRow.holds Try.pinned (OpenSpec.ofChange goldAddsWrong)

/-- 'deedholdlaw01.GoldTimes': WHATEVER THE INPUT: true; the input reads as it did. -/
def goldTimesSpec : ChangeSpec := { name := "goldTimes", fn := fun _ => fun
  | [d1, d2] => { results := [.lit (.bool true)], args := [d1, d2] }
  | _ => none }
def goldTimesRow : OpenClaim := { program := "ytkmldcichedejaa", sum := "a133d7b0c483e6b17b117b9281554a09573079ab4e6683a32760ef2761776a49", func := "deedhold/deedholdlaw01.GoldTimes", spec := "goldTimes", apart := false }
def GoldTimesSaid : Prop := goldTimesRow.holds Try.pinned (OpenSpec.ofChange goldTimesSpec)

/-- ITS FALSE NEIGHBOUR: 'it returns false'. Refute it at one input. -/
def goldTimesWrong : ChangeSpec := { name := "goldTimes", fn := fun _ => fun
  | [d1, d2] => { results := [.lit (.bool false)], args := [d1, d2] }
  | _ => none }
def GoldTimesWrongFalsely : Prop := goldTimesRow.holds Try.pinned (OpenSpec.ofChange goldTimesWrong)

/-- 'deedholdlaw01.GoldShares': WHATEVER THE INPUT: true; the input reads as it did. -/
def goldSharesSpec : ChangeSpec := { name := "goldShares", fn := fun _ => fun
  | [d1, d2] => { results := [.lit (.bool true)], args := [d1, d2] }
  | _ => none }
def goldSharesRow : OpenClaim := { program := "ytkmldcichedejaa", sum := "a133d7b0c483e6b17b117b9281554a09573079ab4e6683a32760ef2761776a49", func := "deedhold/deedholdlaw01.GoldShares", spec := "goldShares", apart := false }
def GoldSharesSaid : Prop := goldSharesRow.holds Try.pinned (OpenSpec.ofChange goldSharesSpec)

/-- ITS FALSE NEIGHBOUR: 'it returns false'. Refute it at one input. -/
def goldSharesWrong : ChangeSpec := { name := "goldShares", fn := fun _ => fun
  | [d1, d2] => { results := [.lit (.bool false)], args := [d1, d2] }
  | _ => none }
def GoldSharesWrongFalsely : Prop := goldSharesRow.holds Try.pinned (OpenSpec.ofChange goldSharesWrong)

/-- 'deedholdlaw01.GoldSplits': WHATEVER THE INPUT: true; the input reads as it did. -/
def goldSplitsSpec : ChangeSpec := { name := "goldSplits", fn := fun _ => fun
  | [d1, d2] => { results := [.lit (.bool true)], args := [d1, d2] }
  | _ => none }
def goldSplitsRow : OpenClaim := { program := "ytkmldcichedejaa", sum := "a133d7b0c483e6b17b117b9281554a09573079ab4e6683a32760ef2761776a49", func := "deedhold/deedholdlaw01.GoldSplits", spec := "goldSplits", apart := false }
def GoldSplitsSaid : Prop := goldSplitsRow.holds Try.pinned (OpenSpec.ofChange goldSplitsSpec)

/-- ITS FALSE NEIGHBOUR: 'it returns false'. Refute it at one input. -/
def goldSplitsWrong : ChangeSpec := { name := "goldSplits", fn := fun _ => fun
  | [d1, d2] => { results := [.lit (.bool false)], args := [d1, d2] }
  | _ => none }
def GoldSplitsWrongFalsely : Prop := goldSplitsRow.holds Try.pinned (OpenSpec.ofChange goldSplitsWrong)

/-- 'deedholdlaw01.GoldSums': WHATEVER THE INPUT: true; the input reads as it did. -/
def goldSumsSpec : ChangeSpec := { name := "goldSums", fn := fun _ => fun
  | [d] => { results := [.lit (.bool true)], args := [d] }
  | _ => none }
def goldSumsRow : OpenClaim := { program := "ytkmldcichedejaa", sum := "a133d7b0c483e6b17b117b9281554a09573079ab4e6683a32760ef2761776a49", func := "deedhold/deedholdlaw01.GoldSums", spec := "goldSums", apart := false }
def GoldSumsSaid : Prop := goldSumsRow.holds Try.pinned (OpenSpec.ofChange goldSumsSpec)

/-- ITS FALSE NEIGHBOUR: 'it returns false'. Refute it at one input. -/
def goldSumsWrong : ChangeSpec := { name := "goldSums", fn := fun _ => fun
  | [d] => { results := [.lit (.bool false)], args := [d] }
  | _ => none }
def GoldSumsWrongFalsely : Prop := goldSumsRow.holds Try.pinned (OpenSpec.ofChange goldSumsWrong)

/-- 'deedholdlaw01.GoldSteps': WHATEVER THE INPUT: true; the input reads as it did. -/
def goldStepsSpec : ChangeSpec := { name := "goldSteps", fn := fun _ => fun
  | [d] => { results := [.lit (.bool true)], args := [d] }
  | _ => none }
def goldStepsRow : OpenClaim := { program := "ytkmldcichedejaa", sum := "a133d7b0c483e6b17b117b9281554a09573079ab4e6683a32760ef2761776a49", func := "deedhold/deedholdlaw01.GoldSteps", spec := "goldSteps", apart := false }
def GoldStepsSaid : Prop := goldStepsRow.holds Try.pinned (OpenSpec.ofChange goldStepsSpec)

/-- ITS FALSE NEIGHBOUR: 'it returns false'. Refute it at one input. -/
def goldStepsWrong : ChangeSpec := { name := "goldSteps", fn := fun _ => fun
  | [d] => { results := [.lit (.bool false)], args := [d] }
  | _ => none }
def GoldStepsWrongFalsely : Prop := goldStepsRow.holds Try.pinned (OpenSpec.ofChange goldStepsWrong)

/- THE SECOND FORM. 'bulk': how many values and letters a reading holds, each counted each time it is reached (what is shared counts as often as it is met; a slice's spare places count too). A statement '..UptoSaid' is the law's where the arguments, and the package variables that the reading takes, are together of bulk at most 1048576: NARROWER than '..Said'. Prove '..Said' where nothing that the law and all that it calls make is longer than what came in: it says more and counts as full. Else prove '..UptoSaid'. A law counts once. -/
mutual
def uptoBulk {H : Type} : DataW H → Nat
  | .lit (.string bytes) => bytes.length + 1
  | .lit _ => 1
  | .nil => 1
  | .ptr d => uptoBulk d + 1
  | .slice elems spare => uptoBulkAll elems + uptoBulkAll spare + 1
  | .agg parts => uptoBulkAll parts + 1
  | .iface _ d => uptoBulk d + 1
  | .map entries => uptoBulkEntries entries + 1
  | .held _ => 1
def uptoBulkAll {H : Type} : List (DataW H) → Nat
  | [] => 0
  | d :: r => uptoBulk d + uptoBulkAll r
def uptoBulkEntries {H : Type} : List (Lit × DataW H) → Nat
  | [] => 0
  | x :: r => uptoBulkEntry x + uptoBulkEntries r
def uptoBulkEntry {H : Type} : Lit × DataW H → Nat
  | (.string bytes, d) => bytes.length + uptoBulk d + 1
  | (_, d) => uptoBulk d + 1
 end
def uptoSmall : (H : Type) → List (DataW H) → Bool := fun _ ds => decide (uptoBulkAll ds ≤ 1048576)
def OpenSpec.upto (s : _root_.Go.ChangeSpec) : _root_.Go.OpenSpec := { _root_.Go.OpenSpec.ofChange s with cond := some uptoSmall }

/-- 'deedholdlaw01.GoldAdds', WHERE WHAT IT READS IS OF BULK AT MOST 1048576: true; the input reads as it did. -/
def goldAddsUptoRow : OpenClaim := { program := "ytkmldcichedejaa", sum := "a133d7b0c483e6b17b117b9281554a09573079ab4e6683a32760ef2761776a49", func := "deedhold/deedholdlaw01.GoldAdds", spec := "goldAdds", apart := false, narrowed := true }
def GoldAddsUptoSaid : Prop := goldAddsUptoRow.holds Try.pinned (OpenSpec.upto goldAddsSpec)

/-- 'deedholdlaw01.GoldTimes', WHERE WHAT IT READS IS OF BULK AT MOST 1048576: true; the input reads as it did. -/
def goldTimesUptoRow : OpenClaim := { program := "ytkmldcichedejaa", sum := "a133d7b0c483e6b17b117b9281554a09573079ab4e6683a32760ef2761776a49", func := "deedhold/deedholdlaw01.GoldTimes", spec := "goldTimes", apart := false, narrowed := true }
def GoldTimesUptoSaid : Prop := goldTimesUptoRow.holds Try.pinned (OpenSpec.upto goldTimesSpec)

/-- 'deedholdlaw01.GoldShares', WHERE WHAT IT READS IS OF BULK AT MOST 1048576: true; the input reads as it did. -/
def goldSharesUptoRow : OpenClaim := { program := "ytkmldcichedejaa", sum := "a133d7b0c483e6b17b117b9281554a09573079ab4e6683a32760ef2761776a49", func := "deedhold/deedholdlaw01.GoldShares", spec := "goldShares", apart := false, narrowed := true }
def GoldSharesUptoSaid : Prop := goldSharesUptoRow.holds Try.pinned (OpenSpec.upto goldSharesSpec)

/-- 'deedholdlaw01.GoldSplits', WHERE WHAT IT READS IS OF BULK AT MOST 1048576: true; the input reads as it did. -/
def goldSplitsUptoRow : OpenClaim := { program := "ytkmldcichedejaa", sum := "a133d7b0c483e6b17b117b9281554a09573079ab4e6683a32760ef2761776a49", func := "deedhold/deedholdlaw01.GoldSplits", spec := "goldSplits", apart := false, narrowed := true }
def GoldSplitsUptoSaid : Prop := goldSplitsUptoRow.holds Try.pinned (OpenSpec.upto goldSplitsSpec)

/-- 'deedholdlaw01.GoldSums', WHERE WHAT IT READS IS OF BULK AT MOST 1048576: true; the input reads as it did. -/
def goldSumsUptoRow : OpenClaim := { program := "ytkmldcichedejaa", sum := "a133d7b0c483e6b17b117b9281554a09573079ab4e6683a32760ef2761776a49", func := "deedhold/deedholdlaw01.GoldSums", spec := "goldSums", apart := false, narrowed := true }
def GoldSumsUptoSaid : Prop := goldSumsUptoRow.holds Try.pinned (OpenSpec.upto goldSumsSpec)

/-- 'deedholdlaw01.GoldSteps', WHERE WHAT IT READS IS OF BULK AT MOST 1048576: true; the input reads as it did. -/
def goldStepsUptoRow : OpenClaim := { program := "ytkmldcichedejaa", sum := "a133d7b0c483e6b17b117b9281554a09573079ab4e6683a32760ef2761776a49", func := "deedhold/deedholdlaw01.GoldSteps", spec := "goldSteps", apart := false, narrowed := true }
def GoldStepsUptoSaid : Prop := goldStepsUptoRow.holds Try.pinned (OpenSpec.upto goldStepsSpec)

end Rows
end Go.Proofs.Ytkmldcichedejaa
