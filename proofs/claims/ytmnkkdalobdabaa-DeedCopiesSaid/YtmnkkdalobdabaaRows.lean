/-
  No cell of these rows narrows 'for every input' (looked for: loops, veiled, ifaces, maps, wideKeys, modest, calm, conditions, laid).
  DERIVED. THE GIVEN ROWS OF THIS SEAT. 4 by the template 'for every input the law returns true; each argument reads behind the call as it read before'; 0 by the template 'total and deterministic' (their statements: YtmnkkdalobdabaaTotals.lean).
  GIVEN WITH THE SEED: the statements are not yours to turn. If you find one false, say at which input.
  Laid BY PROGRAM, IN A SANDBOX (cutbox-rows.mjs): the forced cells as the released guide's own fill.sh prints them over the translation 8b3bd8b0d65a4b3d… (all of the seat's roots in one cut). By AI agents, Wed Nov 11 2026. No macro, syntax, notation, axiom, sorry.
-/
import Derived.Test.YtmnkkdalobdabaaChecked
import GoSem.Claim
import GoSem.ClaimJoined
import GoSem.ClaimMapViews
import Derived.JoinedTies
import Derived.KernelRfl
namespace Go.Proofs.Ytmnkkdalobdabaa
/- THE CELL 'sum', in the pinned program and in every row, IS THE sha256 OF THE DUMP (.gsa) THAT YtmnkkdalobdabaaProg.lean LOADS. Nothing in Lean hashes anything: it is a label: what it is worth is what the hold of that sum in a sandbox is worth. -/
noncomputable def Try.pinned : Pinned := { name := "ytmnkkdalobdabaa", sum := "8b3bd8b0d65a4b3d0ea1b648e0a8c9e8abdda8f638f9950ea256775683efe4b0", checked := Try.checked }
namespace Rows
def none {H : Type} : Left H := { results := [], args := [] }

/-- 'deedholdlaw20.DeedPlays': WHATEVER THE INPUT: true; the input reads as it did. -/
def deedPlaysSpec : ChangeSpec := { name := "deedPlays", fn := fun _ => fun
  | [d] => { results := [.lit (.bool true)], args := [d] }
  | _ => none }
def deedPlaysRow : OpenClaim := { program := "ytmnkkdalobdabaa", sum := "8b3bd8b0d65a4b3d0ea1b648e0a8c9e8abdda8f638f9950ea256775683efe4b0", func := "deedhold/deedholdlaw20.DeedPlays", spec := "deedPlays", unfollowed := true, recurses := true, apart := false }
def DeedPlaysSaid : Prop := deedPlaysRow.holds Try.pinned (OpenSpec.ofChange deedPlaysSpec)

/-- ITS FALSE NEIGHBOUR: 'it returns false'. Refute it at one input. -/
def deedPlaysWrong : ChangeSpec := { name := "deedPlays", fn := fun _ => fun
  | [d] => { results := [.lit (.bool false)], args := [d] }
  | _ => none }
def DeedPlaysWrongFalsely : Prop := deedPlaysRow.holds Try.pinned (OpenSpec.ofChange deedPlaysWrong)

/-- 'deedholdlaw20.DeedFinds': WHATEVER THE INPUT: true; the input reads as it did. -/
def deedFindsSpec : ChangeSpec := { name := "deedFinds", fn := fun _ => fun
  | [d1, d2] => { results := [.lit (.bool true)], args := [d1, d2] }
  | _ => none }
def deedFindsRow : OpenClaim := { program := "ytmnkkdalobdabaa", sum := "8b3bd8b0d65a4b3d0ea1b648e0a8c9e8abdda8f638f9950ea256775683efe4b0", func := "deedhold/deedholdlaw20.DeedFinds", spec := "deedFinds", unfollowed := true, recurses := true, apart := false }
def DeedFindsSaid : Prop := deedFindsRow.holds Try.pinned (OpenSpec.ofChange deedFindsSpec)

/-- ITS FALSE NEIGHBOUR: 'it returns false'. Refute it at one input. -/
def deedFindsWrong : ChangeSpec := { name := "deedFinds", fn := fun _ => fun
  | [d1, d2] => { results := [.lit (.bool false)], args := [d1, d2] }
  | _ => none }
def DeedFindsWrongFalsely : Prop := deedFindsRow.holds Try.pinned (OpenSpec.ofChange deedFindsWrong)

/-- 'deedholdlaw20.DeedRestores': WHATEVER THE INPUT: true; the input reads as it did. -/
def deedRestoresSpec : ChangeSpec := { name := "deedRestores", fn := fun _ => fun
  | [d1, d2] => { results := [.lit (.bool true)], args := [d1, d2] }
  | _ => none }
def deedRestoresRow : OpenClaim := { program := "ytmnkkdalobdabaa", sum := "8b3bd8b0d65a4b3d0ea1b648e0a8c9e8abdda8f638f9950ea256775683efe4b0", func := "deedhold/deedholdlaw20.DeedRestores", spec := "deedRestores", unfollowed := true, recurses := true, apart := false }
def DeedRestoresSaid : Prop := deedRestoresRow.holds Try.pinned (OpenSpec.ofChange deedRestoresSpec)

/-- ITS FALSE NEIGHBOUR: 'it returns false'. Refute it at one input. -/
def deedRestoresWrong : ChangeSpec := { name := "deedRestores", fn := fun _ => fun
  | [d1, d2] => { results := [.lit (.bool false)], args := [d1, d2] }
  | _ => none }
def DeedRestoresWrongFalsely : Prop := deedRestoresRow.holds Try.pinned (OpenSpec.ofChange deedRestoresWrong)

/-- 'deedholdlaw20.DeedCopies': WHATEVER THE INPUT: true; the input reads as it did. -/
def deedCopiesSpec : ChangeSpec := { name := "deedCopies", fn := fun _ => fun
  | [d1, d2] => { results := [.lit (.bool true)], args := [d1, d2] }
  | _ => none }
def deedCopiesRow : OpenClaim := { program := "ytmnkkdalobdabaa", sum := "8b3bd8b0d65a4b3d0ea1b648e0a8c9e8abdda8f638f9950ea256775683efe4b0", func := "deedhold/deedholdlaw20.DeedCopies", spec := "deedCopies", unfollowed := true, recurses := true, apart := false }
def DeedCopiesSaid : Prop := deedCopiesRow.holds Try.pinned (OpenSpec.ofChange deedCopiesSpec)

/-- ITS FALSE NEIGHBOUR: 'it returns false'. Refute it at one input. -/
def deedCopiesWrong : ChangeSpec := { name := "deedCopies", fn := fun _ => fun
  | [d1, d2] => { results := [.lit (.bool false)], args := [d1, d2] }
  | _ => none }
def DeedCopiesWrongFalsely : Prop := deedCopiesRow.holds Try.pinned (OpenSpec.ofChange deedCopiesWrong)

/- THE SECOND FORM. 'bulk': how many values and letters a reading holds, each counted each time it is reached (what is shared counts as often as it is met; a slice's spare places count too). A statement '..UptoSaid' is the law's where the arguments, and the package variables that the reading takes, are together of bulk at most 1048576: NARROWER than '..Said'. Prove '..Said' where nothing that the law and all that it calls make is longer than what came in: it says more and counts as full. Else prove '..UptoSaid'. A law counts once. -/
mutual
def uptoBulk {H : Type} : DataW H → Nat
  | .lit (.string bytes) => bytes.length + 1
  | .lit _ => 1
  | .nil => 1
  | .ptr d => uptoBulk d + 1
  | .slice elems spare => uptoBulkAll elems + uptoBulkAll spare + 1
  | .agg parts => uptoBulkAll parts + 1
  | .iface _ d => uptoBulk d + 1
  | .map entries => uptoBulkEntries entries + 1
  | .held _ => 1
def uptoBulkAll {H : Type} : List (DataW H) → Nat
  | [] => 0
  | d :: r => uptoBulk d + uptoBulkAll r
def uptoBulkEntries {H : Type} : List (Lit × DataW H) → Nat
  | [] => 0
  | x :: r => uptoBulkEntry x + uptoBulkEntries r
def uptoBulkEntry {H : Type} : Lit × DataW H → Nat
  | (.string bytes, d) => bytes.length + uptoBulk d + 1
  | (_, d) => uptoBulk d + 1
 end
def uptoSmall : (H : Type) → List (DataW H) → Bool := fun _ ds => decide (uptoBulkAll ds ≤ 1048576)
def OpenSpec.upto (s : _root_.Go.ChangeSpec) : _root_.Go.OpenSpec := { _root_.Go.OpenSpec.ofChange s with cond := some uptoSmall }

/-- 'deedholdlaw20.DeedPlays', WHERE WHAT IT READS IS OF BULK AT MOST 1048576: true; the input reads as it did. -/
def deedPlaysUptoRow : OpenClaim := { program := "ytmnkkdalobdabaa", sum := "8b3bd8b0d65a4b3d0ea1b648e0a8c9e8abdda8f638f9950ea256775683efe4b0", func := "deedhold/deedholdlaw20.DeedPlays", spec := "deedPlays", unfollowed := true, recurses := true, apart := false, narrowed := true }
def DeedPlaysUptoSaid : Prop := deedPlaysUptoRow.holds Try.pinned (OpenSpec.upto deedPlaysSpec)

/-- 'deedholdlaw20.DeedFinds', WHERE WHAT IT READS IS OF BULK AT MOST 1048576: true; the input reads as it did. -/
def deedFindsUptoRow : OpenClaim := { program := "ytmnkkdalobdabaa", sum := "8b3bd8b0d65a4b3d0ea1b648e0a8c9e8abdda8f638f9950ea256775683efe4b0", func := "deedhold/deedholdlaw20.DeedFinds", spec := "deedFinds", unfollowed := true, recurses := true, apart := false, narrowed := true }
def DeedFindsUptoSaid : Prop := deedFindsUptoRow.holds Try.pinned (OpenSpec.upto deedFindsSpec)

/-- 'deedholdlaw20.DeedRestores', WHERE WHAT IT READS IS OF BULK AT MOST 1048576: true; the input reads as it did. -/
def deedRestoresUptoRow : OpenClaim := { program := "ytmnkkdalobdabaa", sum := "8b3bd8b0d65a4b3d0ea1b648e0a8c9e8abdda8f638f9950ea256775683efe4b0", func := "deedhold/deedholdlaw20.DeedRestores", spec := "deedRestores", unfollowed := true, recurses := true, apart := false, narrowed := true }
def DeedRestoresUptoSaid : Prop := deedRestoresUptoRow.holds Try.pinned (OpenSpec.upto deedRestoresSpec)

/-- 'deedholdlaw20.DeedCopies', WHERE WHAT IT READS IS OF BULK AT MOST 1048576: true; the input reads as it did. -/
def deedCopiesUptoRow : OpenClaim := { program := "ytmnkkdalobdabaa", sum := "8b3bd8b0d65a4b3d0ea1b648e0a8c9e8abdda8f638f9950ea256775683efe4b0", func := "deedhold/deedholdlaw20.DeedCopies", spec := "deedCopies", unfollowed := true, recurses := true, apart := false, narrowed := true }
def DeedCopiesUptoSaid : Prop := deedCopiesUptoRow.holds Try.pinned (OpenSpec.upto deedCopiesSpec)

end Rows
end Go.Proofs.Ytmnkkdalobdabaa
