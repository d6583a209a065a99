/-
  No cell of these rows narrows 'for every input' (looked for: loops, veiled, ifaces, maps, wideKeys, modest, calm, conditions, laid).
  DERIVED. THE GIVEN ROWS OF THIS SEAT. 5 by the template 'for every input the law returns true; each argument reads behind the call as it read before'; 0 by the template 'total and deterministic' (their statements: YtndhdpjgnepfnaaTotals.lean).
  GIVEN WITH THE SEED: the statements are not yours to turn. If you find one false, say at which input.
  Laid BY PROGRAM, IN A SANDBOX (cutbox-rows.mjs): the forced cells as the released guide's own fill.sh prints them over the translation 497a759853ed91b1… (all of the seat's roots in one cut). By AI agents, Wed Nov 11 2026. No macro, syntax, notation, axiom, sorry.
-/
import Derived.Test.YtndhdpjgnepfnaaChecked
import GoSem.Claim
import GoSem.ClaimJoined
import GoSem.ClaimMapViews
import Derived.JoinedTies
import Derived.KernelRfl
namespace Go.Proofs.Ytndhdpjgnepfnaa
/- THE CELL 'sum', in the pinned program and in every row, IS THE sha256 OF THE DUMP (.gsa) THAT YtndhdpjgnepfnaaProg.lean LOADS. Nothing in Lean hashes anything: it is a label: what it is worth is what the hold of that sum in a sandbox is worth. -/
noncomputable def Try.pinned : Pinned := { name := "ytndhdpjgnepfnaa", sum := "497a759853ed91b15f0146f7c0892b448fa8dc382f246f098597786f4cda24bb", checked := Try.checked }
namespace Rows
def none {H : Type} : Left H := { results := [], args := [] }

/-- 'deedholdlaw14.RtreePlays': WHATEVER THE INPUT: true; the input reads as it did. -/
def rtreePlaysSpec : ChangeSpec := { name := "rtreePlays", fn := fun _ => fun
  | [d] => { results := [.lit (.bool true)], args := [d] }
  | _ => none }
def rtreePlaysRow : OpenClaim := { program := "ytndhdpjgnepfnaa", sum := "497a759853ed91b15f0146f7c0892b448fa8dc382f246f098597786f4cda24bb", func := "deedhold/deedholdlaw14.RtreePlays", spec := "rtreePlays", unfollowed := true, recurses := true, apart := false }
def RtreePlaysSaid : Prop := rtreePlaysRow.holds Try.pinned (OpenSpec.ofChange rtreePlaysSpec)

/-- ITS FALSE NEIGHBOUR: 'it returns false'. Refute it at one input. -/
def rtreePlaysWrong : ChangeSpec := { name := "rtreePlays", fn := fun _ => fun
  | [d] => { results := [.lit (.bool false)], args := [d] }
  | _ => none }
def RtreePlaysWrongFalsely : Prop := rtreePlaysRow.holds Try.pinned (OpenSpec.ofChange rtreePlaysWrong)

/-- 'deedholdlaw14.RtreeMeets': WHATEVER THE INPUT: true; the input reads as it did. -/
def rtreeMeetsSpec : ChangeSpec := { name := "rtreeMeets", fn := fun _ => fun
  | [d1, d2, d3] => { results := [.lit (.bool true)], args := [d1, d2, d3] }
  | _ => none }
def rtreeMeetsRow : OpenClaim := { program := "ytndhdpjgnepfnaa", sum := "497a759853ed91b15f0146f7c0892b448fa8dc382f246f098597786f4cda24bb", func := "deedhold/deedholdlaw14.RtreeMeets", spec := "rtreeMeets", unfollowed := true, recurses := true, apart := false }
def RtreeMeetsSaid : Prop := rtreeMeetsRow.holds Try.pinned (OpenSpec.ofChange rtreeMeetsSpec)

/-- ITS FALSE NEIGHBOUR: 'it returns false'. Refute it at one input. -/
def rtreeMeetsWrong : ChangeSpec := { name := "rtreeMeets", fn := fun _ => fun
  | [d1, d2, d3] => { results := [.lit (.bool false)], args := [d1, d2, d3] }
  | _ => none }
def RtreeMeetsWrongFalsely : Prop := rtreeMeetsRow.holds Try.pinned (OpenSpec.ofChange rtreeMeetsWrong)

/-- 'deedholdlaw14.RtreeAt': WHATEVER THE INPUT: true; the input reads as it did. -/
def rtreeAtSpec : ChangeSpec := { name := "rtreeAt", fn := fun _ => fun
  | [d1, d2, d3] => { results := [.lit (.bool true)], args := [d1, d2, d3] }
  | _ => none }
def rtreeAtRow : OpenClaim := { program := "ytndhdpjgnepfnaa", sum := "497a759853ed91b15f0146f7c0892b448fa8dc382f246f098597786f4cda24bb", func := "deedhold/deedholdlaw14.RtreeAt", spec := "rtreeAt", unfollowed := true, recurses := true, apart := false }
def RtreeAtSaid : Prop := rtreeAtRow.holds Try.pinned (OpenSpec.ofChange rtreeAtSpec)

/-- ITS FALSE NEIGHBOUR: 'it returns false'. Refute it at one input. -/
def rtreeAtWrong : ChangeSpec := { name := "rtreeAt", fn := fun _ => fun
  | [d1, d2, d3] => { results := [.lit (.bool false)], args := [d1, d2, d3] }
  | _ => none }
def RtreeAtWrongFalsely : Prop := rtreeAtRow.holds Try.pinned (OpenSpec.ofChange rtreeAtWrong)

/-- 'deedholdlaw14.RtreeBounds': WHATEVER THE INPUT: true; the input reads as it did. -/
def rtreeBoundsSpec : ChangeSpec := { name := "rtreeBounds", fn := fun _ => fun
  | [d] => { results := [.lit (.bool true)], args := [d] }
  | _ => none }
def rtreeBoundsRow : OpenClaim := { program := "ytndhdpjgnepfnaa", sum := "497a759853ed91b15f0146f7c0892b448fa8dc382f246f098597786f4cda24bb", func := "deedhold/deedholdlaw14.RtreeBounds", spec := "rtreeBounds", unfollowed := true, recurses := true, apart := false }
def RtreeBoundsSaid : Prop := rtreeBoundsRow.holds Try.pinned (OpenSpec.ofChange rtreeBoundsSpec)

/-- ITS FALSE NEIGHBOUR: 'it returns false'. Refute it at one input. -/
def rtreeBoundsWrong : ChangeSpec := { name := "rtreeBounds", fn := fun _ => fun
  | [d] => { results := [.lit (.bool false)], args := [d] }
  | _ => none }
def RtreeBoundsWrongFalsely : Prop := rtreeBoundsRow.holds Try.pinned (OpenSpec.ofChange rtreeBoundsWrong)

/-- 'deedholdlaw14.RtreeCopies': WHATEVER THE INPUT: true; the input reads as it did. -/
def rtreeCopiesSpec : ChangeSpec := { name := "rtreeCopies", fn := fun _ => fun
  | [d1, d2] => { results := [.lit (.bool true)], args := [d1, d2] }
  | _ => none }
def rtreeCopiesRow : OpenClaim := { program := "ytndhdpjgnepfnaa", sum := "497a759853ed91b15f0146f7c0892b448fa8dc382f246f098597786f4cda24bb", func := "deedhold/deedholdlaw14.RtreeCopies", spec := "rtreeCopies", unfollowed := true, recurses := true, apart := false }
def RtreeCopiesSaid : Prop := rtreeCopiesRow.holds Try.pinned (OpenSpec.ofChange rtreeCopiesSpec)

/-- ITS FALSE NEIGHBOUR: 'it returns false'. Refute it at one input. -/
def rtreeCopiesWrong : ChangeSpec := { name := "rtreeCopies", fn := fun _ => fun
  | [d1, d2] => { results := [.lit (.bool false)], args := [d1, d2] }
  | _ => none }
def RtreeCopiesWrongFalsely : Prop := rtreeCopiesRow.holds Try.pinned (OpenSpec.ofChange rtreeCopiesWrong)

/- THE SECOND FORM. 'bulk': how many values and letters a reading holds, each counted each time it is reached (what is shared counts as often as it is met; a slice's spare places count too). A statement '..UptoSaid' is the law's where the arguments, and the package variables that the reading takes, are together of bulk at most 1048576: NARROWER than '..Said'. Prove '..Said' where nothing that the law and all that it calls make is longer than what came in: it says more and counts as full. Else prove '..UptoSaid'. A law counts once. -/
mutual
def uptoBulk {H : Type} : DataW H → Nat
  | .lit (.string bytes) => bytes.length + 1
  | .lit _ => 1
  | .nil => 1
  | .ptr d => uptoBulk d + 1
  | .slice elems spare => uptoBulkAll elems + uptoBulkAll spare + 1
  | .agg parts => uptoBulkAll parts + 1
  | .iface _ d => uptoBulk d + 1
  | .map entries => uptoBulkEntries entries + 1
  | .held _ => 1
def uptoBulkAll {H : Type} : List (DataW H) → Nat
  | [] => 0
  | d :: r => uptoBulk d + uptoBulkAll r
def uptoBulkEntries {H : Type} : List (Lit × DataW H) → Nat
  | [] => 0
  | x :: r => uptoBulkEntry x + uptoBulkEntries r
def uptoBulkEntry {H : Type} : Lit × DataW H → Nat
  | (.string bytes, d) => bytes.length + uptoBulk d + 1
  | (_, d) => uptoBulk d + 1
 end
def uptoSmall : (H : Type) → List (DataW H) → Bool := fun _ ds => decide (uptoBulkAll ds ≤ 1048576)
def OpenSpec.upto (s : _root_.Go.ChangeSpec) : _root_.Go.OpenSpec := { _root_.Go.OpenSpec.ofChange s with cond := some uptoSmall }

/-- 'deedholdlaw14.RtreePlays', WHERE WHAT IT READS IS OF BULK AT MOST 1048576: true; the input reads as it did. -/
def rtreePlaysUptoRow : OpenClaim := { program := "ytndhdpjgnepfnaa", sum := "497a759853ed91b15f0146f7c0892b448fa8dc382f246f098597786f4cda24bb", func := "deedhold/deedholdlaw14.RtreePlays", spec := "rtreePlays", unfollowed := true, recurses := true, apart := false, narrowed := true }
def RtreePlaysUptoSaid : Prop := rtreePlaysUptoRow.holds Try.pinned (OpenSpec.upto rtreePlaysSpec)

/-- 'deedholdlaw14.RtreeMeets', WHERE WHAT IT READS IS OF BULK AT MOST 1048576: true; the input reads as it did. -/
def rtreeMeetsUptoRow : OpenClaim := { program := "ytndhdpjgnepfnaa", sum := "497a759853ed91b15f0146f7c0892b448fa8dc382f246f098597786f4cda24bb", func := "deedhold/deedholdlaw14.RtreeMeets", spec := "rtreeMeets", unfollowed := true, recurses := true, apart := false, narrowed := true }
def RtreeMeetsUptoSaid : Prop := rtreeMeetsUptoRow.holds Try.pinned (OpenSpec.upto rtreeMeetsSpec)

/-- 'deedholdlaw14.RtreeAt', WHERE WHAT IT READS IS OF BULK AT MOST 1048576: true; the input reads as it did. -/
def rtreeAtUptoRow : OpenClaim := { program := "ytndhdpjgnepfnaa", sum := "497a759853ed91b15f0146f7c0892b448fa8dc382f246f098597786f4cda24bb", func := "deedhold/deedholdlaw14.RtreeAt", spec := "rtreeAt", unfollowed := true, recurses := true, apart := false, narrowed := true }
def RtreeAtUptoSaid : Prop := rtreeAtUptoRow.holds Try.pinned (OpenSpec.upto rtreeAtSpec)

/-- 'deedholdlaw14.RtreeBounds', WHERE WHAT IT READS IS OF BULK AT MOST 1048576: true; the input reads as it did. -/
def rtreeBoundsUptoRow : OpenClaim := { program := "ytndhdpjgnepfnaa", sum := "497a759853ed91b15f0146f7c0892b448fa8dc382f246f098597786f4cda24bb", func := "deedhold/deedholdlaw14.RtreeBounds", spec := "rtreeBounds", unfollowed := true, recurses := true, apart := false, narrowed := true }
def RtreeBoundsUptoSaid : Prop := rtreeBoundsUptoRow.holds Try.pinned (OpenSpec.upto rtreeBoundsSpec)

/-- 'deedholdlaw14.RtreeCopies', WHERE WHAT IT READS IS OF BULK AT MOST 1048576: true; the input reads as it did. -/
def rtreeCopiesUptoRow : OpenClaim := { program := "ytndhdpjgnepfnaa", sum := "497a759853ed91b15f0146f7c0892b448fa8dc382f246f098597786f4cda24bb", func := "deedhold/deedholdlaw14.RtreeCopies", spec := "rtreeCopies", unfollowed := true, recurses := true, apart := false, narrowed := true }
def RtreeCopiesUptoSaid : Prop := rtreeCopiesUptoRow.holds Try.pinned (OpenSpec.upto rtreeCopiesSpec)

end Rows
end Go.Proofs.Ytndhdpjgnepfnaa
