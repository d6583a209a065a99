/-
  NARROWER THAN 'FOR EVERY INPUT', by the rows' own cells (each row's printed sentence says how): SealSums: laid · SealOpens: laid · SealFits: laid · SealParts: laid · SealOwn: laid.
  DERIVED. THE GIVEN ROWS OF THIS SEAT. 5 by the template 'for every input the law returns true; each argument reads behind the call as it read before'; 0 by the template 'total and deterministic' (their statements: YtnmoipkodpaihaaDoorTotals.lean).
  GIVEN WITH THE SEED: the statements are not yours to turn. If you find one false, say at which input.
  Laid BY PROGRAM, IN A SANDBOX (cutbox-rows.mjs): the forced cells as the released guide's own fill.sh prints them over the translation e5dbe1779012f7d9… (all of the seat's roots in one cut). By AI agents, Wed Nov 11 2026. No macro, syntax, notation, axiom, sorry.
-/
import Derived.Test.YtnmoipkodpaihaaDoorChecked
import GoSem.Claim
import GoSem.ClaimJoined
import GoSem.ClaimMapViews
import Derived.JoinedTies
import Derived.KernelRfl
namespace Go.Proofs.YtnmoipkodpaihaaDoor
/- THE CELL 'sum', in the pinned program and in every row, IS THE sha256 OF THE DUMP (.gsa) THAT YtnmoipkodpaihaaDoorProg.lean LOADS. Nothing in Lean hashes anything: it is a label: what it is worth is what the hold of that sum in a sandbox is worth. -/
noncomputable def Tryd.pinned : Pinned := { name := "ytnmoipkodpaihaadoor", sum := "e5dbe1779012f7d9f7776ee8d041de049f9dba1c088bb2a0bf9f2c453cc96437", checked := Tryd.checked }
namespace Rows
def none {H : Type} : Left H := { results := [], args := [] }

/- WHAT THE LISTED PACKAGE-LEVEL VARIABLES READ AS WHEN THE CALL BEGINS. Each datum BY PROGRAM (the guide's laid-datum.mjs) off the statement by which the dump's own 'gosem.cut.vars' lays the variable. In a bare row this is a premise. The card (YtnmoipkodpaihaaDoorCards.lean) ties it to the program's text. -/
def laid_deedhold_seal_half {H : Type} : DataW H := .agg [.lit (.int .u32 0), .lit (.int .u32 498536548), .lit (.int .u32 997073096), .lit (.int .u32 651767980), .lit (.int .u32 1994146192), .lit (.int .u32 1802195444), .lit (.int .u32 1303535960), .lit (.int .u32 1342533948), .lit (.int .u32 3988292384), .lit (.int .u32 4027552580), .lit (.int .u32 3604390888), .lit (.int .u32 3412177804), .lit (.int .u32 2607071920), .lit (.int .u32 2262029012), .lit (.int .u32 2685067896), .lit (.int .u32 3183342108)]

/-- 'deedholdlaw03.SealSums': WHATEVER THE INPUT: true; the input reads as it did. -/
def sealSumsSpec : ChangeSpec := { name := "sealSums", fn := fun _ => fun
  | [d1, d2] => { results := [.lit (.bool true)], args := [d1, d2] }
  | _ => none }
def sealSumsRow : OpenClaim := { program := "ytnmoipkodpaihaadoor", sum := "e5dbe1779012f7d9f7776ee8d041de049f9dba1c088bb2a0bf9f2c453cc96437", func := "deedhold/deedholdlaw03.SealSums", spec := "sealSums", named := ["deedhold/seal.half"], apart := false, laid := [("deedhold/seal.half", laid_deedhold_seal_half)] }
def SealSumsSaid : Prop := sealSumsRow.holds Tryd.pinned (OpenSpec.ofChange sealSumsSpec)

/-- ITS FALSE NEIGHBOUR: 'it returns false'. Refute it at one input. -/
def sealSumsWrong : ChangeSpec := { name := "sealSums", fn := fun _ => fun
  | [d1, d2] => { results := [.lit (.bool false)], args := [d1, d2] }
  | _ => none }
def SealSumsWrongFalsely : Prop := sealSumsRow.holds Tryd.pinned (OpenSpec.ofChange sealSumsWrong)

/-- 'deedholdlaw03.SealOpens': WHATEVER THE INPUT: true; the input reads as it did. -/
def sealOpensSpec : ChangeSpec := { name := "sealOpens", fn := fun _ => fun
  | [d] => { results := [.lit (.bool true)], args := [d] }
  | _ => none }
def sealOpensRow : OpenClaim := { program := "ytnmoipkodpaihaadoor", sum := "e5dbe1779012f7d9f7776ee8d041de049f9dba1c088bb2a0bf9f2c453cc96437", func := "deedhold/deedholdlaw03.SealOpens", spec := "sealOpens", named := ["deedhold/seal.half"], apart := false, laid := [("deedhold/seal.half", laid_deedhold_seal_half)] }
def SealOpensSaid : Prop := sealOpensRow.holds Tryd.pinned (OpenSpec.ofChange sealOpensSpec)

/-- ITS FALSE NEIGHBOUR: 'it returns false'. Refute it at one input. -/
def sealOpensWrong : ChangeSpec := { name := "sealOpens", fn := fun _ => fun
  | [d] => { results := [.lit (.bool false)], args := [d] }
  | _ => none }
def SealOpensWrongFalsely : Prop := sealOpensRow.holds Tryd.pinned (OpenSpec.ofChange sealOpensWrong)

/-- 'deedholdlaw03.SealFits': WHATEVER THE INPUT: true; the input reads as it did. -/
def sealFitsSpec : ChangeSpec := { name := "sealFits", fn := fun _ => fun
  | [d1, d2] => { results := [.lit (.bool true)], args := [d1, d2] }
  | _ => none }
def sealFitsRow : OpenClaim := { program := "ytnmoipkodpaihaadoor", sum := "e5dbe1779012f7d9f7776ee8d041de049f9dba1c088bb2a0bf9f2c453cc96437", func := "deedhold/deedholdlaw03.SealFits", spec := "sealFits", named := ["deedhold/seal.half"], apart := false, laid := [("deedhold/seal.half", laid_deedhold_seal_half)] }
def SealFitsSaid : Prop := sealFitsRow.holds Tryd.pinned (OpenSpec.ofChange sealFitsSpec)

/-- ITS FALSE NEIGHBOUR: 'it returns false'. Refute it at one input. -/
def sealFitsWrong : ChangeSpec := { name := "sealFits", fn := fun _ => fun
  | [d1, d2] => { results := [.lit (.bool false)], args := [d1, d2] }
  | _ => none }
def SealFitsWrongFalsely : Prop := sealFitsRow.holds Tryd.pinned (OpenSpec.ofChange sealFitsWrong)

/-- 'deedholdlaw03.SealParts': WHATEVER THE INPUT: true; the input reads as it did. -/
def sealPartsSpec : ChangeSpec := { name := "sealParts", fn := fun _ => fun
  | [d1, d2] => { results := [.lit (.bool true)], args := [d1, d2] }
  | _ => none }
def sealPartsRow : OpenClaim := { program := "ytnmoipkodpaihaadoor", sum := "e5dbe1779012f7d9f7776ee8d041de049f9dba1c088bb2a0bf9f2c453cc96437", func := "deedhold/deedholdlaw03.SealParts", spec := "sealParts", named := ["deedhold/seal.half"], apart := false, laid := [("deedhold/seal.half", laid_deedhold_seal_half)] }
def SealPartsSaid : Prop := sealPartsRow.holds Tryd.pinned (OpenSpec.ofChange sealPartsSpec)

/-- ITS FALSE NEIGHBOUR: 'it returns false'. Refute it at one input. -/
def sealPartsWrong : ChangeSpec := { name := "sealParts", fn := fun _ => fun
  | [d1, d2] => { results := [.lit (.bool false)], args := [d1, d2] }
  | _ => none }
def SealPartsWrongFalsely : Prop := sealPartsRow.holds Tryd.pinned (OpenSpec.ofChange sealPartsWrong)

/-- 'deedholdlaw03.SealOwn': WHATEVER THE INPUT: true; the input reads as it did. -/
def sealOwnSpec : ChangeSpec := { name := "sealOwn", fn := fun _ => fun
  | [d1, d2] => { results := [.lit (.bool true)], args := [d1, d2] }
  | _ => none }
def sealOwnRow : OpenClaim := { program := "ytnmoipkodpaihaadoor", sum := "e5dbe1779012f7d9f7776ee8d041de049f9dba1c088bb2a0bf9f2c453cc96437", func := "deedhold/deedholdlaw03.SealOwn", spec := "sealOwn", named := ["deedhold/seal.half"], apart := false, laid := [("deedhold/seal.half", laid_deedhold_seal_half)] }
def SealOwnSaid : Prop := sealOwnRow.holds Tryd.pinned (OpenSpec.ofChange sealOwnSpec)

/-- ITS FALSE NEIGHBOUR: 'it returns false'. Refute it at one input. -/
def sealOwnWrong : ChangeSpec := { name := "sealOwn", fn := fun _ => fun
  | [d1, d2] => { results := [.lit (.bool false)], args := [d1, d2] }
  | _ => none }
def SealOwnWrongFalsely : Prop := sealOwnRow.holds Tryd.pinned (OpenSpec.ofChange sealOwnWrong)

/- THE SECOND FORM. 'bulk': how many values and letters a reading holds, each counted each time it is reached (what is shared counts as often as it is met; a slice's spare places count too). A statement '..UptoSaid' is the law's where the arguments, and the package variables that the reading takes, are together of bulk at most 1048576: NARROWER than '..Said'. Prove '..Said' where nothing that the law and all that it calls make is longer than what came in: it says more and counts as full. Else prove '..UptoSaid'. A law counts once. -/
mutual
def uptoBulk {H : Type} : DataW H → Nat
  | .lit (.string bytes) => bytes.length + 1
  | .lit _ => 1
  | .nil => 1
  | .ptr d => uptoBulk d + 1
  | .slice elems spare => uptoBulkAll elems + uptoBulkAll spare + 1
  | .agg parts => uptoBulkAll parts + 1
  | .iface _ d => uptoBulk d + 1
  | .map entries => uptoBulkEntries entries + 1
  | .held _ => 1
def uptoBulkAll {H : Type} : List (DataW H) → Nat
  | [] => 0
  | d :: r => uptoBulk d + uptoBulkAll r
def uptoBulkEntries {H : Type} : List (Lit × DataW H) → Nat
  | [] => 0
  | x :: r => uptoBulkEntry x + uptoBulkEntries r
def uptoBulkEntry {H : Type} : Lit × DataW H → Nat
  | (.string bytes, d) => bytes.length + uptoBulk d + 1
  | (_, d) => uptoBulk d + 1
 end
def uptoSmall : (H : Type) → List (DataW H) → Bool := fun _ ds => decide (uptoBulkAll ds ≤ 1048576)
def OpenSpec.upto (s : _root_.Go.ChangeSpec) : _root_.Go.OpenSpec := { _root_.Go.OpenSpec.ofChange s with cond := some uptoSmall }

/-- 'deedholdlaw03.SealSums', WHERE WHAT IT READS IS OF BULK AT MOST 1048576: true; the input reads as it did. -/
def sealSumsUptoRow : OpenClaim := { program := "ytnmoipkodpaihaadoor", sum := "e5dbe1779012f7d9f7776ee8d041de049f9dba1c088bb2a0bf9f2c453cc96437", func := "deedhold/deedholdlaw03.SealSums", spec := "sealSums", named := ["deedhold/seal.half"], apart := false, laid := [("deedhold/seal.half", laid_deedhold_seal_half)], narrowed := true }
def SealSumsUptoSaid : Prop := sealSumsUptoRow.holds Tryd.pinned (OpenSpec.upto sealSumsSpec)

/-- 'deedholdlaw03.SealOpens', WHERE WHAT IT READS IS OF BULK AT MOST 1048576: true; the input reads as it did. -/
def sealOpensUptoRow : OpenClaim := { program := "ytnmoipkodpaihaadoor", sum := "e5dbe1779012f7d9f7776ee8d041de049f9dba1c088bb2a0bf9f2c453cc96437", func := "deedhold/deedholdlaw03.SealOpens", spec := "sealOpens", named := ["deedhold/seal.half"], apart := false, laid := [("deedhold/seal.half", laid_deedhold_seal_half)], narrowed := true }
def SealOpensUptoSaid : Prop := sealOpensUptoRow.holds Tryd.pinned (OpenSpec.upto sealOpensSpec)

/-- 'deedholdlaw03.SealFits', WHERE WHAT IT READS IS OF BULK AT MOST 1048576: true; the input reads as it did. -/
def sealFitsUptoRow : OpenClaim := { program := "ytnmoipkodpaihaadoor", sum := "e5dbe1779012f7d9f7776ee8d041de049f9dba1c088bb2a0bf9f2c453cc96437", func := "deedhold/deedholdlaw03.SealFits", spec := "sealFits", named := ["deedhold/seal.half"], apart := false, laid := [("deedhold/seal.half", laid_deedhold_seal_half)], narrowed := true }
def SealFitsUptoSaid : Prop := sealFitsUptoRow.holds Tryd.pinned (OpenSpec.upto sealFitsSpec)

/-- 'deedholdlaw03.SealParts', WHERE WHAT IT READS IS OF BULK AT MOST 1048576: true; the input reads as it did. -/
def sealPartsUptoRow : OpenClaim := { program := "ytnmoipkodpaihaadoor", sum := "e5dbe1779012f7d9f7776ee8d041de049f9dba1c088bb2a0bf9f2c453cc96437", func := "deedhold/deedholdlaw03.SealParts", spec := "sealParts", named := ["deedhold/seal.half"], apart := false, laid := [("deedhold/seal.half", laid_deedhold_seal_half)], narrowed := true }
def SealPartsUptoSaid : Prop := sealPartsUptoRow.holds Tryd.pinned (OpenSpec.upto sealPartsSpec)

/-- 'deedholdlaw03.SealOwn', WHERE WHAT IT READS IS OF BULK AT MOST 1048576: true; the input reads as it did. -/
def sealOwnUptoRow : OpenClaim := { program := "ytnmoipkodpaihaadoor", sum := "e5dbe1779012f7d9f7776ee8d041de049f9dba1c088bb2a0bf9f2c453cc96437", func := "deedhold/deedholdlaw03.SealOwn", spec := "sealOwn", named := ["deedhold/seal.half"], apart := false, laid := [("deedhold/seal.half", laid_deedhold_seal_half)], narrowed := true }
def SealOwnUptoSaid : Prop := sealOwnUptoRow.holds Tryd.pinned (OpenSpec.upto sealOwnSpec)

end Rows
end Go.Proofs.YtnmoipkodpaihaaDoor
