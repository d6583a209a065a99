/-
  Contracts of package rect, sixth part: two together.
-/
import Derived.Test.YtpfnkmlfpkjkpaaRectE
namespace Go.Proofs.Ytpfnkmlfpkjkpaa.rect
open Go.RowKit
open base (ret_bool ret_int made up Blk Only)
set_option linter.unusedVariables false

/-- the least side that has both -/
def jx (x a : Int) : Int := min x a
def jw (x u a c : Int) : Int := max (x + u) (a + c) - min x a

end Go.Proofs.Ytpfnkmlfpkjkpaa.rect
