/-
  The laying of maps.Clone at this seat (printed by the kit's plain mode; tools/clone1.sh NAME ALIAS 37).
-/
import Derived.Shelf.SlMaps.Clone
import Derived.Ground.SlmcProg
import Derived.Test.YtmgfnhbhgmpchaaProg
namespace Go.Proofs
open Go.Shelf
def Ytmgfnhbhgmpchaa.cloneA_ren : Go.Shelf.Ren := ⟨fun | 5 => 37 | 7 => 48 | n => n, fun | 23 => 56 | 25 => 3 | 3 => 38 | 4 => 4 | 20 => 20 | n => n, fun | n => n⟩
theorem Ytmgfnhbhgmpchaa.cloneA : Go.Proofs.SlLaysW.n5 Try.prog Ytmgfnhbhgmpchaa.cloneA_ren := {
  mixed := by kernel_rfl
  f5 := ⟨Try.f37.name, by decide, Try.func37.trans (congrArg some (by kernel_rfl))⟩
  f7 := Try.func48.trans (congrArg some (by kernel_rfl))
  t4 := Try.underlying4
  a4 := Try.isAgg4
  z4 := Try.sizeOf4
  v4 := Try.zeroValue4
  t20 := Try.underlying20
  a20 := Try.isAgg20
  z20 := Try.sizeOf20
  v20 := Try.zeroValue20
  t23 := Try.underlying56
  a23 := Try.isAgg56
  z23 := Try.sizeOf56
  v23 := Try.zeroValue56 }
end Go.Proofs
