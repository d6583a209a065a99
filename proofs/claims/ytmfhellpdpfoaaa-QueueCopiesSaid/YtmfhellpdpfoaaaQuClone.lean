/-
  The laying of maps.Clone at this seat (printed by the kit's plain mode; tools/clone1.sh NAME ALIAS N).
-/
import Derived.Shelf.SlMaps.Clone
import Derived.Ground.SlmcProg
import Derived.Test.YtmfhellpdpfoaaaProg
namespace Go.Proofs
open Go.Shelf
def Ytmfhellpdpfoaaa.cloneA_ren : Go.Shelf.Ren := ⟨fun | 5 => 28 | 7 => 35 | n => n, fun | 23 => 52 | 25 => 3 | 3 => 3 | 4 => 4 | 20 => 20 | n => n, fun | n => n⟩
theorem Ytmfhellpdpfoaaa.cloneA : Go.Proofs.SlLaysW.n5 Try.prog Ytmfhellpdpfoaaa.cloneA_ren := {
  mixed := by kernel_rfl
  f5 := ⟨Try.f28.name, by decide, Try.func28.trans (congrArg some (by kernel_rfl))⟩
  f7 := Try.func35.trans (congrArg some (by kernel_rfl))
  t4 := Try.underlying4
  a4 := Try.isAgg4
  z4 := Try.sizeOf4
  v4 := Try.zeroValue4
  t20 := Try.underlying20
  a20 := Try.isAgg20
  z20 := Try.sizeOf20
  v20 := Try.zeroValue20
  t23 := Try.underlying52
  a23 := Try.isAgg52
  z23 := Try.sizeOf52
  v23 := Try.zeroValue52 }
end Go.Proofs
