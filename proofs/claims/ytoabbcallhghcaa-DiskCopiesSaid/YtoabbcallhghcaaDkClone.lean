/-
  The laying of maps.Clone at this seat (printed by the kit's plain mode; tools/clone1.sh NAME ALIAS N).
-/
import Derived.Shelf.SlMaps.Clone
import Derived.Ground.SlmcProg
import Derived.Test.YtoabbcallhghcaaProg
namespace Go.Proofs
open Go.Shelf
def Ytoabbcallhghcaa.cloneA_ren : Go.Shelf.Ren := ⟨fun | 5 => 38 | 7 => 44 | n => n, fun | 23 => 59 | 25 => 3 | 3 => 29 | 4 => 4 | 20 => 20 | n => n, fun | n => n⟩
theorem Ytoabbcallhghcaa.cloneA : Go.Proofs.SlLaysW.n5 Try.prog Ytoabbcallhghcaa.cloneA_ren := {
  mixed := by kernel_rfl
  f5 := ⟨Try.f38.name, by decide, Try.func38.trans (congrArg some (by kernel_rfl))⟩
  f7 := Try.func44.trans (congrArg some (by kernel_rfl))
  t4 := Try.underlying4
  a4 := Try.isAgg4
  z4 := Try.sizeOf4
  v4 := Try.zeroValue4
  t20 := Try.underlying20
  a20 := Try.isAgg20
  z20 := Try.sizeOf20
  v20 := Try.zeroValue20
  t23 := Try.underlying59
  a23 := Try.isAgg59
  z23 := Try.sizeOf59
  v23 := Try.zeroValue59 }
end Go.Proofs
