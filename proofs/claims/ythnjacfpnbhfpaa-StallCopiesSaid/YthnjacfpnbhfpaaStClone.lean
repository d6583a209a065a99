/-
  The laying of maps.Clone at this seat (printed by the kit's plain mode; tools/clone1.sh NAME ALIAS N).
-/
import Derived.Shelf.SlMaps.Clone
import Derived.Ground.SlmcProg
import Derived.Test.YthnjacfpnbhfpaaProg
namespace Go.Proofs
open Go.Shelf
def Ythnjacfpnbhfpaa.cloneA_ren : Go.Shelf.Ren := ⟨fun | 5 => 42 | 7 => 48 | n => n, fun | 23 => 65 | 25 => 3 | 3 => 3 | 4 => 4 | 20 => 20 | n => n, fun | n => n⟩
theorem Ythnjacfpnbhfpaa.cloneA : Go.Proofs.SlLaysW.n5 Try.prog Ythnjacfpnbhfpaa.cloneA_ren := {
  mixed := by kernel_rfl
  f5 := ⟨Try.f42.name, by decide, Try.func42.trans (congrArg some (by kernel_rfl))⟩
  f7 := Try.func48.trans (congrArg some (by kernel_rfl))
  t4 := Try.underlying4
  a4 := Try.isAgg4
  z4 := Try.sizeOf4
  v4 := Try.zeroValue4
  t20 := Try.underlying20
  a20 := Try.isAgg20
  z20 := Try.sizeOf20
  v20 := Try.zeroValue20
  t23 := Try.underlying65
  a23 := Try.isAgg65
  z23 := Try.sizeOf65
  v23 := Try.zeroValue65 }
end Go.Proofs
