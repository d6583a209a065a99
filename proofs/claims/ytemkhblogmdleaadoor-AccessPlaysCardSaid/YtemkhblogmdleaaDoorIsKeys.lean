/-
  The layings of slices.Insert, Delete, BinarySearch at []int, at the seat of stage 18 (printed by the kit's plain mode; tools/layis.sh).
-/
import Derived.Shelf.Spec.SlicesInsert
import Derived.Shelf.Spec.SlicesInsertGrow
import Derived.Shelf.Slices.SearchI
import Derived.Shelf.Slices.Cells
import Derived.Ground.Names2Prog
import Derived.Test.YtemkhblogmdleaaDoorProg
namespace Go.Proofs
open Go.Shelf
def YtemkhblogmdleaaDoor.insertA_ren : Go.Shelf.Ren := ⟨fun | 21 => 33 | 27 => 37 | 28 => 38 | 35 => 40 | 39 => 41 | n => n, fun | 22 => 22 | 3 => 3 | 4 => 4 | 0 => 0 | n => n, fun | n => n⟩
theorem YtemkhblogmdleaaDoor.insertA : Go.Proofs.Lays2.n21 Tryd.prog YtemkhblogmdleaaDoor.insertA_ren := {
  mixed := by kernel_rfl
  f21 := Tryd.func33.trans (congrArg some (by kernel_rfl))
  f27 := Tryd.func37.trans (congrArg some (by kernel_rfl))
  f28 := Tryd.func38.trans (congrArg some (by kernel_rfl))
  f35 := Tryd.func40.trans (congrArg some (by kernel_rfl))
  f39 := Tryd.func41.trans (congrArg some (by kernel_rfl))
  t0 := Tryd.underlying0
  a0 := Tryd.isAgg0
  z0 := Tryd.sizeOf0
  v0 := Tryd.zeroValue0
  t3 := Tryd.underlying3
  a3 := Tryd.isAgg3
  z3 := Tryd.sizeOf3
  v3 := Tryd.zeroValue3
  t4 := Tryd.underlying4
  a4 := Tryd.isAgg4
  z4 := Tryd.sizeOf4
  v4 := Tryd.zeroValue4
  t22 := Tryd.underlying22
  a22 := Tryd.isAgg22
  z22 := Tryd.sizeOf22
  v22 := Tryd.zeroValue22
  i3 := by kernel_rfl }
def YtemkhblogmdleaaDoor.deleteA_ren : Go.Shelf.Ren := ⟨fun | 23 => 34 | n => n, fun | 22 => 22 | 3 => 3 | 4 => 4 | 0 => 0 | n => n, fun | n => n⟩
theorem YtemkhblogmdleaaDoor.deleteA : Go.Proofs.Lays2.n23 Tryd.prog YtemkhblogmdleaaDoor.deleteA_ren := {
  mixed := by kernel_rfl
  f23 := Tryd.func34.trans (congrArg some (by kernel_rfl))
  t0 := Tryd.underlying0
  a0 := Tryd.isAgg0
  z0 := Tryd.sizeOf0
  v0 := Tryd.zeroValue0
  t3 := Tryd.underlying3
  a3 := Tryd.isAgg3
  z3 := Tryd.sizeOf3
  v3 := Tryd.zeroValue3
  t4 := Tryd.underlying4
  a4 := Tryd.isAgg4
  z4 := Tryd.sizeOf4
  v4 := Tryd.zeroValue4
  t22 := Tryd.underlying22
  a22 := Tryd.isAgg22
  z22 := Tryd.sizeOf22
  v22 := Tryd.zeroValue22
  i3 := by kernel_rfl }
def YtemkhblogmdleaaDoor.searchA_ren : Go.Shelf.Ren := ⟨fun | 25 => 32 | 31 => 35 | 32 => 36 | 37 => 39 | n => n, fun | 22 => 22 | 3 => 3 | 4 => 4 | 40 => 61 | 0 => 0 | n => n, fun | n => n⟩
theorem YtemkhblogmdleaaDoor.searchA : Go.Proofs.Lays2.n25 Tryd.prog YtemkhblogmdleaaDoor.searchA_ren := {
  mixed := by kernel_rfl
  f25 := Tryd.func32.trans (congrArg some (by kernel_rfl))
  f31 := Tryd.func35.trans (congrArg some (by kernel_rfl))
  f32 := Tryd.func36.trans (congrArg some (by kernel_rfl))
  f37 := Tryd.func39.trans (congrArg some (by kernel_rfl))
  t0 := Tryd.underlying0
  a0 := Tryd.isAgg0
  z0 := Tryd.sizeOf0
  v0 := Tryd.zeroValue0
  t3 := Tryd.underlying3
  a3 := Tryd.isAgg3
  z3 := Tryd.sizeOf3
  v3 := Tryd.zeroValue3
  t4 := Tryd.underlying4
  a4 := Tryd.isAgg4
  z4 := Tryd.sizeOf4
  v4 := Tryd.zeroValue4
  t22 := Tryd.underlying22
  a22 := Tryd.isAgg22
  z22 := Tryd.sizeOf22
  v22 := Tryd.zeroValue22
  t40 := Tryd.underlying61
  a40 := Tryd.isAgg61
  z40 := Tryd.sizeOf61
  v40 := Tryd.zeroValue61 }
end Go.Proofs
