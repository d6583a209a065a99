/-
  Contracts of package rect, second part.
-/
import Derived.Test.YtndhdpjgnepfnaaRect
namespace Go.Proofs.Ytndhdpjgnepfnaa.rect
open Go.RowKit
open base (ret_bool ret_int made up Blk)
set_option linter.unusedVariables false

set_option maxHeartbeats 1000000 in
theorem between_any (x y u z : Int) (w : World) : Calls Try.prog 39 #[.int .i64 x, .int .i64 y, .int .i64 u, .int .i64 z] w fun e w' => e = .returned (.agg #[.int .i64 x, .int .i64 y, .int .i64 (wrap64 (u - x)), .int .i64 (wrap64 (z - y))]) ∧ Below w.heap.size w w' := by
  go_enter Try.func39, Try.ntmps39
  go_wp2
  refine bodyPost_ret (v := (.agg #[.int .i64 x, .int .i64 y, .int .i64 (wrap64 (u - x)), .int .i64 (wrap64 (z - y))])) (by simp [results, Try.results39, go_sem]) rfl ⟨rfl, ?_⟩
  repeat (first | exact Below.refl _ _ | refine Below.setCell ?_ (by simp) _ | refine Below.alloc ?_ (by simp) _)

set_option maxHeartbeats 1000000 in
theorem area_yes (x y u z : Int) (w : World) (hr : rightB x y u z = true) : Calls Try.prog 58 #[(.agg #[.int .i64 x, .int .i64 y, .int .i64 u, .int .i64 z])] w fun e w' => e = .returned (.int .i64 (u * z)) ∧ Below w.heap.size w w' := by
  obtain ⟨⟨y1, y2, y3, y4⟩, y5, y6, y7, y8⟩ := right_yes hr
  have h1 : 0 ≤ u * z := Int.mul_nonneg (by omega) (by omega)
  have h2 : u * z ≤ 256 * z := Int.mul_le_mul_of_nonneg_right (by omega) (by omega)
  go_enter Try.func58, Try.ntmps58
  go_wp2_with (first | (go_at_call 35; refine (right_any _ _ _ _ _).mono ?_; rintro e w1 ⟨rfl, hb1⟩; obtain ⟨c0, c1, c2, c3⟩ := ((base.Blk.new _ _ _).below hb1 (by simp)).four))
  go_ret
  exact ⟨rfl, up (made _ _) hb1 (by simp)⟩
theorem area_no (x y u z : Int) (w : World) (hr : rightB x y u z = false) : Calls Try.prog 58 #[(.agg #[.int .i64 x, .int .i64 y, .int .i64 u, .int .i64 z])] w fun e w' => e = .returned (.int .i64 0) ∧ Below w.heap.size w w' := by
  go_enter Try.func58, Try.ntmps58
  go_wp2_with (first | (go_at_call 35; refine (right_any _ _ _ _ _).mono ?_; rintro e w1 ⟨rfl, hb1⟩; obtain ⟨c0, c1, c2, c3⟩ := ((base.Blk.new _ _ _).below hb1 (by simp)).four))
  go_ret
  exact ⟨rfl, up (made _ _) hb1 (by simp)⟩

end Go.Proofs.Ytndhdpjgnepfnaa.rect
