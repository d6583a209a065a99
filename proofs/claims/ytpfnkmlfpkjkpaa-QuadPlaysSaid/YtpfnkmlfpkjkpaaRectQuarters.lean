/-
  RectQuarters: for every rectangle the law answers true. Conditions: none.
-/
import Derived.Test.YtpfnkmlfpkjkpaaRectE
import Derived.Lib.SmallJoins
namespace Go.Proofs.Ytpfnkmlfpkjkpaa.rectQuarters
open Go.ChangeShapes Go.WideShapes Go.ChangeAt Go.RowKit
open rect
open base (ret_bool ret_int made up Blk Only)
set_option linter.unusedVariables false

def zero4 : Value := (.agg #[.int .i64 0, .int .i64 0, .int .i64 0, .int .i64 0, .int .i64 0, .int .i64 0, .int .i64 0, .int .i64 0, .int .i64 0, .int .i64 0, .int .i64 0, .int .i64 0, .int .i64 0, .int .i64 0, .int .i64 0, .int .i64 0])

set_option maxHeartbeats 1000000 in
theorem quarters_bad (x y u z : Int) (w : World) (h : rightB x y u z = false) :
    Calls Try.prog 48 #[(.agg #[.int .i64 x, .int .i64 y, .int .i64 u, .int .i64 z])] w fun e w' => e = .returned (.agg #[.int .i64 0, .int .i64 0, .int .i64 0, .int .i64 0, .int .i64 0, .int .i64 0, .int .i64 0, .int .i64 0, .int .i64 0, .int .i64 0, .int .i64 0, .int .i64 0, .int .i64 0, .int .i64 0, .int .i64 0, .int .i64 0]) ∧ Below w.heap.size w w' := by
  go_enter Try.func48, Try.ntmps48
  go_wp2_with fail
  refine (right_any _ _ _ _ _).mono ?_
  rintro e w1 ⟨rfl, hb1⟩
  obtain ⟨hc1, hf1⟩ := base.old hb1
  go_wp2
  refine bodyPost_ret (v := (.agg #[.int .i64 0, .int .i64 0, .int .i64 0, .int .i64 0, .int .i64 0, .int .i64 0, .int .i64 0, .int .i64 0, .int .i64 0, .int .i64 0, .int .i64 0, .int .i64 0, .int .i64 0, .int .i64 0, .int .i64 0, .int .i64 0])) (by simp [results, Try.results48, go_sem, hc1]) rfl ⟨rfl, ?_⟩
  have key : Below w.heap.size w w1 := up (((Below.refl w.heap.size w).alloc (Nat.le_refl _) _).alloc (by simp) _) hb1 (by simp; omega)
  iterate 16 refine Below.setCell ?_ (Nat.le_succ w.heap.size) _
  exact key

set_option maxHeartbeats 1000000 in
theorem quarters_yes (x y u z : Int) (w : World) (h : rightB x y u z = true) (h1 : u % 2 = 0) (h2 : z % 2 = 0) :
    Calls Try.prog 48 #[(.agg #[.int .i64 x, .int .i64 y, .int .i64 u, .int .i64 z])] w fun e w' => e = .returned (.agg #[.int .i64 x, .int .i64 y, .int .i64 (u / 2), .int .i64 (z / 2), .int .i64 (x + u / 2), .int .i64 y, .int .i64 (u / 2), .int .i64 (z / 2), .int .i64 x, .int .i64 (y + z / 2), .int .i64 (u / 2), .int .i64 (z / 2), .int .i64 (x + u / 2), .int .i64 (y + z / 2), .int .i64 (u / 2), .int .i64 (z / 2)]) ∧ Below w.heap.size w w' := by
  obtain ⟨⟨y1, y2, y3, y4⟩, y5, y6, y7, y8⟩ := right_yes h
  go_enter Try.func48, Try.ntmps48
  go_wp2_with fail
  refine (right_any _ _ _ _ _).mono ?_
  rintro e w1 ⟨rfl, hb1⟩
  obtain ⟨hc1, hf1⟩ := base.old hb1
  go_wp2
  go_quiet (fail)
  go_wp2
  refine bodyPost_ret (v := (.agg #[.int .i64 x, .int .i64 y, .int .i64 (u / 2), .int .i64 (z / 2), .int .i64 (x + u / 2), .int .i64 y, .int .i64 (u / 2), .int .i64 (z / 2), .int .i64 x, .int .i64 (y + z / 2), .int .i64 (u / 2), .int .i64 (z / 2), .int .i64 (x + u / 2), .int .i64 (y + z / 2), .int .i64 (u / 2), .int .i64 (z / 2)])) (by simp [results, Try.results48, go_sem, hc1]) rfl ⟨rfl, ?_⟩
  have key : Below w.heap.size w w1 := up (((Below.refl w.heap.size w).alloc (Nat.le_refl _) _).alloc (by simp) _) hb1 (by simp; omega)
  iterate 16 refine Below.setCell ?_ (Nat.le_succ w.heap.size) _
  first | exact key | exact base.below_drewN key _

end Go.Proofs.Ytpfnkmlfpkjkpaa.rectQuarters
