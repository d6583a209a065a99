/-
  RectMeets, second part: what has no tile in common, by the numbers. Conditions: as the theorem says.
-/
import Derived.Test.YtognbljpmhhbkaaRectMeetsA
namespace Go.Proofs.Ytognbljpmhhbkaa.rectMeets
open Go.ChangeShapes Go.WideShapes Go.ChangeAt Go.RowKit
open rect
open base (ret_bool ret_int made up Blk Only)
set_option linter.unusedVariables false

theorem cx_comm (x a : Int) : cx a x = cx x a := by unfold cx; omega
theorem cw_comm (x u a c : Int) : cw a c x u = cw x u a c := by unfold cw; omega
theorem common_no (x y u z a b c d : Int) (w : World) (h : rightB x y u z = false ∨ rightB a b c d = false ∨ rightB (cx x a) (cx y b) (cw x u a c) (cw y z b d) = false) :
    Calls Try.prog 19 #[(.agg #[.int .i64 x, .int .i64 y, .int .i64 u, .int .i64 z]), (.agg #[.int .i64 a, .int .i64 b, .int .i64 c, .int .i64 d])] w fun e w' => e = .returned (.tuple #[(.agg #[.int .i64 0, .int .i64 0, .int .i64 0, .int .i64 0]), .bool false]) ∧ Below w.heap.size w w' := by
  cases h1 : rightB x y u z with
  | false => exact common_bad _ _ _ _ _ _ _ _ w (.inl h1)
  | true =>
    cases h2 : rightB a b c d with
    | false => exact common_bad _ _ _ _ _ _ _ _ w (.inr h2)
    | true =>
      rw [h1, h2] at h
      exact common_none _ _ _ _ _ _ _ _ w h1 h2 (by simpa using h)
theorem walk_none (x y u z a b c d : Int) (w : World) (b1 : -9223372036854775808 ≤ x) (b2 : -9223372036854775808 ≤ a)
    (h : rightB x y u z = false ∨ rightB a b c d = false ∨ rightB (cx x a) (cx y b) (cw x u a c) (cw y z b d) = false) :
    Calls Try.prog 4 #[(.agg #[.int .i64 x, .int .i64 y, .int .i64 u, .int .i64 z]), (.agg #[.int .i64 a, .int .i64 b, .int .i64 c, .int .i64 d])] w (Good w) := by
  have h' : rightB a b c d = false ∨ rightB x y u z = false ∨ rightB (cx a x) (cx b y) (cw a c x u) (cw b d y z) = false := by
    rw [cx_comm x a, cx_comm y b, cw_comm x u a c, cw_comm y z b d]
    rcases h with h | h | h
    · exact .inr (.inl h)
    · exact .inl h
    · exact .inr (.inr h)
  refine walk_no x y u z a b c d w (fun w => ?_) (fun w => common_no _ _ _ _ _ _ _ _ w h) (fun w => common_no _ _ _ _ _ _ _ _ w h') (fun w => meets_no _ _ _ _ _ _ _ _ w h) (fun w => meets_no _ _ _ _ _ _ _ _ w h')
  cases h1 : rightB x y u z with
  | false => exact rmeets_no _ _ _ _ _ _ _ _ w b1 b2 (.inl h1)
  | true =>
    cases h2 : rightB a b c d with
    | false => exact rmeets_no _ _ _ _ _ _ _ _ w b1 b2 (.inr ⟨h1, h2⟩)
    | true =>
      rw [h1, h2] at h
      have h3 : rightB (cx x a) (cx y b) (cw x u a c) (cw y z b d) = false := by simpa using h
      obtain ⟨⟨y1, y2, y3, y4⟩, y5, y6, y7, y8⟩ := right_yes h1
      obtain ⟨⟨z1, z2, z3, z4⟩, z5, z6, z7, z8⟩ := right_yes h2
      have e : (decide (max x a < min (x + u) (a + c)) && decide (max y b < min (y + z) (b + d))) = false := by
        rw [← Bool.decide_and]
        refine decide_eq_false (fun hh => ?_)
        have := right_mk (x := cx x a) (y := cx y b) (u := cw x u a c) (z := cw y z b d) (by unfold cx cw; omega)
        rw [this] at h3
        cases h3
      have := rmeets_yes x y u z a b c d w h1 h2
      rwa [e] at this
end Go.Proofs.Ytognbljpmhhbkaa.rectMeets
