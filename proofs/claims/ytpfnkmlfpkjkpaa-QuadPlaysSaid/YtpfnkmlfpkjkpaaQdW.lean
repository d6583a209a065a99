/-
  Quads: is a rectangle in the grid?
-/
import Derived.Test.YtpfnkmlfpkjkpaaQdV
namespace Go.Proofs.Ytpfnkmlfpkjkpaa.qd
open Go.RowKit Go.Shelf
open base (ret_bool ret_int made up Blk Only)
open rect rgm rk
set_option linter.unusedVariables false
set_option linter.unusedSimpArgs false
attribute [local go_sem] Oper.semAt_some

set_option maxHeartbeats 2000000 in
theorem rright2 (x y u z : Int) (w : World) : Calls Try.prog 35 #[(.agg #[.int .i64 x, .int .i64 y, .int .i64 u, .int .i64 z])] w fun e w' => e = .returned (.bool (rightB x y u z)) ∧ Below w.heap.size w w' := by
  by_cases h0 : 0 ≤ x
  · exact rright_any x y u z (by omega) w
  · have h0 : x < 0 := by omega
    go_enter Try.func35, Try.ntmps35
    go_wp2
    go_ret
    exact ⟨ret_bool (right_no (by omega)).symm, made _ _⟩
set_option maxRecDepth 100000 in
set_option maxHeartbeats 4000000 in
theorem within_any (S : Nat) (a b c d : Int) (w : World) (hS : S ≤ 256) : Calls Try.prog 29 #[(.agg #[.int .i64 a, .int .i64 b, .int .i64 c, .int .i64 d]), .int .i64 (S : Nat)] w fun e w' => e = .returned (.bool (decide (inB 0 0 (S : Nat) a b c d))) ∧ Below w.heap.size w w' := by
  obtain ⟨w1, hw1⟩ : ∃ w1, w.alloc (.cells #[.int .i64 a, .int .i64 b, .int .i64 c, .int .i64 d] 42) = w1 := ⟨_, rfl⟩
  have M1 := Lib.hid (show Below w.heap.size w w1 from by rw [← hw1]; exact made w _)
  have B1 := Lib.hid (show Blk w1 w.heap.size 42 #[.int .i64 a, .int .i64 b, .int .i64 c, .int .i64 d] from by rw [← hw1]; exact Blk.new _ _ _)
  have RR := Lib.hid (rright2 a b c d w1)
  have HW1 := Lib.hid hw1
  clear hw1
  obtain ⟨x0, x1, x2, x3⟩ := B1.out.four
  cases hr : rightB a b c d
  · rw [hr] at RR
    rw [decide_eq_false (fun q => by have := q.1; rw [hr] at this; cases this)]
    clear hr
    go_enter Try.func29, Try.ntmps29
    go_upto_region 1 with fail
    have hw1 := HW1.out
    simp only [hw1]
    clear hw1 HW1
    go_wp2_with fail
    refine RR.out.mono ?_
    rintro e w2 ⟨rfl, hb2⟩
    have B2 := Lib.hid (up M1.out hb2 M1.out.size)
    clear hb2 RR x0 x1 x2 x3
    go_wp2_with fail
    go_ret
    exact ⟨rfl, B2.out⟩
  · rw [hr] at RR
    have hy := right_yes hr
    have hw2 : IntKind.i64.wrap (a + c) = a + c := IntWalk.i64_in _ (by omega)
    have hw3 : IntKind.i64.wrap (b + d) = b + d := IntWalk.i64_in _ (by omega)
    have H2 := Lib.hid hw2
    have H3 := Lib.hid hw3
    by_cases h1 : a + c ≤ (S : Int)
    · have d1 : decide (a + c ≤ (S : Int)) = true := decide_eq_true h1
      by_cases h2 : b + d ≤ (S : Int)
      · have d2 : decide (b + d ≤ (S : Int)) = true := decide_eq_true h2
        rw [decide_eq_true (show inB 0 0 (S : Nat) a b c d from ⟨hr, by omega, by omega, by omega, by omega⟩)]
        clear hr hy h1 h2
        go_enter Try.func29, Try.ntmps29
        go_upto_region 1 with fail
        have hw1 := HW1.out
        simp only [hw1]
        clear hw1 HW1
        go_wp2_with fail
        refine RR.out.mono ?_
        rintro e w2 ⟨rfl, hb2⟩
        have B2 := Lib.hid (up M1.out hb2 M1.out.size)
        obtain ⟨y0, y1, y2, y3⟩ := (B1.out.below hb2 B1.out.lt).four
        clear hb2 RR x0 x1 x2 x3
        go_wp2_with fail
        go_ret
        exact ⟨rfl, B2.out⟩
      · have d2 : decide (b + d ≤ (S : Int)) = false := decide_eq_false h2
        rw [decide_eq_false (fun q : inB 0 0 (S : Nat) a b c d => by have := q.2; omega)]
        clear hr hy h1 h2
        go_enter Try.func29, Try.ntmps29
        go_upto_region 1 with fail
        have hw1 := HW1.out
        simp only [hw1]
        clear hw1 HW1
        go_wp2_with fail
        refine RR.out.mono ?_
        rintro e w2 ⟨rfl, hb2⟩
        have B2 := Lib.hid (up M1.out hb2 M1.out.size)
        obtain ⟨y0, y1, y2, y3⟩ := (B1.out.below hb2 B1.out.lt).four
        clear hb2 RR x0 x1 x2 x3
        go_wp2_with fail
        go_ret
        exact ⟨rfl, B2.out⟩
    · have d1 : decide (a + c ≤ (S : Int)) = false := decide_eq_false h1
      rw [decide_eq_false (fun q : inB 0 0 (S : Nat) a b c d => by have := q.2; omega)]
      clear hr hy h1
      go_enter Try.func29, Try.ntmps29
      go_upto_region 1 with fail
      have hw1 := HW1.out
      simp only [hw1]
      clear hw1 HW1
      go_wp2_with fail
      refine RR.out.mono ?_
      rintro e w2 ⟨rfl, hb2⟩
      have B2 := Lib.hid (up M1.out hb2 M1.out.size)
      obtain ⟨y0, y1, y2, y3⟩ := (B1.out.below hb2 B1.out.lt).four
      clear hb2 RR x0 x1 x2 x3
      go_wp2_with fail
      go_ret
      exact ⟨rfl, B2.out⟩
end Go.Proofs.Ytpfnkmlfpkjkpaa.qd
