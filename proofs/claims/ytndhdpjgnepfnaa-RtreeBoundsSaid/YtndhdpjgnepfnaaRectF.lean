/-
  Contracts of package rect, sixth part: two together.
-/
import Derived.Test.YtndhdpjgnepfnaaRectE
namespace Go.Proofs.Ytndhdpjgnepfnaa.rect
open Go.RowKit
open base (ret_bool ret_int made up Blk Only)
set_option linter.unusedVariables false

/-- the least side that has both -/
def jx (x a : Int) : Int := min x a
def jw (x u a c : Int) : Int := max (x + u) (a + c) - min x a

set_option maxHeartbeats 1000000 in
theorem join_none (x y u z a b c d : Int) (w : World) (h1 : rightB x y u z = false) (h2 : rightB a b c d = false) :
    Calls Try.prog 24 #[(.agg #[.int .i64 x, .int .i64 y, .int .i64 u, .int .i64 z]), (.agg #[.int .i64 a, .int .i64 b, .int .i64 c, .int .i64 d])] w fun e w' => e = .returned (.agg #[.int .i64 0, .int .i64 0, .int .i64 0, .int .i64 0]) ∧ Below w.heap.size w w' := by
  go_enter Try.func24, Try.ntmps24
  go_wp2_with fail
  refine (right_any _ _ _ _ _).mono ?_
  rintro e w1 ⟨rfl, hb1⟩
  obtain ⟨hc1, hf1⟩ := base.old hb1
  go_wp2_with fail
  refine (right_any _ _ _ _ _).mono ?_
  rintro e w2 ⟨rfl, hb2⟩
  have hb12 := up hb1 hb2 (by simpa using hb1.size)
  clear hc1 hf1
  obtain ⟨hc1, hf1⟩ := base.old hb12
  go_wp2
  refine bodyPost_ret (v := (.agg #[.int .i64 0, .int .i64 0, .int .i64 0, .int .i64 0])) (by simp [results, Try.results24, go_sem, hc1]) rfl ⟨rfl, ?_⟩
  have := up (W3 _ _ _ _) hb12 (by simp; omega)
  repeat (first | exact this | refine Below.setCell ?_ (by simp; omega) _)

set_option maxHeartbeats 2000000 in
theorem join_second (x y u z a b c d : Int) (w : World) (h1 : rightB x y u z = false) (h2 : rightB a b c d = true) :
    Calls Try.prog 24 #[(.agg #[.int .i64 x, .int .i64 y, .int .i64 u, .int .i64 z]), (.agg #[.int .i64 a, .int .i64 b, .int .i64 c, .int .i64 d])] w fun e w' => e = .returned (.agg #[.int .i64 a, .int .i64 b, .int .i64 c, .int .i64 d]) ∧ Below w.heap.size w w' := by
  go_enter Try.func24, Try.ntmps24
  go_wp2_with fail
  refine (right_any _ _ _ _ _).mono ?_
  rintro e w1 ⟨rfl, hb1⟩
  obtain ⟨hc1, hf1⟩ := base.old hb1
  go_wp2_with fail
  refine (right_any _ _ _ _ _).mono ?_
  rintro e w2 ⟨rfl, hb2⟩
  have hb12 := up hb1 hb2 (by simpa using hb1.size)
  clear hc1 hf1
  obtain ⟨hc1, hf1⟩ := base.old hb12
  go_wp2_with fail
  refine (right_any _ _ _ _ _).mono ?_
  rintro e w3 ⟨rfl, hb3⟩
  have hb13 := up hb12 hb3 (by simpa using hb12.size)
  clear hc1 hf1
  obtain ⟨hc1, hf1⟩ := base.old hb13
  go_wp2
  refine bodyPost_ret (v := (.agg #[.int .i64 a, .int .i64 b, .int .i64 c, .int .i64 d])) (by simp [results, Try.results24, go_sem, hc1]) rfl ⟨rfl, ?_⟩
  have := up (W3 _ _ _ _) hb13 (by simp; omega)
  repeat (first | exact this | refine Below.setCell ?_ (by simp; omega) _)

set_option maxHeartbeats 2000000 in
theorem join_first (x y u z a b c d : Int) (w : World) (h1 : rightB x y u z = true) (h2 : rightB a b c d = false) :
    Calls Try.prog 24 #[(.agg #[.int .i64 x, .int .i64 y, .int .i64 u, .int .i64 z]), (.agg #[.int .i64 a, .int .i64 b, .int .i64 c, .int .i64 d])] w fun e w' => e = .returned (.agg #[.int .i64 x, .int .i64 y, .int .i64 u, .int .i64 z]) ∧ Below w.heap.size w w' := by
  go_enter Try.func24, Try.ntmps24
  go_wp2_with fail
  refine (right_any _ _ _ _ _).mono ?_
  rintro e w1 ⟨rfl, hb1⟩
  obtain ⟨hc1, hf1⟩ := base.old hb1
  go_wp2_with fail
  refine (right_any _ _ _ _ _).mono ?_
  rintro e w2 ⟨rfl, hb2⟩
  have hb12 := up hb1 hb2 (by simpa using hb1.size)
  clear hc1 hf1
  obtain ⟨hc1, hf1⟩ := base.old hb12
  go_wp2_with fail
  refine (right_any _ _ _ _ _).mono ?_
  rintro e w3 ⟨rfl, hb3⟩
  have hb13 := up hb12 hb3 (by simpa using hb12.size)
  clear hc1 hf1
  obtain ⟨hc1, hf1⟩ := base.old hb13
  go_wp2
  refine bodyPost_ret (v := (.agg #[.int .i64 x, .int .i64 y, .int .i64 u, .int .i64 z])) (by simp [results, Try.results24, go_sem, hc1]) rfl ⟨rfl, ?_⟩
  have := up (W3 _ _ _ _) hb13 (by simp; omega)
  repeat (first | exact this | refine Below.setCell ?_ (by simp; omega) _)

set_option maxHeartbeats 2000000 in
theorem join_both (x y u z a b c d : Int) (w : World) (h1 : rightB x y u z = true) (h2 : rightB a b c d = true) :
    Calls Try.prog 24 #[(.agg #[.int .i64 x, .int .i64 y, .int .i64 u, .int .i64 z]), (.agg #[.int .i64 a, .int .i64 b, .int .i64 c, .int .i64 d])] w fun e w' => e = .returned (.agg #[.int .i64 (jx x a), .int .i64 (jx y b), .int .i64 (jw x u a c), .int .i64 (jw y z b d)]) ∧ Below w.heap.size w w' := by
  obtain ⟨⟨y1, y2, y3, y4⟩, y5, y6, y7, y8⟩ := right_yes h1
  obtain ⟨⟨z1, z2, z3, z4⟩, z5, z6, z7, z8⟩ := right_yes h2
  have e1 : min x a = jx x a := rfl
  have e2 : min y b = jx y b := rfl
  have e3 : max (x + u) (a + c) - min x a = jw x u a c := rfl
  have e4 : max (y + z) (b + d) - min y b = jw y z b d := rfl
  have b3 : -9223372036854775808 ≤ jw x u a c ∧ jw x u a c ≤ 9223372036854775807 := by unfold jw; omega
  have b4 : -9223372036854775808 ≤ jw y z b d ∧ jw y z b d ≤ 9223372036854775807 := by unfold jw; omega
  generalize jx x a = p at *
  generalize jx y b = q at *
  generalize jw x u a c = r at *
  generalize jw y z b d = s at *
  have E1 := Lib.hid e1
  have E2 := Lib.hid e2
  have E3 := Lib.hid e3
  have E4 := Lib.hid e4
  clear e1 e2 e3 e4
  go_enter Try.func24, Try.ntmps24
  go_wp2_with fail
  refine (right_any _ _ _ _ _).mono ?_
  rintro e w1 ⟨rfl, hb1⟩
  obtain ⟨hc1, hf1⟩ := base.old hb1
  go_wp2_with fail
  refine (right_any _ _ _ _ _).mono ?_
  rintro e w2 ⟨rfl, hb2⟩
  have hb12 := up hb1 hb2 (by simpa using hb1.size)
  clear hc1 hf1
  obtain ⟨hc1, hf1⟩ := base.old hb12
  go_wp2_with fail
  refine (right_any _ _ _ _ _).mono ?_
  rintro e w3 ⟨rfl, hb3⟩
  have hb13 := up hb12 hb3 (by simpa using hb12.size)
  clear hc1 hf1
  obtain ⟨hc1, hf1⟩ := base.old hb13
  go_wp2_with fail
  refine (between_is _ _ _ _ p q r s _ E1.out E2.out E3.out E4.out b3 b4).mono ?_
  rintro e w4 ⟨rfl, hb4⟩
  have hb14 := up hb13 hb4 (by simpa using hb13.size)
  clear hc1 hf1
  obtain ⟨hc1, hf1⟩ := base.old hb14
  go_wp2
  refine bodyPost_ret (v := (.agg #[.int .i64 p, .int .i64 q, .int .i64 r, .int .i64 s])) (by simp [results, Try.results24, go_sem, hc1]) rfl ⟨rfl, ?_⟩
  have := up (W3 _ _ _ _) hb14 (by simp; omega)
  repeat (first | exact this | refine Below.setCell ?_ (by simp; omega) _)
end Go.Proofs.Ytndhdpjgnepfnaa.rect
