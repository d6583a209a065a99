/-
  Contracts of package rect, third part: what two have in common.
-/
import Derived.Test.YtndhdpjgnepfnaaRectB
import Derived.Lib.MinMax
namespace Go.Proofs.Ytndhdpjgnepfnaa.rect
open Go.RowKit
open base (ret_bool ret_int made up Blk)
set_option linter.unusedVariables false

/-- the values of what both have -/
def cx (x a : Int) : Int := max x a
def cw (x u a c : Int) : Int := min (x + u) (a + c) - max x a
theorem cx_bd {x a : Int} (h : 0 ≤ x ∧ x < 256) (h' : 0 ≤ a ∧ a < 256) : 0 ≤ cx x a ∧ cx x a < 256 := by unfold cx; omega

theorem W3 (w : World) (a b c : Obj) : Below w.heap.size w (((w.alloc a).alloc b).alloc c) := (((Below.refl _ _).alloc (Nat.le_refl _) _).alloc (by simp) _).alloc (by simp; omega) _

theorem between_is (x y u z p q r s : Int) (w : World) (h1 : x = p) (h2 : y = q) (h3 : u - x = r) (h4 : z - y = s) (hr : -9223372036854775808 ≤ r ∧ r ≤ 9223372036854775807) (hs : -9223372036854775808 ≤ s ∧ s ≤ 9223372036854775807) :
    Calls Try.prog 39 #[.int .i64 x, .int .i64 y, .int .i64 u, .int .i64 z] w fun e w' => e = .returned (.agg #[.int .i64 p, .int .i64 q, .int .i64 r, .int .i64 s]) ∧ Below w.heap.size w w' := by
  subst h1 h2 h3 h4
  have := between_any x y u z w
  rwa [IntWalk.wrap64_in _ hr, IntWalk.wrap64_in _ hs] at this

set_option maxHeartbeats 1000000 in
theorem common_bad (x y u z a b c d : Int) (w : World) (h : rightB x y u z = false ∨ rightB a b c d = false) :
    Calls Try.prog 48 #[(.agg #[.int .i64 x, .int .i64 y, .int .i64 u, .int .i64 z]), (.agg #[.int .i64 a, .int .i64 b, .int .i64 c, .int .i64 d])] w fun e w' => e = .returned (.tuple #[(.agg #[.int .i64 0, .int .i64 0, .int .i64 0, .int .i64 0]), .bool false]) ∧ Below w.heap.size w w' := by
  cases h1 : rightB x y u z
  · clear h
    go_enter Try.func48, Try.ntmps48
    go_wp2_with fail
    refine (right_any _ _ _ _ _).mono ?_
    rintro e w1 ⟨rfl, hb1⟩
    obtain ⟨hc1, hf1⟩ := base.old hb1
    go_wp2
    refine bodyPost_ret (v := .tuple #[(.agg #[.int .i64 0, .int .i64 0, .int .i64 0, .int .i64 0]), .bool false]) (by simp [results, Try.results48, go_sem, hc1]) rfl ⟨rfl, ?_⟩
    have := up (W3 _ _ _ _) hb1 (by simp; omega)
    repeat (first | exact this | refine Below.setCell ?_ (by simp; omega) _)
  · have h2 : rightB a b c d = false := by simpa [h1] using h
    clear h
    go_enter Try.func48, Try.ntmps48
    go_wp2_with fail
    refine (right_any _ _ _ _ _).mono ?_
    rintro e w1 ⟨rfl, hb1⟩
    obtain ⟨hc1, hf1⟩ := base.old hb1
    go_wp2_with fail
    refine (right_any _ _ _ _ _).mono ?_
    rintro e w2 ⟨rfl, hb2⟩
    have hb12 := up hb1 hb2 (by simpa using hb1.size)
    clear hc1 hf1
    obtain ⟨hc1, hf1⟩ := base.old hb12
    go_wp2
    refine bodyPost_ret (v := .tuple #[(.agg #[.int .i64 0, .int .i64 0, .int .i64 0, .int .i64 0]), .bool false]) (by simp [results, Try.results48, go_sem, hc1]) rfl ⟨rfl, ?_⟩
    have := up (W3 _ _ _ _) hb12 (by simp; omega)
    repeat (first | exact this | refine Below.setCell ?_ (by simp; omega) _)

set_option maxHeartbeats 1000000 in
theorem common_yes (x y u z a b c d : Int) (w : World) (h1 : rightB x y u z = true) (h2 : rightB a b c d = true) (h3 : rightB (cx x a) (cx y b) (cw x u a c) (cw y z b d) = true) :
    Calls Try.prog 48 #[(.agg #[.int .i64 x, .int .i64 y, .int .i64 u, .int .i64 z]), (.agg #[.int .i64 a, .int .i64 b, .int .i64 c, .int .i64 d])] w fun e w' => e = .returned (.tuple #[(.agg #[.int .i64 (cx x a), .int .i64 (cx y b), .int .i64 (cw x u a c), .int .i64 (cw y z b d)]), .bool true]) ∧ Below w.heap.size w w' := by
  obtain ⟨⟨y1, y2, y3, y4⟩, y5, y6, y7, y8⟩ := right_yes h1
  obtain ⟨⟨z1, z2, z3, z4⟩, z5, z6, z7, z8⟩ := right_yes h2
  have e1 : max x a = cx x a := rfl
  have e2 : max y b = cx y b := rfl
  have e3 : min (x + u) (a + c) - max x a = cw x u a c := rfl
  have e4 : min (y + z) (b + d) - max y b = cw y z b d := rfl
  have b3 : -9223372036854775808 ≤ cw x u a c ∧ cw x u a c ≤ 9223372036854775807 := by unfold cw; omega
  have b4 : -9223372036854775808 ≤ cw y z b d ∧ cw y z b d ≤ 9223372036854775807 := by unfold cw; omega
  generalize cx x a = p at *
  generalize cx y b = q at *
  generalize cw x u a c = r at *
  generalize cw y z b d = s at *
  have E1 := Lib.hid e1
  have E2 := Lib.hid e2
  have E3 := Lib.hid e3
  have E4 := Lib.hid e4
  clear e1 e2 e3 e4
  go_enter Try.func48, Try.ntmps48
  go_wp2_with fail
  refine (right_any _ _ _ _ _).mono ?_
  rintro e w1 ⟨rfl, hb1⟩
  obtain ⟨hc1, hf1⟩ := base.old hb1
  go_wp2_with fail
  refine (right_any _ _ _ _ _).mono ?_
  rintro e w2 ⟨rfl, hb2⟩
  have hb12 := up hb1 hb2 (by simpa using hb1.size)
  clear hc1 hf1
  obtain ⟨hc1, hf1⟩ := base.old hb12
  go_wp2_with fail
  refine (between_is _ _ _ _ p q r s _ E1.out E2.out E3.out E4.out b3 b4).mono ?_
  rintro e w3 ⟨rfl, hb3⟩
  have hb13 := up hb12 hb3 (by simpa using hb12.size)
  clear hc1 hf1
  go_wp2_with fail
  refine (right_any _ _ _ _ _).mono ?_
  rintro e w4 ⟨rfl, hb4⟩
  have hb14 := up (hb13.alloc (by simpa using hb13.size) _) hb4 (by have := hb13.size; simp at this ⊢; omega)
  obtain ⟨hc4, hf4⟩ := base.old hb4
  obtain ⟨hc1, hf1⟩ := base.old hb14
  go_wp2
  refine bodyPost_ret (v := .tuple #[(.agg #[.int .i64 p, .int .i64 q, .int .i64 r, .int .i64 s]), .bool true]) (by simp [results, Try.results48, go_sem, hc1]) rfl ⟨rfl, ?_⟩
  have := up (W3 _ _ _ _) hb14 (by simp; omega)
  repeat (first | exact this | refine Below.setCell ?_ (by simp; omega) _)

set_option maxHeartbeats 1000000 in
theorem common_none (x y u z a b c d : Int) (w : World) (h1 : rightB x y u z = true) (h2 : rightB a b c d = true) (h3 : rightB (cx x a) (cx y b) (cw x u a c) (cw y z b d) = false) :
    Calls Try.prog 48 #[(.agg #[.int .i64 x, .int .i64 y, .int .i64 u, .int .i64 z]), (.agg #[.int .i64 a, .int .i64 b, .int .i64 c, .int .i64 d])] w fun e w' => e = .returned (.tuple #[(.agg #[.int .i64 0, .int .i64 0, .int .i64 0, .int .i64 0]), .bool false]) ∧ Below w.heap.size w w' := by
  obtain ⟨⟨y1, y2, y3, y4⟩, y5, y6, y7, y8⟩ := right_yes h1
  obtain ⟨⟨z1, z2, z3, z4⟩, z5, z6, z7, z8⟩ := right_yes h2
  have e1 : max x a = cx x a := rfl
  have e2 : max y b = cx y b := rfl
  have e3 : min (x + u) (a + c) - max x a = cw x u a c := rfl
  have e4 : min (y + z) (b + d) - max y b = cw y z b d := rfl
  have b3 : -9223372036854775808 ≤ cw x u a c ∧ cw x u a c ≤ 9223372036854775807 := by unfold cw; omega
  have b4 : -9223372036854775808 ≤ cw y z b d ∧ cw y z b d ≤ 9223372036854775807 := by unfold cw; omega
  generalize cx x a = p at *
  generalize cx y b = q at *
  generalize cw x u a c = r at *
  generalize cw y z b d = s at *
  have E1 := Lib.hid e1
  have E2 := Lib.hid e2
  have E3 := Lib.hid e3
  have E4 := Lib.hid e4
  clear e1 e2 e3 e4
  go_enter Try.func48, Try.ntmps48
  go_wp2_with fail
  refine (right_any _ _ _ _ _).mono ?_
  rintro e w1 ⟨rfl, hb1⟩
  obtain ⟨hc1, hf1⟩ := base.old hb1
  go_wp2_with fail
  refine (right_any _ _ _ _ _).mono ?_
  rintro e w2 ⟨rfl, hb2⟩
  have hb12 := up hb1 hb2 (by simpa using hb1.size)
  clear hc1 hf1
  obtain ⟨hc1, hf1⟩ := base.old hb12
  go_wp2_with fail
  refine (between_is _ _ _ _ p q r s _ E1.out E2.out E3.out E4.out b3 b4).mono ?_
  rintro e w3 ⟨rfl, hb3⟩
  have hb13 := up hb12 hb3 (by simpa using hb12.size)
  clear hc1 hf1
  go_wp2_with fail
  refine (right_any _ _ _ _ _).mono ?_
  rintro e w4 ⟨rfl, hb4⟩
  have hb14 := up (hb13.alloc (by simpa using hb13.size) _) hb4 (by have := hb13.size; simp at this ⊢; omega)
  obtain ⟨hc4, hf4⟩ := base.old hb4
  obtain ⟨hc1, hf1⟩ := base.old hb14
  go_wp2
  refine bodyPost_ret (v := .tuple #[(.agg #[.int .i64 0, .int .i64 0, .int .i64 0, .int .i64 0]), .bool false]) (by simp [results, Try.results48, go_sem, hc1]) rfl ⟨rfl, ?_⟩
  have := up (W3 _ _ _ _) hb14 (by simp; omega)
  repeat (first | exact this | refine Below.setCell ?_ (by simp; omega) _)

end Go.Proofs.Ytndhdpjgnepfnaa.rect
