/-
  RectQuarters: for every rectangle the law answers true. Conditions: none.
-/
import Derived.Test.YtabpfnjjibckmaaRectQuarters
import Derived.Test.YtabpfnjjibckmaaRectEq
namespace Go.Proofs.Ytabpfnjjibckmaa.rectQuarters
open Go.ChangeShapes Go.WideShapes Go.ChangeAt Go.RowKit
open rect
open base (ret_bool ret_int made up Blk Only)
set_option linter.unusedVariables false

def GoodC (w : World) (e : Ending) (w' : World) : Prop := e = .returned (.bool true) ∧ Below w.heap.size w w'

set_option maxHeartbeats 4000000 in
theorem walk_yes (x y u z : Int) (hx : -9223372036854775808 ≤ x) (w : World) (h : rightB x y u z = true) (h1 : u % 2 = 0) (h2 : z % 2 = 0) : Calls Try.prog 6 #[(.agg #[.int .i64 x, .int .i64 y, .int .i64 u, .int .i64 z])] w (GoodC w) := by
  obtain ⟨⟨y1, y2, y3, y4⟩, y5, y6, y7, y8⟩ := right_yes h
  go_enter Try.func6, Try.ntmps6
  go_wp2_with fail
  refine (quarters_yes _ _ _ _ _ h h1 h2).mono ?_
  rintro e w1 ⟨rfl, hb1⟩
  obtain ⟨c0, c1, c2, c3⟩ := (((base.Blk.new w 23 #[.int .i64 x, .int .i64 y, .int .i64 u, .int .i64 z]).below hb1 (by simp)).alloc (.cells #[.int .i64 x, .int .i64 y, .int .i64 (u / 2), .int .i64 (z / 2), .int .i64 (x + u / 2), .int .i64 y, .int .i64 (u / 2), .int .i64 (z / 2), .int .i64 x, .int .i64 (y + z / 2), .int .i64 (u / 2), .int .i64 (z / 2), .int .i64 (x + u / 2), .int .i64 (y + z / 2), .int .i64 (u / 2), .int .i64 (z / 2)] 45)).four
  have hz1 := hb1.size
  simp at hz1
  have hlt : w.heap.size < w1.heap.size + 1 := by omega
  have key1 : Below w.heap.size w (w1.alloc (.cells #[.int .i64 x, .int .i64 y, .int .i64 (u / 2), .int .i64 (z / 2), .int .i64 (x + u / 2), .int .i64 y, .int .i64 (u / 2), .int .i64 (z / 2), .int .i64 x, .int .i64 (y + z / 2), .int .i64 (u / 2), .int .i64 (z / 2), .int .i64 (x + u / 2), .int .i64 (y + z / 2), .int .i64 (u / 2), .int .i64 (z / 2)] 45)) := (up (made _ _) hb1 (by simp)).alloc (by omega) _
  have K1 := Lib.hid key1
  clear key1 hb1
  go_wp2_with fail
  refine (ref_any _ _ _ _ _).mono ?_
  rintro e w2 ⟨rfl, hb2⟩
  have K2 := Lib.hid (up K1.out hb2 (by simp; omega))
  obtain ⟨hc2, hf2⟩ := base.old hb2
  go_wp2_with fail
  refine (rright_any _ _ _ _ hx _).mono ?_
  rintro e w3 ⟨rfl, hb3⟩
  have hb23 := up hb2 hb3 hb2.size
  have K3 := Lib.hid (up K2.out hb3 K2.out.size)
  clear hc2 hf2
  obtain ⟨hc2, hf2⟩ := base.old hb23
  have HB := Lib.hid hb23
  clear hb2 hb3 hb23
  have he := eq_same x y (u / 2) (z / 2) (x + u / 2) y (u / 2) (z / 2) x (y + z / 2) (u / 2) (z / 2) (x + u / 2) (y + z / 2) (u / 2) (z / 2)
  go_wp2_with fail
  go_quiet (fail)
  have hb4 := base.below_drewN HB.out nq
  have K4 := Lib.hid (base.below_drewN K3.out nq)
  clear K3 HB hc2 hf2 K2
  generalize w3.drewN nq = w4 at *
  obtain ⟨hc2, hf2⟩ := base.old hb4
  have hz4 := hb4.size
  simp at hz4
  have B := ((base.Blk.new w1 45 #[.int .i64 x, .int .i64 y, .int .i64 (u / 2), .int .i64 (z / 2), .int .i64 (x + u / 2), .int .i64 y, .int .i64 (u / 2), .int .i64 (z / 2), .int .i64 x, .int .i64 (y + z / 2), .int .i64 (u / 2), .int .i64 (z / 2), .int .i64 (x + u / 2), .int .i64 (y + z / 2), .int .i64 (u / 2), .int .i64 (z / 2)]).below hb4 (by simp)).alloc (.cells #[.int .i64 x, .int .i64 y, .int .i64 (u / 2), .int .i64 (z / 2), .int .i64 (x + u / 2), .int .i64 y, .int .i64 (u / 2), .int .i64 (z / 2), .int .i64 x, .int .i64 (y + z / 2), .int .i64 (u / 2), .int .i64 (z / 2), .int .i64 (x + u / 2), .int .i64 (y + z / 2), .int .i64 (u / 2), .int .i64 (z / 2)] 45)
  have q0 : World.cell? _ ⟨w1.heap.size, 0, none⟩ = some (.int .i64 x) := B.cell 0
  have q1 : World.cell? _ ⟨w1.heap.size, 1, none⟩ = some (.int .i64 y) := B.cell 1
  have q2 : World.cell? _ ⟨w1.heap.size, 2, none⟩ = some (.int .i64 (u / 2)) := B.cell 2
  have q3 : World.cell? _ ⟨w1.heap.size, 3, none⟩ = some (.int .i64 (z / 2)) := B.cell 3
  have q4 : World.cell? _ ⟨w1.heap.size, 4, none⟩ = some (.int .i64 (x + u / 2)) := B.cell 4
  have q5 : World.cell? _ ⟨w1.heap.size, 5, none⟩ = some (.int .i64 y) := B.cell 5
  have q6 : World.cell? _ ⟨w1.heap.size, 6, none⟩ = some (.int .i64 (u / 2)) := B.cell 6
  have q7 : World.cell? _ ⟨w1.heap.size, 7, none⟩ = some (.int .i64 (z / 2)) := B.cell 7
  have q8 : World.cell? _ ⟨w1.heap.size, 8, none⟩ = some (.int .i64 x) := B.cell 8
  have q9 : World.cell? _ ⟨w1.heap.size, 9, none⟩ = some (.int .i64 (y + z / 2)) := B.cell 9
  have q10 : World.cell? _ ⟨w1.heap.size, 10, none⟩ = some (.int .i64 (u / 2)) := B.cell 10
  have q11 : World.cell? _ ⟨w1.heap.size, 11, none⟩ = some (.int .i64 (z / 2)) := B.cell 11
  have q12 : World.cell? _ ⟨w1.heap.size, 12, none⟩ = some (.int .i64 (x + u / 2)) := B.cell 12
  have q13 : World.cell? _ ⟨w1.heap.size, 13, none⟩ = some (.int .i64 (y + z / 2)) := B.cell 13
  have q14 : World.cell? _ ⟨w1.heap.size, 14, none⟩ = some (.int .i64 (u / 2)) := B.cell 14
  have q15 : World.cell? _ ⟨w1.heap.size, 15, none⟩ = some (.int .i64 (z / 2)) := B.cell 15
  clear hb4 B
  go_wp2_with fail
  refine (awake_any _).mono ?_
  rintro e w5 ⟨rfl, hb5⟩
  have K5 := Lib.hid (up (K4.out.alloc (by omega) _) hb5 (by simp; omega))
  clear hb5
  go_wp2
  go_ret
  exact ⟨rfl, K5.out⟩
end Go.Proofs.Ytabpfnjjibckmaa.rectQuarters
