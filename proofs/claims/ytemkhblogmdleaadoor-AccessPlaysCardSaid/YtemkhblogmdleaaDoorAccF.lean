/-
  Contracts of package access: the fixed answer.
-/
import Derived.Test.YtemkhblogmdleaaDoorAccE
namespace Go.Proofs.YtemkhblogmdleaaDoor.ac
open Go.RowKit
open base (ret_bool ret_int made up Blk Only Nums)
set_option linter.unusedVariables false
set_option linter.unusedSimpArgs false

theorem ls_one {w : World} {A : Option Addr} (h : Nums .i64 w A [2]) : Ls w A [2] none [] none [] :=
  ⟨h, fun h => absurd h (by simp), fun h => absurd h (by simp), by simp, by simp, by simp⟩
theorem ls_two {w : World} {A C : Option Addr} (h : Nums .i64 w A [2]) (h2 : Nums .i64 w C [2]) : Ls w A [2] none [] C [2] :=
  ⟨h, fun h => absurd h (by simp), h2, by simp, by simp, by simp⟩
theorem lv_a : levelOf 1 [2] [] [] 2 = 3 := by decide
theorem lv_b : levelOf 1 [2] [] [2] 2 = 0 := by decide
theorem lv_c : levelOf 1 [2] [] [] 1 = 4 := by decide
theorem lv_d : (if levelOf 1 [2] [] [] 2 < needsOf 11 then (31 : Int) else 0) = 31 := by decide
theorem lv_e : (if levelOf 1 [2] [] [] 2 < needsOf 4 then (31 : Int) else 0) = 0 := by decide
theorem lv_f : needsOf 9 = 4 := by decide
set_option maxHeartbeats 2000000 in
theorem awake_any (w : World) (hT : Tab w) : Calls Tryd.prog 8 #[] w (SmP true w) := by
  have N1 := Lib.hid (new_one w)
  have S1 := Lib.hid (fun ws => set_one ws)
  have S3 := Lib.hid (fun A c ws h => set_three A c ws h)
  have TB := Lib.hid hT
  clear hT
  go_enter Tryd.func8, Tryd.ntmps8
  go_wp2_with fail
  refine N1.out.mono ?_
  rintro e w1 ⟨rfl, hb1⟩
  have B1 := Lib.hid hb1
  clear hb1 N1
  go_wp2_with fail
  refine (S1.out _).mono ?_
  rintro e w2 ⟨A, c, rfl, hn2, hb2⟩
  have B2 := Lib.hid (up B1.out hb2 B1.out.size)
  have hm := made w2 (.cells #[.int .i64 1, .slice A 1 c, .slice none 0 0, .slice none 0 0] 24)
  have bx : Blk (w2.alloc (.cells #[.int .i64 1, .slice A 1 c, .slice none 0 0, .slice none 0 0] 24)) w2.heap.size 24 #[.int .i64 1, .slice A 1 c, .slice none 0 0, .slice none 0 0] := Blk.new _ _ _
  have B3 := Lib.hid (up B2.out hm B2.out.size)
  have NA := Lib.hid (base.Nums.keep hn2 hm)
  have b0 := bx.cell 0
  have b1 := bx.cell 1
  have b2 := bx.cell 2
  have b3 := bx.cell 3
  have BX := Lib.hid bx
  clear hb2 hn2 hm B1 B2 S1 bx
  go_wp2_with fail
  refine (S3.out _ _ _ NA.out).mono ?_
  rintro e w4 ⟨A2, c2, D, d, rfl, hn4, hd4, hb4⟩
  have B4 := Lib.hid (up B3.out hb4 B3.out.size)
  have hm := made w4 (.cells #[.int .i64 1, .slice A2 1 c2, .slice none 0 0, .slice D 1 d] 24)
  have by0 : Blk (w4.alloc (.cells #[.int .i64 1, .slice A2 1 c2, .slice none 0 0, .slice D 1 d] 24)) w4.heap.size 24 #[.int .i64 1, .slice A2 1 c2, .slice none 0 0, .slice D 1 d] := Blk.new _ _ _
  have bx4 := BX.out.below hb4 BX.out.lt
  have bx5 := bx4.below hm bx4.lt
  have B5 := Lib.hid (up B4.out hm B4.out.size)
  have L1 := Lib.hid (ls_one (base.Nums.keep (base.Nums.keep NA.out hb4) hm))
  have L3 := Lib.hid (ls_two (base.Nums.keep hn4 hm) (base.Nums.keep hd4 hm))
  have T5 := Lib.hid (TB.out.keep B5.out)
  have BX5 := Lib.hid bx5
  have BY5 := Lib.hid by0
  clear b0 b1 b2 b3 hb4 hn4 hd4 hm by0 bx4 bx5 BX NA B3 B4 S3 TB
  have x0 := BX5.out.cell 0
  have x1 := BX5.out.cell 1
  have x2 := BX5.out.cell 2
  have x3 := BX5.out.cell 3
  go_wp2_with fail
  generalize hw5 : w4.alloc (.cells #[.int .i64 1, .slice A2 1 c2, .slice none 0 0, .slice D 1 d] 24) = w5 at *
  have KX := Lib.hid (fun ws (hb : Below w5.heap.size w5 ws) => (BX5.out.below hb BX5.out.lt))
  have KY := Lib.hid (fun ws (hb : Below w5.heap.size w5 ws) => (BY5.out.below hb BY5.out.lt))
  have V1 := Lib.hid (fun ws (hb : Below w5.heap.size w5 ws) => (show Calls Tryd.prog 11 #[.agg #[.int .i64 1, .slice A 1 c, .slice none 0 0, .slice none 0 0], .int .i64 2] ws (LvP 3 ws) from level_any 1 A c [2] none 0 [] none 0 [] 2 ws (L1.out.keep hb)))
  have V2 := Lib.hid (fun ws (hb : Below w5.heap.size w5 ws) => (show Calls Tryd.prog 11 #[.agg #[.int .i64 1, .slice A2 1 c2, .slice none 0 0, .slice D 1 d], .int .i64 2] ws (LvP 0 ws) from level_any 1 A2 c2 [2] none 0 [] D d [2] 2 ws (L3.out.keep hb)))
  have V3 := Lib.hid (fun ws (hb : Below w5.heap.size w5 ws) => (show Calls Tryd.prog 11 #[.agg #[.int .i64 1, .slice A 1 c, .slice none 0 0, .slice none 0 0], .int .i64 1] ws (LvP 4 ws) from level_any 1 A c [2] none 0 [] none 0 [] 1 ws (L1.out.keep hb)))
  have V4 := Lib.hid (fun ws (hb : Below w5.heap.size w5 ws) => (show Calls Tryd.prog 13 #[.agg #[.int .i64 1, .slice A 1 c, .slice none 0 0, .slice none 0 0], .int .i64 2, .int .i64 11] ws (LvP 31 ws) from may_any 1 A c [2] none 0 [] none 0 [] 2 11 ws (L1.out.keep hb) (T5.out.keep hb) (by omega) (by omega)))
  have V5 := Lib.hid (fun ws (hb : Below w5.heap.size w5 ws) => (show Calls Tryd.prog 13 #[.agg #[.int .i64 1, .slice A 1 c, .slice none 0 0, .slice none 0 0], .int .i64 2, .int .i64 4] ws (LvP 0 ws) from may_any 1 A c [2] none 0 [] none 0 [] 2 4 ws (L1.out.keep hb) (T5.out.keep hb) (by omega) (by omega)))
  have V6 := Lib.hid (fun ws (hb : Below w5.heap.size w5 ws) => needs_any 9 ws (T5.out.keep hb) (by omega) (by omega))
  rw [lv_f] at V6
  clear BX5 BY5 L1 L3 T5 x0 x1 x2 x3
  refine (V1.out _ (Below.refl _ _)).mono ?_
  rintro e w6 ⟨rfl, hb6⟩
  have y := KY.out _ hb6
  have c0 := y.cell 0
  have c1 := y.cell 1
  have c2 := y.cell 2
  have c3 := y.cell 3
  have U6 := Lib.hid hb6
  clear hb6 y
  go_wp2_with fail
  refine (V2.out _ U6.out).mono ?_
  rintro e w7 ⟨rfl, hb7⟩
  have hu := up U6.out hb7 U6.out.size
  have y := KX.out _ hu
  have a0 := y.cell 0
  have a1 := y.cell 1
  have a2 := y.cell 2
  have a3 := y.cell 3
  have U7 := Lib.hid hu
  clear hb7 y c0 c1 c2 c3 U6 hu
  go_wp2_with fail
  refine (V3.out _ U7.out).mono ?_
  rintro e w8 ⟨rfl, hb8⟩
  have hu := up U7.out hb8 U7.out.size
  have y := KX.out _ hu
  have c0 := y.cell 0
  have c1 := y.cell 1
  have c2 := y.cell 2
  have c3 := y.cell 3
  have U8 := Lib.hid hu
  clear hb8 y a0 a1 a2 a3 U7 hu
  go_wp2_with fail
  refine (V4.out _ U8.out).mono ?_
  rintro e w9 ⟨rfl, hb9⟩
  have hu := up U8.out hb9 U8.out.size
  have y := KX.out _ hu
  have a0 := y.cell 0
  have a1 := y.cell 1
  have a2 := y.cell 2
  have a3 := y.cell 3
  have U9 := Lib.hid hu
  clear hb9 y c0 c1 c2 c3 U8 hu
  go_wp2_with fail
  refine (V5.out _ U9.out).mono ?_
  rintro e w10 ⟨rfl, hb10⟩
  have U10 := Lib.hid (up U9.out hb10 U9.out.size)
  clear hb10 a0 a1 a2 a3 U9
  go_wp2_with fail
  refine (V6.out _ U10.out).mono ?_
  rintro e w11 ⟨rfl, rfl⟩
  have R := Lib.hid (up B5.out U10.out B5.out.size)
  go_wp2_with fail
  go_ret
  exact ⟨rfl, R.out⟩
end Go.Proofs.YtemkhblogmdleaaDoor.ac
