/-
  OrderApart (P27.3), for the tied reading: for any two commands the law answers true, whatever the memory, if the table of fields stands as the program lays it.
  Conditions: none beyond the card's own.
-/
import Derived.Test.YtndhammngejdiaaDoorOrO

namespace Go.Proofs.YtndhammngejdiaaDoor.orderApart
open Go.ChangeShapes Go.WideShapes Go.ChangeAt Go.RowKit
open base (ret_bool ret_int made up Blk Only Nums)
open bytes (str Small small_nil small_app Lay Own conv_any str_inj)
open od vnum
open vi (bs)
set_option linter.unusedVariables false
set_option linter.unusedSimpArgs false
theorem tableOf {W : World} (h : laidMetH Tryd.prog Rows.orderApartRow.laid W) : Tab W := od.tableOf h
theorem toList_inj {a b : ByteArray} (h : a.toList = b.toList) : a = b := by
  rw [ByteArray.toList_eq, ByteArray.toList_eq] at h
  cases a; cases b; congr 1; exact Array.toList_inj.1 h
theorem fb_small (x : Cm) (f : Nat) : Small (fb x f) := by
  unfold fb
  split
  · exact small_app (enc_small _) (vi.bs_small _)
  · exact enc_small _
theorem bytesM_small (x : Cm) : Small (bytesM x) := by
  unfold bytesM
  refine small_app (enc_small _) ?_
  split
  · refine small_app (enc_small _) (fun c hc => ?_)
    obtain ⟨f, -, h⟩ := List.mem_flatMap.1 hc
    exact fb_small x f c h
  · exact small_app (enc_small _) (small_app (enc_small _) (vi.bs_small _))
theorem inj {x y : Cm} (hx : x.Ok) (hy : y.Ok) (rx : rightM x = true) (ry : rightM y = true) (h : bytesM x = bytesM y) : x = y := by
  have h1 := parse_bytes hx rx
  rw [h, parse_bytes hy ry] at h1
  injection h1 with h1
  exact h1.symm
set_option maxRecDepth 100000 in
set_option maxHeartbeats 1000000 in
theorem walk_a (w : World) (hT : Tab w) (x y : Cm) (hx : x.Ok) (hy : y.Ok) (h : 100 < IntKind.i64.wrap ((x.l.size : Int) + (x.t.size : Int))) : Calls Tryd.prog 5 #[.agg #[.int .i64 x.s, .int .i64 x.w, .int .i64 x.k, .int .i64 x.a, .int .i64 x.b, .int .i64 x.c, .int .i64 x.d, .string x.t, .string x.l], .agg #[.int .i64 y.s, .int .i64 y.w, .int .i64 y.k, .int .i64 y.a, .int .i64 y.b, .int .i64 y.c, .int .i64 y.d, .string y.t, .string y.l]] w (BoolP true w) := by
  obtain ⟨zx, hzx⟩ : ∃ z, IntKind.i64.wrap ((x.l.size : Int) + (x.t.size : Int)) = z := ⟨_, rfl⟩
  obtain ⟨zy, hzy⟩ : ∃ z, IntKind.i64.wrap ((y.l.size : Int) + (y.t.size : Int)) = z := ⟨_, rfl⟩
  have k1 : decide (zx > 100) = true := decide_eq_true (by omega)
  have M1 := Lib.hid (made w (.cells #[.int .i64 x.s, .int .i64 x.w, .int .i64 x.k, .int .i64 x.a, .int .i64 x.b, .int .i64 x.c, .int .i64 x.d, .string x.t, .string x.l] 25))
  have M2 := Lib.hid (show Below w.heap.size w ((w.alloc (.cells #[.int .i64 x.s, .int .i64 x.w, .int .i64 x.k, .int .i64 x.a, .int .i64 x.b, .int .i64 x.c, .int .i64 x.d, .string x.t, .string x.l] 25)).alloc (.cells #[.int .i64 y.s, .int .i64 y.w, .int .i64 y.k, .int .i64 y.a, .int .i64 y.b, .int .i64 y.c, .int .i64 y.d, .string y.t, .string y.l] 25)) from up M1.out (made _ _) M1.out.size)
  have X2 := Lib.hid (show Blk ((w.alloc (.cells #[.int .i64 x.s, .int .i64 x.w, .int .i64 x.k, .int .i64 x.a, .int .i64 x.b, .int .i64 x.c, .int .i64 x.d, .string x.t, .string x.l] 25)).alloc (.cells #[.int .i64 y.s, .int .i64 y.w, .int .i64 y.k, .int .i64 y.a, .int .i64 y.b, .int .i64 y.c, .int .i64 y.d, .string y.t, .string y.l] 25)) w.heap.size 25 #[.int .i64 x.s, .int .i64 x.w, .int .i64 x.k, .int .i64 x.a, .int .i64 x.b, .int .i64 x.c, .int .i64 x.d, .string x.t, .string x.l] from (Blk.new _ _ _).alloc _)
  have Y2 := Lib.hid (show Blk ((w.alloc (.cells #[.int .i64 x.s, .int .i64 x.w, .int .i64 x.k, .int .i64 x.a, .int .i64 x.b, .int .i64 x.c, .int .i64 x.d, .string x.t, .string x.l] 25)).alloc (.cells #[.int .i64 y.s, .int .i64 y.w, .int .i64 y.k, .int .i64 y.a, .int .i64 y.b, .int .i64 y.c, .int .i64 y.d, .string y.t, .string y.l] 25)) (w.heap.size + 1) 25 #[.int .i64 y.s, .int .i64 y.w, .int .i64 y.k, .int .i64 y.a, .int .i64 y.b, .int .i64 y.c, .int .i64 y.d, .string y.t, .string y.l] from by have := Blk.new (w.alloc (.cells #[.int .i64 x.s, .int .i64 x.w, .int .i64 x.k, .int .i64 x.a, .int .i64 x.b, .int .i64 x.c, .int .i64 x.d, .string x.t, .string x.l] 25)) 25 #[.int .i64 y.s, .int .i64 y.w, .int .i64 y.k, .int .i64 y.a, .int .i64 y.b, .int .i64 y.c, .int .i64 y.d, .string y.t, .string y.l]; rwa [asz] at this)
  have T2 := Lib.hid (hT.keep M2.out)
  have x0 := X2.out.cell 0
  have y0 := Y2.out.cell 0
  have x1 := X2.out.cell 1
  have y1 := Y2.out.cell 1
  have x2 := X2.out.cell 2
  have y2 := Y2.out.cell 2
  have x3 := X2.out.cell 3
  have y3 := Y2.out.cell 3
  have x4 := X2.out.cell 4
  have y4 := Y2.out.cell 4
  have x5 := X2.out.cell 5
  have y5 := Y2.out.cell 5
  have x6 := X2.out.cell 6
  have y6 := Y2.out.cell 6
  have x7 := X2.out.cell 7
  have y7 := Y2.out.cell 7
  have x8 := X2.out.cell 8
  have y8 := Y2.out.cell 8
  generalize hw : (w.alloc (.cells #[.int .i64 x.s, .int .i64 x.w, .int .i64 x.k, .int .i64 x.a, .int .i64 x.b, .int .i64 x.c, .int .i64 x.d, .string x.t, .string x.l] 25)).alloc (.cells #[.int .i64 y.s, .int .i64 y.w, .int .i64 y.k, .int .i64 y.a, .int .i64 y.b, .int .i64 y.c, .int .i64 y.d, .string y.t, .string y.l] 25) = w2 at *
  have AW := Lib.hid (awake_any w2 T2.out)
  unfold BoolP at AW
  clear hT h hx hy
  go_enter Tryd.func5, Tryd.ntmps5
  go_wp2_with (rw [hw])
  refine AW.out.mono ?_
  rintro e1 w3 ⟨rfl, hb⟩
  have B3 := Lib.hid (up M2.out hb M2.out.size)
  clear hb
  go_wp2_with fail
  go_ret
  exact ⟨rfl, B3.out⟩
set_option maxRecDepth 100000 in
set_option maxHeartbeats 1000000 in
theorem walk_b (w : World) (hT : Tab w) (x y : Cm) (hx : x.Ok) (hy : y.Ok) (h1 : ¬ 100 < IntKind.i64.wrap ((x.l.size : Int) + (x.t.size : Int))) (h : 100 < IntKind.i64.wrap ((y.l.size : Int) + (y.t.size : Int))) : Calls Tryd.prog 5 #[.agg #[.int .i64 x.s, .int .i64 x.w, .int .i64 x.k, .int .i64 x.a, .int .i64 x.b, .int .i64 x.c, .int .i64 x.d, .string x.t, .string x.l], .agg #[.int .i64 y.s, .int .i64 y.w, .int .i64 y.k, .int .i64 y.a, .int .i64 y.b, .int .i64 y.c, .int .i64 y.d, .string y.t, .string y.l]] w (BoolP true w) := by
  obtain ⟨zx, hzx⟩ : ∃ z, IntKind.i64.wrap ((x.l.size : Int) + (x.t.size : Int)) = z := ⟨_, rfl⟩
  obtain ⟨zy, hzy⟩ : ∃ z, IntKind.i64.wrap ((y.l.size : Int) + (y.t.size : Int)) = z := ⟨_, rfl⟩
  have k1 : decide (zx > 100) = false := decide_eq_false (by omega)
  have k2 : decide (zy > 100) = true := decide_eq_true (by omega)
  have M1 := Lib.hid (made w (.cells #[.int .i64 x.s, .int .i64 x.w, .int .i64 x.k, .int .i64 x.a, .int .i64 x.b, .int .i64 x.c, .int .i64 x.d, .string x.t, .string x.l] 25))
  have M2 := Lib.hid (show Below w.heap.size w ((w.alloc (.cells #[.int .i64 x.s, .int .i64 x.w, .int .i64 x.k, .int .i64 x.a, .int .i64 x.b, .int .i64 x.c, .int .i64 x.d, .string x.t, .string x.l] 25)).alloc (.cells #[.int .i64 y.s, .int .i64 y.w, .int .i64 y.k, .int .i64 y.a, .int .i64 y.b, .int .i64 y.c, .int .i64 y.d, .string y.t, .string y.l] 25)) from up M1.out (made _ _) M1.out.size)
  have X2 := Lib.hid (show Blk ((w.alloc (.cells #[.int .i64 x.s, .int .i64 x.w, .int .i64 x.k, .int .i64 x.a, .int .i64 x.b, .int .i64 x.c, .int .i64 x.d, .string x.t, .string x.l] 25)).alloc (.cells #[.int .i64 y.s, .int .i64 y.w, .int .i64 y.k, .int .i64 y.a, .int .i64 y.b, .int .i64 y.c, .int .i64 y.d, .string y.t, .string y.l] 25)) w.heap.size 25 #[.int .i64 x.s, .int .i64 x.w, .int .i64 x.k, .int .i64 x.a, .int .i64 x.b, .int .i64 x.c, .int .i64 x.d, .string x.t, .string x.l] from (Blk.new _ _ _).alloc _)
  have Y2 := Lib.hid (show Blk ((w.alloc (.cells #[.int .i64 x.s, .int .i64 x.w, .int .i64 x.k, .int .i64 x.a, .int .i64 x.b, .int .i64 x.c, .int .i64 x.d, .string x.t, .string x.l] 25)).alloc (.cells #[.int .i64 y.s, .int .i64 y.w, .int .i64 y.k, .int .i64 y.a, .int .i64 y.b, .int .i64 y.c, .int .i64 y.d, .string y.t, .string y.l] 25)) (w.heap.size + 1) 25 #[.int .i64 y.s, .int .i64 y.w, .int .i64 y.k, .int .i64 y.a, .int .i64 y.b, .int .i64 y.c, .int .i64 y.d, .string y.t, .string y.l] from by have := Blk.new (w.alloc (.cells #[.int .i64 x.s, .int .i64 x.w, .int .i64 x.k, .int .i64 x.a, .int .i64 x.b, .int .i64 x.c, .int .i64 x.d, .string x.t, .string x.l] 25)) 25 #[.int .i64 y.s, .int .i64 y.w, .int .i64 y.k, .int .i64 y.a, .int .i64 y.b, .int .i64 y.c, .int .i64 y.d, .string y.t, .string y.l]; rwa [asz] at this)
  have T2 := Lib.hid (hT.keep M2.out)
  have x0 := X2.out.cell 0
  have y0 := Y2.out.cell 0
  have x1 := X2.out.cell 1
  have y1 := Y2.out.cell 1
  have x2 := X2.out.cell 2
  have y2 := Y2.out.cell 2
  have x3 := X2.out.cell 3
  have y3 := Y2.out.cell 3
  have x4 := X2.out.cell 4
  have y4 := Y2.out.cell 4
  have x5 := X2.out.cell 5
  have y5 := Y2.out.cell 5
  have x6 := X2.out.cell 6
  have y6 := Y2.out.cell 6
  have x7 := X2.out.cell 7
  have y7 := Y2.out.cell 7
  have x8 := X2.out.cell 8
  have y8 := Y2.out.cell 8
  generalize hw : (w.alloc (.cells #[.int .i64 x.s, .int .i64 x.w, .int .i64 x.k, .int .i64 x.a, .int .i64 x.b, .int .i64 x.c, .int .i64 x.d, .string x.t, .string x.l] 25)).alloc (.cells #[.int .i64 y.s, .int .i64 y.w, .int .i64 y.k, .int .i64 y.a, .int .i64 y.b, .int .i64 y.c, .int .i64 y.d, .string y.t, .string y.l] 25) = w2 at *
  have AW := Lib.hid (awake_any w2 T2.out)
  unfold BoolP at AW
  clear hT h h1 hx hy
  go_enter Tryd.func5, Tryd.ntmps5
  go_wp2_with (rw [hw])
  refine AW.out.mono ?_
  rintro e1 w3 ⟨rfl, hb⟩
  have B3 := Lib.hid (up M2.out hb M2.out.size)
  clear hb
  go_wp2_with fail
  go_ret
  exact ⟨rfl, B3.out⟩
set_option maxRecDepth 100000 in
set_option maxHeartbeats 2000000 in
theorem walk_nox (w : World) (hT : Tab w) (x y : Cm) (hx : x.Ok) (hy : y.Ok) (h1 : ¬ 100 < IntKind.i64.wrap ((x.l.size : Int) + (x.t.size : Int))) (h2 : ¬ 100 < IntKind.i64.wrap ((y.l.size : Int) + (y.t.size : Int))) (rx : rightM x = false) : Calls Tryd.prog 5 #[.agg #[.int .i64 x.s, .int .i64 x.w, .int .i64 x.k, .int .i64 x.a, .int .i64 x.b, .int .i64 x.c, .int .i64 x.d, .string x.t, .string x.l], .agg #[.int .i64 y.s, .int .i64 y.w, .int .i64 y.k, .int .i64 y.a, .int .i64 y.b, .int .i64 y.c, .int .i64 y.d, .string y.t, .string y.l]] w (BoolP true w) := by
  obtain ⟨zx, hzx⟩ : ∃ z, IntKind.i64.wrap ((x.l.size : Int) + (x.t.size : Int)) = z := ⟨_, rfl⟩
  obtain ⟨zy, hzy⟩ : ∃ z, IntKind.i64.wrap ((y.l.size : Int) + (y.t.size : Int)) = z := ⟨_, rfl⟩
  have k1 : decide (zx > 100) = false := decide_eq_false (by omega)
  have k2 : decide (zy > 100) = false := decide_eq_false (by omega)
  have M1 := Lib.hid (made w (.cells #[.int .i64 x.s, .int .i64 x.w, .int .i64 x.k, .int .i64 x.a, .int .i64 x.b, .int .i64 x.c, .int .i64 x.d, .string x.t, .string x.l] 25))
  have M2 := Lib.hid (show Below w.heap.size w ((w.alloc (.cells #[.int .i64 x.s, .int .i64 x.w, .int .i64 x.k, .int .i64 x.a, .int .i64 x.b, .int .i64 x.c, .int .i64 x.d, .string x.t, .string x.l] 25)).alloc (.cells #[.int .i64 y.s, .int .i64 y.w, .int .i64 y.k, .int .i64 y.a, .int .i64 y.b, .int .i64 y.c, .int .i64 y.d, .string y.t, .string y.l] 25)) from up M1.out (made _ _) M1.out.size)
  have X2 := Lib.hid (show Blk ((w.alloc (.cells #[.int .i64 x.s, .int .i64 x.w, .int .i64 x.k, .int .i64 x.a, .int .i64 x.b, .int .i64 x.c, .int .i64 x.d, .string x.t, .string x.l] 25)).alloc (.cells #[.int .i64 y.s, .int .i64 y.w, .int .i64 y.k, .int .i64 y.a, .int .i64 y.b, .int .i64 y.c, .int .i64 y.d, .string y.t, .string y.l] 25)) w.heap.size 25 #[.int .i64 x.s, .int .i64 x.w, .int .i64 x.k, .int .i64 x.a, .int .i64 x.b, .int .i64 x.c, .int .i64 x.d, .string x.t, .string x.l] from (Blk.new _ _ _).alloc _)
  have Y2 := Lib.hid (show Blk ((w.alloc (.cells #[.int .i64 x.s, .int .i64 x.w, .int .i64 x.k, .int .i64 x.a, .int .i64 x.b, .int .i64 x.c, .int .i64 x.d, .string x.t, .string x.l] 25)).alloc (.cells #[.int .i64 y.s, .int .i64 y.w, .int .i64 y.k, .int .i64 y.a, .int .i64 y.b, .int .i64 y.c, .int .i64 y.d, .string y.t, .string y.l] 25)) (w.heap.size + 1) 25 #[.int .i64 y.s, .int .i64 y.w, .int .i64 y.k, .int .i64 y.a, .int .i64 y.b, .int .i64 y.c, .int .i64 y.d, .string y.t, .string y.l] from by have := Blk.new (w.alloc (.cells #[.int .i64 x.s, .int .i64 x.w, .int .i64 x.k, .int .i64 x.a, .int .i64 x.b, .int .i64 x.c, .int .i64 x.d, .string x.t, .string x.l] 25)) 25 #[.int .i64 y.s, .int .i64 y.w, .int .i64 y.k, .int .i64 y.a, .int .i64 y.b, .int .i64 y.c, .int .i64 y.d, .string y.t, .string y.l]; rwa [asz] at this)
  have T2 := Lib.hid (hT.keep M2.out)
  have x0 := X2.out.cell 0
  have y0 := Y2.out.cell 0
  have x1 := X2.out.cell 1
  have y1 := Y2.out.cell 1
  have x2 := X2.out.cell 2
  have y2 := Y2.out.cell 2
  have x3 := X2.out.cell 3
  have y3 := Y2.out.cell 3
  have x4 := X2.out.cell 4
  have y4 := Y2.out.cell 4
  have x5 := X2.out.cell 5
  have y5 := Y2.out.cell 5
  have x6 := X2.out.cell 6
  have y6 := Y2.out.cell 6
  have x7 := X2.out.cell 7
  have y7 := Y2.out.cell 7
  have x8 := X2.out.cell 8
  have y8 := Y2.out.cell 8
  generalize hw : (w.alloc (.cells #[.int .i64 x.s, .int .i64 x.w, .int .i64 x.k, .int .i64 x.a, .int .i64 x.b, .int .i64 x.c, .int .i64 x.d, .string x.t, .string x.l] 25)).alloc (.cells #[.int .i64 y.s, .int .i64 y.w, .int .i64 y.k, .int .i64 y.a, .int .i64 y.b, .int .i64 y.c, .int .i64 y.d, .string y.t, .string y.l] 25) = w2 at *
  have BA := Lib.hid (bytes_any x w2 T2.out hx)
  have HX := Lib.hid hx
  have HY := Lib.hid hy
  clear hT h1 h2 hx hy
  go_enter Tryd.func5, Tryd.ntmps5
  go_wp2_with (rw [hw])
  refine BA.out.mono ?_
  rintro e1 w3 ⟨hb3, h3⟩
  have B3 := Lib.hid (up M2.out hb3 M2.out.size)
  have X3 := Lib.hid (X2.out.below hb3 X2.out.lt)
  have Y3 := Lib.hid (Y2.out.below hb3 Y2.out.lt)
  have T3 := Lib.hid (T2.out.keep hb3)
  have BB := Lib.hid (bytes_any y w3 T3.out HY.out)
  obtain rfl : e1 = .returned (.tuple #[.slice none 0 0, .int .i64 10]) := by
    rcases h3 with ⟨_, h⟩ | ⟨h, _⟩
    · exact h
    · rw [rx] at h; cases h
  clear h3 hb3 BA hw x0 y0 x1 y1 x2 y2 x3 y3 x4 y4 x5 y5 x6 y6 x7 y7 x8 y8
  have y0 := Y3.out.cell 0
  have y1 := Y3.out.cell 1
  have y2 := Y3.out.cell 2
  have y3 := Y3.out.cell 3
  have y4 := Y3.out.cell 4
  have y5 := Y3.out.cell 5
  have y6 := Y3.out.cell 6
  have y7 := Y3.out.cell 7
  have y8 := Y3.out.cell 8
  go_wp2_with fail
  refine BB.out.mono ?_
  rintro e1 w4 ⟨hb4, h4⟩
  have B4 := Lib.hid (up B3.out hb4 B3.out.size)
  have X4 := Lib.hid (X3.out.below hb4 X3.out.lt)
  have Y4 := Lib.hid (Y3.out.below hb4 Y3.out.lt)
  have T4 := Lib.hid (T3.out.keep hb4)
  obtain ⟨v4, z4, rfl, hv4⟩ : ∃ (v4 : Value) (z : Int), e1 = .returned (.tuple #[v4, .int .i64 z]) ∧ ∃ A n c, v4 = .slice A n c := by
    rcases h4 with ⟨_, h⟩ | ⟨_, v, h, ho⟩
    · exact ⟨_, _, h, _, _, _, rfl⟩
    · exact ⟨_, _, h, vi.own_form ho⟩
  obtain ⟨A4, n4, c4, rfl⟩ := hv4
  have AW := Lib.hid (awake_any w4 T4.out)
  unfold BoolP at AW
  clear h4 hb4 BB y0 y1 y2 y3 y4 y5 y6 y7 y8
  go_wp2_with fail
  refine AW.out.mono ?_
  rintro e1 w5 ⟨rfl, hb⟩
  have B5 := Lib.hid (up B4.out hb B4.out.size)
  clear hb
  go_wp2_with fail
  go_ret
  exact ⟨rfl, B5.out⟩
set_option maxRecDepth 100000 in
set_option maxHeartbeats 2000000 in
theorem walk_noy (w : World) (hT : Tab w) (x y : Cm) (hx : x.Ok) (hy : y.Ok) (h1 : ¬ 100 < IntKind.i64.wrap ((x.l.size : Int) + (x.t.size : Int))) (h2 : ¬ 100 < IntKind.i64.wrap ((y.l.size : Int) + (y.t.size : Int))) (rx : rightM x = true) (ry : rightM y = false) : Calls Tryd.prog 5 #[.agg #[.int .i64 x.s, .int .i64 x.w, .int .i64 x.k, .int .i64 x.a, .int .i64 x.b, .int .i64 x.c, .int .i64 x.d, .string x.t, .string x.l], .agg #[.int .i64 y.s, .int .i64 y.w, .int .i64 y.k, .int .i64 y.a, .int .i64 y.b, .int .i64 y.c, .int .i64 y.d, .string y.t, .string y.l]] w (BoolP true w) := by
  obtain ⟨zx, hzx⟩ : ∃ z, IntKind.i64.wrap ((x.l.size : Int) + (x.t.size : Int)) = z := ⟨_, rfl⟩
  obtain ⟨zy, hzy⟩ : ∃ z, IntKind.i64.wrap ((y.l.size : Int) + (y.t.size : Int)) = z := ⟨_, rfl⟩
  have k1 : decide (zx > 100) = false := decide_eq_false (by omega)
  have k2 : decide (zy > 100) = false := decide_eq_false (by omega)
  have M1 := Lib.hid (made w (.cells #[.int .i64 x.s, .int .i64 x.w, .int .i64 x.k, .int .i64 x.a, .int .i64 x.b, .int .i64 x.c, .int .i64 x.d, .string x.t, .string x.l] 25))
  have M2 := Lib.hid (show Below w.heap.size w ((w.alloc (.cells #[.int .i64 x.s, .int .i64 x.w, .int .i64 x.k, .int .i64 x.a, .int .i64 x.b, .int .i64 x.c, .int .i64 x.d, .string x.t, .string x.l] 25)).alloc (.cells #[.int .i64 y.s, .int .i64 y.w, .int .i64 y.k, .int .i64 y.a, .int .i64 y.b, .int .i64 y.c, .int .i64 y.d, .string y.t, .string y.l] 25)) from up M1.out (made _ _) M1.out.size)
  have X2 := Lib.hid (show Blk ((w.alloc (.cells #[.int .i64 x.s, .int .i64 x.w, .int .i64 x.k, .int .i64 x.a, .int .i64 x.b, .int .i64 x.c, .int .i64 x.d, .string x.t, .string x.l] 25)).alloc (.cells #[.int .i64 y.s, .int .i64 y.w, .int .i64 y.k, .int .i64 y.a, .int .i64 y.b, .int .i64 y.c, .int .i64 y.d, .string y.t, .string y.l] 25)) w.heap.size 25 #[.int .i64 x.s, .int .i64 x.w, .int .i64 x.k, .int .i64 x.a, .int .i64 x.b, .int .i64 x.c, .int .i64 x.d, .string x.t, .string x.l] from (Blk.new _ _ _).alloc _)
  have Y2 := Lib.hid (show Blk ((w.alloc (.cells #[.int .i64 x.s, .int .i64 x.w, .int .i64 x.k, .int .i64 x.a, .int .i64 x.b, .int .i64 x.c, .int .i64 x.d, .string x.t, .string x.l] 25)).alloc (.cells #[.int .i64 y.s, .int .i64 y.w, .int .i64 y.k, .int .i64 y.a, .int .i64 y.b, .int .i64 y.c, .int .i64 y.d, .string y.t, .string y.l] 25)) (w.heap.size + 1) 25 #[.int .i64 y.s, .int .i64 y.w, .int .i64 y.k, .int .i64 y.a, .int .i64 y.b, .int .i64 y.c, .int .i64 y.d, .string y.t, .string y.l] from by have := Blk.new (w.alloc (.cells #[.int .i64 x.s, .int .i64 x.w, .int .i64 x.k, .int .i64 x.a, .int .i64 x.b, .int .i64 x.c, .int .i64 x.d, .string x.t, .string x.l] 25)) 25 #[.int .i64 y.s, .int .i64 y.w, .int .i64 y.k, .int .i64 y.a, .int .i64 y.b, .int .i64 y.c, .int .i64 y.d, .string y.t, .string y.l]; rwa [asz] at this)
  have T2 := Lib.hid (hT.keep M2.out)
  have x0 := X2.out.cell 0
  have y0 := Y2.out.cell 0
  have x1 := X2.out.cell 1
  have y1 := Y2.out.cell 1
  have x2 := X2.out.cell 2
  have y2 := Y2.out.cell 2
  have x3 := X2.out.cell 3
  have y3 := Y2.out.cell 3
  have x4 := X2.out.cell 4
  have y4 := Y2.out.cell 4
  have x5 := X2.out.cell 5
  have y5 := Y2.out.cell 5
  have x6 := X2.out.cell 6
  have y6 := Y2.out.cell 6
  have x7 := X2.out.cell 7
  have y7 := Y2.out.cell 7
  have x8 := X2.out.cell 8
  have y8 := Y2.out.cell 8
  generalize hw : (w.alloc (.cells #[.int .i64 x.s, .int .i64 x.w, .int .i64 x.k, .int .i64 x.a, .int .i64 x.b, .int .i64 x.c, .int .i64 x.d, .string x.t, .string x.l] 25)).alloc (.cells #[.int .i64 y.s, .int .i64 y.w, .int .i64 y.k, .int .i64 y.a, .int .i64 y.b, .int .i64 y.c, .int .i64 y.d, .string y.t, .string y.l] 25) = w2 at *
  have BA := Lib.hid (bytes_any x w2 T2.out hx)
  have HX := Lib.hid hx
  have HY := Lib.hid hy
  clear hT h1 h2 hx hy
  go_enter Tryd.func5, Tryd.ntmps5
  go_wp2_with (rw [hw])
  refine BA.out.mono ?_
  rintro e1 w3 ⟨hb3, h3⟩
  have B3 := Lib.hid (up M2.out hb3 M2.out.size)
  have X3 := Lib.hid (X2.out.below hb3 X2.out.lt)
  have Y3 := Lib.hid (Y2.out.below hb3 Y2.out.lt)
  have T3 := Lib.hid (T2.out.keep hb3)
  have BB := Lib.hid (bytes_any y w3 T3.out HY.out)
  obtain ⟨v3, rfl, ho3⟩ : ∃ v, e1 = .returned (.tuple #[v, .int .i64 0]) ∧ Own w3 w2.heap.size v (bytesM x) := by
    rcases h3 with ⟨h, _⟩ | ⟨_, v, h2, h3⟩
    · rw [rx] at h; cases h
    · exact ⟨v, h2, h3⟩
  obtain ⟨A3, c3, rfl, hl3, -, -⟩ := ho3.lay
  have L3 := Lib.hid hl3
  clear ho3 hl3
  clear h3 hb3 BA hw x0 y0 x1 y1 x2 y2 x3 y3 x4 y4 x5 y5 x6 y6 x7 y7 x8 y8
  have y0 := Y3.out.cell 0
  have y1 := Y3.out.cell 1
  have y2 := Y3.out.cell 2
  have y3 := Y3.out.cell 3
  have y4 := Y3.out.cell 4
  have y5 := Y3.out.cell 5
  have y6 := Y3.out.cell 6
  have y7 := Y3.out.cell 7
  have y8 := Y3.out.cell 8
  go_wp2_with fail
  refine BB.out.mono ?_
  rintro e1 w4 ⟨hb4, h4⟩
  have B4 := Lib.hid (up B3.out hb4 B3.out.size)
  have X4 := Lib.hid (X3.out.below hb4 X3.out.lt)
  have Y4 := Lib.hid (Y3.out.below hb4 Y3.out.lt)
  have T4 := Lib.hid (T3.out.keep hb4)
  obtain rfl : e1 = .returned (.tuple #[.slice none 0 0, .int .i64 10]) := by
    rcases h4 with ⟨_, h⟩ | ⟨h, _⟩
    · exact h
    · rw [ry] at h; cases h
  have AW := Lib.hid (awake_any w4 T4.out)
  unfold BoolP at AW
  clear h4 hb4 BB y0 y1 y2 y3 y4 y5 y6 y7 y8
  go_wp2_with fail
  refine AW.out.mono ?_
  rintro e1 w5 ⟨rfl, hb⟩
  have B5 := Lib.hid (up B4.out hb B4.out.size)
  clear hb
  go_wp2_with fail
  go_ret
  exact ⟨rfl, B5.out⟩
set_option maxRecDepth 100000 in
set_option maxHeartbeats 8000000 in
theorem walk_eq (w : World) (hT : Tab w) (x y : Cm) (hx : x.Ok) (hy : y.Ok) (h1 : ¬ 100 < IntKind.i64.wrap ((x.l.size : Int) + (x.t.size : Int))) (h2 : ¬ 100 < IntKind.i64.wrap ((y.l.size : Int) + (y.t.size : Int))) (rx : rightM x = true) (ry : rightM y = true) (hq : eqb x y = true) : Calls Tryd.prog 5 #[.agg #[.int .i64 x.s, .int .i64 x.w, .int .i64 x.k, .int .i64 x.a, .int .i64 x.b, .int .i64 x.c, .int .i64 x.d, .string x.t, .string x.l], .agg #[.int .i64 y.s, .int .i64 y.w, .int .i64 y.k, .int .i64 y.a, .int .i64 y.b, .int .i64 y.c, .int .i64 y.d, .string y.t, .string y.l]] w (BoolP true w) := by
  obtain ⟨zx, hzx⟩ : ∃ z, IntKind.i64.wrap ((x.l.size : Int) + (x.t.size : Int)) = z := ⟨_, rfl⟩
  obtain ⟨zy, hzy⟩ : ∃ z, IntKind.i64.wrap ((y.l.size : Int) + (y.t.size : Int)) = z := ⟨_, rfl⟩
  have k1 : decide (zx > 100) = false := decide_eq_false (by omega)
  have k2 : decide (zy > 100) = false := decide_eq_false (by omega)
  have hne := fun w => run_eql hx hy w
  rw [hq] at hne
  have HS := Lib.hid (show ((str (bytesM x)).toList == (str (bytesM y)).toList) = true from by
    rw [eqb_iff.1 hq]; exact beq_self_eq_true _)
  have M1 := Lib.hid (made w (.cells #[.int .i64 x.s, .int .i64 x.w, .int .i64 x.k, .int .i64 x.a, .int .i64 x.b, .int .i64 x.c, .int .i64 x.d, .string x.t, .string x.l] 25))
  have M2 := Lib.hid (show Below w.heap.size w ((w.alloc (.cells #[.int .i64 x.s, .int .i64 x.w, .int .i64 x.k, .int .i64 x.a, .int .i64 x.b, .int .i64 x.c, .int .i64 x.d, .string x.t, .string x.l] 25)).alloc (.cells #[.int .i64 y.s, .int .i64 y.w, .int .i64 y.k, .int .i64 y.a, .int .i64 y.b, .int .i64 y.c, .int .i64 y.d, .string y.t, .string y.l] 25)) from up M1.out (made _ _) M1.out.size)
  have X2 := Lib.hid (show Blk ((w.alloc (.cells #[.int .i64 x.s, .int .i64 x.w, .int .i64 x.k, .int .i64 x.a, .int .i64 x.b, .int .i64 x.c, .int .i64 x.d, .string x.t, .string x.l] 25)).alloc (.cells #[.int .i64 y.s, .int .i64 y.w, .int .i64 y.k, .int .i64 y.a, .int .i64 y.b, .int .i64 y.c, .int .i64 y.d, .string y.t, .string y.l] 25)) w.heap.size 25 #[.int .i64 x.s, .int .i64 x.w, .int .i64 x.k, .int .i64 x.a, .int .i64 x.b, .int .i64 x.c, .int .i64 x.d, .string x.t, .string x.l] from (Blk.new _ _ _).alloc _)
  have Y2 := Lib.hid (show Blk ((w.alloc (.cells #[.int .i64 x.s, .int .i64 x.w, .int .i64 x.k, .int .i64 x.a, .int .i64 x.b, .int .i64 x.c, .int .i64 x.d, .string x.t, .string x.l] 25)).alloc (.cells #[.int .i64 y.s, .int .i64 y.w, .int .i64 y.k, .int .i64 y.a, .int .i64 y.b, .int .i64 y.c, .int .i64 y.d, .string y.t, .string y.l] 25)) (w.heap.size + 1) 25 #[.int .i64 y.s, .int .i64 y.w, .int .i64 y.k, .int .i64 y.a, .int .i64 y.b, .int .i64 y.c, .int .i64 y.d, .string y.t, .string y.l] from by have := Blk.new (w.alloc (.cells #[.int .i64 x.s, .int .i64 x.w, .int .i64 x.k, .int .i64 x.a, .int .i64 x.b, .int .i64 x.c, .int .i64 x.d, .string x.t, .string x.l] 25)) 25 #[.int .i64 y.s, .int .i64 y.w, .int .i64 y.k, .int .i64 y.a, .int .i64 y.b, .int .i64 y.c, .int .i64 y.d, .string y.t, .string y.l]; rwa [asz] at this)
  have T2 := Lib.hid (hT.keep M2.out)
  have x0 := X2.out.cell 0
  have y0 := Y2.out.cell 0
  have x1 := X2.out.cell 1
  have y1 := Y2.out.cell 1
  have x2 := X2.out.cell 2
  have y2 := Y2.out.cell 2
  have x3 := X2.out.cell 3
  have y3 := Y2.out.cell 3
  have x4 := X2.out.cell 4
  have y4 := Y2.out.cell 4
  have x5 := X2.out.cell 5
  have y5 := Y2.out.cell 5
  have x6 := X2.out.cell 6
  have y6 := Y2.out.cell 6
  have x7 := X2.out.cell 7
  have y7 := Y2.out.cell 7
  have x8 := X2.out.cell 8
  have y8 := Y2.out.cell 8
  generalize hw : (w.alloc (.cells #[.int .i64 x.s, .int .i64 x.w, .int .i64 x.k, .int .i64 x.a, .int .i64 x.b, .int .i64 x.c, .int .i64 x.d, .string x.t, .string x.l] 25)).alloc (.cells #[.int .i64 y.s, .int .i64 y.w, .int .i64 y.k, .int .i64 y.a, .int .i64 y.b, .int .i64 y.c, .int .i64 y.d, .string y.t, .string y.l] 25) = w2 at *
  have BA := Lib.hid (bytes_any x w2 T2.out hx)
  have HX := Lib.hid hx
  have HY := Lib.hid hy
  clear hT h1 h2 hx hy
  go_enter Tryd.func5, Tryd.ntmps5
  go_wp2_with (rw [hw])
  refine BA.out.mono ?_
  rintro e1 w3 ⟨hb3, h3⟩
  have B3 := Lib.hid (up M2.out hb3 M2.out.size)
  have X3 := Lib.hid (X2.out.below hb3 X2.out.lt)
  have Y3 := Lib.hid (Y2.out.below hb3 Y2.out.lt)
  have T3 := Lib.hid (T2.out.keep hb3)
  have BB := Lib.hid (bytes_any y w3 T3.out HY.out)
  obtain ⟨v3, rfl, ho3⟩ : ∃ v, e1 = .returned (.tuple #[v, .int .i64 0]) ∧ Own w3 w2.heap.size v (bytesM x) := by
    rcases h3 with ⟨h, _⟩ | ⟨_, v, h2, h3⟩
    · rw [rx] at h; cases h
    · exact ⟨v, h2, h3⟩
  obtain ⟨A3, c3, rfl, hl3, -, -⟩ := ho3.lay
  have L3 := Lib.hid hl3
  clear ho3 hl3
  clear h3 hb3 BA hw x0 y0 x1 y1 x2 y2 x3 y3 x4 y4 x5 y5 x6 y6 x7 y7 x8 y8
  have y0 := Y3.out.cell 0
  have y1 := Y3.out.cell 1
  have y2 := Y3.out.cell 2
  have y3 := Y3.out.cell 3
  have y4 := Y3.out.cell 4
  have y5 := Y3.out.cell 5
  have y6 := Y3.out.cell 6
  have y7 := Y3.out.cell 7
  have y8 := Y3.out.cell 8
  go_wp2_with fail
  refine BB.out.mono ?_
  rintro e1 w4 ⟨hb4, h4⟩
  have B4 := Lib.hid (up B3.out hb4 B3.out.size)
  have X4 := Lib.hid (X3.out.below hb4 X3.out.lt)
  have Y4 := Lib.hid (Y3.out.below hb4 Y3.out.lt)
  have T4 := Lib.hid (T3.out.keep hb4)
  obtain ⟨v4, rfl, ho4⟩ : ∃ v, e1 = .returned (.tuple #[v, .int .i64 0]) ∧ Own w4 w3.heap.size v (bytesM y) := by
    rcases h4 with ⟨h, _⟩ | ⟨_, v, h2, h3⟩
    · rw [ry] at h; cases h
    · exact ⟨v, h2, h3⟩
  obtain ⟨A4, c4, rfl, hl4, -, -⟩ := ho4.lay
  have L4 := Lib.hid hl4
  have L34 := Lib.hid (L3.out.below hb4)
  have CX := Lib.hid (fun ws (h : Lay ws A3 (bytesM x)) => conv_any ws A3 c3 (bytesM x) h (bytesM_small x))
  have CY := Lib.hid (fun ws (h : Lay ws A4 (bytesM y)) => conv_any ws A4 c4 (bytesM y) h (bytesM_small y))
  clear h4 hb4 BB ho4 hl4 y0 y1 y2 y3 y4 y5 y6 y7 y8
  have hs := HS.out
  clear HS
  generalize bytesM x = X at *
  generalize bytesM y = Y at *
  generalize str X = sx at *
  generalize str Y = sy at *
  go_upto_region 7 with fail
  have D4 := Lib.hid (show Below w4.heap.size w4 w4.drew from (Below.refl _ _).drew)
  have SS := Lib.hid (fun ws (h : Below w4.heap.size w4 ws) => (show ((convert 32 9 (.slice A3 X.length c3)).run Tryd.prog ws = .ok (.string sx) ws ∧ (convert 32 9 (.slice A4 Y.length c4)).run Tryd.prog ws = .ok (.string sy) ws) ∧ (ws.cell? ⟨w.heap.size, 0, none⟩ = some (.int .i64 x.s) ∧ ws.cell? ⟨w.heap.size, 1, none⟩ = some (.int .i64 x.w) ∧ ws.cell? ⟨w.heap.size, 2, none⟩ = some (.int .i64 x.k) ∧ ws.cell? ⟨w.heap.size, 3, none⟩ = some (.int .i64 x.a) ∧ ws.cell? ⟨w.heap.size, 4, none⟩ = some (.int .i64 x.b) ∧ ws.cell? ⟨w.heap.size, 5, none⟩ = some (.int .i64 x.c) ∧ ws.cell? ⟨w.heap.size, 6, none⟩ = some (.int .i64 x.d) ∧ ws.cell? ⟨w.heap.size, 7, none⟩ = some (.string x.t) ∧ ws.cell? ⟨w.heap.size, 8, none⟩ = some (.string x.l)) ∧ (ws.cell? ⟨w.heap.size + 1, 0, none⟩ = some (.int .i64 y.s) ∧ ws.cell? ⟨w.heap.size + 1, 1, none⟩ = some (.int .i64 y.w) ∧ ws.cell? ⟨w.heap.size + 1, 2, none⟩ = some (.int .i64 y.k) ∧ ws.cell? ⟨w.heap.size + 1, 3, none⟩ = some (.int .i64 y.a) ∧ ws.cell? ⟨w.heap.size + 1, 4, none⟩ = some (.int .i64 y.b) ∧ ws.cell? ⟨w.heap.size + 1, 5, none⟩ = some (.int .i64 y.c) ∧ ws.cell? ⟨w.heap.size + 1, 6, none⟩ = some (.int .i64 y.d) ∧ ws.cell? ⟨w.heap.size + 1, 7, none⟩ = some (.string y.t) ∧ ws.cell? ⟨w.heap.size + 1, 8, none⟩ = some (.string y.l)) from ⟨⟨CX.out ws (L34.out.below h), CY.out ws (L4.out.below h)⟩, ⟨(X4.out.below h X4.out.lt).cell 0, (X4.out.below h X4.out.lt).cell 1, (X4.out.below h X4.out.lt).cell 2, (X4.out.below h X4.out.lt).cell 3, (X4.out.below h X4.out.lt).cell 4, (X4.out.below h X4.out.lt).cell 5, (X4.out.below h X4.out.lt).cell 6, (X4.out.below h X4.out.lt).cell 7, (X4.out.below h X4.out.lt).cell 8⟩, ⟨(Y4.out.below h Y4.out.lt).cell 0, (Y4.out.below h Y4.out.lt).cell 1, (Y4.out.below h Y4.out.lt).cell 2, (Y4.out.below h Y4.out.lt).cell 3, (Y4.out.below h Y4.out.lt).cell 4, (Y4.out.below h Y4.out.lt).cell 5, (Y4.out.below h Y4.out.lt).cell 6, (Y4.out.below h Y4.out.lt).cell 7, (Y4.out.below h Y4.out.lt).cell 8⟩⟩))
  refine wp_region_held_drew (S := fun ws => ((convert 32 9 (.slice A3 X.length c3)).run Tryd.prog ws = .ok (.string sx) ws ∧ (convert 32 9 (.slice A4 Y.length c4)).run Tryd.prog ws = .ok (.string sy) ws) ∧ (ws.cell? ⟨w.heap.size, 0, none⟩ = some (.int .i64 x.s) ∧ ws.cell? ⟨w.heap.size, 1, none⟩ = some (.int .i64 x.w) ∧ ws.cell? ⟨w.heap.size, 2, none⟩ = some (.int .i64 x.k) ∧ ws.cell? ⟨w.heap.size, 3, none⟩ = some (.int .i64 x.a) ∧ ws.cell? ⟨w.heap.size, 4, none⟩ = some (.int .i64 x.b) ∧ ws.cell? ⟨w.heap.size, 5, none⟩ = some (.int .i64 x.c) ∧ ws.cell? ⟨w.heap.size, 6, none⟩ = some (.int .i64 x.d) ∧ ws.cell? ⟨w.heap.size, 7, none⟩ = some (.string x.t) ∧ ws.cell? ⟨w.heap.size, 8, none⟩ = some (.string x.l)) ∧ (ws.cell? ⟨w.heap.size + 1, 0, none⟩ = some (.int .i64 y.s) ∧ ws.cell? ⟨w.heap.size + 1, 1, none⟩ = some (.int .i64 y.w) ∧ ws.cell? ⟨w.heap.size + 1, 2, none⟩ = some (.int .i64 y.k) ∧ ws.cell? ⟨w.heap.size + 1, 3, none⟩ = some (.int .i64 y.a) ∧ ws.cell? ⟨w.heap.size + 1, 4, none⟩ = some (.int .i64 y.b) ∧ ws.cell? ⟨w.heap.size + 1, 5, none⟩ = some (.int .i64 y.c) ∧ ws.cell? ⟨w.heap.size + 1, 6, none⟩ = some (.int .i64 y.d) ∧ ws.cell? ⟨w.heap.size + 1, 7, none⟩ = some (.string y.t) ∧ ws.cell? ⟨w.heap.size + 1, 8, none⟩ = some (.string y.l))) (by kernel_rfl) (SS.out _ D4.out) (fun hHeld => ?_)
  generalize w4.drew = w5 at *
  refine wpAnyH_take (i := 0) (v := ?_) rfl (by kernel_rfl) (by kernel_rfl) (by kernel_rfl) (fun _ _ _ h => h) (Or.inl ⟨by rfl, ?_⟩) (by assumption) ?_
  rotate_left
  · (intro w hSw; (try dsimp only at hSw); first | (go_simp; done) | (go_simp; with_reducible rfl))
  simp only [Act.put, List.getElem_toArray, List.getElem_cons_zero, List.getElem_cons_succ, List.setIfInBounds_toArray, List.set_cons_zero, List.set_cons_succ]
  refine wpAnyH_take (i := 1) (v := ?_) rfl (by kernel_rfl) (by kernel_rfl) (by kernel_rfl) (fun _ _ _ h => h) (Or.inl ⟨by rfl, ?_⟩) (by assumption) ?_
  rotate_left
  · (intro w hSw; (try dsimp only at hSw); first | (go_simp; done) | (go_simp; with_reducible rfl))
  simp only [Act.put, List.getElem_toArray, List.getElem_cons_zero, List.getElem_cons_succ, List.setIfInBounds_toArray, List.set_cons_zero, List.set_cons_succ]
  refine wpAnyH_take (i := 2) (v := ?_) rfl (by kernel_rfl) (by kernel_rfl) (by kernel_rfl) (fun _ _ _ h => h) (Or.inl ⟨by rfl, ?_⟩) (by assumption) ?_
  rotate_left
  · (intro w hSw; (try dsimp only at hSw); first | (go_simp; done) | (go_simp; with_reducible rfl))
  simp only [Act.put, List.getElem_toArray, List.getElem_cons_zero, List.getElem_cons_succ, List.setIfInBounds_toArray, List.set_cons_zero, List.set_cons_succ]
  refine wpAnyH_take (i := 3) (v := ?_) rfl (by kernel_rfl) (by kernel_rfl) (by kernel_rfl) (fun _ _ _ h => h) (Or.inl ⟨by rfl, ?_⟩) (by assumption) ?_
  rotate_left
  · (intro w hSw; (try dsimp only at hSw); first | (go_simp; done) | (go_simp; with_reducible rfl))
  simp only [Act.put, List.getElem_toArray, List.getElem_cons_zero, List.getElem_cons_succ, List.setIfInBounds_toArray, List.set_cons_zero, List.set_cons_succ]
  refine wpAnyH_take (i := 4) (v := ?_) rfl (by kernel_rfl) (by kernel_rfl) (by kernel_rfl) (fun _ _ _ h => h) (Or.inl ⟨by rfl, ?_⟩) (by assumption) ?_
  rotate_left
  · (intro w hSw; (try dsimp only at hSw); first | (go_simp; done) | (go_simp; with_reducible rfl))
  simp only [Act.put, List.getElem_toArray, List.getElem_cons_zero, List.getElem_cons_succ, List.setIfInBounds_toArray, List.set_cons_zero, List.set_cons_succ]
  refine wpAnyH_take (i := 5) (v := ?_) rfl (by kernel_rfl) (by kernel_rfl) (by kernel_rfl) (fun _ _ _ h => h) (Or.inl ⟨by rfl, ?_⟩) (by assumption) ?_
  rotate_left
  · (intro w hSw; (try dsimp only at hSw); first | (go_simp; done) | (go_simp; with_reducible rfl))
  simp only [Act.put, List.getElem_toArray, List.getElem_cons_zero, List.getElem_cons_succ, List.setIfInBounds_toArray, List.set_cons_zero, List.set_cons_succ]
  refine wpAnyH_take (i := 6) (v := ?_) rfl (by kernel_rfl) (by kernel_rfl) (by kernel_rfl) (fun _ _ _ h => h) (Or.inl ⟨by rfl, ?_⟩) (by assumption) ?_
  rotate_left
  · (intro w hSw; (try dsimp only at hSw); first | (go_simp; done) | (go_simp; with_reducible rfl))
  simp only [Act.put, List.getElem_toArray, List.getElem_cons_zero, List.getElem_cons_succ, List.setIfInBounds_toArray, List.set_cons_zero, List.set_cons_succ]
  refine wpAnyH_take (i := 7) (v := (.bool true)) rfl (by kernel_rfl) (by kernel_rfl) (by kernel_rfl) (fun _ _ _ h => h) (Or.inl ⟨by rfl, by (intro w hSw; (try dsimp only at hSw); exact run_bin rfl rfl rfl guard_cmd (hne w))⟩) (by assumption) ?_
  simp only [Act.put, List.getElem_toArray, List.getElem_cons_zero, List.getElem_cons_succ, List.setIfInBounds_toArray, List.set_cons_zero, List.set_cons_succ]
  refine wpAnyH_take (i := 8) (v := ?_) rfl (by kernel_rfl) (by kernel_rfl) (by kernel_rfl) (fun _ _ _ h => h) (Or.inl ⟨by rfl, ?_⟩) (by assumption) ?_
  rotate_left
  · (intro w hSw; (try dsimp only at hSw); first | (go_simp; done) | (go_simp; with_reducible rfl))
  simp only [Act.put, List.getElem_toArray, List.getElem_cons_zero, List.getElem_cons_succ, List.setIfInBounds_toArray, List.set_cons_zero, List.set_cons_succ]
  refine wpAnyH_take (i := 9) (v := ?_) rfl (by kernel_rfl) (by kernel_rfl) (by kernel_rfl) (fun _ _ _ h => h) (Or.inl ⟨by rfl, ?_⟩) (by assumption) ?_
  rotate_left
  · (intro w hSw; (try dsimp only at hSw); first | (go_simp; done) | (go_simp; with_reducible rfl))
  simp only [Act.put, List.getElem_toArray, List.getElem_cons_zero, List.getElem_cons_succ, List.setIfInBounds_toArray, List.set_cons_zero, List.set_cons_succ]
  have B5 := Lib.hid (up B4.out D4.out B4.out.size)
  have AW := Lib.hid (awake_any w5 (T4.out.keep D4.out))
  unfold BoolP at AW
  refine wpAnyH_ready (rs := [10]) (by kernel_rfl) (by simp) ?_
  refine AllReadyH.cons rfl (fun K hK => ?_) AllReadyH.nil
  go_simp
  go_wp2_with (go_at_call 8; refine AW.out.mono ?_; rintro e1 w6 ⟨rfl, hb⟩)
  have D6 := Lib.hid (up D4.out hb D4.out.size)
  refine hK.out _ _ (SS.out _ D6.out) (fun hH1 => ?_)
  clear hK K hHeld hb AW
  refine wpAnyH_take (i := 11) (v := ?_) rfl (by kernel_rfl) (by kernel_rfl) (by kernel_rfl) (fun _ _ _ h => h) (Or.inl ⟨by rfl, ?_⟩) (by assumption) ?_
  rotate_left
  · (intro w hSw; (try dsimp only at hSw); first | (go_simp; done) | (go_simp; with_reducible rfl))
  simp only [Act.put, List.getElem_toArray, List.getElem_cons_zero, List.getElem_cons_succ, List.setIfInBounds_toArray, List.set_cons_zero, List.set_cons_succ]
  refine wpAnyH_take (i := 12) (v := ?_) rfl (by kernel_rfl) (by kernel_rfl) (by kernel_rfl) (fun _ _ _ h => h) (Or.inl ⟨by rfl, ?_⟩) (by assumption) ?_
  rotate_left
  · (intro w hSw; (try dsimp only at hSw); first | (go_simp; done) | (go_simp; with_reducible rfl))
  simp only [Act.put, List.getElem_toArray, List.getElem_cons_zero, List.getElem_cons_succ, List.setIfInBounds_toArray, List.set_cons_zero, List.set_cons_succ]
  refine wpAnyH_done (by kernel_rfl) ?_ _
  clear hH1 hne hs
  go_wp2_with fail
  go_ret
  exact ⟨rfl, up B4.out D6.out B4.out.size⟩
set_option maxRecDepth 100000 in
set_option maxHeartbeats 8000000 in
theorem walk_ne (w : World) (hT : Tab w) (x y : Cm) (hx : x.Ok) (hy : y.Ok) (h1 : ¬ 100 < IntKind.i64.wrap ((x.l.size : Int) + (x.t.size : Int))) (h2 : ¬ 100 < IntKind.i64.wrap ((y.l.size : Int) + (y.t.size : Int))) (rx : rightM x = true) (ry : rightM y = true) (hq : eqb x y = false) : Calls Tryd.prog 5 #[.agg #[.int .i64 x.s, .int .i64 x.w, .int .i64 x.k, .int .i64 x.a, .int .i64 x.b, .int .i64 x.c, .int .i64 x.d, .string x.t, .string x.l], .agg #[.int .i64 y.s, .int .i64 y.w, .int .i64 y.k, .int .i64 y.a, .int .i64 y.b, .int .i64 y.c, .int .i64 y.d, .string y.t, .string y.l]] w (BoolP true w) := by
  obtain ⟨zx, hzx⟩ : ∃ z, IntKind.i64.wrap ((x.l.size : Int) + (x.t.size : Int)) = z := ⟨_, rfl⟩
  obtain ⟨zy, hzy⟩ : ∃ z, IntKind.i64.wrap ((y.l.size : Int) + (y.t.size : Int)) = z := ⟨_, rfl⟩
  have k1 : decide (zx > 100) = false := decide_eq_false (by omega)
  have k2 : decide (zy > 100) = false := decide_eq_false (by omega)
  have hne := fun w => run_eql hx hy w
  rw [hq] at hne
  have HS := Lib.hid (show ((str (bytesM x)).toList == (str (bytesM y)).toList) = false from by
    have hn : str (bytesM x) ≠ str (bytesM y) := fun h => (by have := eqb_iff.2 (inj hx hy rx ry (str_inj (bytesM_small x) (bytesM_small y) h)); rw [hq] at this; cases this)
    exact beq_false_of_ne (fun h => hn (toList_inj h)))
  have M1 := Lib.hid (made w (.cells #[.int .i64 x.s, .int .i64 x.w, .int .i64 x.k, .int .i64 x.a, .int .i64 x.b, .int .i64 x.c, .int .i64 x.d, .string x.t, .string x.l] 25))
  have M2 := Lib.hid (show Below w.heap.size w ((w.alloc (.cells #[.int .i64 x.s, .int .i64 x.w, .int .i64 x.k, .int .i64 x.a, .int .i64 x.b, .int .i64 x.c, .int .i64 x.d, .string x.t, .string x.l] 25)).alloc (.cells #[.int .i64 y.s, .int .i64 y.w, .int .i64 y.k, .int .i64 y.a, .int .i64 y.b, .int .i64 y.c, .int .i64 y.d, .string y.t, .string y.l] 25)) from up M1.out (made _ _) M1.out.size)
  have X2 := Lib.hid (show Blk ((w.alloc (.cells #[.int .i64 x.s, .int .i64 x.w, .int .i64 x.k, .int .i64 x.a, .int .i64 x.b, .int .i64 x.c, .int .i64 x.d, .string x.t, .string x.l] 25)).alloc (.cells #[.int .i64 y.s, .int .i64 y.w, .int .i64 y.k, .int .i64 y.a, .int .i64 y.b, .int .i64 y.c, .int .i64 y.d, .string y.t, .string y.l] 25)) w.heap.size 25 #[.int .i64 x.s, .int .i64 x.w, .int .i64 x.k, .int .i64 x.a, .int .i64 x.b, .int .i64 x.c, .int .i64 x.d, .string x.t, .string x.l] from (Blk.new _ _ _).alloc _)
  have Y2 := Lib.hid (show Blk ((w.alloc (.cells #[.int .i64 x.s, .int .i64 x.w, .int .i64 x.k, .int .i64 x.a, .int .i64 x.b, .int .i64 x.c, .int .i64 x.d, .string x.t, .string x.l] 25)).alloc (.cells #[.int .i64 y.s, .int .i64 y.w, .int .i64 y.k, .int .i64 y.a, .int .i64 y.b, .int .i64 y.c, .int .i64 y.d, .string y.t, .string y.l] 25)) (w.heap.size + 1) 25 #[.int .i64 y.s, .int .i64 y.w, .int .i64 y.k, .int .i64 y.a, .int .i64 y.b, .int .i64 y.c, .int .i64 y.d, .string y.t, .string y.l] from by have := Blk.new (w.alloc (.cells #[.int .i64 x.s, .int .i64 x.w, .int .i64 x.k, .int .i64 x.a, .int .i64 x.b, .int .i64 x.c, .int .i64 x.d, .string x.t, .string x.l] 25)) 25 #[.int .i64 y.s, .int .i64 y.w, .int .i64 y.k, .int .i64 y.a, .int .i64 y.b, .int .i64 y.c, .int .i64 y.d, .string y.t, .string y.l]; rwa [asz] at this)
  have T2 := Lib.hid (hT.keep M2.out)
  have x0 := X2.out.cell 0
  have y0 := Y2.out.cell 0
  have x1 := X2.out.cell 1
  have y1 := Y2.out.cell 1
  have x2 := X2.out.cell 2
  have y2 := Y2.out.cell 2
  have x3 := X2.out.cell 3
  have y3 := Y2.out.cell 3
  have x4 := X2.out.cell 4
  have y4 := Y2.out.cell 4
  have x5 := X2.out.cell 5
  have y5 := Y2.out.cell 5
  have x6 := X2.out.cell 6
  have y6 := Y2.out.cell 6
  have x7 := X2.out.cell 7
  have y7 := Y2.out.cell 7
  have x8 := X2.out.cell 8
  have y8 := Y2.out.cell 8
  generalize hw : (w.alloc (.cells #[.int .i64 x.s, .int .i64 x.w, .int .i64 x.k, .int .i64 x.a, .int .i64 x.b, .int .i64 x.c, .int .i64 x.d, .string x.t, .string x.l] 25)).alloc (.cells #[.int .i64 y.s, .int .i64 y.w, .int .i64 y.k, .int .i64 y.a, .int .i64 y.b, .int .i64 y.c, .int .i64 y.d, .string y.t, .string y.l] 25) = w2 at *
  have BA := Lib.hid (bytes_any x w2 T2.out hx)
  have HX := Lib.hid hx
  have HY := Lib.hid hy
  clear hT h1 h2 hx hy
  go_enter Tryd.func5, Tryd.ntmps5
  go_wp2_with (rw [hw])
  refine BA.out.mono ?_
  rintro e1 w3 ⟨hb3, h3⟩
  have B3 := Lib.hid (up M2.out hb3 M2.out.size)
  have X3 := Lib.hid (X2.out.below hb3 X2.out.lt)
  have Y3 := Lib.hid (Y2.out.below hb3 Y2.out.lt)
  have T3 := Lib.hid (T2.out.keep hb3)
  have BB := Lib.hid (bytes_any y w3 T3.out HY.out)
  obtain ⟨v3, rfl, ho3⟩ : ∃ v, e1 = .returned (.tuple #[v, .int .i64 0]) ∧ Own w3 w2.heap.size v (bytesM x) := by
    rcases h3 with ⟨h, _⟩ | ⟨_, v, h2, h3⟩
    · rw [rx] at h; cases h
    · exact ⟨v, h2, h3⟩
  obtain ⟨A3, c3, rfl, hl3, -, -⟩ := ho3.lay
  have L3 := Lib.hid hl3
  clear ho3 hl3
  clear h3 hb3 BA hw x0 y0 x1 y1 x2 y2 x3 y3 x4 y4 x5 y5 x6 y6 x7 y7 x8 y8
  have y0 := Y3.out.cell 0
  have y1 := Y3.out.cell 1
  have y2 := Y3.out.cell 2
  have y3 := Y3.out.cell 3
  have y4 := Y3.out.cell 4
  have y5 := Y3.out.cell 5
  have y6 := Y3.out.cell 6
  have y7 := Y3.out.cell 7
  have y8 := Y3.out.cell 8
  go_wp2_with fail
  refine BB.out.mono ?_
  rintro e1 w4 ⟨hb4, h4⟩
  have B4 := Lib.hid (up B3.out hb4 B3.out.size)
  have X4 := Lib.hid (X3.out.below hb4 X3.out.lt)
  have Y4 := Lib.hid (Y3.out.below hb4 Y3.out.lt)
  have T4 := Lib.hid (T3.out.keep hb4)
  obtain ⟨v4, rfl, ho4⟩ : ∃ v, e1 = .returned (.tuple #[v, .int .i64 0]) ∧ Own w4 w3.heap.size v (bytesM y) := by
    rcases h4 with ⟨h, _⟩ | ⟨_, v, h2, h3⟩
    · rw [ry] at h; cases h
    · exact ⟨v, h2, h3⟩
  obtain ⟨A4, c4, rfl, hl4, -, -⟩ := ho4.lay
  have L4 := Lib.hid hl4
  have L34 := Lib.hid (L3.out.below hb4)
  have CX := Lib.hid (fun ws (h : Lay ws A3 (bytesM x)) => conv_any ws A3 c3 (bytesM x) h (bytesM_small x))
  have CY := Lib.hid (fun ws (h : Lay ws A4 (bytesM y)) => conv_any ws A4 c4 (bytesM y) h (bytesM_small y))
  clear h4 hb4 BB ho4 hl4 y0 y1 y2 y3 y4 y5 y6 y7 y8
  have hs := HS.out
  clear HS
  generalize bytesM x = X at *
  generalize bytesM y = Y at *
  generalize str X = sx at *
  generalize str Y = sy at *
  go_upto_region 7 with fail
  have D4 := Lib.hid (show Below w4.heap.size w4 w4.drew from (Below.refl _ _).drew)
  have SS := Lib.hid (fun ws (h : Below w4.heap.size w4 ws) => (show ((convert 32 9 (.slice A3 X.length c3)).run Tryd.prog ws = .ok (.string sx) ws ∧ (convert 32 9 (.slice A4 Y.length c4)).run Tryd.prog ws = .ok (.string sy) ws) ∧ (ws.cell? ⟨w.heap.size, 0, none⟩ = some (.int .i64 x.s) ∧ ws.cell? ⟨w.heap.size, 1, none⟩ = some (.int .i64 x.w) ∧ ws.cell? ⟨w.heap.size, 2, none⟩ = some (.int .i64 x.k) ∧ ws.cell? ⟨w.heap.size, 3, none⟩ = some (.int .i64 x.a) ∧ ws.cell? ⟨w.heap.size, 4, none⟩ = some (.int .i64 x.b) ∧ ws.cell? ⟨w.heap.size, 5, none⟩ = some (.int .i64 x.c) ∧ ws.cell? ⟨w.heap.size, 6, none⟩ = some (.int .i64 x.d) ∧ ws.cell? ⟨w.heap.size, 7, none⟩ = some (.string x.t) ∧ ws.cell? ⟨w.heap.size, 8, none⟩ = some (.string x.l)) ∧ (ws.cell? ⟨w.heap.size + 1, 0, none⟩ = some (.int .i64 y.s) ∧ ws.cell? ⟨w.heap.size + 1, 1, none⟩ = some (.int .i64 y.w) ∧ ws.cell? ⟨w.heap.size + 1, 2, none⟩ = some (.int .i64 y.k) ∧ ws.cell? ⟨w.heap.size + 1, 3, none⟩ = some (.int .i64 y.a) ∧ ws.cell? ⟨w.heap.size + 1, 4, none⟩ = some (.int .i64 y.b) ∧ ws.cell? ⟨w.heap.size + 1, 5, none⟩ = some (.int .i64 y.c) ∧ ws.cell? ⟨w.heap.size + 1, 6, none⟩ = some (.int .i64 y.d) ∧ ws.cell? ⟨w.heap.size + 1, 7, none⟩ = some (.string y.t) ∧ ws.cell? ⟨w.heap.size + 1, 8, none⟩ = some (.string y.l)) from ⟨⟨CX.out ws (L34.out.below h), CY.out ws (L4.out.below h)⟩, ⟨(X4.out.below h X4.out.lt).cell 0, (X4.out.below h X4.out.lt).cell 1, (X4.out.below h X4.out.lt).cell 2, (X4.out.below h X4.out.lt).cell 3, (X4.out.below h X4.out.lt).cell 4, (X4.out.below h X4.out.lt).cell 5, (X4.out.below h X4.out.lt).cell 6, (X4.out.below h X4.out.lt).cell 7, (X4.out.below h X4.out.lt).cell 8⟩, ⟨(Y4.out.below h Y4.out.lt).cell 0, (Y4.out.below h Y4.out.lt).cell 1, (Y4.out.below h Y4.out.lt).cell 2, (Y4.out.below h Y4.out.lt).cell 3, (Y4.out.below h Y4.out.lt).cell 4, (Y4.out.below h Y4.out.lt).cell 5, (Y4.out.below h Y4.out.lt).cell 6, (Y4.out.below h Y4.out.lt).cell 7, (Y4.out.below h Y4.out.lt).cell 8⟩⟩))
  refine wp_region_held_drew (S := fun ws => ((convert 32 9 (.slice A3 X.length c3)).run Tryd.prog ws = .ok (.string sx) ws ∧ (convert 32 9 (.slice A4 Y.length c4)).run Tryd.prog ws = .ok (.string sy) ws) ∧ (ws.cell? ⟨w.heap.size, 0, none⟩ = some (.int .i64 x.s) ∧ ws.cell? ⟨w.heap.size, 1, none⟩ = some (.int .i64 x.w) ∧ ws.cell? ⟨w.heap.size, 2, none⟩ = some (.int .i64 x.k) ∧ ws.cell? ⟨w.heap.size, 3, none⟩ = some (.int .i64 x.a) ∧ ws.cell? ⟨w.heap.size, 4, none⟩ = some (.int .i64 x.b) ∧ ws.cell? ⟨w.heap.size, 5, none⟩ = some (.int .i64 x.c) ∧ ws.cell? ⟨w.heap.size, 6, none⟩ = some (.int .i64 x.d) ∧ ws.cell? ⟨w.heap.size, 7, none⟩ = some (.string x.t) ∧ ws.cell? ⟨w.heap.size, 8, none⟩ = some (.string x.l)) ∧ (ws.cell? ⟨w.heap.size + 1, 0, none⟩ = some (.int .i64 y.s) ∧ ws.cell? ⟨w.heap.size + 1, 1, none⟩ = some (.int .i64 y.w) ∧ ws.cell? ⟨w.heap.size + 1, 2, none⟩ = some (.int .i64 y.k) ∧ ws.cell? ⟨w.heap.size + 1, 3, none⟩ = some (.int .i64 y.a) ∧ ws.cell? ⟨w.heap.size + 1, 4, none⟩ = some (.int .i64 y.b) ∧ ws.cell? ⟨w.heap.size + 1, 5, none⟩ = some (.int .i64 y.c) ∧ ws.cell? ⟨w.heap.size + 1, 6, none⟩ = some (.int .i64 y.d) ∧ ws.cell? ⟨w.heap.size + 1, 7, none⟩ = some (.string y.t) ∧ ws.cell? ⟨w.heap.size + 1, 8, none⟩ = some (.string y.l))) (by kernel_rfl) (SS.out _ D4.out) (fun hHeld => ?_)
  generalize w4.drew = w5 at *
  refine wpAnyH_take (i := 0) (v := ?_) rfl (by kernel_rfl) (by kernel_rfl) (by kernel_rfl) (fun _ _ _ h => h) (Or.inl ⟨by rfl, ?_⟩) (by assumption) ?_
  rotate_left
  · (intro w hSw; (try dsimp only at hSw); first | (go_simp; done) | (go_simp; with_reducible rfl))
  simp only [Act.put, List.getElem_toArray, List.getElem_cons_zero, List.getElem_cons_succ, List.setIfInBounds_toArray, List.set_cons_zero, List.set_cons_succ]
  refine wpAnyH_take (i := 1) (v := ?_) rfl (by kernel_rfl) (by kernel_rfl) (by kernel_rfl) (fun _ _ _ h => h) (Or.inl ⟨by rfl, ?_⟩) (by assumption) ?_
  rotate_left
  · (intro w hSw; (try dsimp only at hSw); first | (go_simp; done) | (go_simp; with_reducible rfl))
  simp only [Act.put, List.getElem_toArray, List.getElem_cons_zero, List.getElem_cons_succ, List.setIfInBounds_toArray, List.set_cons_zero, List.set_cons_succ]
  refine wpAnyH_take (i := 2) (v := ?_) rfl (by kernel_rfl) (by kernel_rfl) (by kernel_rfl) (fun _ _ _ h => h) (Or.inl ⟨by rfl, ?_⟩) (by assumption) ?_
  rotate_left
  · (intro w hSw; (try dsimp only at hSw); first | (go_simp; done) | (go_simp; with_reducible rfl))
  simp only [Act.put, List.getElem_toArray, List.getElem_cons_zero, List.getElem_cons_succ, List.setIfInBounds_toArray, List.set_cons_zero, List.set_cons_succ]
  refine wpAnyH_take (i := 3) (v := ?_) rfl (by kernel_rfl) (by kernel_rfl) (by kernel_rfl) (fun _ _ _ h => h) (Or.inl ⟨by rfl, ?_⟩) (by assumption) ?_
  rotate_left
  · (intro w hSw; (try dsimp only at hSw); first | (go_simp; done) | (go_simp; with_reducible rfl))
  simp only [Act.put, List.getElem_toArray, List.getElem_cons_zero, List.getElem_cons_succ, List.setIfInBounds_toArray, List.set_cons_zero, List.set_cons_succ]
  refine wpAnyH_take (i := 4) (v := ?_) rfl (by kernel_rfl) (by kernel_rfl) (by kernel_rfl) (fun _ _ _ h => h) (Or.inl ⟨by rfl, ?_⟩) (by assumption) ?_
  rotate_left
  · (intro w hSw; (try dsimp only at hSw); first | (go_simp; done) | (go_simp; with_reducible rfl))
  simp only [Act.put, List.getElem_toArray, List.getElem_cons_zero, List.getElem_cons_succ, List.setIfInBounds_toArray, List.set_cons_zero, List.set_cons_succ]
  refine wpAnyH_take (i := 5) (v := ?_) rfl (by kernel_rfl) (by kernel_rfl) (by kernel_rfl) (fun _ _ _ h => h) (Or.inl ⟨by rfl, ?_⟩) (by assumption) ?_
  rotate_left
  · (intro w hSw; (try dsimp only at hSw); first | (go_simp; done) | (go_simp; with_reducible rfl))
  simp only [Act.put, List.getElem_toArray, List.getElem_cons_zero, List.getElem_cons_succ, List.setIfInBounds_toArray, List.set_cons_zero, List.set_cons_succ]
  refine wpAnyH_take (i := 6) (v := ?_) rfl (by kernel_rfl) (by kernel_rfl) (by kernel_rfl) (fun _ _ _ h => h) (Or.inl ⟨by rfl, ?_⟩) (by assumption) ?_
  rotate_left
  · (intro w hSw; (try dsimp only at hSw); first | (go_simp; done) | (go_simp; with_reducible rfl))
  simp only [Act.put, List.getElem_toArray, List.getElem_cons_zero, List.getElem_cons_succ, List.setIfInBounds_toArray, List.set_cons_zero, List.set_cons_succ]
  refine wpAnyH_take (i := 7) (v := (.bool false)) rfl (by kernel_rfl) (by kernel_rfl) (by kernel_rfl) (fun _ _ _ h => h) (Or.inl ⟨by rfl, by (intro w hSw; (try dsimp only at hSw); exact run_bin rfl rfl rfl guard_cmd (hne w))⟩) (by assumption) ?_
  simp only [Act.put, List.getElem_toArray, List.getElem_cons_zero, List.getElem_cons_succ, List.setIfInBounds_toArray, List.set_cons_zero, List.set_cons_succ]
  refine wpAnyH_take (i := 8) (v := ?_) rfl (by kernel_rfl) (by kernel_rfl) (by kernel_rfl) (fun _ _ _ h => h) (Or.inl ⟨by rfl, ?_⟩) (by assumption) ?_
  rotate_left
  · (intro w hSw; (try dsimp only at hSw); first | (go_simp; done) | (go_simp; with_reducible rfl))
  simp only [Act.put, List.getElem_toArray, List.getElem_cons_zero, List.getElem_cons_succ, List.setIfInBounds_toArray, List.set_cons_zero, List.set_cons_succ]
  refine wpAnyH_take (i := 9) (v := ?_) rfl (by kernel_rfl) (by kernel_rfl) (by kernel_rfl) (fun _ _ _ h => h) (Or.inl ⟨by rfl, ?_⟩) (by assumption) ?_
  rotate_left
  · (intro w hSw; (try dsimp only at hSw); first | (go_simp; done) | (go_simp; with_reducible rfl))
  simp only [Act.put, List.getElem_toArray, List.getElem_cons_zero, List.getElem_cons_succ, List.setIfInBounds_toArray, List.set_cons_zero, List.set_cons_succ]
  have B5 := Lib.hid (up B4.out D4.out B4.out.size)
  have AW := Lib.hid (awake_any w5 (T4.out.keep D4.out))
  unfold BoolP at AW
  refine wpAnyH_ready (rs := [10]) (by kernel_rfl) (by simp) ?_
  refine AllReadyH.cons rfl (fun K hK => ?_) AllReadyH.nil
  go_simp
  go_wp2_with (go_at_call 8; refine AW.out.mono ?_; rintro e1 w6 ⟨rfl, hb⟩)
  have D6 := Lib.hid (up D4.out hb D4.out.size)
  refine hK.out _ _ (SS.out _ D6.out) (fun hH1 => ?_)
  clear hK K hHeld hb AW
  refine wpAnyH_take (i := 11) (v := ?_) rfl (by kernel_rfl) (by kernel_rfl) (by kernel_rfl) (fun _ _ _ h => h) (Or.inl ⟨by rfl, ?_⟩) (by assumption) ?_
  rotate_left
  · (intro w hSw; (try dsimp only at hSw); first | (go_simp; done) | (go_simp; with_reducible rfl))
  simp only [Act.put, List.getElem_toArray, List.getElem_cons_zero, List.getElem_cons_succ, List.setIfInBounds_toArray, List.set_cons_zero, List.set_cons_succ]
  refine wpAnyH_take (i := 12) (v := ?_) rfl (by kernel_rfl) (by kernel_rfl) (by kernel_rfl) (fun _ _ _ h => h) (Or.inl ⟨by rfl, ?_⟩) (by assumption) ?_
  rotate_left
  · (intro w hSw; (try dsimp only at hSw); first | (go_simp; done) | (go_simp; with_reducible rfl))
  simp only [Act.put, List.getElem_toArray, List.getElem_cons_zero, List.getElem_cons_succ, List.setIfInBounds_toArray, List.set_cons_zero, List.set_cons_succ]
  refine wpAnyH_done (by kernel_rfl) ?_ _
  clear hH1 hne hs
  go_wp2_with fail
  go_ret
  exact ⟨rfl, up B4.out D6.out B4.out.size⟩
theorem walk (w : World) (hT : Tab w) (x : Cm) (hx : x.Ok) (y : Cm) (hy : y.Ok) : Calls Tryd.prog 5 #[.agg #[.int .i64 x.s, .int .i64 x.w, .int .i64 x.k, .int .i64 x.a, .int .i64 x.b, .int .i64 x.c, .int .i64 x.d, .string x.t, .string x.l], .agg #[.int .i64 y.s, .int .i64 y.w, .int .i64 y.k, .int .i64 y.a, .int .i64 y.b, .int .i64 y.c, .int .i64 y.d, .string y.t, .string y.l]] w fun e w' => e = .returned (.bool true) ∧ Below w.heap.size w w' := by
  by_cases h1 : 100 < IntKind.i64.wrap ((x.l.size : Int) + (x.t.size : Int))
  · exact walk_a w hT x y hx hy h1
  by_cases h2 : 100 < IntKind.i64.wrap ((y.l.size : Int) + (y.t.size : Int))
  · exact walk_b w hT x y hx hy h1 h2
  cases rx : rightM x with
  | false => exact walk_nox w hT x y hx hy h1 h2 rx
  | true =>
    cases ry : rightM y with
    | false => exact walk_noy w hT x y hx hy h1 h2 rx ry
    | true =>
      cases hq : eqb x y with
      | true => exact walk_eq w hT x y hx hy h1 h2 rx ry hq
      | false => exact walk_ne w hT x y hx hy h1 h2 rx ry hq

theorem contract (H : Type) (enc : TypeId × Value → H) (W : World) (bs : Nat) (args : Array Value) (ds gs : List (DataW H)) (before : List MemPlace)
    (hval : ∀ (j : Nat) t v, Tryd.f5.params[j]? = some t → args[j]? = some v → Value.okWide Tryd.prog W .any bs t v)
    (hW : DataW.Whole enc Tryd.prog Tryd.f5.params.toList Rows.orderApartSpec.vars false W args.toList ds gs before) (hL : laidMetH Tryd.prog Rows.orderApartRow.laid W) :
    Calls Tryd.prog 5 args W fun e W' => ∃ v, e = .returned v ∧ Rows.orderApartSpec.post enc Tryd.prog Tryd.f5 false true false false W args v W' := by
  have hW' := hW
  obtain ⟨p, q, hA0, hV, rfl, _, _⟩ := hW
  have hA : DataW.TrodAll enc Tryd.prog W 0 (fun _ => true) true Tryd.f5.params.toList args.toList ds p := hA0
  rw [Tryd.params5] at hA hval
  obtain ⟨v0, vs0, d0, ds0, p0, q0, hargs, rfl, rfl, h0, r0⟩ := trodAll_cons hA
  obtain ⟨v1, vs1, d1, ds1, p1, q1, rfl, rfl, rfl, h1, r1⟩ := trodAll_cons r0
  obtain ⟨rfl, rfl, rfl⟩ := trodAll_nil r1
  obtain rfl : args = #[v0, v1] := by cases args; simp_all
  obtain ⟨rfl, rfl⟩ := trodVars_none hV
  obtain ⟨x0, rfl, hx0⟩ := od.open_cmd (hval 0 25 v0 rfl rfl) h0
  obtain ⟨x1, rfl, hx1⟩ := od.open_cmd (hval 1 25 v1 rfl rfl) h1
  clear hA0
  refine (walk W (tableOf hL) x0 hx0 x1 hx1).mono fun e W' ⟨he, hb⟩ => ?_
  subst he
  exact ⟨_, rfl, base.law_post base.laid (by kernel_rfl) rfl rfl Tryd.underlying4 hW' rfl rfl rfl hb⟩

noncomputable def laidWorld (os : Os) : World :=
  { World.holding Tryd.prog os ⟨#[], #[], []⟩ with heap := (World.holding Tryd.prog os ⟨#[], #[], []⟩).heap.modify 0 fun
      | .cells _ t frozen => .cells #[.string ⟨#[]⟩, .string ⟨#[84]⟩, .string ⟨#[65, 66]⟩, .string ⟨#[65, 66]⟩, .string ⟨#[65, 66, 67, 68]⟩, .string ⟨#[65]⟩, .string ⟨#[65, 66]⟩, .string ⟨#[65, 66, 67, 68]⟩, .string ⟨#[84]⟩, .string ⟨#[65]⟩, .string ⟨#[65, 66]⟩, .string ⟨#[65, 66, 67]⟩, .string ⟨#[65]⟩, .string ⟨#[65]⟩, .string ⟨#[65, 66, 67]⟩, .string ⟨#[65]⟩, .string ⟨#[65]⟩, .string ⟨#[65]⟩, .string ⟨#[65, 66]⟩, .string ⟨#[65, 66, 67]⟩, .string ⟨#[65, 66]⟩, .string ⟨#[65, 66]⟩, .string ⟨#[65, 66, 67, 68]⟩, .string ⟨#[65]⟩, .string ⟨#[]⟩, .string ⟨#[65]⟩, .string ⟨#[65, 66]⟩, .string ⟨#[]⟩] t frozen
      | o => o }
theorem laid_met (os : Os) : laidMet Tryd.prog Rows.orderApartRow.laid ((laidWorld os).forCall (fun _ _ => 0) ⟨#[], #[.agg #[.int .i64 0, .int .i64 0, .int .i64 0, .int .i64 0, .int .i64 0, .int .i64 0, .int .i64 0, .string ByteArray.empty, .string ByteArray.empty], .agg #[.int .i64 0, .int .i64 0, .int .i64 0, .int .i64 0, .int .i64 0, .int .i64 0, .int .i64 0, .string ByteArray.empty, .string ByteArray.empty]], []⟩).memory :=
  laidMet_of_run' 8 (by kernel_rfl) (by kernel_rfl)
theorem reads (os : Os) {H : Type} (enc : TypeId × Value → H) : ∃ places, DataW.whole enc Tryd.prog ((laidWorld os).forCall (fun _ _ => 0) ⟨#[], #[.agg #[.int .i64 0, .int .i64 0, .int .i64 0, .int .i64 0, .int .i64 0, .int .i64 0, .int .i64 0, .string ByteArray.empty, .string ByteArray.empty], .agg #[.int .i64 0, .int .i64 0, .int .i64 0, .int .i64 0, .int .i64 0, .int .i64 0, .int .i64 0, .string ByteArray.empty, .string ByteArray.empty]], []⟩).memory Tryd.f5.params.toList Rows.orderApartSpec.vars false (#[.agg #[.int .i64 0, .int .i64 0, .int .i64 0, .int .i64 0, .int .i64 0, .int .i64 0, .int .i64 0, .string ByteArray.empty, .string ByteArray.empty], .agg #[.int .i64 0, .int .i64 0, .int .i64 0, .int .i64 0, .int .i64 0, .int .i64 0, .int .i64 0, .string ByteArray.empty, .string ByteArray.empty]] : Array Value).toList 8 = some ([.agg [.lit (.int .i64 0), .agg [.lit (.int .i64 0), .lit (.int .i64 0), .lit (.int .i64 0), .lit (.int .i64 0), .lit (.int .i64 0), .lit (.int .i64 0), .lit (.string [])], .lit (.string [])], .agg [.lit (.int .i64 0), .agg [.lit (.int .i64 0), .lit (.int .i64 0), .lit (.int .i64 0), .lit (.int .i64 0), .lit (.int .i64 0), .lit (.int .i64 0), .lit (.string [])], .lit (.string [])]], [], places) :=
  ⟨[], by kernel_rfl⟩

set_option maxRecDepth 100000 in
theorem lifted (os : Os) (started : os.Started) (H : Type) (enc : TypeId × Value → H) (F : Stop.Interp) :
    ReturnsInHanded {} Tryd.checked os 5 .any ((OpenSpec.ofChange Rows.orderApartSpec).preRow enc Tryd.prog Tryd.f5 Rows.orderApartRow.domain false Rows.orderApartRow.laid) (((OpenSpec.ofChange Rows.orderApartSpec).at F).post enc Tryd.prog Tryd.f5 false true false false) := by
  obtain ⟨places, hx⟩ := reads os enc
  refine returnsInHanded_of_row (C := Tryd.checked) (s := OpenSpec.ofChange Rows.orderApartSpec) base.own started (by kernel_rfl) Tryd.func5
    (witness_row_at (enc := enc) (C := Tryd.checked) false (laidWorld os) #[.agg #[.int .i64 0, .int .i64 0, .int .i64 0, .int .i64 0, .int .i64 0, .int .i64 0, .int .i64 0, .string ByteArray.empty, .string ByteArray.empty], .agg #[.int .i64 0, .int .i64 0, .int .i64 0, .int .i64 0, .int .i64 0, .int .i64 0, .int .i64 0, .string ByteArray.empty, .string ByteArray.empty]] rfl (by kernel_rfl) (by kernel_rfl) (by kernel_rfl)
      (OpenSpec.preRow_of_cond 8 hx (by kernel_rfl) (fun k hk => by cases hk) (by kernel_rfl) (laid_met os))) ?_
  intro W bs args ds gs before hval hW _ _ _ hL _ _
  exact contract H enc W bs args ds gs before hval hW hL

theorem said : Rows.OrderApartSaid :=
  OpenClaim.holds_of_cond 5 Tryd.f5 rfl rfl rfl rfl rfl rfl rfl ⟨rfl, rfl, rfl, rfl, rfl⟩ rfl rfl rfl rfl rfl (by kernel_rfl) Tryd.func5 (by kernel_rfl)
    (of_decide_eq_true (by kernel_rfl)) (by unfold Func.isWrapper; first | (rw [if_pos (by decide +kernel)]; kernel_rfl) | (rw [if_neg (by decide +kernel)]; exact ⟨rfl, rfl⟩))
    (fun os started H enc _ F => by rw [OpenClaim.pre_eq_preRow]; exact lifted os started H enc F)

theorem plain (f : FuncId) (fn : Func) (hf : Tryd.pinned.checked.prog.funcNamed "deedhold/deedholdlaw27.OrderApart" = some f) (hfn : Tryd.pinned.checked.prog.funcs[f]? = some fn) :
    false = Tryd.pinned.checked.prog.looks [] ∧ ∀ (j : Nat) t, fn.params[j]? = some t → Tryd.pinned.checked.prog.wantsStandIn t = false := by
  obtain rfl : f = 5 := Option.some.inj ((show Tryd.prog.funcNamed "deedhold/deedholdlaw27.OrderApart" = some 5 by kernel_rfl).symm.trans hf) |>.symm
  obtain rfl : fn = Tryd.f5 := (Option.some.inj (Tryd.func5.symm.trans hfn)).symm
  refine ⟨by kernel_rfl, fun j t ht => ?_⟩
  rw [Tryd.params5] at ht
  have ht2 : t = 25 ∨ t = 25 := by simpa using Array.mem_of_getElem? ht
  rcases ht2 with rfl | rfl
  all_goals first | exact (show Tryd.prog.wantsStandIn _ = false by kernel_rfl)

theorem card : Rows.OrderApartCardSaid :=
  Claim7.holds_tied_plain_at .later [] _ _ _ _ said (fun _ h => by cases h) (by kernel_rfl) (fun _ h => by cases h) orderApart_row_tie rfl ⟨rfl, rfl⟩ (by kernel_rfl) rfl plain (by kernel_rfl)
#print axioms card
end Go.Proofs.YtndhammngejdiaaDoor.orderApart
