/-
  OrderBytes (P27.1), for the tied reading: for every input the law answers true, whatever the memory, if the table of fields stands as the program lays it.
  Conditions: none beyond the card's own.
-/
import Derived.Test.YtndhammngejdiaaDoorOrO
import Derived.Test.YtndhammngejdiaaDoorOrM

namespace Go.Proofs.YtndhammngejdiaaDoor.orderBytes
open Go.ChangeShapes Go.WideShapes Go.ChangeAt Go.RowKit
open base (ret_bool ret_int made up Blk Only Nums)
open bytes (str Small small_nil small_app Lay Own conv_any)
open od vnum
open vi (bs)
set_option linter.unusedVariables false
set_option linter.unusedSimpArgs false
theorem tableOf {W : World} (h : laidMetH Tryd.prog Rows.orderBytesRow.laid W) : Tab W := od.tableOf h
theorem fb_small (x : Cm) (f : Nat) : Small (fb x f) := by
  unfold fb
  split
  · exact small_app (enc_small _) (vi.bs_small _)
  · exact enc_small _
theorem bytesM_small (x : Cm) : Small (bytesM x) := by
  unfold bytesM
  refine small_app (enc_small _) ?_
  split
  · refine small_app (enc_small _) (fun c hc => ?_)
    obtain ⟨f, -, h⟩ := List.mem_flatMap.1 hc
    exact fb_small x f c h
  · exact small_app (enc_small _) (small_app (enc_small _) (vi.bs_small _))
theorem bytesM_len {x : Cm} (hx : x.Ok) (h : rightM x = true) : (bytesM x).length ≤ 512 := by
  have ht := t_len h
  have h1 := enc10 hx.s
  have h2 := enc10 hx.k
  unfold bytesM
  rw [List.length_append]
  split
  · rw [List.length_append]
    have h3 := flat_len hx ht (fs x.k)
    have h4 := fs_len x.k
    omega
  · rename_i hl
    have h5 : x.l.size ≤ 16 := by
      rcases (right_parts h).2.2.2 with q | q
      · exact absurd q.1 hl
      · exact (nm.okN_len q.2.1).2
    have h6 := enc_len (n := 0) (by omega) (by omega)
    have h7 := enc_len (n := (x.l.size : Int)) (by omega) (by omega)
    rw [List.length_append, List.length_append, vi.bs_len]
    omega
set_option maxRecDepth 100000 in
set_option maxHeartbeats 1000000 in
theorem walk_a (w : World) (hT : Tab w) (x : Cm) (hx : x.Ok) (h : 100 < x.l.size) : Calls Tryd.prog 3 #[.agg #[.int .i64 x.s, .int .i64 x.w, .int .i64 x.k, .int .i64 x.a, .int .i64 x.b, .int .i64 x.c, .int .i64 x.d, .string x.t, .string x.l]] w (BoolP true w) := by
  have k1 : decide ((x.l.size : Int) > 100) = true := decide_eq_true (by omega)
  have M1 := Lib.hid (made w (.cells #[.int .i64 x.s, .int .i64 x.w, .int .i64 x.k, .int .i64 x.a, .int .i64 x.b, .int .i64 x.c, .int .i64 x.d, .string x.t, .string x.l] 25))
  have X1 := Lib.hid (Blk.new w 25 #[.int .i64 x.s, .int .i64 x.w, .int .i64 x.k, .int .i64 x.a, .int .i64 x.b, .int .i64 x.c, .int .i64 x.d, .string x.t, .string x.l])
  have T1 := Lib.hid (hT.keep M1.out)
  have x0 := X1.out.cell 0
  have x1 := X1.out.cell 1
  have x2 := X1.out.cell 2
  have x3 := X1.out.cell 3
  have x4 := X1.out.cell 4
  have x5 := X1.out.cell 5
  have x6 := X1.out.cell 6
  have x7 := X1.out.cell 7
  have x8 := X1.out.cell 8
  generalize hw : w.alloc (.cells #[.int .i64 x.s, .int .i64 x.w, .int .i64 x.k, .int .i64 x.a, .int .i64 x.b, .int .i64 x.c, .int .i64 x.d, .string x.t, .string x.l] 25) = w1 at *
  clear hT h hx
  have AW := Lib.hid (awake_any w1 T1.out)
  unfold BoolP at AW
  go_enter Tryd.func3, Tryd.ntmps3
  go_wp2_with (rw [hw])
  refine AW.out.mono ?_
  rintro e1 w3 ⟨rfl, hb⟩
  have B3 := Lib.hid (up M1.out hb M1.out.size)
  clear hb
  go_wp2_with fail
  go_ret
  exact ⟨rfl, B3.out⟩
set_option maxRecDepth 100000 in
set_option maxHeartbeats 1000000 in
theorem walk_b (w : World) (hT : Tab w) (x : Cm) (hx : x.Ok) (h1 : ¬ 100 < x.l.size) (h : 100 < x.t.size) : Calls Tryd.prog 3 #[.agg #[.int .i64 x.s, .int .i64 x.w, .int .i64 x.k, .int .i64 x.a, .int .i64 x.b, .int .i64 x.c, .int .i64 x.d, .string x.t, .string x.l]] w (BoolP true w) := by
  have k1 : decide ((x.l.size : Int) > 100) = false := decide_eq_false (by omega)
  have k2 : decide ((x.t.size : Int) > 100) = true := decide_eq_true (by omega)
  have M1 := Lib.hid (made w (.cells #[.int .i64 x.s, .int .i64 x.w, .int .i64 x.k, .int .i64 x.a, .int .i64 x.b, .int .i64 x.c, .int .i64 x.d, .string x.t, .string x.l] 25))
  have X1 := Lib.hid (Blk.new w 25 #[.int .i64 x.s, .int .i64 x.w, .int .i64 x.k, .int .i64 x.a, .int .i64 x.b, .int .i64 x.c, .int .i64 x.d, .string x.t, .string x.l])
  have T1 := Lib.hid (hT.keep M1.out)
  have x0 := X1.out.cell 0
  have x1 := X1.out.cell 1
  have x2 := X1.out.cell 2
  have x3 := X1.out.cell 3
  have x4 := X1.out.cell 4
  have x5 := X1.out.cell 5
  have x6 := X1.out.cell 6
  have x7 := X1.out.cell 7
  have x8 := X1.out.cell 8
  generalize hw : w.alloc (.cells #[.int .i64 x.s, .int .i64 x.w, .int .i64 x.k, .int .i64 x.a, .int .i64 x.b, .int .i64 x.c, .int .i64 x.d, .string x.t, .string x.l] 25) = w1 at *
  clear hT h h1 hx
  have AW := Lib.hid (awake_any w1 T1.out)
  unfold BoolP at AW
  go_enter Tryd.func3, Tryd.ntmps3
  go_wp2_with (rw [hw])
  refine AW.out.mono ?_
  rintro e1 w3 ⟨rfl, hb⟩
  have B3 := Lib.hid (up M1.out hb M1.out.size)
  clear hb
  go_wp2_with fail
  go_ret
  exact ⟨rfl, B3.out⟩
set_option maxRecDepth 100000 in
set_option maxHeartbeats 4000000 in
theorem walk_no (w : World) (hT : Tab w) (x : Cm) (hx : x.Ok) (h1 : ¬ 100 < x.l.size) (h2 : ¬ 100 < x.t.size) (hr : rightM x = false) : Calls Tryd.prog 3 #[.agg #[.int .i64 x.s, .int .i64 x.w, .int .i64 x.k, .int .i64 x.a, .int .i64 x.b, .int .i64 x.c, .int .i64 x.d, .string x.t, .string x.l]] w (BoolP true w) := by
  have k1 : decide ((x.l.size : Int) > 100) = false := decide_eq_false (by omega)
  have k2 : decide ((x.t.size : Int) > 100) = false := decide_eq_false (by omega)
  have RI := Lib.hid (fun ws => rright_any x ws hx)
  have RP := Lib.hid (fun ws (h : Tab ws) => right_any x ws h hx)
  have BA := Lib.hid (fun ws (h : Tab ws) => bytes_any x ws h hx)
  rw [hr] at RI RP
  unfold BoolP at RI RP
  unfold BytesP at BA
  have HX := Lib.hid hx
  have hTw := Lib.hid hT
  have M1 := Lib.hid (made w (.cells #[.int .i64 x.s, .int .i64 x.w, .int .i64 x.k, .int .i64 x.a, .int .i64 x.b, .int .i64 x.c, .int .i64 x.d, .string x.t, .string x.l] 25))
  have X1 := Lib.hid (Blk.new w 25 #[.int .i64 x.s, .int .i64 x.w, .int .i64 x.k, .int .i64 x.a, .int .i64 x.b, .int .i64 x.c, .int .i64 x.d, .string x.t, .string x.l])
  have T1 := Lib.hid (hT.keep M1.out)
  have x0 := X1.out.cell 0
  have x1 := X1.out.cell 1
  have x2 := X1.out.cell 2
  have x3 := X1.out.cell 3
  have x4 := X1.out.cell 4
  have x5 := X1.out.cell 5
  have x6 := X1.out.cell 6
  have x7 := X1.out.cell 7
  have x8 := X1.out.cell 8
  generalize hw : w.alloc (.cells #[.int .i64 x.s, .int .i64 x.w, .int .i64 x.k, .int .i64 x.a, .int .i64 x.b, .int .i64 x.c, .int .i64 x.d, .string x.t, .string x.l] 25) = w1 at *
  clear hT h1 h2 hx
  go_enter Tryd.func3, Tryd.ntmps3
  go_wp2_with (rw [hw])
  refine (ref_any x w1).mono ?_
  rintro e1 w2 ⟨rfl, hb⟩
  have D2 := Lib.hid hb
  clear hb hw
  go_wp2_with fail
  refine (RI.out w2).mono ?_
  rintro e1 w3 ⟨rfl, hb⟩
  have D3 := Lib.hid (up D2.out hb D2.out.size)
  have X3 := Lib.hid (X1.out.below D3.out X1.out.lt)
  have T3 := Lib.hid (T1.out.keep D3.out)
  clear hb x0 x1 x2 x3 x4 x5 x6 x7 x8
  have x0 := X3.out.cell 0
  have x1 := X3.out.cell 1
  have x2 := X3.out.cell 2
  have x3 := X3.out.cell 3
  have x4 := X3.out.cell 4
  have x5 := X3.out.cell 5
  have x6 := X3.out.cell 6
  have x7 := X3.out.cell 7
  have x8 := X3.out.cell 8
  go_wp2_with fail
  refine (BA.out w3 T3.out).mono ?_
  rintro e1 w4 ⟨hb4, h4⟩
  have D4 := Lib.hid (up D3.out hb4 D3.out.size)
  have X4 := Lib.hid (X3.out.below hb4 X3.out.lt)
  have T4 := Lib.hid (T3.out.keep hb4)
  obtain rfl : e1 = .returned (.tuple #[.slice none 0 0, .int .i64 10]) := by
    rcases h4 with ⟨_, h⟩ | ⟨h, _⟩
    · exact h
    · rw [hr] at h; cases h
  clear hb4 h4 hr
  clear x0 x1 x2 x3 x4 x5 x6 x7 x8
  have x0 := X4.out.cell 0
  have x1 := X4.out.cell 1
  have x2 := X4.out.cell 2
  have x3 := X4.out.cell 3
  have x4 := X4.out.cell 4
  have x5 := X4.out.cell 5
  have x6 := X4.out.cell 6
  have x7 := X4.out.cell 7
  have x8 := X4.out.cell 8
  go_wp2_with fail
  refine (RP.out w4 T4.out).mono ?_
  rintro e1 w5 ⟨rfl, hb⟩
  have D5 := Lib.hid (up D4.out hb D4.out.size)
  have T5 := Lib.hid (T4.out.keep hb)
  have AW := Lib.hid (awake_any w5 T5.out)
  unfold BoolP at AW
  clear hb x0 x1 x2 x3 x4 x5 x6 x7 x8
  go_wp2_with fail
  refine AW.out.mono ?_
  rintro e1 w6 ⟨rfl, hb⟩
  have D6 := Lib.hid (up D5.out hb D5.out.size)
  clear hb
  go_wp2_with fail
  go_ret
  exact ⟨rfl, up M1.out D6.out M1.out.size⟩
set_option maxRecDepth 100000 in
set_option maxHeartbeats 8000000 in
theorem walk_yes (w : World) (hT : Tab w) (x : Cm) (hx : x.Ok) (h1 : ¬ 100 < x.l.size) (h2 : ¬ 100 < x.t.size) (hr : rightM x = true) : Calls Tryd.prog 3 #[.agg #[.int .i64 x.s, .int .i64 x.w, .int .i64 x.k, .int .i64 x.a, .int .i64 x.b, .int .i64 x.c, .int .i64 x.d, .string x.t, .string x.l]] w (BoolP true w) := by
  have hne := fun w => run_eql hx hx w
  rw [show eqb x x = true from eqb_iff.2 rfl] at hne
  have RB := Lib.hid (fun ws => rb_any x ws hx hr)
  unfold StrP at RB
  have PX := Lib.hid (show parse512 (bytesM x) = some x from by unfold parse512; rw [if_neg (by have := bytesM_len hx hr; omega)]; exact parse_bytes hx hr)
  have SX := Lib.hid (bytesM_small x)
  have k1 : decide ((x.l.size : Int) > 100) = false := decide_eq_false (by omega)
  have k2 : decide ((x.t.size : Int) > 100) = false := decide_eq_false (by omega)
  have RI := Lib.hid (fun ws => rright_any x ws hx)
  have RP := Lib.hid (fun ws (h : Tab ws) => right_any x ws h hx)
  have BA := Lib.hid (fun ws (h : Tab ws) => bytes_any x ws h hx)
  rw [hr] at RI RP
  unfold BoolP at RI RP
  unfold BytesP at BA
  have HX := Lib.hid hx
  have hTw := Lib.hid hT
  have M1 := Lib.hid (made w (.cells #[.int .i64 x.s, .int .i64 x.w, .int .i64 x.k, .int .i64 x.a, .int .i64 x.b, .int .i64 x.c, .int .i64 x.d, .string x.t, .string x.l] 25))
  have X1 := Lib.hid (Blk.new w 25 #[.int .i64 x.s, .int .i64 x.w, .int .i64 x.k, .int .i64 x.a, .int .i64 x.b, .int .i64 x.c, .int .i64 x.d, .string x.t, .string x.l])
  have T1 := Lib.hid (hT.keep M1.out)
  have x0 := X1.out.cell 0
  have x1 := X1.out.cell 1
  have x2 := X1.out.cell 2
  have x3 := X1.out.cell 3
  have x4 := X1.out.cell 4
  have x5 := X1.out.cell 5
  have x6 := X1.out.cell 6
  have x7 := X1.out.cell 7
  have x8 := X1.out.cell 8
  generalize hw : w.alloc (.cells #[.int .i64 x.s, .int .i64 x.w, .int .i64 x.k, .int .i64 x.a, .int .i64 x.b, .int .i64 x.c, .int .i64 x.d, .string x.t, .string x.l] 25) = w1 at *
  clear hT h1 h2 hx
  go_enter Tryd.func3, Tryd.ntmps3
  go_wp2_with (rw [hw])
  refine (ref_any x w1).mono ?_
  rintro e1 w2 ⟨rfl, hb⟩
  have D2 := Lib.hid hb
  clear hb hw
  go_wp2_with fail
  refine (RI.out w2).mono ?_
  rintro e1 w3 ⟨rfl, hb⟩
  have D3 := Lib.hid (up D2.out hb D2.out.size)
  have X3 := Lib.hid (X1.out.below D3.out X1.out.lt)
  have T3 := Lib.hid (T1.out.keep D3.out)
  clear hb x0 x1 x2 x3 x4 x5 x6 x7 x8
  have x0 := X3.out.cell 0
  have x1 := X3.out.cell 1
  have x2 := X3.out.cell 2
  have x3 := X3.out.cell 3
  have x4 := X3.out.cell 4
  have x5 := X3.out.cell 5
  have x6 := X3.out.cell 6
  have x7 := X3.out.cell 7
  have x8 := X3.out.cell 8
  go_wp2_with fail
  refine (BA.out w3 T3.out).mono ?_
  rintro e1 w4 ⟨hb4, h4⟩
  have D4 := Lib.hid (up D3.out hb4 D3.out.size)
  have X4 := Lib.hid (X3.out.below hb4 X3.out.lt)
  have T4 := Lib.hid (T3.out.keep hb4)
  obtain ⟨v4, rfl, ho4⟩ : ∃ v, e1 = .returned (.tuple #[v, .int .i64 0]) ∧ Own w4 w3.heap.size v (bytesM x) := by
    rcases h4 with ⟨h, _⟩ | ⟨_, v, h2, h3⟩
    · rw [hr] at h; cases h
    · exact ⟨v, h2, h3⟩
  obtain ⟨A4, c4, rfl, hl4, -, -⟩ := ho4.lay
  have L4 := Lib.hid hl4
  clear hb4 h4 hr ho4 hl4 BA
  obtain ⟨X, hX⟩ : ∃ X, X = bytesM x := ⟨_, rfl⟩
  rw [← hX] at L4 RB PX SX
  rw [← hX]
  clear hX
  clear x0 x1 x2 x3 x4 x5 x6 x7 x8
  have x0 := X4.out.cell 0
  have x1 := X4.out.cell 1
  have x2 := X4.out.cell 2
  have x3 := X4.out.cell 3
  have x4 := X4.out.cell 4
  have x5 := X4.out.cell 5
  have x6 := X4.out.cell 6
  have x7 := X4.out.cell 7
  have x8 := X4.out.cell 8
  go_wp2_with fail
  refine (RP.out w4 T4.out).mono ?_
  rintro e1 w5 ⟨rfl, hb⟩
  have D5 := Lib.hid (up D4.out hb D4.out.size)
  have T5 := Lib.hid (T4.out.keep hb)
  have L5 := Lib.hid (L4.out.below hb)
  have X5 := Lib.hid (X4.out.below hb X4.out.lt)
  have PA := Lib.hid (parse_any A4 c4 X w5 T5.out L5.out SX.out)
  clear hb x0 x1 x2 x3 x4 x5 x6 x7 x8
  go_wp2_with fail
  refine PA.out.mono ?_
  rintro e1 w6 ⟨hb6, h6⟩
  obtain rfl : e1 = .returned (.tuple #[.agg #[.int .i64 x.s, .int .i64 x.w, .int .i64 x.k, .int .i64 x.a, .int .i64 x.b, .int .i64 x.c, .int .i64 x.d, .string x.t, .string x.l], .int .i64 0]) := by
    rcases h6 with ⟨h, _⟩ | ⟨x', h, h4⟩
    · rw [PX.out] at h; cases h
    · rw [PX.out] at h; injection h with h; subst h; exact h4
  have D6 := Lib.hid (up D5.out hb6 D5.out.size)
  have B7 := Lib.hid (show Below w.heap.size w (w6.alloc (.cells #[.int .i64 x.s, .int .i64 x.w, .int .i64 x.k, .int .i64 x.a, .int .i64 x.b, .int .i64 x.c, .int .i64 x.d, .string x.t, .string x.l] 25)) from up (up M1.out D6.out M1.out.size) (made w6 _) (up M1.out D6.out M1.out.size).size)
  have X7 := Lib.hid ((X5.out.below hb6 X5.out.lt).alloc (.cells #[.int .i64 x.s, .int .i64 x.w, .int .i64 x.k, .int .i64 x.a, .int .i64 x.b, .int .i64 x.c, .int .i64 x.d, .string x.t, .string x.l] 25))
  have P7 := Lib.hid (Blk.new w6 25 #[.int .i64 x.s, .int .i64 x.w, .int .i64 x.k, .int .i64 x.a, .int .i64 x.b, .int .i64 x.c, .int .i64 x.d, .string x.t, .string x.l])
  have L7 := Lib.hid ((L5.out.below hb6).below (made w6 (.cells #[.int .i64 x.s, .int .i64 x.w, .int .i64 x.k, .int .i64 x.a, .int .i64 x.b, .int .i64 x.c, .int .i64 x.d, .string x.t, .string x.l] 25)))
  clear h6 hb6 PA
  go_upto_region 10 with fail
  have D8 := Lib.hid (show Below (w6.alloc (.cells #[.int .i64 x.s, .int .i64 x.w, .int .i64 x.k, .int .i64 x.a, .int .i64 x.b, .int .i64 x.c, .int .i64 x.d, .string x.t, .string x.l] 25)).heap.size (w6.alloc (.cells #[.int .i64 x.s, .int .i64 x.w, .int .i64 x.k, .int .i64 x.a, .int .i64 x.b, .int .i64 x.c, .int .i64 x.d, .string x.t, .string x.l] 25)) (w6.alloc (.cells #[.int .i64 x.s, .int .i64 x.w, .int .i64 x.k, .int .i64 x.a, .int .i64 x.b, .int .i64 x.c, .int .i64 x.d, .string x.t, .string x.l] 25)).drew from (Below.refl _ _).drew)
  obtain ⟨sx, hsx⟩ : ∃ s, s = str X := ⟨_, rfl⟩
  rw [← hsx] at RB
  have SS := Lib.hid (fun ws (h : Below (w6.alloc (.cells #[.int .i64 x.s, .int .i64 x.w, .int .i64 x.k, .int .i64 x.a, .int .i64 x.b, .int .i64 x.c, .int .i64 x.d, .string x.t, .string x.l] 25)).heap.size (w6.alloc (.cells #[.int .i64 x.s, .int .i64 x.w, .int .i64 x.k, .int .i64 x.a, .int .i64 x.b, .int .i64 x.c, .int .i64 x.d, .string x.t, .string x.l] 25)) ws) => (show (convert 32 9 (.slice A4 X.length c4)).run Tryd.prog ws = .ok (.string sx) ws ∧ (ws.cell? ⟨w.heap.size, 0, none⟩ = some (.int .i64 x.s) ∧ ws.cell? ⟨w.heap.size, 1, none⟩ = some (.int .i64 x.w) ∧ ws.cell? ⟨w.heap.size, 2, none⟩ = some (.int .i64 x.k) ∧ ws.cell? ⟨w.heap.size, 3, none⟩ = some (.int .i64 x.a) ∧ ws.cell? ⟨w.heap.size, 4, none⟩ = some (.int .i64 x.b) ∧ ws.cell? ⟨w.heap.size, 5, none⟩ = some (.int .i64 x.c) ∧ ws.cell? ⟨w.heap.size, 6, none⟩ = some (.int .i64 x.d) ∧ ws.cell? ⟨w.heap.size, 7, none⟩ = some (.string x.t) ∧ ws.cell? ⟨w.heap.size, 8, none⟩ = some (.string x.l)) ∧ (ws.cell? ⟨w6.heap.size, 0, none⟩ = some (.int .i64 x.s) ∧ ws.cell? ⟨w6.heap.size, 1, none⟩ = some (.int .i64 x.w) ∧ ws.cell? ⟨w6.heap.size, 2, none⟩ = some (.int .i64 x.k) ∧ ws.cell? ⟨w6.heap.size, 3, none⟩ = some (.int .i64 x.a) ∧ ws.cell? ⟨w6.heap.size, 4, none⟩ = some (.int .i64 x.b) ∧ ws.cell? ⟨w6.heap.size, 5, none⟩ = some (.int .i64 x.c) ∧ ws.cell? ⟨w6.heap.size, 6, none⟩ = some (.int .i64 x.d) ∧ ws.cell? ⟨w6.heap.size, 7, none⟩ = some (.string x.t) ∧ ws.cell? ⟨w6.heap.size, 8, none⟩ = some (.string x.l)) from ⟨by rw [hsx]; exact conv_any ws A4 c4 X (L7.out.below h) SX.out, ⟨(X7.out.below h X7.out.lt).cell 0, (X7.out.below h X7.out.lt).cell 1, (X7.out.below h X7.out.lt).cell 2, (X7.out.below h X7.out.lt).cell 3, (X7.out.below h X7.out.lt).cell 4, (X7.out.below h X7.out.lt).cell 5, (X7.out.below h X7.out.lt).cell 6, (X7.out.below h X7.out.lt).cell 7, (X7.out.below h X7.out.lt).cell 8⟩, ⟨(P7.out.below h P7.out.lt).cell 0, (P7.out.below h P7.out.lt).cell 1, (P7.out.below h P7.out.lt).cell 2, (P7.out.below h P7.out.lt).cell 3, (P7.out.below h P7.out.lt).cell 4, (P7.out.below h P7.out.lt).cell 5, (P7.out.below h P7.out.lt).cell 6, (P7.out.below h P7.out.lt).cell 7, (P7.out.below h P7.out.lt).cell 8⟩⟩))
  clear hsx
  generalize hw7 : w6.alloc (.cells #[.int .i64 x.s, .int .i64 x.w, .int .i64 x.k, .int .i64 x.a, .int .i64 x.b, .int .i64 x.c, .int .i64 x.d, .string x.t, .string x.l] 25) = w7 at *
  refine wp_region_held_drew (S := fun ws => (convert 32 9 (.slice A4 X.length c4)).run Tryd.prog ws = .ok (.string sx) ws ∧ (ws.cell? ⟨w.heap.size, 0, none⟩ = some (.int .i64 x.s) ∧ ws.cell? ⟨w.heap.size, 1, none⟩ = some (.int .i64 x.w) ∧ ws.cell? ⟨w.heap.size, 2, none⟩ = some (.int .i64 x.k) ∧ ws.cell? ⟨w.heap.size, 3, none⟩ = some (.int .i64 x.a) ∧ ws.cell? ⟨w.heap.size, 4, none⟩ = some (.int .i64 x.b) ∧ ws.cell? ⟨w.heap.size, 5, none⟩ = some (.int .i64 x.c) ∧ ws.cell? ⟨w.heap.size, 6, none⟩ = some (.int .i64 x.d) ∧ ws.cell? ⟨w.heap.size, 7, none⟩ = some (.string x.t) ∧ ws.cell? ⟨w.heap.size, 8, none⟩ = some (.string x.l)) ∧ (ws.cell? ⟨w6.heap.size, 0, none⟩ = some (.int .i64 x.s) ∧ ws.cell? ⟨w6.heap.size, 1, none⟩ = some (.int .i64 x.w) ∧ ws.cell? ⟨w6.heap.size, 2, none⟩ = some (.int .i64 x.k) ∧ ws.cell? ⟨w6.heap.size, 3, none⟩ = some (.int .i64 x.a) ∧ ws.cell? ⟨w6.heap.size, 4, none⟩ = some (.int .i64 x.b) ∧ ws.cell? ⟨w6.heap.size, 5, none⟩ = some (.int .i64 x.c) ∧ ws.cell? ⟨w6.heap.size, 6, none⟩ = some (.int .i64 x.d) ∧ ws.cell? ⟨w6.heap.size, 7, none⟩ = some (.string x.t) ∧ ws.cell? ⟨w6.heap.size, 8, none⟩ = some (.string x.l))) (by kernel_rfl) (by first | exact SS.out _ D8.out | (rw [hw7]; exact SS.out _ D8.out)) (fun hHeld => ?_)
  try rw [hw7] at hHeld
  try rw [hw7]
  clear hw7
  generalize w7.drew = w8 at *
  refine wpAnyH_take (i := 0) (v := ?_) rfl (by kernel_rfl) (by kernel_rfl) (by kernel_rfl) (fun _ _ _ h => h) (Or.inl ⟨by rfl, ?_⟩) (by assumption) ?_
  rotate_left
  · (intro w hSw; (try dsimp only at hSw); first | (go_simp; done) | (go_simp; with_reducible rfl))
  simp only [Act.put, List.getElem_toArray, List.getElem_cons_zero, List.getElem_cons_succ, List.setIfInBounds_toArray, List.set_cons_zero, List.set_cons_succ]
  refine wpAnyH_take (i := 1) (v := ?_) rfl (by kernel_rfl) (by kernel_rfl) (by kernel_rfl) (fun _ _ _ h => h) (Or.inl ⟨by rfl, ?_⟩) (by assumption) ?_
  rotate_left
  · (intro w hSw; (try dsimp only at hSw); first | (go_simp; done) | (go_simp; with_reducible rfl))
  simp only [Act.put, List.getElem_toArray, List.getElem_cons_zero, List.getElem_cons_succ, List.setIfInBounds_toArray, List.set_cons_zero, List.set_cons_succ]
  refine wpAnyH_take (i := 2) (v := ?_) rfl (by kernel_rfl) (by kernel_rfl) (by kernel_rfl) (fun _ _ _ h => h) (Or.inl ⟨by rfl, ?_⟩) (by assumption) ?_
  rotate_left
  · (intro w hSw; (try dsimp only at hSw); first | (go_simp; done) | (go_simp; with_reducible rfl))
  simp only [Act.put, List.getElem_toArray, List.getElem_cons_zero, List.getElem_cons_succ, List.setIfInBounds_toArray, List.set_cons_zero, List.set_cons_succ]
  refine wpAnyH_take (i := 3) (v := ?_) rfl (by kernel_rfl) (by kernel_rfl) (by kernel_rfl) (fun _ _ _ h => h) (Or.inl ⟨by rfl, ?_⟩) (by assumption) ?_
  rotate_left
  · (intro w hSw; (try dsimp only at hSw); first | (go_simp; done) | (go_simp; with_reducible rfl))
  simp only [Act.put, List.getElem_toArray, List.getElem_cons_zero, List.getElem_cons_succ, List.setIfInBounds_toArray, List.set_cons_zero, List.set_cons_succ]
  refine wpAnyH_take (i := 4) (v := ?_) rfl (by kernel_rfl) (by kernel_rfl) (by kernel_rfl) (fun _ _ _ h => h) (Or.inl ⟨by rfl, ?_⟩) (by assumption) ?_
  rotate_left
  · (intro w hSw; (try dsimp only at hSw); first | (go_simp; done) | (go_simp; with_reducible rfl))
  simp only [Act.put, List.getElem_toArray, List.getElem_cons_zero, List.getElem_cons_succ, List.setIfInBounds_toArray, List.set_cons_zero, List.set_cons_succ]
  refine wpAnyH_take (i := 5) (v := ?_) rfl (by kernel_rfl) (by kernel_rfl) (by kernel_rfl) (fun _ _ _ h => h) (Or.inl ⟨by rfl, ?_⟩) (by assumption) ?_
  rotate_left
  · (intro w hSw; (try dsimp only at hSw); first | (go_simp; done) | (go_simp; with_reducible rfl))
  simp only [Act.put, List.getElem_toArray, List.getElem_cons_zero, List.getElem_cons_succ, List.setIfInBounds_toArray, List.set_cons_zero, List.set_cons_succ]
  refine wpAnyH_ready (rs := [6]) (by kernel_rfl) (by simp) ?_
  refine AllReadyH.cons rfl (fun K hK => ?_) AllReadyH.nil
  go_simp
  go_wp2_with (go_at_call 10; refine (ref_any x w8).mono ?_; rintro e1 w9 ⟨rfl, hb⟩)
  have D9 := Lib.hid (up D8.out hb D8.out.size)
  refine hK.out _ _ (SS.out _ D9.out) (fun hH1 => ?_)
  clear hK K hHeld hb
  refine wpAnyH_ready (rs := [7]) (by kernel_rfl) (by simp) ?_
  refine AllReadyH.cons rfl (fun K hK => ?_) AllReadyH.nil
  go_simp
  go_wp2_with (go_at_call 14; refine (RB.out w9).mono ?_; rintro e1 wA ⟨rfl, hb⟩)
  have DA := Lib.hid (up D9.out hb D9.out.size)
  refine hK.out _ _ (SS.out _ DA.out) (fun hH2 => ?_)
  clear hK K hH1 hb
  refine wpAnyH_take (i := 8) (v := ?_) rfl (by kernel_rfl) (by kernel_rfl) (by kernel_rfl) (fun _ _ _ h => h) (Or.inl ⟨by rfl, ?_⟩) (by assumption) ?_
  rotate_left
  · (intro w hSw; (try dsimp only at hSw); first | (go_simp; done) | (go_simp; with_reducible rfl))
  simp only [Act.put, List.getElem_toArray, List.getElem_cons_zero, List.getElem_cons_succ, List.setIfInBounds_toArray, List.set_cons_zero, List.set_cons_succ]
  refine wpAnyH_take (i := 9) (v := ?_) rfl (by kernel_rfl) (by kernel_rfl) (by kernel_rfl) (fun _ _ _ h => h) (Or.inl ⟨by rfl, ?_⟩) (by assumption) ?_
  rotate_left
  · (intro w hSw; (try dsimp only at hSw); first | (go_simp; done) | (go_simp; with_reducible rfl))
  simp only [Act.put, List.getElem_toArray, List.getElem_cons_zero, List.getElem_cons_succ, List.setIfInBounds_toArray, List.set_cons_zero, List.set_cons_succ]
  refine wpAnyH_take (i := 10) (v := ?_) rfl (by kernel_rfl) (by kernel_rfl) (by kernel_rfl) (fun _ _ _ h => h) (Or.inl ⟨by rfl, ?_⟩) (by assumption) ?_
  rotate_left
  · (intro w hSw; (try dsimp only at hSw); first | (go_simp; done) | (go_simp; with_reducible rfl))
  simp only [Act.put, List.getElem_toArray, List.getElem_cons_zero, List.getElem_cons_succ, List.setIfInBounds_toArray, List.set_cons_zero, List.set_cons_succ]
  refine wpAnyH_take (i := 11) (v := ?_) rfl (by kernel_rfl) (by kernel_rfl) (by kernel_rfl) (fun _ _ _ h => h) (Or.inl ⟨by rfl, ?_⟩) (by assumption) ?_
  rotate_left
  · (intro w hSw; (try dsimp only at hSw); first | (go_simp; done) | (go_simp; with_reducible rfl))
  simp only [Act.put, List.getElem_toArray, List.getElem_cons_zero, List.getElem_cons_succ, List.setIfInBounds_toArray, List.set_cons_zero, List.set_cons_succ]
  refine wpAnyH_take (i := 12) (v := ?_) rfl (by kernel_rfl) (by kernel_rfl) (by kernel_rfl) (fun _ _ _ h => h) (Or.inl ⟨by rfl, ?_⟩) (by assumption) ?_
  rotate_left
  · (intro w hSw; (try dsimp only at hSw); first | (go_simp; done) | (go_simp; with_reducible rfl))
  simp only [Act.put, List.getElem_toArray, List.getElem_cons_zero, List.getElem_cons_succ, List.setIfInBounds_toArray, List.set_cons_zero, List.set_cons_succ]
  refine wpAnyH_take (i := 13) (v := ?_) rfl (by kernel_rfl) (by kernel_rfl) (by kernel_rfl) (fun _ _ _ h => h) (Or.inl ⟨by rfl, ?_⟩) (by assumption) ?_
  rotate_left
  · (intro w hSw; (try dsimp only at hSw); first | (go_simp; done) | (go_simp; with_reducible rfl))
  simp only [Act.put, List.getElem_toArray, List.getElem_cons_zero, List.getElem_cons_succ, List.setIfInBounds_toArray, List.set_cons_zero, List.set_cons_succ]
  refine wpAnyH_take (i := 14) (v := ?_) rfl (by kernel_rfl) (by kernel_rfl) (by kernel_rfl) (fun _ _ _ h => h) (Or.inl ⟨by rfl, ?_⟩) (by assumption) ?_
  rotate_left
  · (intro w hSw; (try dsimp only at hSw); first | (go_simp; done) | (go_simp; with_reducible rfl))
  simp only [Act.put, List.getElem_toArray, List.getElem_cons_zero, List.getElem_cons_succ, List.setIfInBounds_toArray, List.set_cons_zero, List.set_cons_succ]
  refine wpAnyH_take (i := 15) (v := ?_) rfl (by kernel_rfl) (by kernel_rfl) (by kernel_rfl) (fun _ _ _ h => h) (Or.inl ⟨by rfl, ?_⟩) (by assumption) ?_
  rotate_left
  · (intro w hSw; (try dsimp only at hSw); first | (go_simp; done) | (go_simp; with_reducible rfl))
  simp only [Act.put, List.getElem_toArray, List.getElem_cons_zero, List.getElem_cons_succ, List.setIfInBounds_toArray, List.set_cons_zero, List.set_cons_succ]
  refine wpAnyH_take (i := 16) (v := ?_) rfl (by kernel_rfl) (by kernel_rfl) (by kernel_rfl) (fun _ _ _ h => h) (Or.inl ⟨by rfl, ?_⟩) (by assumption) ?_
  rotate_left
  · (intro w hSw; (try dsimp only at hSw); first | (go_simp; done) | (go_simp; with_reducible rfl))
  simp only [Act.put, List.getElem_toArray, List.getElem_cons_zero, List.getElem_cons_succ, List.setIfInBounds_toArray, List.set_cons_zero, List.set_cons_succ]
  refine wpAnyH_take (i := 17) (v := (.bool true)) rfl (by kernel_rfl) (by kernel_rfl) (by kernel_rfl) (fun _ _ _ h => h) (Or.inl ⟨by rfl, by (intro w hSw; (try dsimp only at hSw); exact run_bin rfl rfl rfl guard_cmd (hne w))⟩) (by assumption) ?_
  simp only [Act.put, List.getElem_toArray, List.getElem_cons_zero, List.getElem_cons_succ, List.setIfInBounds_toArray, List.set_cons_zero, List.set_cons_succ]
  refine wpAnyH_take (i := 18) (v := ?_) rfl (by kernel_rfl) (by kernel_rfl) (by kernel_rfl) (fun _ _ _ h => h) (Or.inl ⟨by rfl, ?_⟩) (by assumption) ?_
  rotate_left
  · (intro w hSw; (try dsimp only at hSw); first | (go_simp; done) | (go_simp; with_reducible rfl))
  simp only [Act.put, List.getElem_toArray, List.getElem_cons_zero, List.getElem_cons_succ, List.setIfInBounds_toArray, List.set_cons_zero, List.set_cons_succ]
  refine wpAnyH_take (i := 19) (v := ?_) rfl (by kernel_rfl) (by kernel_rfl) (by kernel_rfl) (fun _ _ _ h => h) (Or.inl ⟨by rfl, ?_⟩) (by assumption) ?_
  rotate_left
  · (intro w hSw; (try dsimp only at hSw); first | (go_simp; done) | (go_simp; with_reducible rfl))
  simp only [Act.put, List.getElem_toArray, List.getElem_cons_zero, List.getElem_cons_succ, List.setIfInBounds_toArray, List.set_cons_zero, List.set_cons_succ]
  have AW := Lib.hid (awake_any wA (hTw.out.keep (up B7.out DA.out B7.out.size)))
  unfold BoolP at AW
  refine wpAnyH_ready (rs := [20]) (by kernel_rfl) (by simp) ?_
  refine AllReadyH.cons rfl (fun K hK => ?_) AllReadyH.nil
  go_simp
  go_wp2_with (go_at_call 8; refine AW.out.mono ?_; rintro e1 wB ⟨rfl, hb⟩)
  have DB := Lib.hid (up DA.out hb DA.out.size)
  refine hK.out _ _ (SS.out _ DB.out) (fun hH3 => ?_)
  clear hK K hH2 hb AW
  refine wpAnyH_take (i := 21) (v := ?_) rfl (by kernel_rfl) (by kernel_rfl) (by kernel_rfl) (fun _ _ _ h => h) (Or.inl ⟨by rfl, ?_⟩) (by assumption) ?_
  rotate_left
  · (intro w hSw; (try dsimp only at hSw); first | (go_simp; done) | (go_simp; with_reducible rfl))
  simp only [Act.put, List.getElem_toArray, List.getElem_cons_zero, List.getElem_cons_succ, List.setIfInBounds_toArray, List.set_cons_zero, List.set_cons_succ]
  refine wpAnyH_take (i := 22) (v := ?_) rfl (by kernel_rfl) (by kernel_rfl) (by kernel_rfl) (fun _ _ _ h => h) (Or.inl ⟨by rfl, ?_⟩) (by assumption) ?_
  rotate_left
  · (intro w hSw; (try dsimp only at hSw); first | (go_simp; done) | (go_simp; with_reducible rfl))
  simp only [Act.put, List.getElem_toArray, List.getElem_cons_zero, List.getElem_cons_succ, List.setIfInBounds_toArray, List.set_cons_zero, List.set_cons_succ]
  refine wpAnyH_done (by kernel_rfl) ?_ _
  clear hH3 hne
  go_wp2_with fail
  go_ret
  exact ⟨rfl, up B7.out DB.out B7.out.size⟩
theorem walk (w : World) (hT : Tab w) (x : Cm) (hx : x.Ok) : Calls Tryd.prog 3 #[.agg #[.int .i64 x.s, .int .i64 x.w, .int .i64 x.k, .int .i64 x.a, .int .i64 x.b, .int .i64 x.c, .int .i64 x.d, .string x.t, .string x.l]] w fun e w' => e = .returned (.bool true) ∧ Below w.heap.size w w' := by
  by_cases h1 : 100 < x.l.size
  · exact walk_a w hT x hx h1
  by_cases h2 : 100 < x.t.size
  · exact walk_b w hT x hx h1 h2
  cases hr : rightM x with
  | false => exact walk_no w hT x hx h1 h2 hr
  | true => exact walk_yes w hT x hx h1 h2 hr

theorem contract (H : Type) (enc : TypeId × Value → H) (W : World) (bs : Nat) (args : Array Value) (ds gs : List (DataW H)) (before : List MemPlace)
    (hval : ∀ (j : Nat) t v, Tryd.f3.params[j]? = some t → args[j]? = some v → Value.okWide Tryd.prog W .any bs t v)
    (hW : DataW.Whole enc Tryd.prog Tryd.f3.params.toList Rows.orderBytesSpec.vars false W args.toList ds gs before) (hL : laidMetH Tryd.prog Rows.orderBytesRow.laid W) :
    Calls Tryd.prog 3 args W fun e W' => ∃ v, e = .returned v ∧ Rows.orderBytesSpec.post enc Tryd.prog Tryd.f3 false true false false W args v W' := by
  have hW' := hW
  obtain ⟨p, q, hA0, hV, rfl, _, _⟩ := hW
  have hA : DataW.TrodAll enc Tryd.prog W 0 (fun _ => true) true Tryd.f3.params.toList args.toList ds p := hA0
  rw [Tryd.params3] at hA hval
  obtain ⟨v0, vs0, d0, ds0, p0, q0, hargs, rfl, rfl, h0, r0⟩ := trodAll_cons hA
  obtain ⟨rfl, rfl, rfl⟩ := trodAll_nil r0
  obtain rfl : args = #[v0] := by cases args; simp_all
  obtain ⟨rfl, rfl⟩ := trodVars_none hV
  obtain ⟨x0, rfl, hx0⟩ := od.open_cmd (hval 0 25 v0 rfl rfl) h0
  clear hA0
  refine (walk W (tableOf hL) x0 hx0).mono fun e W' ⟨he, hb⟩ => ?_
  subst he
  exact ⟨_, rfl, base.law_post base.laid (by kernel_rfl) rfl rfl Tryd.underlying4 hW' rfl rfl rfl hb⟩

noncomputable def laidWorld (os : Os) : World :=
  { World.holding Tryd.prog os ⟨#[], #[], []⟩ with heap := (World.holding Tryd.prog os ⟨#[], #[], []⟩).heap.modify 0 fun
      | .cells _ t frozen => .cells #[.string ⟨#[]⟩, .string ⟨#[84]⟩, .string ⟨#[65, 66]⟩, .string ⟨#[65, 66]⟩, .string ⟨#[65, 66, 67, 68]⟩, .string ⟨#[65]⟩, .string ⟨#[65, 66]⟩, .string ⟨#[65, 66, 67, 68]⟩, .string ⟨#[84]⟩, .string ⟨#[65]⟩, .string ⟨#[65, 66]⟩, .string ⟨#[65, 66, 67]⟩, .string ⟨#[65]⟩, .string ⟨#[65]⟩, .string ⟨#[65, 66, 67]⟩, .string ⟨#[65]⟩, .string ⟨#[65]⟩, .string ⟨#[65]⟩, .string ⟨#[65, 66]⟩, .string ⟨#[65, 66, 67]⟩, .string ⟨#[65, 66]⟩, .string ⟨#[65, 66]⟩, .string ⟨#[65, 66, 67, 68]⟩, .string ⟨#[65]⟩, .string ⟨#[]⟩, .string ⟨#[65]⟩, .string ⟨#[65, 66]⟩, .string ⟨#[]⟩] t frozen
      | o => o }
theorem laid_met (os : Os) : laidMet Tryd.prog Rows.orderBytesRow.laid ((laidWorld os).forCall (fun _ _ => 0) ⟨#[], #[.agg #[.int .i64 0, .int .i64 0, .int .i64 0, .int .i64 0, .int .i64 0, .int .i64 0, .int .i64 0, .string ByteArray.empty, .string ByteArray.empty]], []⟩).memory :=
  laidMet_of_run' 8 (by kernel_rfl) (by kernel_rfl)
theorem reads (os : Os) {H : Type} (enc : TypeId × Value → H) : ∃ places, DataW.whole enc Tryd.prog ((laidWorld os).forCall (fun _ _ => 0) ⟨#[], #[.agg #[.int .i64 0, .int .i64 0, .int .i64 0, .int .i64 0, .int .i64 0, .int .i64 0, .int .i64 0, .string ByteArray.empty, .string ByteArray.empty]], []⟩).memory Tryd.f3.params.toList Rows.orderBytesSpec.vars false (#[.agg #[.int .i64 0, .int .i64 0, .int .i64 0, .int .i64 0, .int .i64 0, .int .i64 0, .int .i64 0, .string ByteArray.empty, .string ByteArray.empty]] : Array Value).toList 8 = some ([.agg [.lit (.int .i64 0), .agg [.lit (.int .i64 0), .lit (.int .i64 0), .lit (.int .i64 0), .lit (.int .i64 0), .lit (.int .i64 0), .lit (.int .i64 0), .lit (.string [])], .lit (.string [])]], [], places) :=
  ⟨[], by kernel_rfl⟩

set_option maxRecDepth 100000 in
theorem lifted (os : Os) (started : os.Started) (H : Type) (enc : TypeId × Value → H) (F : Stop.Interp) :
    ReturnsInHanded {} Tryd.checked os 3 .any ((OpenSpec.ofChange Rows.orderBytesSpec).preRow enc Tryd.prog Tryd.f3 Rows.orderBytesRow.domain false Rows.orderBytesRow.laid) (((OpenSpec.ofChange Rows.orderBytesSpec).at F).post enc Tryd.prog Tryd.f3 false true false false) := by
  obtain ⟨places, hx⟩ := reads os enc
  refine returnsInHanded_of_row (C := Tryd.checked) (s := OpenSpec.ofChange Rows.orderBytesSpec) base.own started (by kernel_rfl) Tryd.func3
    (witness_row_at (enc := enc) (C := Tryd.checked) false (laidWorld os) #[.agg #[.int .i64 0, .int .i64 0, .int .i64 0, .int .i64 0, .int .i64 0, .int .i64 0, .int .i64 0, .string ByteArray.empty, .string ByteArray.empty]] rfl (by kernel_rfl) (by kernel_rfl) (by kernel_rfl)
      (OpenSpec.preRow_of_cond 8 hx (by kernel_rfl) (fun k hk => by cases hk) (by kernel_rfl) (laid_met os))) ?_
  intro W bs args ds gs before hval hW _ _ _ hL _ _
  exact contract H enc W bs args ds gs before hval hW hL

theorem said : Rows.OrderBytesSaid :=
  OpenClaim.holds_of_cond 3 Tryd.f3 rfl rfl rfl rfl rfl rfl rfl ⟨rfl, rfl, rfl, rfl, rfl⟩ rfl rfl rfl rfl rfl (by kernel_rfl) Tryd.func3 (by kernel_rfl)
    (of_decide_eq_true (by kernel_rfl)) (by unfold Func.isWrapper; first | (rw [if_pos (by decide +kernel)]; kernel_rfl) | (rw [if_neg (by decide +kernel)]; exact ⟨rfl, rfl⟩))
    (fun os started H enc _ F => by rw [OpenClaim.pre_eq_preRow]; exact lifted os started H enc F)

theorem plain (f : FuncId) (fn : Func) (hf : Tryd.pinned.checked.prog.funcNamed "deedhold/deedholdlaw27.OrderBytes" = some f) (hfn : Tryd.pinned.checked.prog.funcs[f]? = some fn) :
    false = Tryd.pinned.checked.prog.looks [] ∧ ∀ (j : Nat) t, fn.params[j]? = some t → Tryd.pinned.checked.prog.wantsStandIn t = false := by
  obtain rfl : f = 3 := Option.some.inj ((show Tryd.prog.funcNamed "deedhold/deedholdlaw27.OrderBytes" = some 3 by kernel_rfl).symm.trans hf) |>.symm
  obtain rfl : fn = Tryd.f3 := (Option.some.inj (Tryd.func3.symm.trans hfn)).symm
  refine ⟨by kernel_rfl, fun j t ht => ?_⟩
  rw [Tryd.params3] at ht
  have ht2 : t = 25 := by simpa using Array.mem_of_getElem? ht
  rcases ht2 with rfl
  all_goals first | exact (show Tryd.prog.wantsStandIn _ = false by kernel_rfl)

theorem card : Rows.OrderBytesCardSaid :=
  Claim7.holds_tied_plain_at .later [] _ _ _ _ said (fun _ h => by cases h) (by kernel_rfl) (fun _ h => by cases h) orderBytes_row_tie rfl ⟨rfl, rfl⟩ (by kernel_rfl) rfl plain (by kernel_rfl)
#print axioms card
end Go.Proofs.YtndhammngejdiaaDoor.orderBytes
