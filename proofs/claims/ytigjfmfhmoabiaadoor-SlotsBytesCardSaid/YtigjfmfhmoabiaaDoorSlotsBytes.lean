/-
  SlotsBytes (P6.1), for the tied reading: for every input the law answers true, whatever the memory, if the table of the sum stands as the program lays it.
  Conditions: none beyond the card's own.
-/
import Derived.Test.YtigjfmfhmoabiaaDoorSoG
namespace Go.Proofs.YtigjfmfhmoabiaaDoor.slotsBytes
open Go.ChangeShapes Go.WideShapes Go.ChangeAt Go.RowKit
open base (ret_bool ret_int made up Blk Only Nums)
open bytes (str Small small_nil small_app Lay Own conv_any)
open so vnum
set_option linter.unusedVariables false
set_option linter.unusedSimpArgs false
theorem tableOf {W : World} (h : laidMetH Tryd.prog Rows.slotsBytesRow.laid W) : sl.Tab W := so.tableOf h
set_option maxRecDepth 100000 in
set_option maxHeartbeats 1000000 in
theorem walk_a (w : World) (hT : sl.Tab w) (E : Int) (A : Option Addr) (c : Nat) (zs : List Int) (hN : Nums .i64 w A zs) (size : Int) (h : 100 < zs.length) : Calls Tryd.prog 3 #[.agg #[.int .i64 E, .slice A zs.length c], .int .i64 size] w (BoolP true w) := by
  have k1 : decide ((zs.length : Int) > 100) = true := decide_eq_true (by omega)
  clear h
  have M1 := Lib.hid (made w (.cells #[.int .i64 E, .slice A zs.length c] 24))
  have BX := Lib.hid (Blk.new w 24 #[.int .i64 E, .slice A zs.length c])
  have N1 := Lib.hid (base.Nums.keep hN M1.out)
  have T1 := Lib.hid (hT.keep M1.out hT.1)
  have x0 := BX.out.cell 0
  have x1 := BX.out.cell 1
  clear hN hT
  generalize hw : w.alloc (.cells #[.int .i64 E, .slice A zs.length c] 24) = w1 at *
  have AW := Lib.hid (awake_any w1 T1.out)
  unfold AwakeP at AW
  go_enter Tryd.func3, Tryd.ntmps3
  go_wp2_with (rw [hw])
  refine AW.out.mono ?_
  rintro e wZ ⟨rfl, hb⟩
  have BZ := Lib.hid (up M1.out hb M1.out.size)
  clear hb AW
  go_wp2_with fail
  go_ret
  exact ⟨rfl, BZ.out⟩
set_option maxRecDepth 100000 in
set_option maxHeartbeats 1000000 in
theorem walk_b (w : World) (hT : sl.Tab w) (E : Int) (A : Option Addr) (c : Nat) (zs : List Int) (hN : Nums .i64 w A zs) (size : Int) (h : zs.length ≤ 100) (h2 : 5000 < size) (h3 : size ≤ 131072) : Calls Tryd.prog 3 #[.agg #[.int .i64 E, .slice A zs.length c], .int .i64 size] w (BoolP true w) := by
  have k1 : decide ((zs.length : Int) > 100) = false := decide_eq_false (by omega)
  have k2 : decide (size > 5000) = true := decide_eq_true h2
  have k3 : decide (size ≤ 131072) = true := decide_eq_true h3
  clear h h2 h3
  have M1 := Lib.hid (made w (.cells #[.int .i64 E, .slice A zs.length c] 24))
  have BX := Lib.hid (Blk.new w 24 #[.int .i64 E, .slice A zs.length c])
  have N1 := Lib.hid (base.Nums.keep hN M1.out)
  have T1 := Lib.hid (hT.keep M1.out hT.1)
  have x0 := BX.out.cell 0
  have x1 := BX.out.cell 1
  clear hN hT
  generalize hw : w.alloc (.cells #[.int .i64 E, .slice A zs.length c] 24) = w1 at *
  have AW := Lib.hid (awake_any w1 T1.out)
  unfold AwakeP at AW
  go_enter Tryd.func3, Tryd.ntmps3
  go_wp2_with (rw [hw])
  refine AW.out.mono ?_
  rintro e wZ ⟨rfl, hb⟩
  have BZ := Lib.hid (up M1.out hb M1.out.size)
  clear hb AW
  go_wp2_with fail
  go_ret
  exact ⟨rfl, BZ.out⟩
set_option maxRecDepth 100000 in
set_option maxHeartbeats 2000000 in
theorem walk_no_s (w : World) (hT : sl.Tab w) (E : Int) (A : Option Addr) (c : Nat) (zs : List Int) (hN : Nums .i64 w A zs) (size : Int) (h : zs.length ≤ 100) (h2 : size ≤ 5000) (hr : rok E zs = false) : Calls Tryd.prog 3 #[.agg #[.int .i64 E, .slice A zs.length c], .int .i64 size] w (BoolP true w) := by
  have k2 : decide (size > 5000) = false := decide_eq_false (by omega)
  clear h2
  have k1 : decide ((zs.length : Int) > 100) = false := decide_eq_false (by omega)
  have L1 := Lib.hid h
  clear h
  have M1 := Lib.hid (made w (.cells #[.int .i64 E, .slice A zs.length c] 24))
  have BX := Lib.hid (Blk.new w 24 #[.int .i64 E, .slice A zs.length c])
  have N1 := Lib.hid (base.Nums.keep hN M1.out)
  have T1 := Lib.hid (hT.keep M1.out hT.1)
  have x0 := BX.out.cell 0
  have x1 := BX.out.cell 1
  clear hN hT
  generalize hw : w.alloc (.cells #[.int .i64 E, .slice A zs.length c] 24) = w1 at *
  have RR := Lib.hid (rright_any E A c zs w1 N1.out)
  rw [hr] at RR
  have BN := Lib.hid (bytes_no E A c zs size w1 N1.out hr)
  go_enter Tryd.func3, Tryd.ntmps3
  go_wp2_with (rw [hw])
  refine RR.out.mono ?_
  rintro e w2 ⟨rfl, e2⟩
  subst e2
  clear RR
  go_wp2_with fail
  refine BN.out.mono ?_
  rintro e w2 ⟨rfl, hb⟩
  have X2 := Lib.hid (BX.out.below hb BX.out.lt)
  have B2 := Lib.hid (up M1.out hb M1.out.size)
  have N2 := Lib.hid (base.Nums.keep N1.out hb)
  have T2 := Lib.hid (T1.out.keep hb T1.out.1)
  clear hb x0 x1
  have x0 := X2.out.cell 0
  have x1 := X2.out.cell 1
  have RA := Lib.hid (right_any E A c zs w2 N2.out)
  unfold BoolP at RA
  rw [hr] at RA
  clear BN
  go_wp2_with fail
  refine RA.out.mono ?_
  rintro e w3 ⟨rfl, hb⟩
  have X3 := Lib.hid (X2.out.below hb X2.out.lt)
  have B3 := Lib.hid (up B2.out hb B2.out.size)
  have N3 := Lib.hid (base.Nums.keep N2.out hb)
  have T3 := Lib.hid (T2.out.keep hb T2.out.1)
  clear hb x0 x1
  have x0 := X3.out.cell 0
  have x1 := X3.out.cell 1
  have EQ := Lib.hid (requal_yes E A c zs A c w3 N3.out N3.out (by have := L1.out; omega))
  unfold BoolP at EQ
  clear RA
  go_wp2_with fail
  refine EQ.out.mono ?_
  rintro e w4 ⟨rfl, hb⟩
  have X4 := Lib.hid (X3.out.below hb X3.out.lt)
  have B4 := Lib.hid (up B3.out hb B3.out.size)
  have N4 := Lib.hid (base.Nums.keep N3.out hb)
  have T4 := Lib.hid (T3.out.keep hb T3.out.1)
  clear hb x0 x1
  have x0 := X4.out.cell 0
  have x1 := X4.out.cell 1
  clear EQ
  have AW := Lib.hid (awake_any w4 T4.out)
  unfold AwakeP at AW
  clear hr
  go_wp2_with fail
  refine AW.out.mono ?_
  rintro e wZ ⟨rfl, hb⟩
  have BZ := Lib.hid (up B4.out hb B4.out.size)
  clear hb AW
  go_wp2_with fail
  go_ret
  exact ⟨rfl, BZ.out⟩
set_option maxRecDepth 100000 in
set_option maxHeartbeats 2000000 in
theorem walk_many_s (w : World) (hT : sl.Tab w) (E : Int) (A : Option Addr) (c : Nat) (zs : List Int) (hN : Nums .i64 w A zs) (size : Int) (hs : (Lit.int .i64 size).wf = true) (h : zs.length ≤ 100) (h2 : size ≤ 5000) (hr : rok E zs = true) (hf : ¬ fitsI (plainB E zs) size) : Calls Tryd.prog 3 #[.agg #[.int .i64 E, .slice A zs.length c], .int .i64 size] w (BoolP true w) := by
  have k2 : decide (size > 5000) = false := decide_eq_false (by omega)
  clear h2
  have k1 : decide ((zs.length : Int) > 100) = false := decide_eq_false (by omega)
  have L1 := Lib.hid h
  clear h
  have M1 := Lib.hid (made w (.cells #[.int .i64 E, .slice A zs.length c] 24))
  have BX := Lib.hid (Blk.new w 24 #[.int .i64 E, .slice A zs.length c])
  have N1 := Lib.hid (base.Nums.keep hN M1.out)
  have T1 := Lib.hid (hT.keep M1.out hT.1)
  have x0 := BX.out.cell 0
  have x1 := BX.out.cell 1
  clear hN hT
  generalize hw : w.alloc (.cells #[.int .i64 E, .slice A zs.length c] 24) = w1 at *
  have RR := Lib.hid (rright_any E A c zs w1 N1.out)
  rw [hr] at RR
  have BN := Lib.hid (bytes_many E A c zs size hs hf w1 T1.out N1.out hr)
  go_enter Tryd.func3, Tryd.ntmps3
  go_wp2_with (rw [hw])
  refine RR.out.mono ?_
  rintro e w2 ⟨rfl, e2⟩
  subst e2
  clear RR
  go_wp2_with fail
  refine BN.out.mono ?_
  rintro e w2 ⟨rfl, hb⟩
  have X2 := Lib.hid (BX.out.below hb BX.out.lt)
  have B2 := Lib.hid (up M1.out hb M1.out.size)
  have N2 := Lib.hid (base.Nums.keep N1.out hb)
  have T2 := Lib.hid (T1.out.keep hb T1.out.1)
  clear hb x0 x1
  have x0 := X2.out.cell 0
  have x1 := X2.out.cell 1
  have RA := Lib.hid (right_any E A c zs w2 N2.out)
  unfold BoolP at RA
  rw [hr] at RA
  clear BN
  go_wp2_with fail
  refine RA.out.mono ?_
  rintro e w3 ⟨rfl, hb⟩
  have X3 := Lib.hid (X2.out.below hb X2.out.lt)
  have B3 := Lib.hid (up B2.out hb B2.out.size)
  have N3 := Lib.hid (base.Nums.keep N2.out hb)
  have T3 := Lib.hid (T2.out.keep hb T2.out.1)
  clear hb x0 x1
  have x0 := X3.out.cell 0
  have x1 := X3.out.cell 1
  have EQ := Lib.hid (requal_yes E A c zs A c w3 N3.out N3.out (by have := L1.out; omega))
  unfold BoolP at EQ
  clear RA
  go_wp2_with fail
  refine EQ.out.mono ?_
  rintro e w4 ⟨rfl, hb⟩
  have X4 := Lib.hid (X3.out.below hb X3.out.lt)
  have B4 := Lib.hid (up B3.out hb B3.out.size)
  have N4 := Lib.hid (base.Nums.keep N3.out hb)
  have T4 := Lib.hid (T3.out.keep hb T3.out.1)
  clear hb x0 x1
  have x0 := X4.out.cell 0
  have x1 := X4.out.cell 1
  clear EQ
  have RB := Lib.hid (rbytes_no E A c zs size hs hf w4 N4.out hr)
  clear hr hf hs
  go_wp2_with fail
  refine RB.out.mono ?_
  rintro e w5 ⟨rfl, hb⟩
  have X5 := Lib.hid (X4.out.below hb X4.out.lt)
  have B5 := Lib.hid (up B4.out hb B4.out.size)
  have N5 := Lib.hid (base.Nums.keep N4.out hb)
  have T5 := Lib.hid (T4.out.keep hb T4.out.1)
  clear hb x0 x1
  have x0 := X5.out.cell 0
  have x1 := X5.out.cell 1
  have AW := Lib.hid (awake_any w5 T5.out)
  unfold AwakeP at AW
  clear RB
  go_wp2_with fail
  refine AW.out.mono ?_
  rintro e wZ ⟨rfl, hb⟩
  have BZ := Lib.hid (up B5.out hb B5.out.size)
  clear hb AW
  go_wp2_with fail
  go_ret
  exact ⟨rfl, BZ.out⟩
set_option maxRecDepth 100000 in
set_option maxHeartbeats 2000000 in
theorem walk_no_l (w : World) (hT : sl.Tab w) (E : Int) (A : Option Addr) (c : Nat) (zs : List Int) (hN : Nums .i64 w A zs) (size : Int) (h : zs.length ≤ 100) (h2 : 131072 < size) (hr : rok E zs = false) : Calls Tryd.prog 3 #[.agg #[.int .i64 E, .slice A zs.length c], .int .i64 size] w (BoolP true w) := by
  have k2 : decide (size > 5000) = true := decide_eq_true (by omega)
  have k3 : decide (size ≤ 131072) = false := decide_eq_false (by omega)
  clear h2
  have k1 : decide ((zs.length : Int) > 100) = false := decide_eq_false (by omega)
  have L1 := Lib.hid h
  clear h
  have M1 := Lib.hid (made w (.cells #[.int .i64 E, .slice A zs.length c] 24))
  have BX := Lib.hid (Blk.new w 24 #[.int .i64 E, .slice A zs.length c])
  have N1 := Lib.hid (base.Nums.keep hN M1.out)
  have T1 := Lib.hid (hT.keep M1.out hT.1)
  have x0 := BX.out.cell 0
  have x1 := BX.out.cell 1
  clear hN hT
  generalize hw : w.alloc (.cells #[.int .i64 E, .slice A zs.length c] 24) = w1 at *
  have RR := Lib.hid (rright_any E A c zs w1 N1.out)
  rw [hr] at RR
  have BN := Lib.hid (bytes_no E A c zs size w1 N1.out hr)
  go_enter Tryd.func3, Tryd.ntmps3
  go_wp2_with (rw [hw])
  refine RR.out.mono ?_
  rintro e w2 ⟨rfl, e2⟩
  subst e2
  clear RR
  go_wp2_with fail
  refine BN.out.mono ?_
  rintro e w2 ⟨rfl, hb⟩
  have X2 := Lib.hid (BX.out.below hb BX.out.lt)
  have B2 := Lib.hid (up M1.out hb M1.out.size)
  have N2 := Lib.hid (base.Nums.keep N1.out hb)
  have T2 := Lib.hid (T1.out.keep hb T1.out.1)
  clear hb x0 x1
  have x0 := X2.out.cell 0
  have x1 := X2.out.cell 1
  have RA := Lib.hid (right_any E A c zs w2 N2.out)
  unfold BoolP at RA
  rw [hr] at RA
  clear BN
  go_wp2_with fail
  refine RA.out.mono ?_
  rintro e w3 ⟨rfl, hb⟩
  have X3 := Lib.hid (X2.out.below hb X2.out.lt)
  have B3 := Lib.hid (up B2.out hb B2.out.size)
  have N3 := Lib.hid (base.Nums.keep N2.out hb)
  have T3 := Lib.hid (T2.out.keep hb T2.out.1)
  clear hb x0 x1
  have x0 := X3.out.cell 0
  have x1 := X3.out.cell 1
  have EQ := Lib.hid (requal_yes E A c zs A c w3 N3.out N3.out (by have := L1.out; omega))
  unfold BoolP at EQ
  clear RA
  go_wp2_with fail
  refine EQ.out.mono ?_
  rintro e w4 ⟨rfl, hb⟩
  have X4 := Lib.hid (X3.out.below hb X3.out.lt)
  have B4 := Lib.hid (up B3.out hb B3.out.size)
  have N4 := Lib.hid (base.Nums.keep N3.out hb)
  have T4 := Lib.hid (T3.out.keep hb T3.out.1)
  clear hb x0 x1
  have x0 := X4.out.cell 0
  have x1 := X4.out.cell 1
  clear EQ
  have AW := Lib.hid (awake_any w4 T4.out)
  unfold AwakeP at AW
  clear hr
  go_wp2_with fail
  refine AW.out.mono ?_
  rintro e wZ ⟨rfl, hb⟩
  have BZ := Lib.hid (up B4.out hb B4.out.size)
  clear hb AW
  go_wp2_with fail
  go_ret
  exact ⟨rfl, BZ.out⟩
set_option maxRecDepth 100000 in
set_option maxHeartbeats 2000000 in
theorem walk_many_l (w : World) (hT : sl.Tab w) (E : Int) (A : Option Addr) (c : Nat) (zs : List Int) (hN : Nums .i64 w A zs) (size : Int) (hs : (Lit.int .i64 size).wf = true) (h : zs.length ≤ 100) (h2 : 131072 < size) (hr : rok E zs = true) (hf : ¬ fitsI (plainB E zs) size) : Calls Tryd.prog 3 #[.agg #[.int .i64 E, .slice A zs.length c], .int .i64 size] w (BoolP true w) := by
  have k2 : decide (size > 5000) = true := decide_eq_true (by omega)
  have k3 : decide (size ≤ 131072) = false := decide_eq_false (by omega)
  clear h2
  have k1 : decide ((zs.length : Int) > 100) = false := decide_eq_false (by omega)
  have L1 := Lib.hid h
  clear h
  have M1 := Lib.hid (made w (.cells #[.int .i64 E, .slice A zs.length c] 24))
  have BX := Lib.hid (Blk.new w 24 #[.int .i64 E, .slice A zs.length c])
  have N1 := Lib.hid (base.Nums.keep hN M1.out)
  have T1 := Lib.hid (hT.keep M1.out hT.1)
  have x0 := BX.out.cell 0
  have x1 := BX.out.cell 1
  clear hN hT
  generalize hw : w.alloc (.cells #[.int .i64 E, .slice A zs.length c] 24) = w1 at *
  have RR := Lib.hid (rright_any E A c zs w1 N1.out)
  rw [hr] at RR
  have BN := Lib.hid (bytes_many E A c zs size hs hf w1 T1.out N1.out hr)
  go_enter Tryd.func3, Tryd.ntmps3
  go_wp2_with (rw [hw])
  refine RR.out.mono ?_
  rintro e w2 ⟨rfl, e2⟩
  subst e2
  clear RR
  go_wp2_with fail
  refine BN.out.mono ?_
  rintro e w2 ⟨rfl, hb⟩
  have X2 := Lib.hid (BX.out.below hb BX.out.lt)
  have B2 := Lib.hid (up M1.out hb M1.out.size)
  have N2 := Lib.hid (base.Nums.keep N1.out hb)
  have T2 := Lib.hid (T1.out.keep hb T1.out.1)
  clear hb x0 x1
  have x0 := X2.out.cell 0
  have x1 := X2.out.cell 1
  have RA := Lib.hid (right_any E A c zs w2 N2.out)
  unfold BoolP at RA
  rw [hr] at RA
  clear BN
  go_wp2_with fail
  refine RA.out.mono ?_
  rintro e w3 ⟨rfl, hb⟩
  have X3 := Lib.hid (X2.out.below hb X2.out.lt)
  have B3 := Lib.hid (up B2.out hb B2.out.size)
  have N3 := Lib.hid (base.Nums.keep N2.out hb)
  have T3 := Lib.hid (T2.out.keep hb T2.out.1)
  clear hb x0 x1
  have x0 := X3.out.cell 0
  have x1 := X3.out.cell 1
  have EQ := Lib.hid (requal_yes E A c zs A c w3 N3.out N3.out (by have := L1.out; omega))
  unfold BoolP at EQ
  clear RA
  go_wp2_with fail
  refine EQ.out.mono ?_
  rintro e w4 ⟨rfl, hb⟩
  have X4 := Lib.hid (X3.out.below hb X3.out.lt)
  have B4 := Lib.hid (up B3.out hb B3.out.size)
  have N4 := Lib.hid (base.Nums.keep N3.out hb)
  have T4 := Lib.hid (T3.out.keep hb T3.out.1)
  clear hb x0 x1
  have x0 := X4.out.cell 0
  have x1 := X4.out.cell 1
  clear EQ
  have RB := Lib.hid (rbytes_no E A c zs size hs hf w4 N4.out hr)
  clear hr hf hs
  go_wp2_with fail
  refine RB.out.mono ?_
  rintro e w5 ⟨rfl, hb⟩
  have X5 := Lib.hid (X4.out.below hb X4.out.lt)
  have B5 := Lib.hid (up B4.out hb B4.out.size)
  have N5 := Lib.hid (base.Nums.keep N4.out hb)
  have T5 := Lib.hid (T4.out.keep hb T4.out.1)
  clear hb x0 x1
  have x0 := X5.out.cell 0
  have x1 := X5.out.cell 1
  have AW := Lib.hid (awake_any w5 T5.out)
  unfold AwakeP at AW
  clear RB
  go_wp2_with fail
  refine AW.out.mono ?_
  rintro e wZ ⟨rfl, hb⟩
  have BZ := Lib.hid (up B5.out hb B5.out.size)
  clear hb AW
  go_wp2_with fail
  go_ret
  exact ⟨rfl, BZ.out⟩
set_option maxRecDepth 100000 in
set_option maxHeartbeats 4000000 in
theorem walk_yes (w : World) (hT : sl.Tab w) (n : Nat) (A : Option Addr) (c : Nat) (zs : List Int) (hN : Nums .i64 w A zs) (size : Nat) (h : zs.length ≤ 100) (h2 : size ≤ 5000) (hr : rok (n : Int) zs = true) (hf : fitsI (plainB (n : Int) zs) size) : Calls Tryd.prog 3 #[.agg #[.int .i64 (n : Int), .slice A zs.length c], .int .i64 (size : Int)] w (BoolP true w) := by
  have PR := Lib.hid (parse_root hr hf)
  have RL := Lib.hid (show (rootB (n : Int) zs (size - 8)).length ≤ 9000 from by rw [root_len hf]; omega)
  have RS := Lib.hid (root_small (n : Int) zs (size - 8))
  have HR := Lib.hid hr
  have HF := Lib.hid hf
  have k2 : decide ((size : Int) > 5000) = false := decide_eq_false (by omega)
  clear h2
  have k1 : decide ((zs.length : Int) > 100) = false := decide_eq_false (by omega)
  have L1 := Lib.hid h
  clear h
  have M1 := Lib.hid (made w (.cells #[.int .i64 (n : Int), .slice A zs.length c] 24))
  have BX := Lib.hid (Blk.new w 24 #[.int .i64 (n : Int), .slice A zs.length c])
  have N1 := Lib.hid (base.Nums.keep hN M1.out)
  have T1 := Lib.hid (hT.keep M1.out hT.1)
  have x0 := BX.out.cell 0
  have x1 := BX.out.cell 1
  clear hN hT
  generalize hw : w.alloc (.cells #[.int .i64 (n : Int), .slice A zs.length c] 24) = w1 at *
  have RR := Lib.hid (rright_any (n : Int) A c zs w1 N1.out)
  rw [HR.out] at RR
  have BN := Lib.hid (bytes_yes (n : Int) A c zs size hf w1 T1.out N1.out HR.out)
  go_enter Tryd.func3, Tryd.ntmps3
  go_wp2_with (rw [hw])
  refine RR.out.mono ?_
  rintro e w2 ⟨rfl, e2⟩
  subst e2
  clear RR
  go_wp2_with fail
  refine BN.out.mono ?_
  rintro e w2 ⟨v2, rfl, ho, hb⟩
  obtain ⟨A2, c2, rfl, hl, hc2, hm2⟩ := ho.lay
  have L2 := Lib.hid hl
  have CC := Lib.hid (And.intro hc2 hm2)
  clear ho hl hc2 hm2 hr hf
  have X2 := Lib.hid (BX.out.below hb BX.out.lt)
  have B2 := Lib.hid (up M1.out hb M1.out.size)
  have N2 := Lib.hid (base.Nums.keep N1.out hb)
  have T2 := Lib.hid (T1.out.keep hb T1.out.1)
  clear hb x0 x1
  have x0 := X2.out.cell 0
  have x1 := X2.out.cell 1
  have RA := Lib.hid (right_any (n : Int) A c zs w2 N2.out)
  unfold BoolP at RA
  rw [HR.out] at RA
  clear BN
  go_wp2_with fail
  refine RA.out.mono ?_
  rintro e w3 ⟨rfl, hb⟩
  have L3 := Lib.hid (L2.out.below hb)
  have X3 := Lib.hid (X2.out.below hb X2.out.lt)
  have B3 := Lib.hid (up B2.out hb B2.out.size)
  have N3 := Lib.hid (base.Nums.keep N2.out hb)
  have T3 := Lib.hid (T2.out.keep hb T2.out.1)
  clear hb x0 x1
  have x0 := X3.out.cell 0
  have x1 := X3.out.cell 1
  have EQ := Lib.hid (requal_yes (n : Int) A c zs A c w3 N3.out N3.out (by have := L1.out; omega))
  unfold BoolP at EQ
  clear RA
  go_wp2_with fail
  refine EQ.out.mono ?_
  rintro e w4 ⟨rfl, hb⟩
  have L4 := Lib.hid (L3.out.below hb)
  have X4 := Lib.hid (X3.out.below hb X3.out.lt)
  have B4 := Lib.hid (up B3.out hb B3.out.size)
  have N4 := Lib.hid (base.Nums.keep N3.out hb)
  have T4 := Lib.hid (T3.out.keep hb T3.out.1)
  clear hb x0 x1
  have x0 := X4.out.cell 0
  have x1 := X4.out.cell 1
  clear EQ
  have RB := Lib.hid (rbytes_yes n A c zs size HF.out w4 N4.out HR.out)
  generalize rootB (n : Int) zs (size - 8) = R at *
  go_wp2_with fail
  refine RB.out.mono ?_
  rintro e w5 ⟨v5, rfl, ho, hb⟩
  have L5 := Lib.hid (L4.out.below hb)
  obtain ⟨A5, c5, rfl, hl, -, -⟩ := ho.lay
  have V5 := Lib.hid hl
  have X5 := Lib.hid (X4.out.below hb X4.out.lt)
  have B5 := Lib.hid (up B4.out hb B4.out.size)
  have N5 := Lib.hid (base.Nums.keep N4.out hb)
  have T5 := Lib.hid (T4.out.keep hb T4.out.1)
  clear hb x0 x1
  have x0 := X5.out.cell 0
  have x1 := X5.out.cell 1
  have PA := Lib.hid (parse_any A2 c2 R w5 L5.out RS.out RL.out CC.out.1 CC.out.2 T5.out)
  unfold ParseP at PA
  rw [PR.out] at PA
  clear RB ho hl
  go_wp2_with fail
  refine PA.out.mono ?_
  rintro e w6 ⟨hb, ⟨h0, -⟩ | ⟨E', zs', Ap, cp, h0, rfl, hn6, -⟩⟩
  · cases h0
  injection h0 with h0
  injection h0 with h1 h2
  subst h1 h2
  have V6 := Lib.hid (V5.out.below hb)
  have L6 := Lib.hid (L5.out.below hb)
  have X6 := Lib.hid (X5.out.below hb X5.out.lt)
  have B6 := Lib.hid (up B5.out hb B5.out.size)
  have N6 := Lib.hid (base.Nums.keep N5.out hb)
  have T6 := Lib.hid (T5.out.keep hb T5.out.1)
  clear hb x0 x1
  have x0 := X6.out.cell 0
  have x1 := X6.out.cell 1
  have P7 := Lib.hid (Blk.new w6 24 #[.int .i64 (n : Int), .slice Ap zs.length cp])
  have hb := made w6 (.cells #[.int .i64 (n : Int), .slice Ap zs.length cp] 24)
  have V7 := Lib.hid (V6.out.below hb)
  have L7 := Lib.hid (L6.out.below hb)
  have Q7 := Lib.hid (base.Nums.keep hn6 hb)
  have X7 := Lib.hid (X6.out.below hb X6.out.lt)
  have B7 := Lib.hid (up B6.out hb B6.out.size)
  have N7 := Lib.hid (base.Nums.keep N6.out hb)
  have T7 := Lib.hid (T6.out.keep hb T6.out.1)
  clear hb x0 x1
  have x0 := X7.out.cell 0
  have x1 := X7.out.cell 1
  have y0 := P7.out.cell 0
  have y1 := P7.out.cell 1
  have cv1 := conv_any _ A2 c2 R L7.out RS.out
  have cv2 := conv_any _ A5 c5 R V7.out RS.out
  have EQ := Lib.hid (requal_yes (n : Int) Ap cp zs A c _ Q7.out N7.out (by have := L1.out; omega))
  unfold BoolP at EQ
  clear PA hn6
  generalize hw7 : w6.alloc (.cells #[.int .i64 (n : Int), .slice Ap zs.length cp] 24) = w7 at *
  have hse : ((str R).toList == (str R).toList) = true := beq_self_eq_true _
  generalize str R = sR at *
  go_wp2_with (rw [hw7])
  refine EQ.out.mono ?_
  rintro e w8 ⟨rfl, hb⟩
  have B8 := Lib.hid (up B7.out hb B7.out.size)
  have T8 := Lib.hid (T7.out.keep hb T7.out.1)
  have AW := Lib.hid (awake_any w8 T8.out)
  unfold AwakeP at AW
  clear EQ hb cv1 cv2
  go_wp2_with fail
  refine AW.out.mono ?_
  rintro e wZ ⟨rfl, hb⟩
  have BZ := Lib.hid (up B8.out hb B8.out.size)
  clear hb AW
  go_wp2_with fail
  go_ret
  exact ⟨rfl, BZ.out⟩
theorem walk (w : World) (hT : sl.Tab w) (E : Int) (A : Option Addr) (c : Nat) (zs : List Int) (hE : (Lit.int .i64 E).wf = true) (hN : Nums .i64 w A zs) (hz : ∀ z ∈ zs, (Lit.int .i64 z).wf = true) (hc : zs.length ≤ c) (hm : c ≤ maxLen) (size : Int) (hs : (Lit.int .i64 size).wf = true) :
    Calls Tryd.prog 3 #[.agg #[.int .i64 E, .slice A zs.length c], .int .i64 size] w fun e w' => e = .returned (.bool true) ∧ Below w.heap.size w w' := by
  by_cases h : 100 < zs.length
  · exact walk_a w hT E A c zs hN size h
  by_cases h2 : 5000 < size ∧ size ≤ 131072
  · exact walk_b w hT E A c zs hN size (by omega) h2.1 h2.2
  cases hr : rok E zs with
  | false =>
    by_cases h3 : size ≤ 5000
    · exact walk_no_s w hT E A c zs hN size (by omega) h3 hr
    · exact walk_no_l w hT E A c zs hN size (by omega) (by omega) hr
  | true =>
    by_cases hf : fitsI (plainB E zs) size
    · have hf' := hf
      unfold fitsI at hf'
      have hE1 := rok_iff.1 hr
      obtain ⟨n, rfl⟩ : ∃ n : Nat, E = n := ⟨E.toNat, by omega⟩
      obtain ⟨k, rfl⟩ : ∃ k : Nat, size = k := ⟨size.toNat, by omega⟩
      exact walk_yes w hT n A c zs hN k (by omega) (by omega) hr hf
    · by_cases h3 : size ≤ 5000
      · exact walk_many_s w hT E A c zs hN size hs (by omega) h3 hr hf
      · exact walk_many_l w hT E A c zs hN size hs (by omega) (by omega) hr hf
theorem contract (H : Type) (enc : TypeId × Value → H) (W : World) (bs : Nat) (args : Array Value) (ds gs : List (DataW H)) (before : List MemPlace)
    (hval : ∀ (j : Nat) t v, Tryd.f3.params[j]? = some t → args[j]? = some v → Value.okWide Tryd.prog W .any bs t v)
    (hW : DataW.Whole enc Tryd.prog Tryd.f3.params.toList Rows.slotsBytesSpec.vars false W args.toList ds gs before) (hL : laidMetH Tryd.prog Rows.slotsBytesRow.laid W) :
    Calls Tryd.prog 3 args W fun e W' => ∃ v, e = .returned v ∧ Rows.slotsBytesSpec.post enc Tryd.prog Tryd.f3 false true false false W args v W' := by
  have hW' := hW
  obtain ⟨p, q, hA0, hV, rfl, _, _⟩ := hW
  have hA : DataW.TrodAll enc Tryd.prog W 0 (fun _ => true) true Tryd.f3.params.toList args.toList ds p := hA0
  rw [Tryd.params3] at hA hval
  obtain ⟨v0, vs0, d0, ds0, p0, q0, hargs, rfl, rfl, h0, r0⟩ := trodAll_cons hA
  obtain ⟨v1, vs1, d1, ds1, p1, q1, rfl, rfl, rfl, h1, r1⟩ := trodAll_cons r0
  obtain ⟨rfl, rfl, rfl⟩ := trodAll_nil r1
  obtain rfl : args = #[v0, v1] := by cases args; simp_all
  obtain ⟨rfl, rfl⟩ := trodVars_none hV
  obtain ⟨E0, A0, c0, zs0, rfl, hE0, hN0, hz0, hc0, hm0⟩ := so.open_root (hval 0 24 v0 rfl rfl) h0
  obtain ⟨a1, rfl, rfl, rfl, w1⟩ := open_int Tryd.underlying3 (hval 1 3 v1 rfl rfl) h1
  clear hA0
  refine (walk W (tableOf hL) E0 A0 c0 zs0 hE0 hN0 hz0 hc0 hm0 a1 w1).mono fun e W' ⟨he, hb⟩ => ?_
  subst he
  exact ⟨_, rfl, base.law_post base.laid (by kernel_rfl) rfl rfl Tryd.underlying4 hW' rfl rfl rfl hb⟩

noncomputable def laidWorld (os : Os) : World :=
  { World.holding Tryd.prog os ⟨#[], #[], []⟩ with heap := (World.holding Tryd.prog os ⟨#[], #[], []⟩).heap.modify 0 fun
      | .cells _ t frozen => .cells #[.int .u32 0, .int .u32 498536548, .int .u32 997073096, .int .u32 651767980, .int .u32 1994146192, .int .u32 1802195444, .int .u32 1303535960, .int .u32 1342533948, .int .u32 3988292384, .int .u32 4027552580, .int .u32 3604390888, .int .u32 3412177804, .int .u32 2607071920, .int .u32 2262029012, .int .u32 2685067896, .int .u32 3183342108] t frozen
      | o => o }
theorem laid_met (os : Os) : laidMet Tryd.prog Rows.slotsBytesRow.laid ((laidWorld os).forCall (fun _ _ => 0) ⟨#[], #[.agg #[.int .i64 0, .slice none 0 0], .int .i64 0], []⟩).memory :=
  laidMet_of_run' 8 (by kernel_rfl) (by kernel_rfl)
theorem reads (os : Os) {H : Type} (enc : TypeId × Value → H) : ∃ places, DataW.whole enc Tryd.prog ((laidWorld os).forCall (fun _ _ => 0) ⟨#[], #[.agg #[.int .i64 0, .slice none 0 0], .int .i64 0], []⟩).memory Tryd.f3.params.toList Rows.slotsBytesSpec.vars false (#[.agg #[.int .i64 0, .slice none 0 0], .int .i64 0] : Array Value).toList 8 = some ([.agg [.lit (.int .i64 0), .nil], .lit (.int .i64 0)], [], places) :=
  ⟨[], by kernel_rfl⟩

set_option maxRecDepth 100000 in
theorem lifted (os : Os) (started : os.Started) (H : Type) (enc : TypeId × Value → H) (F : Stop.Interp) :
    ReturnsInHanded {} Tryd.checked os 3 .any ((OpenSpec.ofChange Rows.slotsBytesSpec).preRow enc Tryd.prog Tryd.f3 Rows.slotsBytesRow.domain false Rows.slotsBytesRow.laid) (((OpenSpec.ofChange Rows.slotsBytesSpec).at F).post enc Tryd.prog Tryd.f3 false true false false) := by
  obtain ⟨places, hx⟩ := reads os enc
  refine returnsInHanded_of_row (C := Tryd.checked) (s := OpenSpec.ofChange Rows.slotsBytesSpec) base.own started (by kernel_rfl) Tryd.func3
    (witness_row_at (enc := enc) (C := Tryd.checked) false (laidWorld os) #[.agg #[.int .i64 0, .slice none 0 0], .int .i64 0] rfl (by kernel_rfl) (by kernel_rfl) (by kernel_rfl)
      (OpenSpec.preRow_of_cond 8 hx (by kernel_rfl) (fun k hk => by cases hk) (by kernel_rfl) (laid_met os))) ?_
  intro W bs args ds gs before hval hW _ _ _ hL _ _
  exact contract H enc W bs args ds gs before hval hW hL

theorem said : Rows.SlotsBytesSaid :=
  OpenClaim.holds_of_cond 3 Tryd.f3 rfl rfl rfl rfl rfl rfl rfl ⟨rfl, rfl, rfl, rfl, rfl⟩ rfl rfl rfl rfl rfl (by kernel_rfl) Tryd.func3 (by kernel_rfl)
    (of_decide_eq_true (by kernel_rfl)) (by unfold Func.isWrapper; first | (rw [if_pos (by decide +kernel)]; kernel_rfl) | (rw [if_neg (by decide +kernel)]; exact ⟨rfl, rfl⟩))
    (fun os started H enc _ F => by rw [OpenClaim.pre_eq_preRow]; exact lifted os started H enc F)

theorem plain (f : FuncId) (fn : Func) (hf : Tryd.pinned.checked.prog.funcNamed "deedhold/deedholdlaw06.SlotsBytes" = some f) (hfn : Tryd.pinned.checked.prog.funcs[f]? = some fn) :
    false = Tryd.pinned.checked.prog.looks [] ∧ ∀ (j : Nat) t, fn.params[j]? = some t → Tryd.pinned.checked.prog.wantsStandIn t = false := by
  obtain rfl : f = 3 := Option.some.inj ((show Tryd.prog.funcNamed "deedhold/deedholdlaw06.SlotsBytes" = some 3 by kernel_rfl).symm.trans hf) |>.symm
  obtain rfl : fn = Tryd.f3 := (Option.some.inj (Tryd.func3.symm.trans hfn)).symm
  refine ⟨by kernel_rfl, fun j t ht => ?_⟩
  rw [Tryd.params3] at ht
  have ht2 : t = 24 ∨ t = 3 := by simpa using Array.mem_of_getElem? ht
  rcases ht2 with rfl | rfl
  all_goals first | exact (show Tryd.prog.wantsStandIn _ = false by kernel_rfl)

theorem card : Rows.SlotsBytesCardSaid :=
  Claim7.holds_tied_plain_at .later [] _ _ _ _ said (fun _ h => by cases h) (by kernel_rfl) (fun _ h => by cases h) slotsBytes_row_tie rfl ⟨rfl, rfl⟩ (by kernel_rfl) rfl plain (by kernel_rfl)
#print axioms card
end Go.Proofs.YtigjfmfhmoabiaaDoor.slotsBytes
