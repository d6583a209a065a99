/-
  The layer's fixed answer.
-/
import Derived.Test.YtlklfolpcebahaaBidF
namespace Go.Proofs.Ytlklfolpcebahaa.bd
open Go.ChangeShapes Go.WideShapes Go.ChangeAt Go.RowKit
open base (ret_bool ret_int made up Blk Only Nums)
set_option linter.unusedVariables false
set_option linter.unusedSimpArgs false

def BidNo (w : World) (e : Ending) (w' : World) : Prop := ∃ k : Int, k ≠ 0 ∧ e = .returned (.tuple #[(.agg #[.int .i64 0, .int .i64 0, .int .i64 0, .int .i64 0, .int .i64 0, .int .i64 0, .int .i64 0]), .int .i64 k]) ∧ Below w.heap.size w w'
theorem bid_no (g gl cap : Nat) (d l b p n who z : Int) (w : World) (h : One w g gl cap d l b p n) (hb : 0 ≤ b ∧ b ≤ 1099511627776) (hp : 0 ≤ p) (hw : who < 1 ∨ who = 1 ∨ z < 0 ∨ 1099511627776 < z ∨ z < askOf l b p) :
    Calls Try.prog 17 #[.pointer (some ⟨g, 0, none⟩), .int .i64 1, .int .i64 who, .int .i64 z] w (BidNo w) := by
  by_cases q1 : who < 1
  · exact (bid_form g gl cap d l b p n who z w h q1).mono (fun e w' r => ⟨10, by omega, r.1, r.2⟩)
  · by_cases q2 : who = 1
    · exact (bid_own g gl cap d l b p n who z w h q2).mono (fun e w' r => ⟨38, by omega, r.1, r.2⟩)
    · by_cases q3 : z < 0 ∨ 1099511627776 < z
      · exact (bid_range g gl cap d l b p n who z w h (by omega) q3).mono (fun e w' r => ⟨11, by omega, r.1, r.2⟩)
      · exact (bid_low g gl cap d l b p n who z w h (by omega) (by omega) hb hp (by omega)).mono (fun e w' r => ⟨36, by omega, r.1, r.2⟩)

set_option maxRecDepth 100000 in
set_option maxHeartbeats 2000000 in
theorem awake_any (w : World) : Calls Try.prog 8 #[] w fun e w' => e = .returned (.bool true) ∧ Below w.heap.size w w' := by
  have N := Lib.hid (new_any w)
  go_enter Try.func8, Try.ntmps8
  go_wp2_with fail
  refine N.out.mono ?_
  rintro e w1 ⟨rfl, hb, hbl⟩
  have OP := Lib.hid (open_any w.heap.size 5 100 50 w.heap.size w1 (Nat.le_refl _) (by omega) (by omega) (by omega) hb)
  have B1 := Lib.hid hbl
  clear hb hbl N
  go_wp2_with fail
  refine OP.out.mono ?_
  rintro e w2 ⟨rfl, hb2, gl, cap, ho, hgl⟩
  have GL := Lib.hid hgl
  have B2 := Lib.hid (B1.out.trans hb2)
  have L1 := Lib.hid (bid_low w.heap.size gl cap 5 100 0 0 50 2 99 w2 ho (by omega) (by omega) (by omega) (by omega) (by decide))
  have O2 := Lib.hid ho
  clear hb2 ho hgl OP B1
  go_wp2_with fail
  refine L1.out.mono ?_
  rintro e w3 ⟨rfl, hb3⟩
  have B3 := Lib.hid (up (up B2.out hb3 B2.out.size) (made w3 (.cells #[.int .i64 0, .int .i64 0, .int .i64 0, .int .i64 0, .int .i64 0, .int .i64 0, .int .i64 0] 35)) (Nat.le_trans B2.out.size hb3.size))
  have O3 := Lib.hid ((O2.out.below hb3).below (made w3 (.cells #[.int .i64 0, .int .i64 0, .int .i64 0, .int .i64 0, .int .i64 0, .int .i64 0, .int .i64 0] 35)))
  clear hb3 L1 B2 O2
  have L2 := Lib.hid (bid_yes w.heap.size gl cap 5 100 0 0 50 2 100 _ O3.out (by omega) (by omega) (by omega) (by omega) (by decide) w.heap.size ⟨GL.out, B3.out.size⟩)
  go_wp2_with fail
  generalize w3.alloc (.cells #[.int .i64 0, .int .i64 0, .int .i64 0, .int .i64 0, .int .i64 0, .int .i64 0, .int .i64 0] 35) = w3' at *
  refine L2.out.mono ?_
  rintro e w4 ⟨rfl, hb4, ho4, -⟩
  have B4 := Lib.hid (up (B3.out.trans hb4) (made w4 (.cells #[.int .i64 1, .int .i64 5, .int .i64 1, .int .i64 100, .int .i64 0, .int .i64 0, .int .i64 50] 35)) (B3.out.trans hb4).size)
  have O4 := Lib.hid (ho4.below (made w4 (.cells #[.int .i64 1, .int .i64 5, .int .i64 1, .int .i64 100, .int .i64 0, .int .i64 0, .int .i64 50] 35)))
  clear hb4 ho4 L2 B3 O3
  have L3 := Lib.hid (bid_low w.heap.size gl cap 5 100 100 2 50 3 104 _ O4.out (by omega) (by omega) (by omega) (by omega) (by decide))
  go_wp2_with fail
  generalize w4.alloc (.cells #[.int .i64 1, .int .i64 5, .int .i64 1, .int .i64 100, .int .i64 0, .int .i64 0, .int .i64 50] 35) = w4' at *
  refine L3.out.mono ?_
  rintro e w5 ⟨rfl, hb5⟩
  have B5 := Lib.hid (up (up B4.out hb5 B4.out.size) (made w5 (.cells #[.int .i64 0, .int .i64 0, .int .i64 0, .int .i64 0, .int .i64 0, .int .i64 0, .int .i64 0] 35)) (Nat.le_trans B4.out.size hb5.size))
  have O5 := Lib.hid ((O4.out.below hb5).below (made w5 (.cells #[.int .i64 0, .int .i64 0, .int .i64 0, .int .i64 0, .int .i64 0, .int .i64 0, .int .i64 0] 35)))
  clear hb5 L3 B4 O4
  have L4 := Lib.hid (bid_yes w.heap.size gl cap 5 100 100 2 50 3 105 _ O5.out (by omega) (by omega) (by omega) (by omega) (by decide) w.heap.size ⟨GL.out, B5.out.size⟩)
  go_wp2_with fail
  generalize w5.alloc (.cells #[.int .i64 0, .int .i64 0, .int .i64 0, .int .i64 0, .int .i64 0, .int .i64 0, .int .i64 0] 35) = w5' at *
  refine L4.out.mono ?_
  rintro e w6 ⟨rfl, hb6, ho6, -⟩
  have B6 := Lib.hid (up (B5.out.trans hb6) (made w6 (.cells #[.int .i64 1, .int .i64 5, .int .i64 1, .int .i64 100, .int .i64 100, .int .i64 2, .int .i64 50] 35)) (B5.out.trans hb6).size)
  have O6 := Lib.hid (ho6.below (made w6 (.cells #[.int .i64 1, .int .i64 5, .int .i64 1, .int .i64 100, .int .i64 100, .int .i64 2, .int .i64 50] 35)))
  have HE := Lib.hid (held_any _ _ _ _ _ _ _ _ _ O6.out (by omega))
  clear hb6 ho6 L4 B5 O5
  go_wp2_with fail
  refine HE.out.mono ?_
  rintro e w7 ⟨rfl, hb7⟩
  have B7 := Lib.hid (up B6.out hb7 B6.out.size)
  clear hb7 HE
  go_wp2_with fail
  go_ret
  exact ⟨rfl, B7.out⟩
end Go.Proofs.Ytlklfolpcebahaa.bd
