/-
  The reference's amount, May.
-/
import Derived.Test.YtlklfolpcebahaaAucI
namespace Go.Proofs.Ytlklfolpcebahaa.bb
open Go.RowKit
open base (ret_bool ret_int made up Blk Only Nums)
open rk
set_option linter.unusedVariables false
set_option linter.unusedSimpArgs false

set_option maxHeartbeats 400000 in
theorem amount_any (n : Int) (w : World) : Calls Try.prog 32 #[.int .i64 n] w fun e w' => e = .returned (.bool (bd.isRight n)) ∧ w' = w := by
  by_cases h0 : 0 ≤ n
  · by_cases h1 : n ≤ 1099511627776
    · rw [bd.right_mk h0 h1]
      go_enter Try.func32, Try.ntmps32
      go_wp2_with fail
      go_ret
      exact ⟨rfl, rfl⟩
    · rw [bd.right_not (by omega)]
      go_enter Try.func32, Try.ntmps32
      go_wp2_with fail
      go_ret
      exact ⟨rfl, rfl⟩
  · rw [bd.right_not (by omega)]
    go_enter Try.func32, Try.ntmps32
    go_wp2_with fail
    go_ret
    exact ⟨rfl, rfl⟩
set_option maxRecDepth 100000 in
set_option maxHeartbeats 2000000 in
theorem rmay_any (A : Option Addr) (c : Nat) (L : List D) (nx d sl l en : Int) (w : World) (hA : Lay E7 w A L) (hl : L.length ≤ 100000) :
    Calls Try.prog 39 #[.agg #[.slice A L.length c, .int .i64 nx], .int .i64 d, .int .i64 sl, .int .i64 l, .int .i64 en] w fun e w' => e = .returned (.int .i64 (mayOpen L d sl l en)) ∧ Below w.heap.size w w' := by
  have hm := made w (.cells #[.slice A L.length c, .int .i64 nx] 28)
  have bx : Blk (w.alloc (.cells #[.slice A L.length c, .int .i64 nx] 28)) w.heap.size 28 #[.slice A L.length c, .int .i64 nx] := Blk.new _ _ _
  have b0 := bx.cell 0
  have b1 := bx.cell 1
  have BX := Lib.hid bx
  have M := Lib.hid hm
  have OF := Lib.hid (rof_any A c L nx d _ (hA.below hm) hl)
  have MO := Lib.hid (show mayOpen L d sl l en = if d < 1 ∨ sl < 1 then 10 else if ¬ amt l ∨ en < 0 ∨ 4398046511104 < en then 11 else if (fi (isDeed d) L).isSome then 13 else if 64 ≤ L.length then 12 else 0 from rfl)
  generalize mayOpen L d sl l en = mo at *
  clear hA hm bx
  generalize hw1 : w.alloc (.cells #[.slice A L.length c, .int .i64 nx] 28) = w1 at *
  have AM := Lib.hid (amount_any l w1)
  by_cases q1 : d < 1
  · rw [if_pos (.inl q1)] at MO
    obtain rfl := MO.out
    go_enter Try.func39, Try.ntmps39
    go_wp2_with (rw [hw1])
    go_ret
    exact ⟨rfl, M.out⟩
  by_cases q2 : sl < 1
  · rw [if_pos (.inr q2)] at MO
    obtain rfl := MO.out
    go_enter Try.func39, Try.ntmps39
    go_wp2_with (rw [hw1])
    go_ret
    exact ⟨rfl, M.out⟩
  rw [if_neg (by omega)] at MO
  by_cases q3 : amt l
  case neg =>
    rw [if_pos (.inl q3)] at MO
    obtain rfl := MO.out
    rw [isNR q3] at AM
    clear q3
    go_enter Try.func39, Try.ntmps39
    go_wp2_with (rw [hw1])
    refine AM.out.mono ?_
    rintro e w2 ⟨rfl, rfl⟩
    go_wp2_with fail
    go_ret
    exact ⟨rfl, M.out⟩
  rw [isR q3] at AM
  by_cases q4 : en < 0
  · rw [if_pos (.inr (.inl q4))] at MO
    obtain rfl := MO.out
    clear q3
    go_enter Try.func39, Try.ntmps39
    go_wp2_with (rw [hw1])
    refine AM.out.mono ?_
    rintro e w2 ⟨rfl, rfl⟩
    go_wp2_with fail
    go_ret
    exact ⟨rfl, M.out⟩
  by_cases q5 : 4398046511104 < en
  · rw [if_pos (.inr (.inr q5))] at MO
    obtain rfl := MO.out
    clear q3
    go_enter Try.func39, Try.ntmps39
    go_wp2_with (rw [hw1])
    refine AM.out.mono ?_
    rintro e w2 ⟨rfl, rfl⟩
    go_wp2_with fail
    go_ret
    exact ⟨rfl, M.out⟩
  rw [if_neg (by rintro (h | h | h); exact h q3; omega; omega)] at MO
  clear q3
  generalize fi (isDeed d) L = o at *
  obtain ⟨j, hj⟩ : ∃ j, j = ix o := ⟨_, rfl⟩
  rw [← hj] at OF
  have JJ := Lib.hid hj
  clear hj
  cases o with
  | some i =>
    rw [Option.isSome_some, if_pos rfl] at MO
    obtain rfl := MO.out
    obtain rfl : j = i := JJ.out
    go_enter Try.func39, Try.ntmps39
    go_wp2_with (rw [hw1])
    refine AM.out.mono ?_
    rintro e w2 ⟨rfl, rfl⟩
    go_wp2_with fail
    refine OF.out.mono ?_
    rintro e w3 ⟨rfl, hb3⟩
    have B3 := Lib.hid (up M.out hb3 M.out.size)
    clear hb3 OF
    go_wp2_with fail
    go_ret
    exact ⟨rfl, B3.out⟩
  | none =>
    rw [if_neg (by simp)] at MO
    obtain rfl : j = -1 := JJ.out
    by_cases q6 : 64 ≤ L.length
    · rw [if_pos q6] at MO
      obtain rfl := MO.out
      have q7 : ((L.length : Int) ≥ 64) := by omega
      go_enter Try.func39, Try.ntmps39
      go_wp2_with (rw [hw1])
      refine AM.out.mono ?_
      rintro e w2 ⟨rfl, rfl⟩
      go_wp2_with fail
      refine OF.out.mono ?_
      rintro e w3 ⟨rfl, hb3⟩
      have B3 := Lib.hid (up M.out hb3 M.out.size)
      have c0 := (BX.out.below hb3 BX.out.lt).cell 0
      clear hb3 OF b0 b1
      go_wp2_with fail
      go_ret
      exact ⟨rfl, B3.out⟩
    · rw [if_neg q6] at MO
      obtain rfl := MO.out
      have q7 : ((L.length : Int) < 64) := by omega
      go_enter Try.func39, Try.ntmps39
      go_wp2_with (rw [hw1])
      refine AM.out.mono ?_
      rintro e w2 ⟨rfl, rfl⟩
      go_wp2_with fail
      refine OF.out.mono ?_
      rintro e w3 ⟨rfl, hb3⟩
      have B3 := Lib.hid (up M.out hb3 M.out.size)
      have c0 := (BX.out.below hb3 BX.out.lt).cell 0
      clear hb3 OF b0 b1
      go_wp2_with fail
      go_ret
      exact ⟨rfl, B3.out⟩
end Go.Proofs.Ytlklfolpcebahaa.bb
