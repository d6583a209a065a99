/-
  Contracts of package bid: no auction, or just one.
-/
import Derived.Test.YtlklfolpcebahaaBase
import Derived.StillTailTactics
import Derived.Deep.OwnRows
import Derived.Deep.RegionHeld
import Derived.Lib.MinMax
namespace Go.Proofs.Ytlklfolpcebahaa.bd
open Go.RowKit
open base (ret_bool ret_int made up Blk Only Nums)
set_option linter.unusedVariables false
set_option linter.unusedSimpArgs false

def isRight (n : Int) : Bool := decide (0 ≤ n ∧ n ≤ 1099511627776)
theorem right_mk {n : Int} (h0 : 0 ≤ n) (h1 : n ≤ 1099511627776) : isRight n = true := by simp [isRight, h0, h1]
theorem right_not {n : Int} (h : n < 0 ∨ 1099511627776 < n) : isRight n = false := by simp [isRight]; omega
theorem ret_ints {a b c d : Int} (h : a = c) (h' : b = d) : Ending.returned (.tuple #[.int .i64 a, .int .i64 b]) = .returned (.tuple #[.int .i64 c, .int .i64 d]) := by rw [h, h']
set_option maxHeartbeats 400000 in
theorem right_any (n : Int) (w : World) : Calls Try.prog 33 #[.int .i64 n] w fun e w' => e = .returned (.bool (isRight n)) ∧ w' = w := by
  go_enter Try.func33, Try.ntmps33
  go_wp2
  all_goals (go_ret; exact ⟨ret_bool (by simp [isRight]; omega), rfl⟩)
def stepOf (a : Int) : Int := if a < 40 then 1 else a / 20
set_option maxHeartbeats 400000 in
theorem step_ok (a : Int) (w : World) (h0 : 0 ≤ a) (h1 : a ≤ 1099511627776) : Calls Try.prog 42 #[.int .i64 a] w fun e w' => e = .returned (.tuple #[.int .i64 (stepOf a), .int .i64 0]) ∧ w' = w := by
  have RI := Lib.hid (right_any a w)
  rw [right_mk h0 h1] at RI
  by_cases h : a / 20 < 1
  · go_enter Try.func42, Try.ntmps42
    go_wp2_with (go_at_call 33; refine RI.out.mono ?_; rintro e w' ⟨rfl, rfl⟩)
    go_ret2
    exact ⟨ret_ints (by unfold stepOf; split <;> omega) rfl, rfl⟩
  · go_enter Try.func42, Try.ntmps42
    go_wp2_with (go_at_call 33; refine RI.out.mono ?_; rintro e w' ⟨rfl, rfl⟩)
    go_ret2
    exact ⟨ret_ints (by unfold stepOf; split <;> omega) rfl, rfl⟩

set_option maxHeartbeats 400000 in
theorem new_any (w : World) : Calls Try.prog 7 #[] w fun e w' => e = .returned (.pointer (some ⟨w.heap.size, 0, none⟩)) ∧ Blk w' w.heap.size 58 #[.slice none 0 0, .int .i64 1] ∧ Below w.heap.size w w' := by
  have hm := Lib.hid (made w (.cells #[.slice none 0 0, .int .i64 1] 58))
  have bx := Lib.hid (Blk.new w 58 #[.slice none 0 0, .int .i64 1])
  go_enter Try.func7, Try.ntmps7
  go_wp2_with fail
  go_ret
  exact ⟨rfl, bx.out, hm.out⟩

set_option maxHeartbeats 400000 in
theorem index_none (b : Nat) (w : World) : Calls Try.prog 41 #[.slice none 0 0, .func (.func 31) #[] #[.pointer (some ⟨b, 0, none⟩)]] w fun e w' => e = .returned (.int .i64 (-1)) ∧ w' = w := by
  go_enter Try.func41, Try.ntmps41
  go_wp2_with fail
  go_loop [8] (fun i => i = .int .i64 0) (fun _ => 0)
  case atStart => rfl
  case round =>
    subst hrel
    go_wp2_with fail
    go_ret
    exact ⟨rfl, rfl⟩
set_option maxHeartbeats 400000 in
theorem find_none (g b : Nat) (nx : Int) (w : World) (h : Blk w g 58 #[.slice none 0 0, .int .i64 nx]) : Calls Try.prog 30 #[.pointer (some ⟨g, 0, none⟩), .func (.func 31) #[] #[.pointer (some ⟨b, 0, none⟩)]] w fun e w' => e = .returned (.tuple #[.int .i64 (-1), .bool false]) ∧ w' = w := by
  have c0 := h.cell 0
  have IX := Lib.hid (index_none b w)
  clear h
  go_enter Try.func30, Try.ntmps30
  go_wp2_with fail
  refine IX.out.mono ?_
  rintro e w' ⟨rfl, rfl⟩
  go_wp2_with fail
  go_ret2
  exact ⟨rfl, rfl⟩
end Go.Proofs.Ytlklfolpcebahaa.bd
