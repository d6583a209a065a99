/-
  Contracts of package gold and of its reference, third part: parts, steps; the fixed answer.
-/
import Derived.Test.YtkmldcichedejaaGoldB
namespace Go.Proofs.Ytkmldcichedejaa.gold
open Go.RowKit
open base (Nums ret_bool ret_int)
set_option linter.unusedVariables false

theorem part_bd (a p : Int) (ha : 0 ≤ a) (ha2 : a ≤ 1099511627776) (hp : 0 ≤ p) (hp2 : p ≤ 10000) : 0 ≤ a * p ∧ a * p ≤ 10995116277760000 :=
  ⟨Int.mul_nonneg ha hp, by
    have h1 : a * p ≤ 1099511627776 * p := Int.mul_le_mul_of_nonneg_right ha2 hp
    omega⟩
theorem part_le (a p : Int) (ha : 0 ≤ a) (hp : 0 ≤ p) (hp2 : p ≤ 10000) : a * p ≤ a * 10000 := Int.mul_le_mul_of_nonneg_left hp2 ha

set_option maxHeartbeats 400000 in
theorem share_range (a n : Int) (w : World) (h : isRight a = false ∨ n < 0 ∨ 10000 < n) :
    Calls Try.prog 16 #[.int .i64 a, .int .i64 n] w fun e w' => e = .returned (.tuple #[.int .i64 0, .int .i64 11]) ∧ w = w' := by
  cases ha : isRight a
  · clear h
    go_enter Try.func16, Try.ntmps16
    go_wp2_with (go_at_call 9; refine (right_any _ _).mono ?_; rintro e w' ⟨rfl, rfl⟩)
    go_ret2
    exact ⟨rfl, rfl⟩
  · have hn : n < 0 ∨ 10000 < n := by rw [ha] at h; simpa using h
    clear h
    rcases hn with hn | hn
    all_goals
      go_enter Try.func16, Try.ntmps16
      go_wp2_with (go_at_call 9; refine (right_any _ _).mono ?_; rintro e w' ⟨rfl, rfl⟩)
      go_ret2
      exact ⟨rfl, rfl⟩

set_option maxHeartbeats 400000 in
theorem share_ok (a n : Int) (w : World) (ha : isRight a = true) (hn : 0 ≤ n) (h : n ≤ 10000) :
    Calls Try.prog 16 #[.int .i64 a, .int .i64 n] w fun e w' => e = .returned (.tuple #[.int .i64 (a * n / 10000), .int .i64 0]) ∧ w = w' := by
  have hr := right_yes ha
  have hp := part_bd a n hr.1 hr.2 hn h
  go_enter Try.func16, Try.ntmps16
  go_wp2_with (go_at_call 9; refine (right_any _ _).mono ?_; rintro e w' ⟨rfl, rfl⟩)
  go_ret2
  exact ⟨rfl, rfl⟩

def fitsB (m q : Int) : Bool := decide (m * 10000 ≤ q)
set_option maxHeartbeats 400000 in
theorem fits_any (m a n : Int) (w : World) (ha : 0 ≤ a) (ha2 : a ≤ 1099511627776) (hn : 0 ≤ n) (h : n ≤ 10000) (hm : 0 ≤ m) (hm2 : m ≤ 1099511627776) :
    Calls Try.prog 21 #[.int .i64 m, .int .i64 a, .int .i64 n] w fun e w' => e = .returned (.bool (fitsB m (a * n))) ∧ w = w' := by
  have hp := part_bd a n ha ha2 hn h
  go_enter Try.func21, Try.ntmps21
  go_wp2
  go_ret
  exact ⟨rfl, rfl⟩

set_option maxHeartbeats 1000000 in
theorem rshare_ok (a n : Int) (w : World) (ha : isRight a = true) (hn : 0 ≤ n) (h : n ≤ 10000) :
    Calls Try.prog 17 #[.int .i64 a, .int .i64 n] w fun e w' => e = .returned (.int .i64 (a * n / 10000)) ∧ w = w' := by
  have hr := right_yes ha
  have hp := part_bd a n hr.1 hr.2 hn h
  have hq := part_le a n hr.1 hn h
  obtain ⟨r1, r2⟩ := hr
  obtain ⟨p1, p2⟩ := hp
  obtain ⟨q, hqq⟩ : ∃ q, q = a * n := ⟨_, rfl⟩
  have Q := Lib.hid hqq
  rw [← hqq] at p1 p2 hq ⊢
  clear hqq ha
  go_enter Try.func17, Try.ntmps17
  go_wp2
  go_loop [5, 6] (fun x y => ∃ l u : Int, x = .int .i64 l ∧ y = .int .i64 u ∧ 0 ≤ l ∧ l ≤ u ∧ u ≤ a ∧ l * 10000 ≤ q ∧ q < (u + 1) * 10000) (fun x y => (intOf y - intOf x).toNat)
  case atStart => exact ⟨0, a, rfl, rfl, by omega, by omega, by omega, by omega, by omega⟩
  case round =>
    obtain ⟨l, u, rfl, rfl, h1, h2, h3, h4, h5⟩ := hrel
    by_cases hlt : l < u
    · cases hf : fitsB (u - (u - l) / 2) q
      · have F := Lib.hid hf
        rw [Q.out] at hf
        go_wp2_with (go_at_call 21; refine (fits_any _ _ _ _ (by omega) (by omega) (by omega) (by omega) (by omega) (by omega)).mono ?_; rintro e w' ⟨rfl, rfl⟩)
        have : ¬ ((u - (u - l) / 2) * 10000 ≤ q) := by have := F.out; simpa [fitsB] using this
        go_round
        case rel => exact ⟨l, _, rfl, rfl, by omega, by omega, by omega, by omega, by omega⟩
        case measure => simp [intOf] <;> omega
      · have F := Lib.hid hf
        rw [Q.out] at hf
        go_wp2_with (go_at_call 21; refine (fits_any _ _ _ _ (by omega) (by omega) (by omega) (by omega) (by omega) (by omega)).mono ?_; rintro e w' ⟨rfl, rfl⟩)
        have : (u - (u - l) / 2) * 10000 ≤ q := by have := F.out; simpa [fitsB] using this
        go_round
        case rel => exact ⟨_, u, rfl, rfl, by omega, by omega, by omega, by omega, by omega⟩
        case measure => simp [intOf] <;> omega
    · obtain rfl : l = u := by omega
      go_wp2
      go_ret
      exact ⟨ret_int (by omega), rfl⟩

set_option maxHeartbeats 400000 in
theorem step_range (a : Int) (w : World) (ha : isRight a = false) :
    Calls Try.prog 20 #[.int .i64 a] w fun e w' => e = .returned (.tuple #[.int .i64 0, .int .i64 11]) ∧ w = w' := by
  go_enter Try.func20, Try.ntmps20
  go_wp2_with (go_at_call 9; refine (right_any _ _).mono ?_; rintro e w' ⟨rfl, rfl⟩)
  go_ret2
  exact ⟨rfl, rfl⟩

def stepOf (a : Int) : Int := if a < 40 then 1 else a / 20
set_option maxHeartbeats 400000 in
theorem step_ok (a : Int) (w : World) (ha : isRight a = true) :
    Calls Try.prog 20 #[.int .i64 a] w fun e w' => e = .returned (.tuple #[.int .i64 (stepOf a), .int .i64 0]) ∧ w = w' := by
  have hr := right_yes ha
  by_cases h : a / 20 < 1
  · go_enter Try.func20, Try.ntmps20
    go_wp2_with (go_at_call 9; refine (right_any _ _).mono ?_; rintro e w' ⟨rfl, rfl⟩)
    go_ret2
    exact ⟨ret_ints (by unfold stepOf; split <;> omega) rfl, rfl⟩
  · go_enter Try.func20, Try.ntmps20
    go_wp2_with (go_at_call 9; refine (right_any _ _).mono ?_; rintro e w' ⟨rfl, rfl⟩)
    go_ret2
    exact ⟨ret_ints (by unfold stepOf; split <;> omega) rfl, rfl⟩

end Go.Proofs.Ytkmldcichedejaa.gold
