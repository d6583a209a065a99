/-
  Contracts of package rect and of its reference, over the seat's translation.
-/
import Derived.Test.YtndhdpjgnepfnaaBase
namespace Go.Proofs.Ytndhdpjgnepfnaa.rect
open Go.RowKit
open base (ret_bool ret_int made up Blk)
set_option linter.unusedVariables false

def spanB (f n : Int) : Bool := decide (0 ≤ f ∧ f < 256 ∧ 1 ≤ n ∧ n ≤ 256 - f)
theorem span_yes {f n : Int} (h : spanB f n = true) : 0 ≤ f ∧ f < 256 ∧ 1 ≤ n ∧ n ≤ 256 - f := by simpa [spanB] using h

set_option maxHeartbeats 400000 in
theorem span_any (f n : Int) (w : World) : Calls Try.prog 47 #[.int .i64 f, .int .i64 n] w fun e w' => e = .returned (.bool (spanB f n)) ∧ w = w' := by
  by_cases h1 : 0 ≤ f
  · by_cases h2 : f < 256
    · by_cases h3 : 1 ≤ n
      · by_cases h4 : n ≤ 256 - f
        all_goals
          go_enter Try.func47, Try.ntmps47
          go_wp2
          go_ret
          exact ⟨ret_bool (by simp [spanB] <;> omega), rfl⟩
      · go_enter Try.func47, Try.ntmps47
        go_wp2
        go_ret
        exact ⟨ret_bool (by simp [spanB] <;> omega), rfl⟩
    · go_enter Try.func47, Try.ntmps47
      go_wp2
      go_ret
      exact ⟨ret_bool (by simp [spanB] <;> omega), rfl⟩
  · go_enter Try.func47, Try.ntmps47
    go_wp2
    go_ret
    exact ⟨ret_bool (by simp [spanB] <;> omega), rfl⟩

def rightB (x y w h : Int) : Bool := spanB x w && spanB y h

set_option maxHeartbeats 400000 in
theorem right_any (x y u z : Int) (w : World) : Calls Try.prog 35 #[(.agg #[.int .i64 x, .int .i64 y, .int .i64 u, .int .i64 z])] w fun e w' => e = .returned (.bool (rightB x y u z)) ∧ Below w.heap.size w w' := by
  cases h1 : spanB x u
  all_goals
    go_enter Try.func35, Try.ntmps35
    go_wp2_with (first | (go_at_call 47; refine (span_any _ _ _).mono ?_; rintro e w' ⟨rfl, rfl⟩))
    go_ret
    exact ⟨ret_bool (by simp [rightB, h1]), (Below.refl _ _).alloc (Nat.le_refl _) _⟩

theorem right_eq (x y u z : Int) : rightB x y u z = decide (0 ≤ x ∧ x < 256 ∧ 1 ≤ u ∧ u ≤ 256 - x ∧ 0 ≤ y ∧ y < 256 ∧ 1 ≤ z ∧ z ≤ 256 - y) := by
  unfold rightB spanB
  rw [← Bool.decide_and]
  congr 1
  apply propext
  omega
theorem right_mk {x y u z : Int} (h : 0 ≤ x ∧ x < 256 ∧ 1 ≤ u ∧ u ≤ 256 - x ∧ 0 ≤ y ∧ y < 256 ∧ 1 ≤ z ∧ z ≤ 256 - y) : rightB x y u z = true := by rw [right_eq]; exact decide_eq_true h
theorem right_no {x y u z : Int} (h : ¬ (0 ≤ x ∧ x < 256 ∧ 1 ≤ u ∧ u ≤ 256 - x ∧ 0 ≤ y ∧ y < 256 ∧ 1 ≤ z ∧ z ≤ 256 - y)) : rightB x y u z = false := by rw [right_eq]; exact decide_eq_false h

set_option maxHeartbeats 1000000 in
theorem rright_any (x y u z : Int) (hx : -9223372036854775808 ≤ x) (w : World) : Calls Try.prog 31 #[(.agg #[.int .i64 x, .int .i64 y, .int .i64 u, .int .i64 z])] w fun e w' => e = .returned (.bool (rightB x y u z)) ∧ Below w.heap.size w w' := by
  by_cases h0 : x < 0
  · go_enter Try.func31, Try.ntmps31
    go_wp2
    go_ret
    exact ⟨ret_bool (by first | exact (right_no (by omega)).symm | exact (right_mk (by omega)).symm), made _ _⟩
  by_cases h1 : 255 < x
  · go_enter Try.func31, Try.ntmps31
    go_wp2
    go_ret
    exact ⟨ret_bool (by first | exact (right_no (by omega)).symm | exact (right_mk (by omega)).symm), made _ _⟩
  by_cases h2 : y < 0
  · go_enter Try.func31, Try.ntmps31
    go_wp2
    go_ret
    exact ⟨ret_bool (by first | exact (right_no (by omega)).symm | exact (right_mk (by omega)).symm), made _ _⟩
  by_cases h3 : 255 < y
  · go_enter Try.func31, Try.ntmps31
    go_wp2
    go_ret
    exact ⟨ret_bool (by first | exact (right_no (by omega)).symm | exact (right_mk (by omega)).symm), made _ _⟩
  by_cases h4 : u < 1
  · go_enter Try.func31, Try.ntmps31
    go_wp2
    go_ret
    exact ⟨ret_bool (by first | exact (right_no (by omega)).symm | exact (right_mk (by omega)).symm), made _ _⟩
  by_cases h5 : 256 - x < u
  · go_enter Try.func31, Try.ntmps31
    go_wp2
    go_ret
    exact ⟨ret_bool (by first | exact (right_no (by omega)).symm | exact (right_mk (by omega)).symm), made _ _⟩
  by_cases h6 : z < 1
  · go_enter Try.func31, Try.ntmps31
    go_wp2
    go_ret
    exact ⟨ret_bool (by first | exact (right_no (by omega)).symm | exact (right_mk (by omega)).symm), made _ _⟩
  by_cases h7 : 256 - y < z
  · have hd : decide (z ≤ 256 - y) = false := decide_eq_false (by omega)
    go_enter Try.func31, Try.ntmps31
    go_wp2
    go_ret
    exact ⟨ret_bool (by first | exact (right_no (by omega)).symm | exact (right_mk (by omega)).symm), made _ _⟩
  · go_enter Try.func31, Try.ntmps31
    go_wp2
    go_ret
    exact ⟨ret_bool (by first | exact (right_no (by omega)).symm | exact (right_mk (by omega)).symm), made _ _⟩

def holdsB (x y u z i k : Int) : Bool := rightB x y u z && decide (x ≤ i ∧ i < x + u ∧ y ≤ k ∧ k < y + z)
theorem right_yes {x y u z : Int} (h : rightB x y u z = true) : (0 ≤ x ∧ x < 256 ∧ 1 ≤ u ∧ u ≤ 256 - x) ∧ (0 ≤ y ∧ y < 256 ∧ 1 ≤ z ∧ z ≤ 256 - y) := by
  simp only [rightB, Bool.and_eq_true] at h
  exact ⟨span_yes h.1, span_yes h.2⟩

theorem holds_mk {x y u z i k : Int} (hr : rightB x y u z = true) (h : x ≤ i ∧ i < x + u ∧ y ≤ k ∧ k < y + z) : holdsB x y u z i k = true := by simp [holdsB, hr, h]
theorem holds_no {x y u z i k : Int} (h : ¬ (x ≤ i ∧ i < x + u ∧ y ≤ k ∧ k < y + z)) : holdsB x y u z i k = false := by
  unfold holdsB; rw [decide_eq_false h, Bool.and_false]

set_option maxHeartbeats 2000000 in
theorem rholds_any (x y u z i k : Int) (hx : -9223372036854775808 ≤ x) (hi : -9223372036854775808 ≤ i ∧ i ≤ 9223372036854775807) (hk : -9223372036854775808 ≤ k ∧ k ≤ 9223372036854775807) (w : World) :
    Calls Try.prog 38 #[(.agg #[.int .i64 x, .int .i64 y, .int .i64 u, .int .i64 z]), .int .i64 i, .int .i64 k] w fun e w' => e = .returned (.bool (holdsB x y u z i k)) ∧ Below w.heap.size w w' := by
  obtain ⟨i1, i2⟩ := hi
  obtain ⟨k1, k2⟩ := hk
  cases hr : rightB x y u z
  · go_enter Try.func38, Try.ntmps38
    go_wp2_with (first | (go_at_call 31; refine (rright_any _ _ _ _ hx _).mono ?_; rintro e w1 ⟨rfl, hb1⟩))
    go_ret
    exact ⟨ret_bool (by simp [holdsB, hr]), up (made _ _) hb1 (by simp)⟩
  · have hy := right_yes hr
    obtain ⟨⟨y1, y2, y3, y4⟩, y5, y6, y7, y8⟩ := hy
    by_cases h1 : x ≤ i
    · by_cases h2 : i < x + u
      · have h2' : i - x < u := by omega
        by_cases h3 : y ≤ k
        · by_cases h4 : k < y + z
          · have h4' : k - y < z := by omega
            have hd : decide (k < 256) = true := decide_eq_true (by omega)
            go_enter Try.func38, Try.ntmps38
            go_wp2_with (first | (go_at_call 31; refine (rright_any _ _ _ _ hx _).mono ?_; rintro e w1 ⟨rfl, hb1⟩; obtain ⟨c0, c1, c2, c3⟩ := ((base.Blk.new _ _ _).below hb1 (by simp)).four))
            go_ret
            exact ⟨ret_bool (by first | exact (holds_no (by omega)).symm | exact (holds_mk hr (by omega)).symm), up (made _ _) hb1 (by simp)⟩
          · have h4' : ¬ (k - y < z) := by omega
            have hd : decide (k - y < z) = false := decide_eq_false h4'
            go_enter Try.func38, Try.ntmps38
            go_wp2_with (first | (go_at_call 31; refine (rright_any _ _ _ _ hx _).mono ?_; rintro e w1 ⟨rfl, hb1⟩; obtain ⟨c0, c1, c2, c3⟩ := ((base.Blk.new _ _ _).below hb1 (by simp)).four))
            go_ret
            exact ⟨ret_bool (by first | exact (holds_no (by omega)).symm | exact (holds_mk hr (by omega)).symm), up (made _ _) hb1 (by simp)⟩
        · go_enter Try.func38, Try.ntmps38
          go_wp2_with (first | (go_at_call 31; refine (rright_any _ _ _ _ hx _).mono ?_; rintro e w1 ⟨rfl, hb1⟩; obtain ⟨c0, c1, c2, c3⟩ := ((base.Blk.new _ _ _).below hb1 (by simp)).four))
          go_ret
          exact ⟨ret_bool (by first | exact (holds_no (by omega)).symm | exact (holds_mk hr (by omega)).symm), up (made _ _) hb1 (by simp)⟩
      · have h2' : ¬ (i - x < u) := by omega
        go_enter Try.func38, Try.ntmps38
        go_wp2_with (first | (go_at_call 31; refine (rright_any _ _ _ _ hx _).mono ?_; rintro e w1 ⟨rfl, hb1⟩; obtain ⟨c0, c1, c2, c3⟩ := ((base.Blk.new _ _ _).below hb1 (by simp)).four))
        go_ret
        exact ⟨ret_bool (by first | exact (holds_no (by omega)).symm | exact (holds_mk hr (by omega)).symm), up (made _ _) hb1 (by simp)⟩
    · go_enter Try.func38, Try.ntmps38
      go_wp2_with (first | (go_at_call 31; refine (rright_any _ _ _ _ hx _).mono ?_; rintro e w1 ⟨rfl, hb1⟩; obtain ⟨c0, c1, c2, c3⟩ := ((base.Blk.new _ _ _).below hb1 (by simp)).four))
      go_ret
      exact ⟨ret_bool (by first | exact (holds_no (by omega)).symm | exact (holds_mk hr (by omega)).symm), up (made _ _) hb1 (by simp)⟩

end Go.Proofs.Ytndhdpjgnepfnaa.rect
