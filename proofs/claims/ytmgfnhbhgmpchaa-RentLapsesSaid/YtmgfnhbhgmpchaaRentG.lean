/-
  Products of gold, and the reference's, over this seat.
-/
import Derived.Test.YtmgfnhbhgmpchaaBase
namespace Go.Proofs.Ytmgfnhbhgmpchaa.gold
open Go.RowKit
open base (Nums ret_bool ret_int)
set_option linter.unusedVariables false

def isRight (n : Int) : Bool := decide (0 ≤ n ∧ n ≤ 1099511627776)
theorem right_yes {n : Int} (h : isRight n = true) : 0 ≤ n ∧ n ≤ 1099511627776 := by simpa [isRight] using h
theorem right_no {n : Int} (h : isRight n = false) : n < 0 ∨ 1099511627776 < n := by
  simp [isRight] at h; omega
theorem right_mk {n : Int} (h0 : 0 ≤ n) (h1 : n ≤ 1099511627776) : isRight n = true := by simp [isRight, h0, h1]
theorem ret_ints {a b c d : Int} (h : a = c) (h' : b = d) : Ending.returned (.tuple #[.int .i64 a, .int .i64 b]) = .returned (.tuple #[.int .i64 c, .int .i64 d]) := by rw [h, h']

set_option maxHeartbeats 400000 in
theorem right_any (n : Int) (w : World) :
    Calls Try.prog 43 #[.int .i64 n] w fun e w' => e = .returned (.bool (isRight n)) ∧ w = w' := by
  go_enter Try.func43, Try.ntmps43
  go_wp2
  all_goals (go_ret; exact ⟨ret_bool (by simp [isRight]; omega), rfl⟩)

theorem mul_big (a n : Int) (ha : 0 < a) (h : 1099511627776 / a < n) : 1099511627776 < a * n := by
  have h1 : 1099511627776 < n * a := (Int.ediv_lt_iff_lt_mul ha).1 h
  rwa [Int.mul_comm] at h1
theorem mul_small (a n : Int) (ha : 0 < a) (h : n ≤ 1099511627776 / a) : a * n ≤ 1099511627776 := by
  have h1 : n * a ≤ 1099511627776 := (Int.le_ediv_iff_mul_le ha).1 h
  rwa [Int.mul_comm] at h1

set_option maxHeartbeats 400000 in
theorem times_range (a n : Int) (w : World) (h : isRight a = false ∨ n < 0) :
    Calls Try.prog 32 #[.int .i64 a, .int .i64 n] w fun e w' => e = .returned (.tuple #[.int .i64 0, .int .i64 11]) ∧ w = w' := by
  cases ha : isRight a
  · clear h
    go_enter Try.func32, Try.ntmps32
    go_wp2_with (go_at_call 43; refine (right_any _ _).mono ?_; rintro e w' ⟨rfl, rfl⟩)
    go_ret2
    exact ⟨rfl, rfl⟩
  · have hn : n < 0 := by rw [ha] at h; simpa using h
    clear h
    go_enter Try.func32, Try.ntmps32
    go_wp2_with (go_at_call 43; refine (right_any _ _).mono ?_; rintro e w' ⟨rfl, rfl⟩)
    go_ret2
    exact ⟨rfl, rfl⟩

set_option maxHeartbeats 400000 in
theorem times_over (a n : Int) (w : World) (ha : isRight a = true) (hn : 0 ≤ n) (h : 1099511627776 < a * n) :
    Calls Try.prog 32 #[.int .i64 a, .int .i64 n] w fun e w' => e = .returned (.tuple #[.int .i64 0, .int .i64 15]) ∧ w = w' := by
  have hr := right_yes ha
  have h0 : 0 < a := by
    by_cases h0 : a = 0
    · subst h0; simp at h
    · omega
  have hq : 1099511627776 / a < n := by
    by_cases hq : n ≤ 1099511627776 / a
    · have := mul_small a n h0 hq; omega
    · omega
  clear h
  go_enter Try.func32, Try.ntmps32
  go_wp2_with (go_at_call 43; refine (right_any _ _).mono ?_; rintro e w' ⟨rfl, rfl⟩)
  go_ret2
  exact ⟨rfl, rfl⟩

set_option maxHeartbeats 400000 in
theorem times_ok (a n : Int) (w : World) (ha : isRight a = true) (hn : 0 ≤ n) (h : a * n ≤ 1099511627776) :
    Calls Try.prog 32 #[.int .i64 a, .int .i64 n] w fun e w' => e = .returned (.tuple #[.int .i64 (a * n), .int .i64 0]) ∧ w = w' := by
  have hr := right_yes ha
  have hp : 0 ≤ a * n := Int.mul_nonneg hr.1 hn
  by_cases h0 : a = 0
  · subst h0
    go_enter Try.func32, Try.ntmps32
    go_wp2_with (go_at_call 43; refine (right_any _ _).mono ?_; rintro e w' ⟨rfl, rfl⟩)
    go_ret2
    exact ⟨ret_ints (by simp) rfl, rfl⟩
  · have h1 : 0 < a := by omega
    have hq : n ≤ 1099511627776 / a := by
      by_cases hq : 1099511627776 / a < n
      · have := mul_big a n h1 hq; omega
      · omega
    clear h0
    go_enter Try.func32, Try.ntmps32
    go_wp2_with (go_at_call 43; refine (right_any _ _).mono ?_; rintro e w' ⟨rfl, rfl⟩)
    go_ret2
    exact ⟨rfl, rfl⟩

/-! the reference's product, by doubling -/
def TimesPost (p : Int) (w : World) (e : Ending) (w' : World) : Prop :=
  ((p ≤ 1099511627776 ∧ e = .returned (.int .i64 p)) ∨ (1099511627776 < p ∧ e = .returned (.int .i64 (-1)))) ∧ w = w'

theorem dbl_even (a n : Int) (h : n % 2 = 0) : (a + a) * (n / 2) = a * n := by
  have : n = 2 * (n / 2) := by omega
  calc (a + a) * (n / 2) = a * (2 * (n / 2)) := by rw [← Int.two_mul, Int.mul_comm 2 a, Int.mul_assoc]
    _ = a * n := by rw [← this]
theorem dbl_odd (a n : Int) (h : n % 2 = 1) : (a + a) * (n / 2) = a * n - a := by
  have : n = 2 * (n / 2) + 1 := by omega
  have h2 : a * n = a * (2 * (n / 2)) + a := by
    calc a * n = a * (2 * (n / 2) + 1) := by rw [← this]
      _ = _ := by rw [Int.mul_add, Int.mul_one]
  calc (a + a) * (n / 2) = a * (2 * (n / 2)) := by rw [← Int.two_mul, Int.mul_comm 2 a, Int.mul_assoc]
    _ = a * n - a := by omega
theorem mul_ge (a n : Int) (ha : 0 ≤ a) (hn : 1 ≤ n) : a ≤ a * n := by
  have := Int.mul_le_mul_of_nonneg_left hn ha
  simpa using this

def TimesAt (p s a n : Int) : Prop := 0 ≤ s ∧ s ≤ 1099511627776 ∧ 0 ≤ n ∧ n ≤ 9223372036854775807 ∧ 0 ≤ a ∧ a ≤ 2199023255552 ∧ (0 < n → a ≤ 1099511627776) ∧ p = s + a * n
theorem TimesAt.bd {p s a n : Int} (h : TimesAt p s a n) : 0 ≤ s ∧ s ≤ 1099511627776 ∧ 0 ≤ n ∧ n ≤ 9223372036854775807 ∧ 0 ≤ a ∧ a ≤ 2199023255552 := ⟨h.1, h.2.1, h.2.2.1, h.2.2.2.1, h.2.2.2.2.1, h.2.2.2.2.2.1⟩
theorem TimesAt.half {p s a n : Int} (h : TimesAt p s a n) (hn : 0 < n) : a ≤ 1099511627776 := h.2.2.2.2.2.2.1 hn
theorem TimesAt.done {p s a : Int} {w : World} {e : Ending} (h : TimesAt p s a 0) (he : e = .returned (.int .i64 s)) : TimesPost p w e w := by
  obtain ⟨_, h1, _, _, _, _, _, h3⟩ := h
  have : p = s := by simpa using h3
  subst this
  exact ⟨Or.inl ⟨h1, he⟩, rfl⟩
theorem TimesAt.over1 {p s a n : Int} {w : World} {e : Ending} (h : TimesAt p s a n) (hn : 0 < n) (ho : 1099511627776 - s < a) (he : e = .returned (.int .i64 (-1))) : TimesPost p w e w := by
  obtain ⟨h0, h1, _, _, h2, _, _, h3⟩ := h
  have := mul_ge a n h2 hn
  exact ⟨Or.inr ⟨by omega, he⟩, rfl⟩
theorem TimesAt.over2 {p s a n : Int} {w : World} {e : Ending} (h : TimesAt p s a n) (hn : 0 < n / 2) (ho : 1099511627776 - a < a) (he : e = .returned (.int .i64 (-1))) : TimesPost p w e w := by
  obtain ⟨h0, h1, _, _, h2, _, _, h3⟩ := h
  have h4 := mul_ge (a + a) (n / 2) (by omega) hn
  rcases (show n % 2 = 0 ∨ n % 2 = 1 from by omega) with g | g
  · rw [dbl_even a n g] at h4
    exact ⟨Or.inr ⟨by omega, he⟩, rfl⟩
  · rw [dbl_odd a n g] at h4
    exact ⟨Or.inr ⟨by omega, he⟩, rfl⟩
theorem TimesAt.even {p s a n : Int} (h : TimesAt p s a n) (hn : 0 < n) (g : n % 2 = 0) (ho : 0 < n / 2 → a ≤ 1099511627776 - a) : TimesAt p s (a + a) (n / 2) := by
  obtain ⟨h0, h1, h5, h6, h2, h7, h8, h3⟩ := h
  exact ⟨h0, h1, by omega, by omega, by omega, by have := h8 hn; omega, fun q => by have := ho q; omega, by rw [dbl_even a n g]; exact h3⟩
theorem TimesAt.odd {p s a n : Int} (h : TimesAt p s a n) (hn : 0 < n) (g : n % 2 = 1) (hs : a ≤ 1099511627776 - s) (ho : 0 < n / 2 → a ≤ 1099511627776 - a) : TimesAt p (s + a) (a + a) (n / 2) := by
  obtain ⟨h0, h1, h5, h6, h2, h7, h8, h3⟩ := h
  exact ⟨by omega, by omega, by omega, by omega, by omega, by have := h8 hn; omega, fun q => by have := ho q; omega, by rw [dbl_odd a n g]; omega⟩

set_option maxHeartbeats 1000000 in
theorem rtimes_any (a n : Int) (w : World) (ha : isRight a = true) (hn : 0 ≤ n) (hn2 : n ≤ 9223372036854775807) :
    Calls Try.prog 17 #[.int .i64 a, .int .i64 n] w (TimesPost (a * n) w) := by
  have hr := right_yes ha
  have h0 : TimesAt (a * n) 0 a n := ⟨by omega, by omega, hn, hn2, hr.1, by omega, fun _ => hr.2, by omega⟩
  generalize a * n = p at h0
  have H0 := Lib.hid h0
  clear h0 ha
  go_enter Try.func17, Try.ntmps17
  go_wp2
  go_loop [0, 1, 5] (fun x y t => ∃ a n s : Int, x = .int .i64 a ∧ y = .int .i64 n ∧ t = .int .i64 s ∧ TimesAt p s a n) (fun _ y _ => (intOf y).toNat)
  case atStart => exact ⟨a, n, 0, rfl, rfl, rfl, H0.out⟩
  case round =>
    clear H0 hr hn hn2
    obtain ⟨a, n, s, rfl, rfl, rfl, hs⟩ := hrel
    obtain ⟨b1, b2, b3, b4, b5, b6⟩ := hs.bd
    by_cases hp : 0 < n
    · have hh := hs.half hp
      rcases (show n % 2 = 0 ∨ n % 2 = 1 from by omega) with g | g
      · have G := Lib.hid g
        clear g
        have g2 : ¬ (n % 2 = 1) := by have := G.out; omega
        have H := Lib.hid hs
        clear hs
        by_cases hq : 0 < n / 2
        · by_cases ho : 1099511627776 - a < a
          · have O := Lib.hid ho
            go_wp2
            go_ret
            exact H.out.over2 hq O.out rfl
          · have O := Lib.hid ho
            go_wp2
            go_round
            case rel => exact ⟨_, _, _, rfl, rfl, rfl, H.out.even hp G.out (fun _ => by have := O.out; omega)⟩
            case measure => simp [intOf] <;> omega
        · have := G.out
          omega
      · have G := Lib.hid g
        have H := Lib.hid hs
        clear hs
        by_cases hs2 : 1099511627776 - s < a
        · have O := Lib.hid hs2
          go_wp2
          go_ret
          exact H.out.over1 hp O.out rfl
        · have O1 := Lib.hid hs2
          by_cases hq : 0 < n / 2
          · by_cases ho : 1099511627776 - a < a
            · have O := Lib.hid ho
              go_wp2
              go_ret
              exact H.out.over2 hq O.out rfl
            · have O := Lib.hid ho
              go_wp2
              go_round
              case rel => exact ⟨_, _, _, rfl, rfl, rfl, H.out.odd hp G.out (by have := O1.out; omega) (fun _ => by have := O.out; omega)⟩
              case measure => simp [intOf] <;> omega
          · go_wp2
            go_round
            case rel => exact ⟨_, _, _, rfl, rfl, rfl, H.out.odd hp G.out (by have := O1.out; omega) (fun h => absurd h hq)⟩
            case measure => simp [intOf] <;> omega
    · obtain rfl : n = 0 := by omega
      have H := Lib.hid hs
      clear hs
      go_wp2
      go_ret
      exact H.out.done rfl
end Go.Proofs.Ytmgfnhbhgmpchaa.gold
