/-
  QuadMakes (P15.1): for every side the law answers true. Conditions: none.
-/
import Derived.Test.YtpfnkmlfpkjkpaaQdU
namespace Go.Proofs.Ytpfnkmlfpkjkpaa.quadMakes
open Go.ChangeShapes Go.WideShapes Go.ChangeAt Go.RowKit Go.Shelf
open qd
open base (ret_bool ret_int made up Blk Only)
set_option linter.unusedVariables false
set_option linter.unusedSimpArgs false
attribute [local go_sem] Oper.semAt_some

theorem pow_ne {k j : Nat} (h : k ≠ j) : ((2 ^ k : Nat) : Int) ≠ ((2 ^ j : Nat) : Int) := by
  rcases Nat.lt_or_ge k j with q | q
  · have := Nat.pow_lt_pow_right (a := 2) (by decide) q
    omega
  · have := Nat.pow_lt_pow_right (a := 2) (by decide) (show j < k by omega)
    omega
theorem fresh_cnt (k : Nat) (h : BoxR 0 0 ((2 ^ k : Nat) : Int)) : cnt 0 (lv (.leaf 0) k 0 0 0 0 ((2 ^ k : Nat) : Int) ((2 ^ k : Nat) : Int)) = ((2 ^ k : Nat) : Int) * ((2 ^ k : Nat) : Int) := by
  have hm : meetP 0 0 ((2 ^ k : Nat) : Int) 0 0 ((2 ^ k : Nat) : Int) ((2 ^ k : Nat) : Int) := by
    have hr := h.right
    unfold BoxR at h
    exact ⟨hr, by omega, by omega, by omega, by omega⟩
  unfold lv
  rw [if_pos hm]
  simp [cnt]
set_option maxRecDepth 100000 in
set_option maxHeartbeats 4000000 in
theorem walk_yes (k : Nat) (w : World) (hk : k ≤ 8) : Calls Try.prog 7 #[.int .i64 ((2 ^ k : Nat) : Int)] w fun e w' => e = .returned (.bool true) ∧ Below w.heap.size w w' := by
  have NY := Lib.hid (new_yes k w hk)
  have AW := Lib.hid (fun W => awake_any W)
  have HC := Lib.hid hk
  go_enter Try.func7, Try.ntmps7
  go_wp2_with fail
  go_loopw [3, 4, 6] (fun a c i wr => ∃ (j : Nat), wr = w ∧ j ≤ 9 ∧ a = .bool (decide (k < j)) ∧ i = .int .i64 j) (fun _ _ i _ => 9 - (intOf i).toNat)
  case atStart => exact ⟨0, rfl, by omega, rfl, rfl⟩
  case round =>
  obtain ⟨j, hw, hj, rfl, rfl⟩ := hrel
  subst hw
  rcases (show j = 0 ∨ j = 1 ∨ j = 2 ∨ j = 3 ∨ j = 4 ∨ j = 5 ∨ j = 6 ∨ j = 7 ∨ j = 8 ∨ j = 9 by omega) with rfl | rfl | rfl | rfl | rfl | rfl | rfl | rfl | rfl | rfl
  · by_cases hk1 : k < 0
    · rw [decide_eq_true hk1]
      have H1 := Lib.hid hk1
      clear hk1 NY AW
      go_wp2_with fail
      exact ⟨⟨0 + 1, trivial, by omega, by rw [decide_eq_true (show k < 0 + 1 by have := H1.out; omega)], by go_num⟩, by simp [intOf]⟩
    · rw [decide_eq_false hk1]
      by_cases hk2 : k = 0
      · subst hk2
        clear hk1 NY AW HC
        go_wp2_with fail
        exact ⟨⟨0 + 1, trivial, by omega, by rw [decide_eq_true (by omega)], by go_num⟩, by simp [intOf]⟩
      · have q1 : (((2 ^ k : Nat) : Int) == 1) = false := by
          rw [beq_eq_false_iff_ne]; exact pow_ne hk2
        have q2 : decide (((2 ^ k : Nat) : Int) = 1) = false := decide_eq_false (pow_ne hk2)
        have H1 := Lib.hid hk1
        have H2 := Lib.hid hk2
        clear NY AW hk1 hk2
        generalize ((2 ^ k : Nat) : Int) = s at *
        go_wp2_with fail
        exact ⟨⟨0 + 1, trivial, by omega, by rw [decide_eq_false (show ¬ k < 0 + 1 by have := H1.out; have := H2.out; omega)], by go_num⟩, by simp [intOf]⟩
  · by_cases hk1 : k < 1
    · rw [decide_eq_true hk1]
      have H1 := Lib.hid hk1
      clear hk1 NY AW
      go_wp2_with fail
      exact ⟨⟨1 + 1, trivial, by omega, by rw [decide_eq_true (show k < 1 + 1 by have := H1.out; omega)], by go_num⟩, by simp [intOf]⟩
    · rw [decide_eq_false hk1]
      by_cases hk2 : k = 1
      · subst hk2
        clear hk1 NY AW HC
        go_wp2_with fail
        exact ⟨⟨1 + 1, trivial, by omega, by rw [decide_eq_true (by omega)], by go_num⟩, by simp [intOf]⟩
      · have q1 : (((2 ^ k : Nat) : Int) == 2) = false := by
          rw [beq_eq_false_iff_ne]; exact pow_ne hk2
        have q2 : decide (((2 ^ k : Nat) : Int) = 2) = false := decide_eq_false (pow_ne hk2)
        have H1 := Lib.hid hk1
        have H2 := Lib.hid hk2
        clear NY AW hk1 hk2
        generalize ((2 ^ k : Nat) : Int) = s at *
        go_wp2_with fail
        exact ⟨⟨1 + 1, trivial, by omega, by rw [decide_eq_false (show ¬ k < 1 + 1 by have := H1.out; have := H2.out; omega)], by go_num⟩, by simp [intOf]⟩
  · by_cases hk1 : k < 2
    · rw [decide_eq_true hk1]
      have H1 := Lib.hid hk1
      clear hk1 NY AW
      go_wp2_with fail
      exact ⟨⟨2 + 1, trivial, by omega, by rw [decide_eq_true (show k < 2 + 1 by have := H1.out; omega)], by go_num⟩, by simp [intOf]⟩
    · rw [decide_eq_false hk1]
      by_cases hk2 : k = 2
      · subst hk2
        clear hk1 NY AW HC
        go_wp2_with fail
        exact ⟨⟨2 + 1, trivial, by omega, by rw [decide_eq_true (by omega)], by go_num⟩, by simp [intOf]⟩
      · have q1 : (((2 ^ k : Nat) : Int) == 4) = false := by
          rw [beq_eq_false_iff_ne]; exact pow_ne hk2
        have q2 : decide (((2 ^ k : Nat) : Int) = 4) = false := decide_eq_false (pow_ne hk2)
        have H1 := Lib.hid hk1
        have H2 := Lib.hid hk2
        clear NY AW hk1 hk2
        generalize ((2 ^ k : Nat) : Int) = s at *
        go_wp2_with fail
        exact ⟨⟨2 + 1, trivial, by omega, by rw [decide_eq_false (show ¬ k < 2 + 1 by have := H1.out; have := H2.out; omega)], by go_num⟩, by simp [intOf]⟩
  · by_cases hk1 : k < 3
    · rw [decide_eq_true hk1]
      have H1 := Lib.hid hk1
      clear hk1 NY AW
      go_wp2_with fail
      exact ⟨⟨3 + 1, trivial, by omega, by rw [decide_eq_true (show k < 3 + 1 by have := H1.out; omega)], by go_num⟩, by simp [intOf]⟩
    · rw [decide_eq_false hk1]
      by_cases hk2 : k = 3
      · subst hk2
        clear hk1 NY AW HC
        go_wp2_with fail
        exact ⟨⟨3 + 1, trivial, by omega, by rw [decide_eq_true (by omega)], by go_num⟩, by simp [intOf]⟩
      · have q1 : (((2 ^ k : Nat) : Int) == 8) = false := by
          rw [beq_eq_false_iff_ne]; exact pow_ne hk2
        have q2 : decide (((2 ^ k : Nat) : Int) = 8) = false := decide_eq_false (pow_ne hk2)
        have H1 := Lib.hid hk1
        have H2 := Lib.hid hk2
        clear NY AW hk1 hk2
        generalize ((2 ^ k : Nat) : Int) = s at *
        go_wp2_with fail
        exact ⟨⟨3 + 1, trivial, by omega, by rw [decide_eq_false (show ¬ k < 3 + 1 by have := H1.out; have := H2.out; omega)], by go_num⟩, by simp [intOf]⟩
  · by_cases hk1 : k < 4
    · rw [decide_eq_true hk1]
      have H1 := Lib.hid hk1
      clear hk1 NY AW
      go_wp2_with fail
      exact ⟨⟨4 + 1, trivial, by omega, by rw [decide_eq_true (show k < 4 + 1 by have := H1.out; omega)], by go_num⟩, by simp [intOf]⟩
    · rw [decide_eq_false hk1]
      by_cases hk2 : k = 4
      · subst hk2
        clear hk1 NY AW HC
        go_wp2_with fail
        exact ⟨⟨4 + 1, trivial, by omega, by rw [decide_eq_true (by omega)], by go_num⟩, by simp [intOf]⟩
      · have q1 : (((2 ^ k : Nat) : Int) == 16) = false := by
          rw [beq_eq_false_iff_ne]; exact pow_ne hk2
        have q2 : decide (((2 ^ k : Nat) : Int) = 16) = false := decide_eq_false (pow_ne hk2)
        have H1 := Lib.hid hk1
        have H2 := Lib.hid hk2
        clear NY AW hk1 hk2
        generalize ((2 ^ k : Nat) : Int) = s at *
        go_wp2_with fail
        exact ⟨⟨4 + 1, trivial, by omega, by rw [decide_eq_false (show ¬ k < 4 + 1 by have := H1.out; have := H2.out; omega)], by go_num⟩, by simp [intOf]⟩
  · by_cases hk1 : k < 5
    · rw [decide_eq_true hk1]
      have H1 := Lib.hid hk1
      clear hk1 NY AW
      go_wp2_with fail
      exact ⟨⟨5 + 1, trivial, by omega, by rw [decide_eq_true (show k < 5 + 1 by have := H1.out; omega)], by go_num⟩, by simp [intOf]⟩
    · rw [decide_eq_false hk1]
      by_cases hk2 : k = 5
      · subst hk2
        clear hk1 NY AW HC
        go_wp2_with fail
        exact ⟨⟨5 + 1, trivial, by omega, by rw [decide_eq_true (by omega)], by go_num⟩, by simp [intOf]⟩
      · have q1 : (((2 ^ k : Nat) : Int) == 32) = false := by
          rw [beq_eq_false_iff_ne]; exact pow_ne hk2
        have q2 : decide (((2 ^ k : Nat) : Int) = 32) = false := decide_eq_false (pow_ne hk2)
        have H1 := Lib.hid hk1
        have H2 := Lib.hid hk2
        clear NY AW hk1 hk2
        generalize ((2 ^ k : Nat) : Int) = s at *
        go_wp2_with fail
        exact ⟨⟨5 + 1, trivial, by omega, by rw [decide_eq_false (show ¬ k < 5 + 1 by have := H1.out; have := H2.out; omega)], by go_num⟩, by simp [intOf]⟩
  · by_cases hk1 : k < 6
    · rw [decide_eq_true hk1]
      have H1 := Lib.hid hk1
      clear hk1 NY AW
      go_wp2_with fail
      exact ⟨⟨6 + 1, trivial, by omega, by rw [decide_eq_true (show k < 6 + 1 by have := H1.out; omega)], by go_num⟩, by simp [intOf]⟩
    · rw [decide_eq_false hk1]
      by_cases hk2 : k = 6
      · subst hk2
        clear hk1 NY AW HC
        go_wp2_with fail
        exact ⟨⟨6 + 1, trivial, by omega, by rw [decide_eq_true (by omega)], by go_num⟩, by simp [intOf]⟩
      · have q1 : (((2 ^ k : Nat) : Int) == 64) = false := by
          rw [beq_eq_false_iff_ne]; exact pow_ne hk2
        have q2 : decide (((2 ^ k : Nat) : Int) = 64) = false := decide_eq_false (pow_ne hk2)
        have H1 := Lib.hid hk1
        have H2 := Lib.hid hk2
        clear NY AW hk1 hk2
        generalize ((2 ^ k : Nat) : Int) = s at *
        go_wp2_with fail
        exact ⟨⟨6 + 1, trivial, by omega, by rw [decide_eq_false (show ¬ k < 6 + 1 by have := H1.out; have := H2.out; omega)], by go_num⟩, by simp [intOf]⟩
  · by_cases hk1 : k < 7
    · rw [decide_eq_true hk1]
      have H1 := Lib.hid hk1
      clear hk1 NY AW
      go_wp2_with fail
      exact ⟨⟨7 + 1, trivial, by omega, by rw [decide_eq_true (show k < 7 + 1 by have := H1.out; omega)], by go_num⟩, by simp [intOf]⟩
    · rw [decide_eq_false hk1]
      by_cases hk2 : k = 7
      · subst hk2
        clear hk1 NY AW HC
        go_wp2_with fail
        exact ⟨⟨7 + 1, trivial, by omega, by rw [decide_eq_true (by omega)], by go_num⟩, by simp [intOf]⟩
      · have q1 : (((2 ^ k : Nat) : Int) == 128) = false := by
          rw [beq_eq_false_iff_ne]; exact pow_ne hk2
        have q2 : decide (((2 ^ k : Nat) : Int) = 128) = false := decide_eq_false (pow_ne hk2)
        have H1 := Lib.hid hk1
        have H2 := Lib.hid hk2
        clear NY AW hk1 hk2
        generalize ((2 ^ k : Nat) : Int) = s at *
        go_wp2_with fail
        exact ⟨⟨7 + 1, trivial, by omega, by rw [decide_eq_false (show ¬ k < 7 + 1 by have := H1.out; have := H2.out; omega)], by go_num⟩, by simp [intOf]⟩
  · by_cases hk1 : k < 8
    · rw [decide_eq_true hk1]
      have H1 := Lib.hid hk1
      clear hk1 NY AW
      go_wp2_with fail
      exact ⟨⟨8 + 1, trivial, by omega, by rw [decide_eq_true (show k < 8 + 1 by have := H1.out; omega)], by go_num⟩, by simp [intOf]⟩
    · rw [decide_eq_false hk1]
      by_cases hk2 : k = 8
      · subst hk2
        clear hk1 NY AW HC
        go_wp2_with fail
        exact ⟨⟨8 + 1, trivial, by omega, by rw [decide_eq_true (by omega)], by go_num⟩, by simp [intOf]⟩
      · have q1 : (((2 ^ k : Nat) : Int) == 256) = false := by
          rw [beq_eq_false_iff_ne]; exact pow_ne hk2
        have q2 : decide (((2 ^ k : Nat) : Int) = 256) = false := decide_eq_false (pow_ne hk2)
        have H1 := Lib.hid hk1
        have H2 := Lib.hid hk2
        clear NY AW hk1 hk2
        generalize ((2 ^ k : Nat) : Int) = s at *
        go_wp2_with fail
        exact ⟨⟨8 + 1, trivial, by omega, by rw [decide_eq_false (show ¬ k < 8 + 1 by have := H1.out; have := H2.out; omega)], by go_num⟩, by simp [intOf]⟩
  · rw [decide_eq_true (show k < 9 by omega)]
    clear hj hk
    go_wp2_with fail
    refine NY.out.mono ?_
    rintro e w1 ⟨rfl, hb1, hq1⟩
    have B1 := Lib.hid hb1
    have Q1 := Lib.hid hq1
    have SA := Lib.hid (side_any _ k (.leaf 0) w1 hq1)
    have NA := Lib.hid (qnodes_any _ k (.leaf 0) w1 hq1)
    have CA := Lib.hid (count_any _ k (.leaf 0) 0 w1 hq1)
    have FC := Lib.hid (fresh_cnt k hq1.box)
    have hw := IntWalk.i64_in (((2 ^ k : Nat) : Int) * ((2 ^ k : Nat) : Int)) (by
      have h1 : 4 ^ k ≤ 4 ^ 8 := Nat.pow_le_pow_right (by decide) HC.out
      have h2 : 4 ^ 8 = 65536 := by decide
      have h3 := sq_pow k
      have h4 : 0 < 4 ^ k := Nat.pow_pos (by decide)
      omega)
    clear hb1 hq1 NY
    rw [FC.out] at CA
    clear FC
    generalize ((2 ^ k : Nat) : Int) = s at *
    go_wp2_with fail
    refine SA.out.mono ?_
    rintro e w2 ⟨rfl, rfl⟩
    go_wp2_with fail
    refine NA.out.mono ?_
    rintro e w3 ⟨rfl, rfl⟩
    rw [show (Q.leaf 0).count = 1 from rfl]
    go_wp2_with fail
    refine CA.out.mono ?_
    rintro e w4 ⟨rfl, hb4⟩
    have B4 := Lib.hid (up B1.out hb4 B1.out.size)
    clear hb4
    go_wp2_with fail
    refine (AW.out _).mono ?_
    rintro e w5 ⟨rfl, hb5⟩
    have B5 := Lib.hid (up B4.out hb5 B4.out.size)
    clear hb5
    go_wp2_with fail
    go_ret
    exact ⟨rfl, B5.out⟩
set_option maxRecDepth 100000 in
set_option maxHeartbeats 4000000 in
theorem walk_no (s : Int) (w : World) (h : ∀ k, k ≤ 8 → s ≠ ((2 ^ k : Nat) : Int)) : Calls Try.prog 7 #[.int .i64 s] w fun e w' => e = .returned (.bool true) ∧ Below w.heap.size w w' := by
  have NY := Lib.hid (show Calls Try.prog 27 #[.int .i64 s] w fun e w' => e = .returned (.pointer none) ∧ w' = w from by
    by_cases q : s < 1 ∨ 256 < s
    · exact new_low s w q
    · exact new_no s w (by omega) (by omega) h)
  have AW := Lib.hid (fun W => awake_any W)
  go_enter Try.func7, Try.ntmps7
  go_wp2_with fail
  go_loopw [3, 4, 6] (fun a c i wr => ∃ (j : Nat), wr = w ∧ j ≤ 9 ∧ a = .bool false ∧ i = .int .i64 j) (fun _ _ i _ => 9 - (intOf i).toNat)
  case atStart => exact ⟨0, rfl, by omega, rfl, rfl⟩
  case round =>
  obtain ⟨j, hw, hj, rfl, rfl⟩ := hrel
  subst hw
  rcases (show j = 0 ∨ j = 1 ∨ j = 2 ∨ j = 3 ∨ j = 4 ∨ j = 5 ∨ j = 6 ∨ j = 7 ∨ j = 8 ∨ j = 9 by omega) with rfl | rfl | rfl | rfl | rfl | rfl | rfl | rfl | rfl | rfl
  · have hn := h 0 (by omega)
    have q1 : (s == 1) = false := by rw [beq_eq_false_iff_ne]; exact hn
    have q2 : decide (s = 1) = false := decide_eq_false hn
    clear NY AW hn h
    go_wp2_with fail
    exact ⟨⟨0 + 1, trivial, by omega, rfl, by go_num⟩, by simp [intOf]⟩
  · have hn := h 1 (by omega)
    have q1 : (s == 2) = false := by rw [beq_eq_false_iff_ne]; exact hn
    have q2 : decide (s = 2) = false := decide_eq_false hn
    clear NY AW hn h
    go_wp2_with fail
    exact ⟨⟨1 + 1, trivial, by omega, rfl, by go_num⟩, by simp [intOf]⟩
  · have hn := h 2 (by omega)
    have q1 : (s == 4) = false := by rw [beq_eq_false_iff_ne]; exact hn
    have q2 : decide (s = 4) = false := decide_eq_false hn
    clear NY AW hn h
    go_wp2_with fail
    exact ⟨⟨2 + 1, trivial, by omega, rfl, by go_num⟩, by simp [intOf]⟩
  · have hn := h 3 (by omega)
    have q1 : (s == 8) = false := by rw [beq_eq_false_iff_ne]; exact hn
    have q2 : decide (s = 8) = false := decide_eq_false hn
    clear NY AW hn h
    go_wp2_with fail
    exact ⟨⟨3 + 1, trivial, by omega, rfl, by go_num⟩, by simp [intOf]⟩
  · have hn := h 4 (by omega)
    have q1 : (s == 16) = false := by rw [beq_eq_false_iff_ne]; exact hn
    have q2 : decide (s = 16) = false := decide_eq_false hn
    clear NY AW hn h
    go_wp2_with fail
    exact ⟨⟨4 + 1, trivial, by omega, rfl, by go_num⟩, by simp [intOf]⟩
  · have hn := h 5 (by omega)
    have q1 : (s == 32) = false := by rw [beq_eq_false_iff_ne]; exact hn
    have q2 : decide (s = 32) = false := decide_eq_false hn
    clear NY AW hn h
    go_wp2_with fail
    exact ⟨⟨5 + 1, trivial, by omega, rfl, by go_num⟩, by simp [intOf]⟩
  · have hn := h 6 (by omega)
    have q1 : (s == 64) = false := by rw [beq_eq_false_iff_ne]; exact hn
    have q2 : decide (s = 64) = false := decide_eq_false hn
    clear NY AW hn h
    go_wp2_with fail
    exact ⟨⟨6 + 1, trivial, by omega, rfl, by go_num⟩, by simp [intOf]⟩
  · have hn := h 7 (by omega)
    have q1 : (s == 128) = false := by rw [beq_eq_false_iff_ne]; exact hn
    have q2 : decide (s = 128) = false := decide_eq_false hn
    clear NY AW hn h
    go_wp2_with fail
    exact ⟨⟨7 + 1, trivial, by omega, rfl, by go_num⟩, by simp [intOf]⟩
  · have hn := h 8 (by omega)
    have q1 : (s == 256) = false := by rw [beq_eq_false_iff_ne]; exact hn
    have q2 : decide (s = 256) = false := decide_eq_false hn
    clear NY AW hn h
    go_wp2_with fail
    exact ⟨⟨8 + 1, trivial, by omega, rfl, by go_num⟩, by simp [intOf]⟩
  · clear hj h
    go_wp2_with fail
    refine NY.out.mono ?_
    rintro e w1 ⟨rfl, rfl⟩
    go_wp2_with fail
    refine (AW.out _).mono ?_
    rintro e w2 ⟨rfl, hb2⟩
    have B2 := Lib.hid hb2
    clear hb2
    go_wp2_with fail
    go_ret
    exact ⟨rfl, B2.out⟩
theorem walk (w : World) (s : Int) (ws : (Lit.int .i64 s).wf = true) :
    Calls Try.prog 7 #[.int .i64 s] w fun e w' => e = .returned (.bool true) ∧ Below w.heap.size w w' := by
  by_cases h : ∃ k, k ≤ 8 ∧ s = ((2 ^ k : Nat) : Int)
  · obtain ⟨k, hk, rfl⟩ := h
    exact walk_yes k w hk
  · exact walk_no s w (fun k hk e => h ⟨k, hk, e⟩)

set_option maxRecDepth 100000 in
theorem lifted (os : Os) (started : os.Started) (H : Type) (enc : TypeId × Value → H) :
    ReturnsInHanded {} Try.checked os 7 .any (Rows.quadMakesSpec.pre6 enc Try.prog Try.f7 Rows.quadMakesRow.domain false) (Rows.quadMakesSpec.post enc Try.prog Try.f7 false true false false) := by
  refine returnsInHanded_of_change (C := Try.checked) base.own started (by kernel_rfl) Try.func7
    (ChangeSpec.witness6 (enc := enc) (C := Try.checked) false ⟨#[], #[.int .i64 0], []⟩ 8 (by kernel_rfl) (by kernel_rfl) (by kernel_rfl) (by kernel_rfl)) ?_
  intro W bs args ds gs before hval0 hW _ _
  have hval : ∀ (j : Nat) t v, Try.f7.params[j]? = some t → args[j]? = some v → Value.okWide Try.prog W .any bs t v := hval0
  have hW' : DataW.Whole enc Try.prog Try.f7.params.toList Rows.quadMakesSpec.vars false W args.toList ds gs before := hW
  obtain ⟨p, q, hA0, hV, rfl, _, _⟩ := hW
  have hA : DataW.TrodAll enc Try.prog W 0 (fun _ => true) true Try.f7.params.toList args.toList ds p := hA0
  rw [Try.params7] at hA hval
  obtain ⟨v0, vs0, d0, ds0, p0, q0, hargs, rfl, rfl, h0, r0⟩ := trodAll_cons hA
  obtain ⟨rfl, rfl, rfl⟩ := trodAll_nil r0
  obtain rfl : args = #[v0] := by cases args; simp_all
  obtain ⟨rfl, rfl⟩ := trodVars_none hV
  obtain ⟨a0, rfl, rfl, rfl, w0⟩ := open_int Try.underlying3 (hval 0 3 v0 rfl rfl) h0
  clear hA0 hval0
  refine (walk W a0 w0).mono fun e W' ⟨he, hb⟩ => ?_
  subst he
  exact ⟨_, rfl, base.law_post base.laid (by kernel_rfl) rfl rfl Try.underlying4 hW' rfl rfl rfl hb⟩

theorem over : Rows.quadMakesRow.holds Try.pinned (OpenSpec.ofChange Rows.quadMakesSpec) :=
  OpenClaim.holds_of_wide 7 Try.f7 rfl rfl rfl rfl rfl rfl rfl ⟨rfl, rfl, rfl, rfl, rfl⟩ rfl rfl rfl rfl rfl (by kernel_rfl) Try.func7 (by kernel_rfl)
    (of_decide_eq_true (by kernel_rfl)) (by unfold Func.isWrapper; first | (rw [if_pos (by decide +kernel)]; kernel_rfl) | (rw [if_neg (by decide +kernel)]; exact ⟨rfl, rfl⟩))
    (fun os started H enc _ => lifted os started H enc)

theorem proved : Rows.QuadMakesSaid := over
#print axioms proved
end Go.Proofs.Ytpfnkmlfpkjkpaa.quadMakes
