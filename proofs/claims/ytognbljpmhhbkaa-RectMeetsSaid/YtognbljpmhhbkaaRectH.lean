/-
  The reference's answer: have two rectangles a tile in common? Conditions: both are right.
-/
import Derived.Test.YtognbljpmhhbkaaRectG
namespace Go.Proofs.Ytognbljpmhhbkaa.rect
open Go.RowKit
open base (ret_bool ret_int made up Blk Only)
set_option linter.unusedVariables false

/-- two boxed rectangles of the reference stand where they stood; all older memory is as it was -/
def TwoR (w : World) (x y u z a b c d : Int) (w' : World) : Prop :=
  Blk w' w.heap.size 25 #[.int .i64 x, .int .i64 y, .int .i64 u, .int .i64 z] ∧ Blk w' (w.heap.size + 1) 25 #[.int .i64 a, .int .i64 b, .int .i64 c, .int .i64 d] ∧ Below w.heap.size w w'
theorem TwoR.mk (w : World) (x y u z a b c d : Int) : TwoR w x y u z a b c d ((w.alloc (.cells #[.int .i64 x, .int .i64 y, .int .i64 u, .int .i64 z] 25)).alloc (.cells #[.int .i64 a, .int .i64 b, .int .i64 c, .int .i64 d] 25)) := by
  refine ⟨(base.Blk.new _ _ _).alloc _, ?_, ((Below.refl _ _).alloc (Nat.le_refl _) _).alloc (by simp) _⟩
  have := base.Blk.new (w.alloc (.cells #[.int .i64 x, .int .i64 y, .int .i64 u, .int .i64 z] 25)) 25 #[.int .i64 a, .int .i64 b, .int .i64 c, .int .i64 d]
  simpa using this
theorem TwoR.next {w w1 w2 : World} {x y u z a b c d : Int} (h : TwoR w x y u z a b c d w1) (hb : Below w1.heap.size w1 w2) : TwoR w x y u z a b c d w2 :=
  ⟨h.1.below hb h.1.lt, h.2.1.below hb h.2.1.lt, h.2.2.trans (hb.mono h.2.2.size)⟩
theorem TwoR.nextB {w w1 w2 : World} {x y u z a b c d : Int} {B : Nat} (h : TwoR w x y u z a b c d w1) (hb : Below B w1 w2) (hB : w.heap.size + 1 + 1 ≤ B) : TwoR w x y u z a b c d w2 :=
  ⟨h.1.below hb (by omega), h.2.1.below hb (by omega), h.2.2.trans (hb.mono (by omega))⟩
theorem TwoR.cells {w w1 : World} {x y u z a b c d : Int} (h : TwoR w x y u z a b c d w1) :
    w1.cell? ⟨w.heap.size, 0, none⟩ = some (.int .i64 x) ∧ w1.cell? ⟨w.heap.size, 1, none⟩ = some (.int .i64 y) ∧ w1.cell? ⟨w.heap.size, 2, none⟩ = some (.int .i64 u) ∧ w1.cell? ⟨w.heap.size, 3, none⟩ = some (.int .i64 z) ∧
    w1.cell? ⟨w.heap.size + 1, 0, none⟩ = some (.int .i64 a) ∧ w1.cell? ⟨w.heap.size + 1, 1, none⟩ = some (.int .i64 b) ∧ w1.cell? ⟨w.heap.size + 1, 2, none⟩ = some (.int .i64 c) ∧ w1.cell? ⟨w.heap.size + 1, 3, none⟩ = some (.int .i64 d) :=
  ⟨h.1.cell 0, h.1.cell 1, h.1.cell 2, h.1.cell 3, h.2.1.cell 0, h.2.1.cell 1, h.2.1.cell 2, h.2.1.cell 3⟩

set_option maxHeartbeats 2000000 in
theorem rmeets_yes (x y u z a b c d : Int) (w : World) (h1 : rightB x y u z = true) (h2 : rightB a b c d = true) :
    Calls Try.prog 18 #[(.agg #[.int .i64 x, .int .i64 y, .int .i64 u, .int .i64 z]), (.agg #[.int .i64 a, .int .i64 b, .int .i64 c, .int .i64 d])] w fun e w' => e = .returned (.bool (decide (max x a < min (x + u) (a + c)) && decide (max y b < min (y + z) (b + d)))) ∧ Below w.heap.size w w' := by
  obtain ⟨⟨y1, y2, y3, y4⟩, y5, y6, y7, y8⟩ := right_yes h1
  obtain ⟨⟨z1, z2, z3, z4⟩, z5, z6, z7, z8⟩ := right_yes h2
  have RA := Lib.hid (fun w => rright_any x y u z (by omega) w)
  have RB := Lib.hid (fun w => rright_any a b c d (by omega) w)
  rw [h1] at RA
  rw [h2] at RB
  clear h1 h2
  have T0 := Lib.hid (TwoR.mk w x y u z a b c d)
  go_enter Try.func18, Try.ntmps18
  go_wp2_with fail
  refine (RA.out _).mono ?_
  rintro e w1 ⟨rfl, hb1⟩
  have T1 := Lib.hid (T0.out.nextB hb1 (by simp))
  obtain ⟨k0, k1, k2, k3, k4, k5, k6, k7⟩ := T1.out.cells
  clear hb1 T0
  go_wp2_with fail
  refine (RB.out _).mono ?_
  rintro e w2 ⟨rfl, hb2⟩
  have T2 := Lib.hid (T1.out.next hb2)
  clear k0 k1 k2 k3 k4 k5 k6 k7
  obtain ⟨k0, k1, k2, k3, k4, k5, k6, k7⟩ := T2.out.cells
  clear hb2 T1 RA RB
  go_wp2_with fail
  go_loop [5, 6] (fun fx fi => ∃ k : Int, x ≤ k ∧ k ≤ x + u ∧ fi = .int .i64 k ∧ fx = .bool (decide (max x a < min k (a + c)))) (fun _ fi => (x + u - intOf fi).toNat)
  case atStart => exact ⟨x, by omega, by omega, rfl, by congr 1; exact (decide_eq_false (by omega)).symm⟩
  case round =>
    obtain ⟨k, e1, e2, rfl, rfl⟩ := hrel
    obtain ⟨f, hf⟩ : ∃ f, f = decide (max x a < min k (a + c)) := ⟨_, rfl⟩
    rw [← hf]
    have HF := Lib.hid hf
    clear hf
    by_cases hk : k < x + u
    · by_cases g1 : a ≤ k <;> by_cases g2 : k < a + c
      all_goals try (exfalso; omega)
      all_goals
        go_wp2
        go_round
        case rel => exact ⟨k + 1, by omega, by omega, rfl, by congr 1; first | (rw [HF.out]; exact decide_eq_decide.2 (by omega)) | exact (decide_eq_true (by omega)).symm⟩
        case measure => simp [intOf]; omega
    · have hk2 : k = x + u := by omega
      have FX : Hid (f = decide (max x a < min (x + u) (a + c))) := Lib.hid (by rw [HF.out, hk2])
      clear HF
      subst hk2
      go_wp2_with fail
      go_loop [7, 8] (fun fy fi => ∃ j : Int, y ≤ j ∧ j ≤ y + z ∧ fi = .int .i64 j ∧ fy = .bool (decide (max y b < min j (b + d)))) (fun _ fi => (y + z - intOf fi).toNat)
      case atStart => exact ⟨y, by omega, by omega, rfl, by congr 1; exact (decide_eq_false (by omega)).symm⟩
      case round =>
        obtain ⟨j, e3, e4, rfl, rfl⟩ := hrel
        obtain ⟨f2, hf2⟩ : ∃ f2, f2 = decide (max y b < min j (b + d)) := ⟨_, rfl⟩
        rw [← hf2]
        have HF2 := Lib.hid hf2
        clear hf2
        by_cases hj : j < y + z
        · by_cases g1 : b ≤ j <;> by_cases g2 : j < b + d
          all_goals try (exfalso; omega)
          all_goals
            go_wp2
            go_round
            case rel => exact ⟨j + 1, by omega, by omega, rfl, by congr 1; first | (rw [HF2.out]; exact decide_eq_decide.2 (by omega)) | exact (decide_eq_true (by omega)).symm⟩
            case measure => simp [intOf]; omega
        · have hj2 : j = y + z := by omega
          have FY : Hid (f2 = decide (max y b < min (y + z) (b + d))) := Lib.hid (by rw [HF2.out, hj2])
          clear HF2
          subst hj2
          cases f <;> cases f2
          all_goals
            go_wp2
            go_ret
            exact ⟨ret_bool (by rw [← FX.out, ← FY.out]; rfl), T2.out.2.2⟩

set_option maxHeartbeats 2000000 in
theorem rmeets_no (x y u z a b c d : Int) (w : World) (b1 : -9223372036854775808 ≤ x) (b2 : -9223372036854775808 ≤ a) (h : rightB x y u z = false ∨ rightB x y u z = true ∧ rightB a b c d = false) :
    Calls Try.prog 18 #[(.agg #[.int .i64 x, .int .i64 y, .int .i64 u, .int .i64 z]), (.agg #[.int .i64 a, .int .i64 b, .int .i64 c, .int .i64 d])] w fun e w' => e = .returned (.bool false) ∧ Below w.heap.size w w' := by
  have RA := Lib.hid (fun w => rright_any x y u z b1 w)
  have RB := Lib.hid (fun w => rright_any a b c d b2 w)
  have T0 := Lib.hid (TwoR.mk w x y u z a b c d)
  rcases h with h1 | ⟨h1, h2⟩
  · rw [h1] at RA
    clear h1 RB b1 b2
    go_enter Try.func18, Try.ntmps18
    go_wp2_with fail
    refine (RA.out _).mono ?_
    rintro e w1 ⟨rfl, hb1⟩
    have T1 := Lib.hid (T0.out.nextB hb1 (by simp))
    clear hb1 T0
    have hun : undef = Value.tuple #[] := rfl
    go_wp2_with fail
    go_ret
    exact ⟨rfl, T1.out.2.2⟩
  · rw [h1] at RA
    rw [h2] at RB
    clear h1 h2 b1 b2
    go_enter Try.func18, Try.ntmps18
    go_wp2_with fail
    refine (RA.out _).mono ?_
    rintro e w1 ⟨rfl, hb1⟩
    have T1 := Lib.hid (T0.out.nextB hb1 (by simp))
    obtain ⟨k0, k1, k2, k3, k4, k5, k6, k7⟩ := T1.out.cells
    clear hb1 T0
    go_wp2_with fail
    refine (RB.out _).mono ?_
    rintro e w2 ⟨rfl, hb2⟩
    have T2 := Lib.hid (T1.out.next hb2)
    clear hb2 T1 RA RB k0 k1 k2 k3 k4 k5 k6 k7
    go_wp2_with fail
    go_ret
    exact ⟨rfl, T2.out.2.2⟩
end Go.Proofs.Ytognbljpmhhbkaa.rect
