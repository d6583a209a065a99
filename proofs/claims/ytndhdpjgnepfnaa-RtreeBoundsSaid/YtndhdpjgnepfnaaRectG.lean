/-
  Contracts of package rect, seventh part: growth; whether one lies in another one.
-/
import Derived.Test.YtndhdpjgnepfnaaRectF
namespace Go.Proofs.Ytndhdpjgnepfnaa.rect
open Go.RowKit
open base (ret_bool ret_int made up Blk Only)
set_option linter.unusedVariables false

/-- two boxed rectangles stand where they stood; all older memory is as it was -/
def Two (w : World) (x y u z a b c d : Int) (w' : World) : Prop :=
  Blk w' w.heap.size 28 #[.int .i64 x, .int .i64 y, .int .i64 u, .int .i64 z] ∧ Blk w' (w.heap.size + 1) 28 #[.int .i64 a, .int .i64 b, .int .i64 c, .int .i64 d] ∧ Below w.heap.size w w'
theorem Two.mk (w : World) (x y u z a b c d : Int) : Two w x y u z a b c d ((w.alloc (.cells #[.int .i64 x, .int .i64 y, .int .i64 u, .int .i64 z] 28)).alloc (.cells #[.int .i64 a, .int .i64 b, .int .i64 c, .int .i64 d] 28)) := by
  refine ⟨(base.Blk.new _ _ _).alloc _, ?_, ((Below.refl _ _).alloc (Nat.le_refl _) _).alloc (by simp) _⟩
  have := base.Blk.new (w.alloc (.cells #[.int .i64 x, .int .i64 y, .int .i64 u, .int .i64 z] 28)) 28 #[.int .i64 a, .int .i64 b, .int .i64 c, .int .i64 d]
  simpa using this
theorem Two.next {w w1 w2 : World} {x y u z a b c d : Int} (h : Two w x y u z a b c d w1) (hb : Below w1.heap.size w1 w2) : Two w x y u z a b c d w2 :=
  ⟨h.1.below hb h.1.lt, h.2.1.below hb h.2.1.lt, h.2.2.trans (hb.mono h.2.2.size)⟩
theorem Two.nextB {w w1 w2 : World} {x y u z a b c d : Int} {B : Nat} (h : Two w x y u z a b c d w1) (hb : Below B w1 w2) (hB : w.heap.size + 1 + 1 ≤ B) : Two w x y u z a b c d w2 :=
  ⟨h.1.below hb (by omega), h.2.1.below hb (by omega), h.2.2.trans (hb.mono (by omega))⟩
theorem Two.drew {w w1 : World} {x y u z a b c d : Int} (h : Two w x y u z a b c d w1) : Two w x y u z a b c d w1.drew := ⟨h.1, h.2.1, h.2.2.drew⟩
theorem Two.cells {w w1 : World} {x y u z a b c d : Int} (h : Two w x y u z a b c d w1) :
    w1.cell? ⟨w.heap.size, 0, none⟩ = some (.int .i64 x) ∧ w1.cell? ⟨w.heap.size, 1, none⟩ = some (.int .i64 y) ∧ w1.cell? ⟨w.heap.size, 2, none⟩ = some (.int .i64 u) ∧ w1.cell? ⟨w.heap.size, 3, none⟩ = some (.int .i64 z) ∧
    w1.cell? ⟨w.heap.size + 1, 0, none⟩ = some (.int .i64 a) ∧ w1.cell? ⟨w.heap.size + 1, 1, none⟩ = some (.int .i64 b) ∧ w1.cell? ⟨w.heap.size + 1, 2, none⟩ = some (.int .i64 c) ∧ w1.cell? ⟨w.heap.size + 1, 3, none⟩ = some (.int .i64 d) :=
  ⟨h.1.cell 0, h.1.cell 1, h.1.cell 2, h.1.cell 3, h.2.1.cell 0, h.2.1.cell 1, h.2.1.cell 2, h.2.1.cell 3⟩
def TwoS (w : World) (x y u z a b c d : Int) (w1 : World) : Prop :=
    w1.cell? ⟨w.heap.size, 0, none⟩ = some (.int .i64 x) ∧ w1.cell? ⟨w.heap.size, 1, none⟩ = some (.int .i64 y) ∧ w1.cell? ⟨w.heap.size, 2, none⟩ = some (.int .i64 u) ∧ w1.cell? ⟨w.heap.size, 3, none⟩ = some (.int .i64 z) ∧
    w1.cell? ⟨w.heap.size + 1, 0, none⟩ = some (.int .i64 a) ∧ w1.cell? ⟨w.heap.size + 1, 1, none⟩ = some (.int .i64 b) ∧ w1.cell? ⟨w.heap.size + 1, 2, none⟩ = some (.int .i64 c) ∧ w1.cell? ⟨w.heap.size + 1, 3, none⟩ = some (.int .i64 d)

set_option maxHeartbeats 2000000 in
theorem growth_is (x y u z a b c d p q r s m n : Int) (w : World)
    (hJ : ∀ W : World, Calls Try.prog 24 #[(.agg #[.int .i64 x, .int .i64 y, .int .i64 u, .int .i64 z]), (.agg #[.int .i64 a, .int .i64 b, .int .i64 c, .int .i64 d])] W fun e w' => e = .returned (.agg #[.int .i64 p, .int .i64 q, .int .i64 r, .int .i64 s]) ∧ Below W.heap.size W w')
    (hA : ∀ W : World, Calls Try.prog 58 #[(.agg #[.int .i64 p, .int .i64 q, .int .i64 r, .int .i64 s])] W fun e w' => e = .returned (.int .i64 m) ∧ Below W.heap.size W w')
    (hB : ∀ W : World, Calls Try.prog 58 #[(.agg #[.int .i64 x, .int .i64 y, .int .i64 u, .int .i64 z])] W fun e w' => e = .returned (.int .i64 n) ∧ Below W.heap.size W w')
    (b1 : -9223372036854775808 ≤ m - n) (b2 : m - n ≤ 9223372036854775807) :
    Calls Try.prog 57 #[(.agg #[.int .i64 x, .int .i64 y, .int .i64 u, .int .i64 z]), (.agg #[.int .i64 a, .int .i64 b, .int .i64 c, .int .i64 d])] w fun e w' => e = .returned (.int .i64 (m - n)) ∧ Below w.heap.size w w' := by
  have J := Lib.hid hJ
  have A := Lib.hid hA
  have B := Lib.hid hB
  clear hJ hA hB
  have T0 := Lib.hid (Two.mk w x y u z a b c d)
  go_enter Try.func57, Try.ntmps57
  go_wp2_with fail
  go_region_held3 (fun w1 => w1.cell? ⟨w.heap.size, 0, none⟩ = some (.int .i64 x) ∧ w1.cell? ⟨w.heap.size, 1, none⟩ = some (.int .i64 y) ∧ w1.cell? ⟨w.heap.size, 2, none⟩ = some (.int .i64 u) ∧ w1.cell? ⟨w.heap.size, 3, none⟩ = some (.int .i64 z) ∧
    w1.cell? ⟨w.heap.size + 1, 0, none⟩ = some (.int .i64 a) ∧ w1.cell? ⟨w.heap.size + 1, 1, none⟩ = some (.int .i64 b) ∧ w1.cell? ⟨w.heap.size + 1, 2, none⟩ = some (.int .i64 c) ∧ w1.cell? ⟨w.heap.size + 1, 3, none⟩ = some (.int .i64 d))
    (first | exact (Hid.out TA).cells | exact (Hid.out TB).cells | exact (Hid.out TJ).cells | exact (Hid.out T0).cells)
    (first | (go_at_call 24; refine (J.out _).mono ?_; rintro e w1 ⟨rfl, hb⟩; (first | (have TJ := Lib.hid (Two.next (Hid.out TA) hb)) | (have TJ := Lib.hid (Two.next (Hid.out TB) hb)) | (have TJ := Lib.hid (Two.next (Hid.out TJ) hb)) | (have TJ := Lib.hid (Two.nextB (Two.drew (Hid.out T0)) hb (by simp)))); clear hb) | (go_at_call 58; first | ((with_reducible refine (A.out _).mono ?_); rintro e w2 ⟨rfl, hb⟩; (first | (have TA := Lib.hid (Two.next (Hid.out TA) hb)) | (have TA := Lib.hid (Two.next (Hid.out TB) hb)) | (have TA := Lib.hid (Two.next (Hid.out TJ) hb)) | (have TA := Lib.hid (Two.nextB (Two.drew (Hid.out T0)) hb (by simp)))); clear hb) | ((with_reducible refine (B.out _).mono ?_); rintro e w3 ⟨rfl, hb⟩; (first | (have TB := Lib.hid (Two.next (Hid.out TA) hb)) | (have TB := Lib.hid (Two.next (Hid.out TB) hb)) | (have TB := Lib.hid (Two.next (Hid.out TJ) hb)) | (have TB := Lib.hid (Two.nextB (Two.drew (Hid.out T0)) hb (by simp)))); clear hb)))
  all_goals
    go_wp2
    go_ret
    exact ⟨ret_int (IntWalk.i64_in _ (by omega)), by first | exact (Hid.out TA).2.2 | exact (Hid.out TB).2.2⟩

def same4 (p q r s x y u z : Int) : Bool := decide (p = x ∧ q = y ∧ r = u ∧ s = z)
theorem same4_yes {p q r s x y u z : Int} (h : p = x ∧ q = y ∧ r = u ∧ s = z) : same4 p q r s x y u z = true := decide_eq_true h
theorem same4_no {p q r s x y u z : Int} (h : ¬ (p = x ∧ q = y ∧ r = u ∧ s = z)) : same4 p q r s x y u z = false := decide_eq_false h

set_option maxHeartbeats 2000000 in
theorem in_eq (x y u z a b c d p q r s : Int) (w : World) (h1 : rightB x y u z = true) (h2 : rightB a b c d = true) (h3 : rightB (cx x a) (cx y b) (cw x u a c) (cw y z b d) = true)
    (e1 : cx x a = p) (e2 : cx y b = q) (e3 : cw x u a c = r) (e4 : cw y z b d = s) :
    Calls Try.prog 53 #[(.agg #[.int .i64 x, .int .i64 y, .int .i64 u, .int .i64 z]), (.agg #[.int .i64 a, .int .i64 b, .int .i64 c, .int .i64 d])] w fun e w' => e = .returned (.bool (same4 p q r s x y u z)) ∧ Below w.heap.size w w' := by
  have C := Lib.hid (fun W => common_yes x y u z a b c d W h1 h2 h3)
  simp only [e1, e2, e3, e4] at C
  clear h1 h2 h3 e1 e2 e3 e4
  have T0 := Two.mk w x y u z a b c d
  go_enter Try.func53, Try.ntmps53
  go_wp2_with fail
  refine (C.out _).mono ?_
  rintro e w1 ⟨rfl, hb1⟩
  have T1 := T0.nextB hb1 (by simp)
  have R2 := T1.1.alloc (.cells #[.int .i64 p, .int .i64 q, .int .i64 r, .int .i64 s] 28)
  obtain ⟨c0, c1, c2, c3⟩ := R2.four
  have T := Lib.hid T1
  clear T0 T1 R2 hb1
  have hz : w.heap.size + 1 + 1 ≤ w1.heap.size := T.out.2.1.lt
  go_wp2
  all_goals
    go_ret
    exact ⟨ret_bool (by first | exact (same4_yes (by omega)).symm | exact (same4_no (by omega)).symm), T.out.2.2.alloc T.out.2.2.size _⟩
end Go.Proofs.Ytndhdpjgnepfnaa.rect
