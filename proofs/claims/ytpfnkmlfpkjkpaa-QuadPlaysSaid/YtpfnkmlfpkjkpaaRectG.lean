/-
  Contracts of package rect, seventh part: growth; whether one lies in another one.
-/
import Derived.Test.YtpfnkmlfpkjkpaaRectF
namespace Go.Proofs.Ytpfnkmlfpkjkpaa.rect
open Go.RowKit
open base (ret_bool ret_int made up Blk Only)
set_option linter.unusedVariables false

/-- two boxed rectangles stand where they stood; all older memory is as it was -/
def Two (w : World) (x y u z a b c d : Int) (w' : World) : Prop :=
  Blk w' w.heap.size 42 #[.int .i64 x, .int .i64 y, .int .i64 u, .int .i64 z] ∧ Blk w' (w.heap.size + 1) 42 #[.int .i64 a, .int .i64 b, .int .i64 c, .int .i64 d] ∧ Below w.heap.size w w'
theorem Two.mk (w : World) (x y u z a b c d : Int) : Two w x y u z a b c d ((w.alloc (.cells #[.int .i64 x, .int .i64 y, .int .i64 u, .int .i64 z] 42)).alloc (.cells #[.int .i64 a, .int .i64 b, .int .i64 c, .int .i64 d] 42)) := by
  refine ⟨(base.Blk.new _ _ _).alloc _, ?_, ((Below.refl _ _).alloc (Nat.le_refl _) _).alloc (by simp) _⟩
  have := base.Blk.new (w.alloc (.cells #[.int .i64 x, .int .i64 y, .int .i64 u, .int .i64 z] 42)) 42 #[.int .i64 a, .int .i64 b, .int .i64 c, .int .i64 d]
  simpa using this
theorem Two.next {w w1 w2 : World} {x y u z a b c d : Int} (h : Two w x y u z a b c d w1) (hb : Below w1.heap.size w1 w2) : Two w x y u z a b c d w2 :=
  ⟨h.1.below hb h.1.lt, h.2.1.below hb h.2.1.lt, h.2.2.trans (hb.mono h.2.2.size)⟩
theorem Two.nextB {w w1 w2 : World} {x y u z a b c d : Int} {B : Nat} (h : Two w x y u z a b c d w1) (hb : Below B w1 w2) (hB : w.heap.size + 1 + 1 ≤ B) : Two w x y u z a b c d w2 :=
  ⟨h.1.below hb (by omega), h.2.1.below hb (by omega), h.2.2.trans (hb.mono (by omega))⟩
theorem Two.drew {w w1 : World} {x y u z a b c d : Int} (h : Two w x y u z a b c d w1) : Two w x y u z a b c d w1.drew := ⟨h.1, h.2.1, h.2.2.drew⟩
theorem Two.cells {w w1 : World} {x y u z a b c d : Int} (h : Two w x y u z a b c d w1) :
    w1.cell? ⟨w.heap.size, 0, none⟩ = some (.int .i64 x) ∧ w1.cell? ⟨w.heap.size, 1, none⟩ = some (.int .i64 y) ∧ w1.cell? ⟨w.heap.size, 2, none⟩ = some (.int .i64 u) ∧ w1.cell? ⟨w.heap.size, 3, none⟩ = some (.int .i64 z) ∧
    w1.cell? ⟨w.heap.size + 1, 0, none⟩ = some (.int .i64 a) ∧ w1.cell? ⟨w.heap.size + 1, 1, none⟩ = some (.int .i64 b) ∧ w1.cell? ⟨w.heap.size + 1, 2, none⟩ = some (.int .i64 c) ∧ w1.cell? ⟨w.heap.size + 1, 3, none⟩ = some (.int .i64 d) :=
  ⟨h.1.cell 0, h.1.cell 1, h.1.cell 2, h.1.cell 3, h.2.1.cell 0, h.2.1.cell 1, h.2.1.cell 2, h.2.1.cell 3⟩
def TwoS (w : World) (x y u z a b c d : Int) (w1 : World) : Prop :=
    w1.cell? ⟨w.heap.size, 0, none⟩ = some (.int .i64 x) ∧ w1.cell? ⟨w.heap.size, 1, none⟩ = some (.int .i64 y) ∧ w1.cell? ⟨w.heap.size, 2, none⟩ = some (.int .i64 u) ∧ w1.cell? ⟨w.heap.size, 3, none⟩ = some (.int .i64 z) ∧
    w1.cell? ⟨w.heap.size + 1, 0, none⟩ = some (.int .i64 a) ∧ w1.cell? ⟨w.heap.size + 1, 1, none⟩ = some (.int .i64 b) ∧ w1.cell? ⟨w.heap.size + 1, 2, none⟩ = some (.int .i64 c) ∧ w1.cell? ⟨w.heap.size + 1, 3, none⟩ = some (.int .i64 d)

def same4 (p q r s x y u z : Int) : Bool := decide (p = x ∧ q = y ∧ r = u ∧ s = z)
theorem same4_yes {p q r s x y u z : Int} (h : p = x ∧ q = y ∧ r = u ∧ s = z) : same4 p q r s x y u z = true := decide_eq_true h
theorem same4_no {p q r s x y u z : Int} (h : ¬ (p = x ∧ q = y ∧ r = u ∧ s = z)) : same4 p q r s x y u z = false := decide_eq_false h

set_option maxHeartbeats 2000000 in
theorem in_eq (x y u z a b c d p q r s : Int) (w : World) (h1 : rightB x y u z = true) (h2 : rightB a b c d = true) (h3 : rightB (cx x a) (cx y b) (cw x u a c) (cw y z b d) = true)
    (e1 : cx x a = p) (e2 : cx y b = q) (e3 : cw x u a c = r) (e4 : cw y z b d = s) :
    Calls Try.prog 40 #[(.agg #[.int .i64 x, .int .i64 y, .int .i64 u, .int .i64 z]), (.agg #[.int .i64 a, .int .i64 b, .int .i64 c, .int .i64 d])] w fun e w' => e = .returned (.bool (same4 p q r s x y u z)) ∧ Below w.heap.size w w' := by
  have C := Lib.hid (fun W => common_yes x y u z a b c d W h1 h2 h3)
  simp only [e1, e2, e3, e4] at C
  clear h1 h2 h3 e1 e2 e3 e4
  have T0 := Two.mk w x y u z a b c d
  go_enter Try.func40, Try.ntmps40
  go_wp2_with fail
  refine (C.out _).mono ?_
  rintro e w1 ⟨rfl, hb1⟩
  have T1 := T0.nextB hb1 (by simp)
  have R2 := T1.1.alloc (.cells #[.int .i64 p, .int .i64 q, .int .i64 r, .int .i64 s] 42)
  obtain ⟨c0, c1, c2, c3⟩ := R2.four
  have T := Lib.hid T1
  clear T0 T1 R2 hb1
  have hz : w.heap.size + 1 + 1 ≤ w1.heap.size := T.out.2.1.lt
  go_wp2
  all_goals
    go_ret
    exact ⟨ret_bool (by first | exact (same4_yes (by omega)).symm | exact (same4_no (by omega)).symm), T.out.2.2.alloc T.out.2.2.size _⟩
end Go.Proofs.Ytpfnkmlfpkjkpaa.rect
