/-
  Quads: what is known of a quad's leaves.
-/
import Derived.Test.YtpfnkmlfpkjkpaaQdO
namespace Go.Proofs.Ytpfnkmlfpkjkpaa.qd
open Go.RowKit Go.Shelf
open base (ret_bool ret_int made up Blk Only)
open rect rgm
set_option linter.unusedVariables false
set_option linter.unusedSimpArgs false

theorem two_pow (k : Nat) : ((2 ^ (k + 1) : Nat) : Int) = 2 * ((2 ^ k : Nat) : Int) := by
  rw [Nat.pow_succ]; omega
theorem q4 {i : Nat} (hi : i < 4) : (i % 2 = 0 ∨ i % 2 = 1) ∧ (i / 2 = 0 ∨ i / 2 = 1) := by omega
theorem qx_range {x : Int} {h i : Nat} (hi : i < 4) : qx x h i = x ∨ qx x h i = x + h := by
  unfold qx
  rcases (q4 hi).1 with e | e <;> rw [e] <;> simp
theorem qy_range {y : Int} {h i : Nat} (hi : i < 4) : qy y h i = y ∨ qy y h i = y + h := by
  unfold qy
  rcases (q4 hi).2 with e | e <;> rw [e] <;> simp
theorem BoxR.quarter {x y : Int} {k i : Nat} (h : BoxR x y ((2 ^ (k + 1) : Nat) : Int)) (hi : i < 4) : BoxR (qx x (2 ^ k) i) (qy y (2 ^ k) i) ((2 ^ k : Nat) : Int) := by
  have h0 := pow_pos k
  rw [two_pow] at h
  unfold BoxR at h ⊢
  rcases qx_range (x := x) (h := 2 ^ k) hi with e | e <;> rcases qy_range (y := y) (h := 2 ^ k) hi with f | f <;> rw [e, f] <;> generalize 2 ^ k = s at * <;> omega
theorem lv_succ {u g k : Nat} {t : Nat → Q} {x y a b c d : Int} : lv (.node u g t) (k + 1) x y a b c d = if meetP x y ((2 ^ (k + 1) : Nat) : Int) a b c d then
      lv (t 0) k (qx x (2 ^ k) 0) (qy y (2 ^ k) 0) a b c d ++ (lv (t 1) k (qx x (2 ^ k) 1) (qy y (2 ^ k) 1) a b c d ++ (lv (t 2) k (qx x (2 ^ k) 2) (qy y (2 ^ k) 2) a b c d ++ lv (t 3) k (qx x (2 ^ k) 3) (qy y (2 ^ k) 3) a b c d)) else [] := rfl
/-- a leaf that is told is a box of the quad's -/
theorem lv_box : ∀ {q : Q} {k : Nat} {x y a b c d : Int}, q.fits k → BoxR x y ((2 ^ k : Nat) : Int) → ∀ e ∈ lv q k x y a b c d, BoxR e.1 e.2.1 e.2.2.1
  | .leaf v, k, x, y, a, b, c, d, _, hb, e, he => by
    unfold lv at he
    split at he
    · rw [List.mem_singleton] at he
      subst he
      exact hb
    · cases he
  | .node _ _ t, 0, _, _, _, _, _, _, hf, _, _, _ => hf.elim
  | .node u g t, k + 1, x, y, a, b, c, d, hf, hb, e, he => by
    rw [lv_succ] at he
    split at he
    · rw [List.mem_append, List.mem_append, List.mem_append] at he
      rcases he with he | he | he | he
      · exact lv_box (hf 0 (by omega)) (hb.quarter (by omega)) e he
      · exact lv_box (hf 1 (by omega)) (hb.quarter (by omega)) e he
      · exact lv_box (hf 2 (by omega)) (hb.quarter (by omega)) e he
      · exact lv_box (hf 3 (by omega)) (hb.quarter (by omega)) e he
    · cases he
/-- how many tiles have a value -/
def cnt (v : Int) : List Lf → Int
  | [] => 0
  | e :: l => (if (e.2.2.2 : Int) = v then e.2.2.1 * e.2.2.1 else 0) + cnt v l
theorem cnt_append (v : Int) (l m : List Lf) : cnt v (l ++ m) = cnt v l + cnt v m := by
  induction l with
  | nil => simp [cnt]
  | cons e l ih => simp only [List.cons_append, cnt, ih]; omega
theorem cnt_pos (v : Int) (l : List Lf) : 0 ≤ cnt v l := by
  induction l with
  | nil => simp [cnt]
  | cons e l ih =>
    simp only [cnt]
    split
    · have : 0 ≤ e.2.2.1 * e.2.2.1 := by
        rcases Int.le_total 0 e.2.2.1 with h | h
        · exact Int.mul_nonneg h h
        · have := Int.mul_nonneg (show 0 ≤ -e.2.2.1 by omega) (show 0 ≤ -e.2.2.1 by omega)
          rwa [Int.neg_mul_neg] at this
      omega
    · omega
theorem cnt_take_le (v : Int) (l : List Lf) (m : Nat) : cnt v (l.take m) ≤ cnt v l := by
  have h := cnt_append v (l.take m) (l.drop m)
  rw [List.take_append_drop] at h
  have := cnt_pos v (l.drop m)
  omega
theorem cnt_succ (v : Int) {l : List Lf} {m : Nat} (hm : m < l.length) : cnt v (l.take (m + 1)) = cnt v (l.take m) + (if ((l.getD m dfl).2.2.2 : Int) = v then (l.getD m dfl).2.2.1 * (l.getD m dfl).2.2.1 else 0) := by
  rw [List.take_succ_eq_append_getElem hm, cnt_append, List.getD_eq_getElem?_getD, List.getElem?_eq_getElem hm, Option.getD_some]
  simp [cnt]
theorem sq_pow (k : Nat) : ((2 ^ k : Nat) : Int) * ((2 ^ k : Nat) : Int) = ((4 ^ k : Nat) : Int) := by
  rw [← Int.natCast_mul, ← Nat.mul_pow]
theorem cnt_le (v : Int) : ∀ {q : Q} {k : Nat} {x y a b c d : Int}, q.fits k → cnt v (lv q k x y a b c d) ≤ ((4 ^ k : Nat) : Int)
  | .leaf u, k, x, y, a, b, c, d, _ => by
    have h0 : 0 < 4 ^ k := Nat.pow_pos (by decide)
    unfold lv
    split
    · simp only [cnt]
      split
      · rw [sq_pow]; omega
      · omega
    · simp only [cnt]; omega
  | .node _ _ t, 0, _, _, _, _, _, _, hf => hf.elim
  | .node u g t, k + 1, x, y, a, b, c, d, hf => by
    rw [lv_succ]
    have e : 4 ^ (k + 1) = 4 * 4 ^ k := by rw [Nat.pow_succ]; omega
    split
    · rw [cnt_append, cnt_append, cnt_append, e]
      have h0 := cnt_le v (x := qx x (2 ^ k) 0) (y := qy y (2 ^ k) 0) (a := a) (b := b) (c := c) (d := d) (hf 0 (by omega))
      have h1 := cnt_le v (x := qx x (2 ^ k) 1) (y := qy y (2 ^ k) 1) (a := a) (b := b) (c := c) (d := d) (hf 1 (by omega))
      have h2 := cnt_le v (x := qx x (2 ^ k) 2) (y := qy y (2 ^ k) 2) (a := a) (b := b) (c := c) (d := d) (hf 2 (by omega))
      have h3 := cnt_le v (x := qx x (2 ^ k) 3) (y := qy y (2 ^ k) 3) (a := a) (b := b) (c := c) (d := d) (hf 3 (by omega))
      omega
    · simp only [cnt]; omega
end Go.Proofs.Ytpfnkmlfpkjkpaa.qd
