/-
  Quads: what leaves tell of tiles.
-/
import Derived.Test.YtpfnkmlfpkjkpaaQdY
namespace Go.Proofs.Ytpfnkmlfpkjkpaa.qd
open Go.RowKit Go.Shelf
open base (ret_bool ret_int made up Blk Only)
open rect rgm
set_option linter.unusedVariables false
set_option linter.unusedSimpArgs false

theorem quarter_of {k i j : Nat} (hi : i < 2 ^ (k + 1)) (hj : j < 2 ^ (k + 1)) : ∃ p a b, p < 4 ∧ a < 2 ^ k ∧ b < 2 ^ k ∧ i = a + (p % 2) * 2 ^ k ∧ j = b + (p / 2) * 2 ^ k := by
  obtain ⟨h1, h2, h3⟩ := quad_lt hi hj
  have hp := pow_pos k
  refine ⟨i / 2 ^ k + 2 * (j / 2 ^ k), i % 2 ^ k, j % 2 ^ k, h3, Nat.mod_lt _ hp, Nat.mod_lt _ hp, ?_, ?_⟩
  · rw [two_mod h1, Nat.add_comm, Nat.mul_comm]; exact (Nat.div_add_mod _ _).symm
  · rw [two_div h1, Nat.add_comm, Nat.mul_comm]; exact (Nat.div_add_mod _ _).symm
theorem qx_add {x : Int} {k p a : Nat} : qx x (2 ^ k) p + (a : Int) = x + ((a + (p % 2) * 2 ^ k : Nat) : Int) := by
  unfold qx
  rw [Int.natCast_add, Int.natCast_mul]
  omega
theorem qy_add {y : Int} {k p b : Nat} : qy y (2 ^ k) p + (b : Int) = y + ((b + (p / 2) * 2 ^ k : Nat) : Int) := by
  unfold qy
  rw [Int.natCast_add, Int.natCast_mul]
  omega
theorem mem_quarter {u g k p : Nat} {t : Nat → Q} {x y a b c d : Int} {e : Lf} (hp : p < 4) (hm : meetP x y ((2 ^ (k + 1) : Nat) : Int) a b c d) (h : e ∈ lv (t p) k (qx x (2 ^ k) p) (qy y (2 ^ k) p) a b c d) : e ∈ lv (.node u g t) (k + 1) x y a b c d := by
  rw [lv_succ, if_pos hm, List.mem_append, List.mem_append, List.mem_append]
  rcases (show p = 0 ∨ p = 1 ∨ p = 2 ∨ p = 3 by omega) with rfl | rfl | rfl | rfl
  · exact .inl h
  · exact .inr (.inl h)
  · exact .inr (.inr (.inl h))
  · exact .inr (.inr (.inr h))
/-- each tile of the rectangle has its leaf -/
theorem lv_tile1 : ∀ {q : Q} {k : Nat} {x y a b c d : Int} {i j : Nat}, q.fits k → rightB a b c d = true → i < 2 ^ k → j < 2 ^ k → inside a b c d (x + i) (y + j) → ∃ e ∈ lv q k x y a b c d, e.2.2.2 = q.at_ k i j
  | .leaf v, k, x, y, a, b, c, d, i, j, _, hr, hi, hj, hin => by
    have hm : meetP x y ((2 ^ k : Nat) : Int) a b c d := by
      unfold inside at hin
      refine ⟨hr, ?_⟩
      generalize 2 ^ k = s at *
      omega
    exact ⟨_, by unfold lv; rw [if_pos hm]; exact List.mem_singleton_self _, rfl⟩
  | .node _ _ t, 0, _, _, _, _, _, _, _, _, hf, _, _, _, _ => hf.elim
  | .node u g t, k + 1, x, y, a, b, c, d, i, j, hf, hr, hi, hj, hin => by
    have hm : meetP x y ((2 ^ (k + 1) : Nat) : Int) a b c d := by
      unfold inside at hin
      refine ⟨hr, ?_⟩
      generalize 2 ^ (k + 1) = s at *
      omega
    obtain ⟨p, i', j', hp, hi', hj', rfl, rfl⟩ := quarter_of hi hj
    obtain ⟨e, he, hv⟩ := lv_tile1 (q := t p) (x := qx x (2 ^ k) p) (y := qy y (2 ^ k) p) (hf p hp) hr hi' hj' (by rw [qx_add, qy_add]; exact hin)
    exact ⟨e, mem_quarter hp hm he, by rw [hv, at_quarter hp hi' hj']⟩
/-- each leaf has a tile in the rectangle -/
theorem lv_tile2 : ∀ {q : Q} {k : Nat} {x y a b c d : Int} {e : Lf}, q.fits k → e ∈ lv q k x y a b c d → rightB a b c d = true ∧ ∃ i j, i < 2 ^ k ∧ j < 2 ^ k ∧ inside a b c d (x + (i : Nat)) (y + (j : Nat)) ∧ q.at_ k i j = e.2.2.2
  | .leaf v, k, x, y, a, b, c, d, e, _, he => by
    unfold lv at he
    split at he
    · rename_i hm
      rw [List.mem_singleton] at he
      subst he
      have hy := right_yes hm.1
      obtain ⟨hr, h1, h2, h3, h4⟩ := hm
      have hp := pow_pos k
      refine ⟨hr, (if x ≤ a then (a - x).toNat else 0), (if y ≤ b then (b - y).toNat else 0), ?_, ?_, ?_, rfl⟩
      · generalize 2 ^ k = s at *
        split <;> omega
      · generalize 2 ^ k = s at *
        split <;> omega
      · generalize 2 ^ k = s at *
        unfold inside
        split <;> split <;> omega
    · cases he
  | .node _ _ t, 0, _, _, _, _, _, _, _, hf, _ => hf.elim
  | .node u g t, k + 1, x, y, a, b, c, d, e, hf, he => by
    rw [lv_succ] at he
    split at he
    · have key : ∃ p, p < 4 ∧ e ∈ lv (t p) k (qx x (2 ^ k) p) (qy y (2 ^ k) p) a b c d := by
        rw [List.mem_append, List.mem_append, List.mem_append] at he
        rcases he with he | he | he | he
        · exact ⟨0, by omega, he⟩
        · exact ⟨1, by omega, he⟩
        · exact ⟨2, by omega, he⟩
        · exact ⟨3, by omega, he⟩
      obtain ⟨p, hp, hq⟩ := key
      obtain ⟨hr, i, j, hi, hj, hin, hv⟩ := lv_tile2 (hf p hp) hq
      rw [qx_add, qy_add] at hin
      exact ⟨hr, _, _, quarter_lt (by omega) hi, quarter_lt (by omega) hj, hin, by rw [at_quarter hp hi hj]; exact hv⟩
    · cases he
/-- sums -/
def sumN : Nat → (Nat → Int) → Int
  | 0, _ => 0
  | n + 1, f => sumN n f + f n
theorem sumN_congr {f g : Nat → Int} : ∀ {n : Nat}, (∀ i, i < n → f i = g i) → sumN n f = sumN n g
  | 0, _ => rfl
  | n + 1, h => by
    simp only [sumN]
    rw [sumN_congr (fun i hi => h i (by omega)), h n (by omega)]
theorem sumN_add (n : Nat) (f : Nat → Int) : ∀ m, sumN (n + m) f = sumN n f + sumN m (fun i => f (n + i))
  | 0 => by simp [sumN]
  | m + 1 => by
    rw [← Nat.add_assoc]
    simp only [sumN]
    rw [sumN_add n f m]
    omega
theorem sumN_plus (f g : Nat → Int) : ∀ n, sumN n (fun i => f i + g i) = sumN n f + sumN n g
  | 0 => rfl
  | n + 1 => by
    simp only [sumN]
    rw [sumN_plus f g n]
    omega
theorem sumN_const (c : Int) : ∀ n : Nat, sumN n (fun _ => c) = n * c
  | 0 => by simp [sumN]
  | n + 1 => by
    simp only [sumN]
    rw [sumN_const c n, Int.natCast_add, Int.add_mul]
    simp
def S2 (n : Nat) (f : Nat → Nat → Int) : Int := sumN n (fun j => sumN n (fun i => f i j))
theorem S2_two (n : Nat) (f : Nat → Nat → Int) : S2 (n + n) f = S2 n f + (S2 n (fun i j => f (n + i) j) + (S2 n (fun i j => f i (n + j)) + S2 n (fun i j => f (n + i) (n + j)))) := by
  unfold S2
  dsimp only
  rw [sumN_add, sumN_congr (n := n) (f := fun j => sumN (n + n) (fun i => f i j)) (g := fun j => sumN n (fun i => f i j) + sumN n (fun i => f (n + i) j)) (fun j _ => sumN_add n _ n),
    sumN_congr (n := n) (f := fun j => sumN (n + n) (fun i => f i (n + j))) (g := fun j => sumN n (fun i => f i (n + j)) + sumN n (fun i => f (n + i) (n + j))) (fun j _ => sumN_add n _ n), sumN_plus, sumN_plus]
  omega
/-- row by row -/
theorem rows_sum (S : Nat) (hS : 0 < S) (f : Nat → Nat → Int) : ∀ m, sumN (S * m) (fun p => f (p % S) (p / S)) = sumN m (fun j => sumN S (fun i => f i j))
  | 0 => rfl
  | m + 1 => by
    rw [Nat.mul_succ, sumN_add, rows_sum S hS f m]
    simp only [sumN]
    congr 1
    refine sumN_congr (fun i hi => ?_)
    rw [Nat.mul_add_mod, Nat.mod_eq_of_lt hi, Nat.mul_add_div hS, Nat.div_eq_of_lt hi, Nat.add_zero]
theorem S2_congr {n : Nat} {f g : Nat → Nat → Int} (h : ∀ i j, i < n → j < n → f i j = g i j) : S2 n f = S2 n g := sumN_congr (fun j hj => sumN_congr (fun i hi => h i j hi hj))
theorem S2_const (n : Nat) (c : Int) : S2 n (fun _ _ => c) = n * (n * c) := by
  unfold S2
  rw [sumN_congr (g := fun _ => (n : Int) * c) (fun j _ => sumN_const c n), sumN_const]
/-- one for a tile that has the value -/
def hit (v : Int) (z : Nat) : Int := if (z : Int) = v then 1 else 0
theorem cnt_tiles (v S : Int) (hS : 1 ≤ S ∧ S ≤ 256) : ∀ {q : Q} {k : Nat} {x y : Int}, q.fits k → 0 ≤ x → 0 ≤ y → x + ((2 ^ k : Nat) : Int) ≤ S → y + ((2 ^ k : Nat) : Int) ≤ S →
    cnt v (lv q k x y 0 0 S S) = S2 (2 ^ k) (fun i j => hit v (q.at_ k i j))
  | .leaf u, k, x, y, _, hx, hy, h1, h2 => by
    have hp := pow_pos k
    have hm : meetP x y ((2 ^ k : Nat) : Int) 0 0 S S := by
      refine ⟨right_mk (by omega), ?_⟩
      generalize 2 ^ k = s at *
      omega
    unfold lv
    rw [if_pos hm]
    show (if (u : Int) = v then ((2 ^ k : Nat) : Int) * ((2 ^ k : Nat) : Int) else 0) + 0 = S2 (2 ^ k) (fun _ _ => hit v u)
    rw [S2_const]
    unfold hit
    split <;> simp
  | .node _ _ t, 0, _, _, hf, _, _, _, _ => hf.elim
  | .node u g t, k + 1, x, y, hf, hx, hy, h1, h2 => by
    have hp := pow_pos k
    have hm : meetP x y ((2 ^ (k + 1) : Nat) : Int) 0 0 S S := by
      have := pow_pos (k + 1)
      refine ⟨right_mk (by omega), ?_⟩
      generalize 2 ^ (k + 1) = s at *
      omega
    rw [two_pow] at h1 h2
    have e0 : qx x (2 ^ k) 0 = x := by simp [qx]
    have e1 : qx x (2 ^ k) 1 = x + ((2 ^ k : Nat) : Int) := by simp [qx]
    have e2 : qx x (2 ^ k) 2 = x := by simp [qx]
    have e3 : qx x (2 ^ k) 3 = x + ((2 ^ k : Nat) : Int) := by simp [qx]
    have f0 : qy y (2 ^ k) 0 = y := by simp [qy]
    have f1 : qy y (2 ^ k) 1 = y := by simp [qy]
    have f2 : qy y (2 ^ k) 2 = y + ((2 ^ k : Nat) : Int) := by simp [qy]
    have f3 : qy y (2 ^ k) 3 = y + ((2 ^ k : Nat) : Int) := by simp [qy]
    rw [lv_succ, if_pos hm, cnt_append, cnt_append, cnt_append, e0, e1, e2, e3, f0, f1, f2, f3,
      cnt_tiles v S hS (hf 0 (by omega)) hx hy (by omega) (by omega), cnt_tiles v S hS (hf 1 (by omega)) (by omega) hy (by omega) (by omega),
      cnt_tiles v S hS (hf 2 (by omega)) hx (by omega) (by omega) (by omega), cnt_tiles v S hS (hf 3 (by omega)) (by omega) (by omega) (by omega) (by omega),
      show 2 ^ (k + 1) = 2 ^ k + 2 ^ k by rw [Nat.pow_succ]; omega, S2_two]
    have a0 : ∀ i j, i < 2 ^ k → j < 2 ^ k → (Q.node u g t).at_ (k + 1) i j = (t 0).at_ k i j := fun i j hi hj => by
      have := at_quarter (u := u) (g := g) (t := t) (i := 0) (by omega) hi hj
      simpa using this
    have a1 : ∀ i j, i < 2 ^ k → j < 2 ^ k → (Q.node u g t).at_ (k + 1) (2 ^ k + i) j = (t 1).at_ k i j := fun i j hi hj => by
      have := at_quarter (u := u) (g := g) (t := t) (i := 1) (by omega) hi hj
      rw [Nat.add_comm (2 ^ k) i]
      simpa using this
    have a2 : ∀ i j, i < 2 ^ k → j < 2 ^ k → (Q.node u g t).at_ (k + 1) i (2 ^ k + j) = (t 2).at_ k i j := fun i j hi hj => by
      have := at_quarter (u := u) (g := g) (t := t) (i := 2) (by omega) hi hj
      rw [Nat.add_comm (2 ^ k) j]
      simpa using this
    have a3 : ∀ i j, i < 2 ^ k → j < 2 ^ k → (Q.node u g t).at_ (k + 1) (2 ^ k + i) (2 ^ k + j) = (t 3).at_ k i j := fun i j hi hj => by
      have := at_quarter (u := u) (g := g) (t := t) (i := 3) (by omega) hi hj
      rw [Nat.add_comm (2 ^ k) j, Nat.add_comm (2 ^ k) i]
      simpa using this
    rw [S2_congr (f := fun i j => hit v ((Q.node u g t).at_ (k + 1) i j)) (fun i j hi hj => congrArg (hit v) (a0 i j hi hj)),
      S2_congr (f := fun i j => hit v ((Q.node u g t).at_ (k + 1) (2 ^ k + i) j)) (fun i j hi hj => congrArg (hit v) (a1 i j hi hj)),
      S2_congr (f := fun i j => hit v ((Q.node u g t).at_ (k + 1) i (2 ^ k + j))) (fun i j hi hj => congrArg (hit v) (a2 i j hi hj)),
      S2_congr (f := fun i j => hit v ((Q.node u g t).at_ (k + 1) (2 ^ k + i) (2 ^ k + j))) (fun i j hi hj => congrArg (hit v) (a3 i j hi hj))]
end Go.Proofs.Ytpfnkmlfpkjkpaa.qd
