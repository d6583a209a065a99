/-
  Quads: leaves cover the tiles; the grid that is set leaf by leaf.
-/
import Derived.Test.YtpfnkmlfpkjkpaaQdAk
import Derived.Test.YtpfnkmlfpkjkpaaQdX
namespace Go.Proofs.Ytpfnkmlfpkjkpaa.qd
open Go.RowKit Go.Shelf
open base (ret_bool ret_int made up Blk Only)
open rect rgm
set_option linter.unusedVariables false
set_option linter.unusedSimpArgs false

theorem lv_cover : ∀ {q : Q} {k : Nat} {x y a b c d : Int} {i j : Nat}, q.fits k → rightB a b c d = true → i < 2 ^ k → j < 2 ^ k → inside a b c d (x + i) (y + j) → ∃ e ∈ lv q k x y a b c d, inside e.1 e.2.1 e.2.2.1 e.2.2.1 (x + i) (y + j)
  | .leaf v, k, x, y, a, b, c, d, i, j, _, hr, hi, hj, hin => by
    have hm : meetP x y ((2 ^ k : Nat) : Int) a b c d := by
      unfold inside at hin
      refine ⟨hr, ?_⟩
      generalize 2 ^ k = s at *
      omega
    refine ⟨_, by unfold lv; rw [if_pos hm]; exact List.mem_singleton_self _, ?_⟩
    unfold inside
    generalize 2 ^ k = s at *
    dsimp only
    omega
  | .node _ _ t, 0, _, _, _, _, _, _, _, _, hf, _, _, _, _ => hf.elim
  | .node u g t, k + 1, x, y, a, b, c, d, i, j, hf, hr, hi, hj, hin => by
    have hm : meetP x y ((2 ^ (k + 1) : Nat) : Int) a b c d := by
      unfold inside at hin
      refine ⟨hr, ?_⟩
      generalize 2 ^ (k + 1) = s at *
      omega
    obtain ⟨p, i', j', hp, hi', hj', rfl, rfl⟩ := quarter_of hi hj
    obtain ⟨e, he, hv⟩ := lv_cover (q := t p) (x := qx x (2 ^ k) p) (y := qy y (2 ^ k) p) (hf p hp) hr hi' hj' (by rw [qx_add, qy_add]; exact hin)
    exact ⟨e, mem_quarter hp hm he, by rw [qx_add, qy_add] at hv; exact hv⟩
theorem lv_within : ∀ {q : Q} {k : Nat} {x y a b c d : Int} {e : Lf}, q.fits k → e ∈ lv q k x y a b c d → x ≤ e.1 ∧ e.1 + e.2.2.1 ≤ x + ((2 ^ k : Nat) : Int) ∧ y ≤ e.2.1 ∧ e.2.1 + e.2.2.1 ≤ y + ((2 ^ k : Nat) : Int)
  | .leaf v, k, x, y, a, b, c, d, e, _, he => by
    unfold lv at he
    split at he
    · rw [List.mem_singleton] at he
      subst he
      exact ⟨Int.le_refl _, Int.le_refl _, Int.le_refl _, Int.le_refl _⟩
    · cases he
  | .node _ _ t, 0, _, _, _, _, _, _, _, hf, _ => hf.elim
  | .node u g t, k + 1, x, y, a, b, c, d, e, hf, he => by
    have key : ∀ p, p < 4 → e ∈ lv (t p) k (qx x (2 ^ k) p) (qy y (2 ^ k) p) a b c d → x ≤ e.1 ∧ e.1 + e.2.2.1 ≤ x + ((2 ^ (k + 1) : Nat) : Int) ∧ y ≤ e.2.1 ∧ e.2.1 + e.2.2.1 ≤ y + ((2 ^ (k + 1) : Nat) : Int) := by
      intro p hp h
      have h1 := lv_within (q := t p) (hf p hp) h
      have hp2 := pow_pos k
      rw [two_pow]
      rcases qx_range (x := x) (h := 2 ^ k) hp with e1 | e1 <;> rcases qy_range (y := y) (h := 2 ^ k) hp with f | f <;> rw [e1, f] at h1 <;> generalize 2 ^ k = s at * <;> omega
    rw [lv_succ] at he
    split at he
    · rw [List.mem_append, List.mem_append, List.mem_append] at he
      rcases he with he | he | he | he
      · exact key 0 (by omega) he
      · exact key 1 (by omega) he
      · exact key 2 (by omega) he
      · exact key 3 (by omega) he
    · cases he
theorem same_quarter {x z : Int} {h a i : Nat} {m m' : Nat} (hm : m < 2) (hm' : m' < 2) (ha : a < h) (h1 : x + (m : Int) * (h : Int) ≤ z) (h2 : z < x + (m : Int) * (h : Int) + (h : Int)) (hz : z = x + ((a + m' * h : Nat) : Int)) : m = m' := by
  rcases (show m = 0 ∨ m = 1 by omega) with rfl | rfl <;> rcases (show m' = 0 ∨ m' = 1 by omega) with rfl | rfl
  · rfl
  · exfalso; rw [Nat.one_mul] at hz; simp only [Int.natCast_zero, Int.zero_mul, Int.natCast_add] at *; omega
  · exfalso; rw [Nat.zero_mul] at hz; simp only [Int.natCast_one, Int.one_mul, Int.natCast_add, Int.natCast_zero] at *; omega
  · rfl
/-- a tile of a leaf has its value -/
theorem lv_value : ∀ {q : Q} {k : Nat} {x y a b c d : Int} {e : Lf} {i j : Nat}, q.fits k → e ∈ lv q k x y a b c d → i < 2 ^ k → j < 2 ^ k → inside e.1 e.2.1 e.2.2.1 e.2.2.1 (x + i) (y + j) → q.at_ k i j = e.2.2.2
  | .leaf v, k, x, y, a, b, c, d, e, i, j, _, he, _, _, _ => by
    unfold lv at he
    split at he
    · rw [List.mem_singleton] at he
      subst he
      rfl
    · cases he
  | .node _ _ t, 0, _, _, _, _, _, _, _, _, _, hf, _, _, _, _ => hf.elim
  | .node u g t, k + 1, x, y, a, b, c, d, e, i, j, hf, he, hi, hj, hin => by
    obtain ⟨p, i', j', hp, hi', hj', rfl, rfl⟩ := quarter_of hi hj
    have key : ∀ p', p' < 4 → e ∈ lv (t p') k (qx x (2 ^ k) p') (qy y (2 ^ k) p') a b c d → p' = p := by
      intro p' hp' h
      obtain ⟨g1, g2, g3, g4⟩ := lv_within (q := t p') (hf p' hp') h
      unfold qx at g1 g2
      unfold qy at g3 g4
      obtain ⟨k1, k2, k3, k4⟩ := hin
      have e1 := same_quarter (m := p' % 2) (m' := p % 2) (i := 0) (by omega) (by omega) hi' (Int.le_trans g1 k1) (Int.lt_of_lt_of_le k2 g2) rfl
      have e2 := same_quarter (m := p' / 2) (m' := p / 2) (i := 0) (by omega) (by omega) hj' (Int.le_trans g3 k3) (Int.lt_of_lt_of_le k4 g4) rfl
      omega
    have fin : e ∈ lv (t p) k (qx x (2 ^ k) p) (qy y (2 ^ k) p) a b c d → (Q.node u g t).at_ (k + 1) (i' + p % 2 * 2 ^ k) (j' + p / 2 * 2 ^ k) = e.2.2.2 := by
      intro h
      rw [at_quarter hp hi' hj']
      exact lv_value (q := t p) (hf p hp) h hi' hj' (by rw [qx_add, qy_add]; exact hin)
    rw [lv_succ] at he
    split at he
    · rw [List.mem_append, List.mem_append, List.mem_append] at he
      rcases he with he | he | he | he
      · have := key 0 (by omega) he; subst this; exact fin he
      · have := key 1 (by omega) he; subst this; exact fin he
      · have := key 2 (by omega) he; subst this; exact fin he
      · have := key 3 (by omega) he; subst this; exact fin he
    · cases he
/-- the whole quad's leaves -/
def lw (q : Q) (k : Nat) : List Lf := lv q k 0 0 0 0 ((2 ^ k : Nat) : Int) ((2 ^ k : Nat) : Int)
/-- the grid behind the first m leaves -/
def GR (q : Q) (k : Nat) (L : List Nat) (m : Nat) : Prop := L.length = 4 ^ k ∧ ∀ p, p < 4 ^ k → (∃ i, i < m ∧ i < (lw q k).length ∧ inside ((lw q k).getD i dfl).1 ((lw q k).getD i dfl).2.1 ((lw q k).getD i dfl).2.2.1 ((lw q k).getD i dfl).2.2.1 ((p % 2 ^ k : Nat) : Int) ((p / 2 ^ k : Nat) : Int)) → L.getD p 0 = q.at_ k (p % 2 ^ k) (p / 2 ^ k)
section
variable {q : Q} {k m : Nat} {L : List Nat}
theorem lw_mem (hm : m < (lw q k).length) : (lw q k).getD m dfl ∈ lw q k := by
  rw [List.getD_eq_getElem?_getD, List.getElem?_eq_getElem hm, Option.getD_some]
  exact List.getElem_mem hm
theorem GR.start (hl : L.length = 4 ^ k) : GR q k L 0 := ⟨hl, fun p hp ⟨i, hi, _⟩ => absurd hi (by omega)⟩
theorem tile_xy {p : Nat} (hp : p < 4 ^ k) : p % 2 ^ k < 2 ^ k ∧ p / 2 ^ k < 2 ^ k := ⟨Nat.mod_lt _ (pow_pos k), Nat.div_lt_of_lt_mul (by rw [← four_two]; exact hp)⟩
theorem GR.next (hf : q.fits k) (h : GR q k L m) (hm : m < (lw q k).length) : GR q k (gset (2 ^ k) ((lw q k).getD m dfl).1 ((lw q k).getD m dfl).2.1 ((lw q k).getD m dfl).2.2.1 ((lw q k).getD m dfl).2.2.1 ((lw q k).getD m dfl).2.2.2 L) (m + 1) := by
  refine ⟨by rw [gset_length]; exact h.1, fun p hp ⟨i, hi, hil, hin⟩ => ?_⟩
  rw [gset_at (by rw [h.1]; exact hp)]
  obtain ⟨h1, h2⟩ := tile_xy hp
  split
  · rename_i hin2
    exact (lv_value (x := 0) (y := 0) hf (lw_mem hm) h1 h2 (by rw [Int.zero_add, Int.zero_add]; exact hin2)).symm
  · rename_i hin2
    refine h.2 p hp ⟨i, ?_, hil, hin⟩
    rcases Nat.lt_succ_iff_lt_or_eq.1 hi with h3 | rfl
    · exact h3
    · exact absurd hin hin2
theorem GR.full (hf : q.fits k) (hb : BoxR 0 0 ((2 ^ k : Nat) : Int)) (h : GR q k L (lw q k).length) : Same k q L := fun p hp => by
  obtain ⟨h1, h2⟩ := tile_xy hp
  have hin0 : inside 0 0 ((2 ^ k : Nat) : Int) ((2 ^ k : Nat) : Int) (0 + ((p % 2 ^ k : Nat) : Int)) (0 + ((p / 2 ^ k : Nat) : Int)) := by
    unfold inside
    generalize p % 2 ^ k = i at *
    generalize p / 2 ^ k = j at *
    generalize 2 ^ k = s at *
    omega
  obtain ⟨e, he, hin⟩ := lv_cover (q := q) (x := 0) (y := 0) (a := 0) (b := 0) hf hb.right h1 h2 hin0
  have he : e ∈ lw q k := he
  obtain ⟨i, hi, hie⟩ := List.mem_iff_getElem.1 he
  refine h.2 p hp ⟨i, hi, hi, ?_⟩
  rw [List.getD_eq_getElem?_getD, List.getElem?_eq_getElem hi, Option.getD_some, hie]
  rw [Int.zero_add, Int.zero_add] at hin
  exact hin
end
end Go.Proofs.Ytpfnkmlfpkjkpaa.qd
