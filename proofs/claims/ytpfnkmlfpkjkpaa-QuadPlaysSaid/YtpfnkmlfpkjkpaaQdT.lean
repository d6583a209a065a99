/-
  Quads: a canonical square is known by its tiles.
-/
import Derived.Test.YtpfnkmlfpkjkpaaQdS
import Derived.Test.YtpfnkmlfpkjkpaaQdQ
namespace Go.Proofs.Ytpfnkmlfpkjkpaa.qd
open Go.RowKit Go.Shelf
open base (ret_bool ret_int made up Blk Only)
open rect rgm
set_option linter.unusedVariables false
set_option linter.unusedSimpArgs false

/-- the same square, wherever it lies -/
def eqv : Q → Q → Prop
  | .leaf u, .leaf v => u = v
  | .node _ _ s, .node _ _ t => ∀ i, i < 4 → eqv (s i) (t i)
  | _, _ => False
theorem at_quarter {u g k : Nat} {t : Nat → Q} {i a b : Nat} (hi : i < 4) (ha : a < 2 ^ k) (hb : b < 2 ^ k) :
    (Q.node u g t).at_ (k + 1) (a + (i % 2) * 2 ^ k) (b + (i / 2) * 2 ^ k) = (t i).at_ k a b := by
  have hp := pow_pos k
  show (t ((a + (i % 2) * 2 ^ k) / 2 ^ k + 2 * ((b + (i / 2) * 2 ^ k) / 2 ^ k))).at_ k ((a + (i % 2) * 2 ^ k) % 2 ^ k) ((b + (i / 2) * 2 ^ k) % 2 ^ k) = _
  rw [Nat.add_mul_div_right _ _ hp, Nat.add_mul_div_right _ _ hp, Nat.add_mul_mod_self_right, Nat.add_mul_mod_self_right, Nat.div_eq_of_lt ha, Nat.div_eq_of_lt hb, Nat.mod_eq_of_lt ha, Nat.mod_eq_of_lt hb]
  rw [show 0 + i % 2 + 2 * (0 + i / 2) = i by omega]
theorem quarter_lt {k i a : Nat} (hi : i < 2) (ha : a < 2 ^ k) : a + i * 2 ^ k < 2 ^ (k + 1) := by
  rw [Nat.pow_succ]
  rcases (show i = 0 ∨ i = 1 by omega) with rfl | rfl <;> omega
theorem const_leaf : ∀ {q : Q} {k v : Nat}, q.fits k → q.canon → (∀ i j, i < 2 ^ k → j < 2 ^ k → q.at_ k i j = v) → q = .leaf v
  | .leaf u, k, v, _, _, h => by
    have := h 0 0 (pow_pos k) (pow_pos k)
    exact congrArg Q.leaf this
  | .node _ _ t, 0, _, hf, _, _ => hf.elim
  | .node u g t, k + 1, v, hf, hc, h => by
    refine absurd ⟨v, fun i hi => const_leaf (hf i hi) (hc.1 i hi) (fun a b ha hb => ?_)⟩ hc.2
    rw [← at_quarter (u := u) (g := g) hi ha hb]
    exact h _ _ (quarter_lt (by omega) ha) (quarter_lt (by omega) hb)
theorem canon_unique : ∀ {q q' : Q} {k : Nat}, q.fits k → q.canon → q'.fits k → q'.canon → (∀ i j, i < 2 ^ k → j < 2 ^ k → q.at_ k i j = q'.at_ k i j) → eqv q q'
  | .leaf u, q', k, hf, hc, hf', hc', h => by
    have := const_leaf (v := u) hf' hc' (fun i j hi hj => (h i j hi hj).symm)
    rw [this]
    rfl
  | .node _ _ _, _, 0, hf, _, _, _, _ => hf.elim
  | .node u g t, .leaf v, k + 1, hf, hc, _, _, h => by
    have := const_leaf (v := v) hf hc (fun i j hi hj => h i j hi hj)
    cases this
  | .node u g t, .node u' g' t', k + 1, hf, hc, hf', hc', h => by
    intro i hi
    refine canon_unique (hf i hi) (hc.1 i hi) (hf' i hi) (hc'.1 i hi) (fun a b ha hb => ?_)
    rw [← at_quarter (u := u) (g := g) hi ha hb, ← at_quarter (u := u') (g := g') (t := t') hi ha hb]
    exact h _ _ (quarter_lt (by omega) ha) (quarter_lt (by omega) hb)
theorem lv_eqv : ∀ {q q' : Q} {k : Nat} {x y a b c d : Int}, eqv q q' → lv q k x y a b c d = lv q' k x y a b c d
  | .leaf u, .leaf v, _, _, _, _, _, _, _, h => by
    have : u = v := h
    rw [this]
  | .node _ _ s, .node _ _ t, k, x, y, a, b, c, d, h => by
    unfold lv
    rw [lv_eqv (h 0 (by omega)), lv_eqv (h 1 (by omega)), lv_eqv (h 2 (by omega)), lv_eqv (h 3 (by omega))]
  | .leaf _, .node _ _ _, _, _, _, _, _, _, _, h => h.elim
  | .node _ _ _, .leaf _, _, _, _, _, _, _, _, h => h.elim
theorem count_eqv : ∀ {q q' : Q}, eqv q q' → q.count = q'.count
  | .leaf u, .leaf v, h => rfl
  | .node _ _ s, .node _ _ t, h => by
    unfold Q.count
    rw [count_eqv (h 0 (by omega)), count_eqv (h 1 (by omega)), count_eqv (h 2 (by omega)), count_eqv (h 3 (by omega))]
  | .leaf _, .node _ _ _, h => h.elim
  | .node _ _ _, .leaf _, h => h.elim
/-- the quad of the fixed answer -/
def q0 : Q := .node 0 0 (fun i => if i = 0 then .leaf 1 else .leaf 0)
theorem q0_fits : q0.fits 2 := fun i hi => by
  show Q.fits (if i = 0 then .leaf 1 else .leaf 0) 1
  split <;> trivial
theorem q0_canon : q0.canon := by
  refine ⟨fun i hi => ?_, ?_⟩
  · show Q.canon (if i = 0 then .leaf 1 else .leaf 0)
    split <;> trivial
  · rintro ⟨u, h⟩
    have h0 := h 0 (by omega)
    have h1 := h 1 (by omega)
    have e0 : Q.leaf 1 = Q.leaf u := h0
    have e1 : Q.leaf 0 = Q.leaf u := h1
    injection e0 with e0
    injection e1 with e1
    omega
theorem q0_at : ∀ i : Fin 4, ∀ j : Fin 4, q0.at_ 2 i.1 j.1 = if inside 0 0 2 2 (0 + ((i.1 : Nat) : Int)) (0 + ((j.1 : Nat) : Int)) then 1 else 0 := by
  decide +kernel
theorem q0_is {q' : Q} (h : Sem 2 0 0 0 0 2 2 1 (.leaf 0) q') : eqv q' q0 := by
  refine canon_unique h.fits h.canon q0_fits q0_canon (fun i j hi hj => ?_)
  rw [h.at_ i j hi hj, q0_at ⟨i, hi⟩ ⟨j, hj⟩]
  rfl
theorem q0_lv1 : lv q0 2 0 0 1 1 1 1 = [(0, 0, 2, 1)] := by kernel_rfl
theorem q0_lv2 : lv q0 2 0 0 0 0 4 4 = [(0, 0, 2, 1), (2, 0, 2, 0), (0, 2, 2, 0), (2, 2, 2, 0)] := by kernel_rfl
theorem q0_lv3 : lv q0 2 0 0 1 1 9 9 = [(0, 0, 2, 1), (2, 0, 2, 0), (0, 2, 2, 0), (2, 2, 2, 0)] := by kernel_rfl
theorem q0_count : q0.count = 5 := by kernel_rfl
theorem aw_facts {q' : Q} (h : Sem 2 0 0 0 0 2 2 1 (.leaf 0) q') : lv q' 2 0 0 1 1 1 1 = [(0, 0, 2, 1)] ∧ q'.count = 5 ∧ cnt 1 (lv q' 2 0 0 0 0 4 4) = 4 ∧ anyV 1 (lv q' 2 0 0 1 1 9 9) = true := by
  have e := q0_is h
  rw [lv_eqv e, lv_eqv e, lv_eqv e, count_eqv e, q0_lv1, q0_lv2, q0_lv3, q0_count]
  exact ⟨rfl, rfl, by simp [cnt], by simp [anyV]⟩
end Go.Proofs.Ytpfnkmlfpkjkpaa.qd
