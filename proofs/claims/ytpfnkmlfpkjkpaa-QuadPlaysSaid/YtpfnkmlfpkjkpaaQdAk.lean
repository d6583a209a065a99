/-
  Quads: what is asked of a quad, told by the grid.
-/
import Derived.Test.YtpfnkmlfpkjkpaaQdZ
import Derived.Test.YtpfnkmlfpkjkpaaQdOp
namespace Go.Proofs.Ytpfnkmlfpkjkpaa.qd
open Go.RowKit Go.Shelf
open base (ret_bool ret_int made up Blk Only)
open rect rgm
set_option linter.unusedVariables false
set_option linter.unusedSimpArgs false

/-- is the tile at p one of a rectangle's? -/
def Hp (k : Nat) (a b c d : Int) (p : Nat) : Prop := rightB a b c d = true ∧ inside a b c d ((p % 2 ^ k : Nat) : Int) ((p / 2 ^ k : Nat) : Int)
theorem four_two (k : Nat) : 4 ^ k = 2 ^ k * 2 ^ k := by rw [← Nat.mul_pow]
theorem tile_p {k i j : Nat} (hi : i < 2 ^ k) (hj : j < 2 ^ k) : (i + j * 2 ^ k) % 2 ^ k = i ∧ (i + j * 2 ^ k) / 2 ^ k = j ∧ i + j * 2 ^ k < 4 ^ k := by
  have hp := pow_pos k
  refine ⟨by rw [Nat.add_mul_mod_self_right, Nat.mod_eq_of_lt hi], by rw [Nat.add_mul_div_right _ _ hp, Nat.div_eq_of_lt hi, Nat.zero_add], ?_⟩
  rw [four_two]
  have : (j + 1) * 2 ^ k ≤ 2 ^ k * 2 ^ k := Nat.mul_le_mul_right _ hj
  rw [Nat.succ_mul] at this
  omega
section
variable {q : Q} {k : Nat} {a b c d : Int} {L : List Nat}
theorem leaf_of_tile (hf : q.fits k) (hs : Same k q L) {p : Nat} (hp : p < 4 ^ k) (hh : Hp k a b c d p) : ∃ e ∈ lv q k 0 0 a b c d, e.2.2.2 = L.getD p 0 := by
  have h0 := pow_pos k
  obtain ⟨hr, hin⟩ := hh
  obtain ⟨e, he, hv⟩ := lv_tile1 (x := 0) (y := 0) hf hr (Nat.mod_lt p h0) (Nat.div_lt_of_lt_mul (by rw [← four_two]; exact hp)) (by rw [Int.zero_add, Int.zero_add]; exact hin)
  exact ⟨e, he, by rw [hv, hs p hp]⟩
theorem tile_of_leaf (hf : q.fits k) (hs : Same k q L) {e : Lf} (he : e ∈ lv q k 0 0 a b c d) : ∃ p, p < 4 ^ k ∧ Hp k a b c d p ∧ L.getD p 0 = e.2.2.2 := by
  obtain ⟨hr, i, j, hi, hj, hin, hv⟩ := lv_tile2 hf he
  obtain ⟨h1, h2, h3⟩ := tile_p hi hj
  rw [Int.zero_add, Int.zero_add] at hin
  refine ⟨_, h3, ⟨hr, by rw [h1, h2]; exact hin⟩, ?_⟩
  rw [hs _ h3, h1, h2, hv]
theorem any_tiles (hf : q.fits k) (hs : Same k q L) (v : Int) : anyV v (lv q k 0 0 a b c d) = true ↔ ∃ p, p < 4 ^ k ∧ Hp k a b c d p ∧ ((L.getD p 0 : Nat) : Int) = v := by
  unfold anyV
  rw [List.any_eq_true]
  constructor
  · rintro ⟨e, he, hv⟩
    have hv := of_decide_eq_true hv
    obtain ⟨p, hp, hh, hL⟩ := tile_of_leaf hf hs he
    exact ⟨p, hp, hh, by rw [hL]; exact hv⟩
  · rintro ⟨p, hp, hh, hv⟩
    obtain ⟨e, he, hL⟩ := leaf_of_tile hf hs hp hh
    exact ⟨e, he, decide_eq_true (by rw [hL]; exact hv)⟩
theorem cnt_grid (hf : q.fits k) (hs : Same k q L) (hk : k ≤ 8) (v : Int) : cnt v (lv q k 0 0 0 0 ((2 ^ k : Nat) : Int) ((2 ^ k : Nat) : Int)) = sumN (4 ^ k) (fun p => hit v (L.getD p 0)) := by
  have h0 := pow_pos k
  have h8 : 2 ^ k ≤ 2 ^ 8 := Nat.pow_le_pow_right (by decide) hk
  rw [cnt_tiles v _ (by generalize 2 ^ k = s at *; omega) hf (Int.le_refl _) (Int.le_refl _) (by omega) (by omega), four_two]
  rw [sumN_congr (g := fun p => (fun i j => hit v (q.at_ k i j)) (p % 2 ^ k) (p / 2 ^ k)) (fun p hp => by rw [hs p (by rw [four_two]; exact hp)]), rows_sum (2 ^ k) h0 (fun i j => hit v (q.at_ k i j))]
  rfl
/-- what Only tells, told by the grid -/
theorem onr_tiles (hf : q.fits k) (hs : Same k q L) {v : Int} {s : Bool} (h : OnR (lv q k 0 0 a b c d) v s) :
    (s = false ∧ v = 0 ∧ ∀ p, p < 4 ^ k → ¬ Hp k a b c d p) ∨
    (s = true ∧ (∃ p, p < 4 ^ k ∧ Hp k a b c d p) ∧ ∀ p, p < 4 ^ k → Hp k a b c d p → ((L.getD p 0 : Nat) : Int) = v) ∨
    (s = false ∧ v = 0 ∧ ∃ p p', p < 4 ^ k ∧ p' < 4 ^ k ∧ Hp k a b c d p ∧ Hp k a b c d p' ∧ L.getD p 0 ≠ L.getD p' 0) := by
  have mem : ∀ {i : Nat}, i < (lv q k 0 0 a b c d).length → (lv q k 0 0 a b c d).getD i dfl ∈ lv q k 0 0 a b c d := fun {i} hi => by
    rw [List.getD_eq_getElem?_getD, List.getElem?_eq_getElem hi, Option.getD_some]
    exact List.getElem_mem hi
  rcases h with (⟨h0, rfl, rfl⟩ | ⟨h0, rfl, hall⟩) | ⟨rfl, rfl, i, j, hi, hj, hne⟩
  · refine .inl ⟨rfl, rfl, fun p hp hh => ?_⟩
    obtain ⟨e, he, -⟩ := leaf_of_tile hf hs hp hh
    rw [List.length_eq_zero_iff.1 h0] at he
    cases he
  · refine .inr (.inl ⟨rfl, ?_, fun p hp hh => ?_⟩)
    · obtain ⟨p, hp, hh, -⟩ := tile_of_leaf hf hs (mem h0)
      exact ⟨p, hp, hh⟩
    · obtain ⟨e, he, hL⟩ := leaf_of_tile hf hs hp hh
      obtain ⟨i, hi, rfl⟩ := List.mem_iff_getElem.1 he
      have := hall i hi
      rw [List.getD_eq_getElem?_getD, List.getElem?_eq_getElem hi, Option.getD_some] at this
      rw [← hL]
      exact this
  · obtain ⟨p, hp, hh, hL⟩ := tile_of_leaf hf hs (mem hi)
    obtain ⟨p', hp', hh', hL'⟩ := tile_of_leaf hf hs (mem hj)
    exact .inr (.inr ⟨rfl, rfl, p, p', hp, hp', hh, hh', by rw [hL, hL']; exact hne⟩)
end
end Go.Proofs.Ytpfnkmlfpkjkpaa.qd
