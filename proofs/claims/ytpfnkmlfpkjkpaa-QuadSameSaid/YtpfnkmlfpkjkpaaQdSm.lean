/-
  Quads: sameness: lemmas.
-/
import Derived.Test.YtpfnkmlfpkjkpaaQdCo
import Derived.Test.YtpfnkmlfpkjkpaaQdPb
import Derived.Test.YtpfnkmlfpkjkpaaQdAl
namespace Go.Proofs.Ytpfnkmlfpkjkpaa.qd
open Go.RowKit Go.Shelf
open base (ret_bool ret_int made up Blk Only)
set_option linter.unusedVariables false
set_option linter.unusedSimpArgs false

theorem eqv_refl : ∀ q : Q, eqv q q
  | .leaf _ => rfl
  | .node _ _ t => fun i _ => eqv_refl (t i)
theorem eqv_symm : ∀ {q q' : Q}, eqv q q' → eqv q' q
  | .leaf _, .leaf _, h => Eq.symm h
  | .node _ _ _, .node _ _ _, h => fun i hi => eqv_symm (h i hi)
  | .leaf _, .node _ _ _, h => h.elim
  | .node _ _ _, .leaf _, h => h.elim
theorem eqv_at : ∀ {q q' : Q}, eqv q q' → ∀ k i j, q.fits k → i < 2 ^ k → j < 2 ^ k → q.at_ k i j = q'.at_ k i j
  | .leaf u, .leaf v, h, k, i, j, _, _, _ => by
    have : u = v := h
    rw [this]
  | .node _ _ s, .node _ _ t, h, 0, i, j, hf, _, _ => hf.elim
  | .node u g s, .node u' g' t, h, k + 1, i, j, hf, hi, hj => by
    obtain ⟨p, a, b, hp, ha, hb, rfl, rfl⟩ := quarter_of hi hj
    rw [at_quarter hp ha hb, at_quarter hp ha hb]
    exact eqv_at (h p hp) k a b (hf p hp) ha hb
  | .leaf _, .node _ _ _, h, _, _, _, _, _, _ => h.elim
  | .node _ _ _, .leaf _, h, _, _, _, _, _, _ => h.elim
theorem at_small : ∀ {q : Q} {k i j : Nat}, q.fits k → q.small → i < 2 ^ k → j < 2 ^ k → q.at_ k i j < 256
  | .leaf v, _, _, _, _, h, _, _ => h
  | .node _ _ _, 0, _, _, hf, _, _, _ => hf.elim
  | .node u g t, k + 1, i, j, hf, hs, hi, hj => by
    obtain ⟨p, a, b, hp, ha, hb, rfl, rfl⟩ := quarter_of hi hj
    rw [at_quarter hp ha hb]
    exact at_small (hf p hp) (hs.2 p hp) ha hb
/-- the grids are alike just if the quads are -/
theorem same_eqv {q q' : Q} {k : Nat} {L L' : List Nat} (hf : q.fits k) (hc : q.canon) (hf' : q'.fits k) (hc' : q'.canon) (hs : Same k q L) (hs' : Same k q' L') : (∀ i, i < 4 ^ k → L.getD i 0 = L'.getD i 0) ↔ eqv q q' := by
  constructor
  · intro h
    refine canon_unique hf hc hf' hc' (fun i j hi hj => ?_)
    obtain ⟨h1, h2, h3⟩ := tile_p (k := k) hi hj
    have e1 := hs _ h3
    have e2 := hs' _ h3
    rw [h1, h2] at e1 e2
    rw [← e1, ← e2]
    exact h _ h3
  · intro h p hp
    have h0 := pow_pos k
    rw [hs p hp, hs' p hp]
    exact eqv_at h k _ _ hf (Nat.mod_lt _ h0) (Nat.div_lt_of_lt_mul (by rw [← four_two]; exact hp))
/-- the value of the corner -/
theorem corner {q : Q} {k : Nat} (hf : q.fits k) : hv (lv q k 0 0 0 0 1 1) = q.at_ k 0 0 := by
  have h0 := pow_pos k
  obtain ⟨e, he, -⟩ := lv_tile1 (q := q) (k := k) (x := 0) (y := 0) (a := 0) (b := 0) (c := 1) (d := 1) (i := 0) (j := 0) hf (rect.right_mk (by omega)) h0 h0 (by unfold inside; omega)
  cases hL : lv q k 0 0 0 0 1 1 with
  | nil => rw [hL] at he; cases he
  | cons d l =>
    obtain ⟨-, i, j, hi, hj, hin, hv'⟩ := lv_tile2 (e := d) hf (by rw [hL]; exact List.mem_cons_self)
    unfold inside at hin
    obtain rfl : i = 0 := by omega
    obtain rfl : j = 0 := by omega
    exact hv'.symm
theorem inb_one (k : Nat) : inB 0 0 ((2 ^ k : Nat) : Int) 0 0 1 1 := by
  have h := pow_pos k
  have hr : rect.rightB 0 0 1 1 = true := rect.right_mk (by omega)
  unfold inB
  generalize 2 ^ k = s at *
  simp only [hr, true_and]
  omega
end Go.Proofs.Ytpfnkmlfpkjkpaa.qd
