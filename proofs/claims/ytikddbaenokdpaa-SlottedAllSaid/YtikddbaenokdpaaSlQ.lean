/-
  The bytes of a page, read: what is told, and when they are a page's.
-/
import Derived.Test.YtikddbaenokdpaaSlP
namespace Go.Proofs.Ytikddbaenokdpaa.pg
open Go.RowKit Go.Shelf
open bytes (Small small_app small_take small_drop small_nil)
set_option linter.unusedVariables false
set_option linter.unusedSimpArgs false

def ln (l : List Nat) (i : Nat) : Nat := l.getD (1 + 2 * i) 0 + 256 * l.getD (2 + 2 * i) 0
def st (l : List Nat) : Nat → Nat
  | 0 => 1 + 2 * l.getD 0 0
  | i + 1 => st l i + ln l i
def rc (l : List Nat) (i : Nat) : List Nat := (l.drop (st l i)).take (ln l i)
def RL (l : List Nat) (k : Nat) : List (List Nat) := (List.range k).map (rc l)
structure Good (l : List Nat) : Prop where
  sz : 16 ≤ l.length ∧ l.length ≤ 4096
  n : l.getD 0 0 ≤ 63
  at0 : 1 + 2 * l.getD 0 0 ≤ l.length
  fit : ∀ i, i < l.getD 0 0 → st l (i + 1) ≤ l.length
  last : 0 < l.getD 0 0 → ln l (l.getD 0 0 - 1) ≠ 0
  zero : ∀ j, st l (l.getD 0 0) ≤ j → j < l.length → l.getD j 0 = 0
variable {l : List Nat}
theorem gd_none {l : List Nat} {i : Nat} (h : l.length ≤ i) : l.getD i 0 = 0 := by rw [List.getD_eq_getElem?_getD, List.getElem?_eq_none h, Option.getD_none]
theorem gd_some {l : List Nat} {i : Nat} (h : i < l.length) : l.getD i 0 = l[i] := by rw [List.getD_eq_getElem?_getD, List.getElem?_eq_getElem h, Option.getD_some]
theorem Good.st_le (h : Good l) {k : Nat} (hk : k ≤ l.getD 0 0) : st l k ≤ l.length := by
  cases k with
  | zero => exact h.at0
  | succ k => exact h.fit k (by omega)
theorem rc_len {i : Nat} (h : st l (i + 1) ≤ l.length) : (rc l i).length = ln l i := by
  unfold rc
  rw [List.length_take, List.length_drop]
  have : st l (i + 1) = st l i + ln l i := rfl
  omega
theorem RL_succ (l : List Nat) (k : Nat) : RL l (k + 1) = RL l k ++ [rc l k] := by
  unfold RL
  rw [List.range_succ, List.map_append]
  rfl
theorem RL_len (l : List Nat) (k : Nat) : (RL l k).length = k := by simp [RL]
theorem RL_get {l : List Nat} {k i : Nat} (h : i < (RL l k).length) : (RL l k)[i] = rc l i := by simp [RL]
theorem getD_small (hs : Small l) (i : Nat) : l.getD i 0 < 256 := by
  by_cases h : i < l.length
  · exact bytes.small_at hs h
  · rw [gd_none (by omega)]; omega
theorem small_rc (hs : Small l) (i : Nat) : Small (rc l i) := small_take (small_drop hs _) _
theorem heads (hs : Small l) : ∀ k, 1 + 2 * k ≤ l.length → (∀ i, i < k → st l (i + 1) ≤ l.length) → l.take (1 + 2 * k) = l.getD 0 0 :: (RL l k).flatMap hd
  | 0, h, _ => by
    have := bytes.take_next (l := l) (k := 0) (by omega)
    simpa [RL] using this
  | k + 1, h, hf => by
    have ih := heads hs k (by omega) (fun i hi => hf i (by omega))
    rw [show 1 + 2 * (k + 1) = (1 + 2 * k) + 1 + 1 by omega, bytes.take_next (by omega), bytes.take_next (by omega), ih, RL_succ, List.flatMap_append]
    have e : (rc l k).length = ln l k := rc_len (hf k (by omega))
    have a := getD_small hs (1 + 2 * k)
    have b := getD_small hs (2 + 2 * k)
    have e1 : ln l k % 256 = l.getD (1 + 2 * k) 0 := by unfold ln; omega
    have e2 : ln l k / 256 = l.getD (2 + 2 * k) 0 := by unfold ln; omega
    rw [show 1 + 2 * k + 1 = 2 + 2 * k by omega]
    simp [hd, e, e1, e2]
theorem flats (l : List Nat) : ∀ k, l.take (st l k) = l.take (st l 0) ++ (RL l k).flatten
  | 0 => by simp [RL]
  | k + 1 => by
    rw [show st l (k + 1) = st l k + ln l k from rfl, List.take_add, flats l k, RL_succ, List.flatten_append]
    simp [rc]
theorem Good.tot (h : Good l) : pg.tot (RL l (l.getD 0 0)) = st l (l.getD 0 0) := by
  have e := congrArg List.length (flats l (l.getD 0 0))
  have z : st l 0 ≤ l.length := h.at0
  rw [List.length_append, List.length_take, List.length_take, Nat.min_eq_left (h.st_le (Nat.le_refl _)), Nat.min_eq_left z] at e
  rw [tot_flat, RL_len, e]
  rfl
theorem Good.pb (h : Good l) (hs : Small l) : pb l.length (RL l (l.getD 0 0)) = l := by
  have e1 := heads hs (l.getD 0 0) h.at0 (fun i hi => h.fit i hi)
  have e2 := flats l (l.getD 0 0)
  have e3 : l.drop (st l (l.getD 0 0)) = List.replicate (l.length - st l (l.getD 0 0)) 0 := by
    rw [List.eq_replicate_iff]
    refine ⟨by simp, fun x hx => ?_⟩
    obtain ⟨j, hj, rfl⟩ := List.getElem_of_mem hx
    rw [List.length_drop] at hj
    have := h.zero (st l (l.getD 0 0) + j) (by omega) (by omega)
    rw [List.getElem_drop]
    rwa [gd_some (by omega)] at this
  unfold pg.pb
  rw [h.tot, RL_len, ← e1, ← e3, ← List.append_assoc, show l.take (1 + 2 * l.getD 0 0) = l.take (st l 0) from rfl, ← e2, List.take_append_drop]
theorem Good.gd (h : Good l) : Gd l.length (RL l (l.getD 0 0)) := by
  refine ⟨h.sz, by rw [RL_len]; exact h.n, by rw [h.tot]; exact h.st_le (Nat.le_refl _), fun hne => ?_⟩
  have h0 : 0 < l.getD 0 0 := by
    have := List.length_pos_iff.2 hne
    rwa [RL_len] at this
  rw [last_at _ hne, RL_get]
  intro e
  have := rc_len (l := l) (i := (RL l (l.getD 0 0)).length - 1) (h.fit _ (by rw [RL_len]; omega))
  rw [e, RL_len] at this
  exact h.last h0 this.symm
/-- and back -/
theorem pb_zero (n : Nat) (L : List (List Nat)) : (pb n L).getD 0 0 = L.length := by simp [pb]
theorem fm_get : ∀ (L : List (List Nat)) (k : Nat) (h : k < L.length) (M : List Nat), ((L.flatMap hd) ++ M).getD (2 * k) 0 = (L[k]).length % 256 ∧ ((L.flatMap hd) ++ M).getD (2 * k + 1) 0 = (L[k]).length / 256
  | x :: L, 0, _, M => by simp [hd]
  | x :: L, k + 1, h, M => by
    have ih := fm_get L k (by simpa using h) M
    simp only [List.flatMap_cons, hd, List.append_assoc, List.cons_append, List.nil_append, List.getElem_cons_succ]
    rw [show 2 * (k + 1) = 2 * k + 1 + 1 by omega, show 2 * k + 1 + 1 + 1 = (2 * k + 1) + 1 + 1 by omega]
    simpa [List.getD_cons_succ] using ih
theorem ln_pb (n : Nat) (L : List (List Nat)) {k : Nat} (h : k < L.length) : ln (pb n L) k = (L[k]).length := by
  have e := fm_get L k h (L.flatten ++ List.replicate (n - tot L) 0)
  unfold ln pb
  rw [show 1 + 2 * k = 2 * k + 1 by omega, show 2 + 2 * k = (2 * k + 1) + 1 by omega, List.cons_append, List.getD_cons_succ, List.getD_cons_succ, e.1, e.2]
  omega
theorem st_pb (n : Nat) (L : List (List Nat)) : ∀ k, k ≤ L.length → st (pb n L) k = at_ L k
  | 0, _ => by
    show 1 + 2 * (pb n L).getD 0 0 = at_ L 0
    rw [pb_zero]
    simp [at_]
  | k + 1, h => by
    show st (pb n L) k + ln (pb n L) k = _
    rw [st_pb n L k (by omega), ln_pb n L (by omega), at_succ (by omega)]
theorem pb_at (n : Nat) (L : List (List Nat)) (k : Nat) : pb n L = ((L.length :: L.flatMap hd) ++ (L.take k).flatten) ++ ((L.drop k).flatten ++ List.replicate (n - tot L) 0) := by
  unfold pb
  conv => lhs; rw [← List.take_append_drop k L, List.flatten_append]
  simp
theorem rc_pb (n : Nat) (L : List (List Nat)) {k : Nat} (h : k < L.length) : rc (pb n L) k = L[k] := by
  have hp : ((L.length :: L.flatMap hd) ++ (L.take k).flatten).length = at_ L k := by
    rw [List.length_append, List.length_cons, hd_len]
    unfold at_
    omega
  unfold rc
  rw [st_pb n L k (by omega), ln_pb n L h, pb_at n L k, ← hp, List.drop_left, List.drop_eq_getElem_cons h, List.flatten_cons, List.append_assoc, List.take_left]
theorem RL_pb (n : Nat) (L : List (List Nat)) : RL (pb n L) L.length = L := by
  apply List.ext_getElem (by rw [RL_len])
  intro i h1 h2
  rw [RL_get, rc_pb n L h2]
theorem good_pb {n : Nat} {L : List (List Nat)} (G : Gd n L) : Good (pb n L) := by
  have hlen := pb_len G.tt
  have h0 := pb_zero n L
  have ht := tot_flat L
  have htt := G.tt
  refine ⟨by rw [hlen]; exact G.sz, by rw [h0]; exact G.ln, by rw [h0, hlen]; omega, fun i hi => ?_, fun hp => ?_, fun j hj hl => ?_⟩
  · rw [h0] at hi
    rw [st_pb n L (i + 1) (by omega), hlen]
    exact Nat.le_trans (at_le _) G.tt
  · rw [h0] at hp ⊢
    rw [ln_pb n L (by omega)]
    intro e
    have hne : L ≠ [] := fun q => by rw [q] at hp; simp at hp
    have := G.lt hne
    rw [last_at L hne] at this
    exact this (List.eq_nil_of_length_eq_zero e)
  · rw [h0, st_pb n L _ (Nat.le_refl _), at_end] at hj
    rw [pb_at n L L.length, List.take_length, List.drop_length]
    rw [hlen] at hl
    have hX : ((L.length :: L.flatMap hd) ++ L.flatten).length = tot L := by
      rw [ht, List.length_append, List.length_cons, hd_len]
      omega
    rw [List.getD_eq_getElem?_getD, List.getElem?_append_right (by rw [hX]; exact hj), hX]
    simp only [List.flatten_nil, List.nil_append]
    rw [List.getElem?_replicate]
    split <;> rfl
end Go.Proofs.Ytikddbaenokdpaa.pg
