/-
  Restore: any list is taken just if it may be.
-/
import Derived.Test.YtmnkkdalobdabaaDeedP
namespace Go.Proofs.Ytmnkkdalobdabaa.dd
open Go.RowKit
open base (ret_bool ret_int made up Blk Only Nums below_drewN)
open rk
set_option linter.unusedVariables false
set_option linter.unusedSimpArgs false

def nk (L : List D) : Nat → Int
  | 0 => 1
  | k + 1 => (L.getD k (0, 0, 0)).1 + 1
theorem DAt.next {w : World} {B g : Nat} {L : List D} {nx : Int} (h : DAt w B g L nx) (v : Int) : DAt (w.setCell ⟨g, 1, none⟩ (.int .i64 v)) B g L v := by
  obtain ⟨s, h1, h2⟩ := h.ex
  exact ⟨⟨s, h1.put 1 (.int .i64 v), h2.keep (fun k hk => Below.heap_setCell _ ⟨g, 1, none⟩ _ k (own_ne h2 h1 k hk))⟩, h.ge⟩
theorem fi_none {M : List D} {p : Int} (h : ∀ d, d ∈ M → d.2.1 ≠ p) : fi (isPlot p) M = none := fi_eq (o := none) (fun j hj => by
  have := h _ (List.getElem_mem hj)
  simpa [isPlot] using this)
theorem issue_yes {M : List D} {n p h : Int} (h1 : 1 ≤ p) (h2 : 1 ≤ h) (h3 : fi (isPlot p) M = none) (h4 : (held M h).length < 3) : issue (M, n) p h = ((M ++ [(n, p, h)], n + 1), n, 0) := by
  unfold issue
  have hm : may M h = 0 := by
    unfold may
    rw [if_neg (by omega), if_neg (by omega)]
  simp only [h3, hm]
  rw [if_neg (by omega)]
  simp
theorem issue_no {M : List D} {n p h : Int} (q : (issue (M, n) p h).2.2 = 0) : 1 ≤ p ∧ 1 ≤ h ∧ fi (isPlot p) M = none ∧ (held M h).length < 3 := by
  unfold issue at q
  split at q
  · exact absurd q (show ¬ (10 : Int) = 0 by decide)
  rename_i q0
  split at q
  · exact absurd q (show ¬ (13 : Int) = 0 by decide)
  rename_i q1
  split at q
  · rename_i q2; exact absurd q q2
  rename_i q2
  have := may_zero q2
  refine ⟨by omega, by omega, ?_, this⟩
  cases e : fi (isPlot p) M with
  | none => rfl
  | some i =>
    dsimp only at q1
    rw [e] at q1
    exact absurd rfl q1
theorem row_of {L : List D} {nx : Int} {k : Nat} (hg : ∀ i (h : i < L.length), i < k → Row L nx i L[i]) (hk : k < L.length) (h1 : nk L k ≤ L[k].1) (h2 : L[k].1 < nx) (h3 : 1 ≤ L[k].2.1) (h4 : 1 ≤ L[k].2.2) (h5 : fi (isPlot L[k].2.1) (L.take k) = none) (h6 : (held (L.take k) L[k].2.2).length < 3) : Row L nx k L[k] := by
  have h0 : 1 ≤ L[k].1 := by
    cases k with
    | zero => exact h1
    | succ j =>
      have := (hg j (by omega) (by omega)).1.1
      have e : nk L (j + 1) = (L.getD j (0, 0, 0)).1 + 1 := rfl
      rw [e, show L.getD j (0, 0, 0) = L[j]'(by omega) by simp [List.getD, show j < L.length by omega]] at h1
      omega
  refine ⟨⟨h0, h2, h3, h4, fun hp => ?_⟩, fun j hj => ?_, by omega⟩
  · obtain ⟨j, rfl⟩ : ∃ j, k = j + 1 := ⟨k - 1, by omega⟩
    have e : nk L (j + 1) = (L.getD j (0, 0, 0)).1 + 1 := rfl
    rw [e] at h1
    show (L.getD (j + 1 - 1) (0, 0, 0)).1 < _
    rw [Nat.add_sub_cancel]
    omega
  · have q := fi_is (isPlot L[k].2.1) (L.take k)
    rw [h5] at q
    have := q j (by rw [List.length_take]; omega)
    rw [List.getElem_take] at this
    rw [show L.getD j (0, 0, 0) = L[j]'(by omega) by simp [List.getD, show j < L.length by omega]]
    simpa [isPlot] using this
theorem row_to {L : List D} {nx : Int} {k : Nat} (hk : k < L.length) (h : Row L nx k L[k]) : nk L k ≤ L[k].1 ∧ L[k].1 < nx ∧ 1 ≤ L[k].2.1 ∧ 1 ≤ L[k].2.2 ∧ fi (isPlot L[k].2.1) (L.take k) = none ∧ (held (L.take k) L[k].2.2).length < 3 := by
  obtain ⟨⟨a1, a2, a3, a4, a5⟩, b, c⟩ := h
  refine ⟨?_, a2, a3, a4, fi_none (fun d hd => ?_), by omega⟩
  · cases k with
    | zero => exact a1
    | succ j =>
      have := a5 (by omega)
      rw [Nat.add_sub_cancel] at this
      show (L.getD j (0, 0, 0)).1 + 1 ≤ _
      omega
  · obtain ⟨j, hj, rfl⟩ := List.mem_iff_getElem.1 hd
    rw [List.length_take] at hj
    have := b j (by omega)
    rw [show L.getD j (0, 0, 0) = L[j]'(by omega) by simp [List.getD, show j < L.length by omega]] at this
    rw [List.getElem_take]
    exact this
theorem take_id {L : List D} {k : Nat} (hk : k < L.length) : L.take k ++ [(L[k].1, L[k].2.1, L[k].2.2)] = L.take (k + 1) := by
  rw [List.take_succ_eq_append_getElem hk]
theorem nk_id {L : List D} {k : Nat} (hk : k < L.length) : nk L (k + 1) = L[k].1 + 1 := by
  show (L.getD k (0, 0, 0)).1 + 1 = _
  rw [show L.getD k (0, 0, 0) = L[k] by simp [List.getD, hk]]
end Go.Proofs.Ytmnkkdalobdabaa.dd
