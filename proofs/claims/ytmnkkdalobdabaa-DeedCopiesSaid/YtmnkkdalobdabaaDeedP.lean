/-
  What every sequence of calls keeps of the list: rising numbers, one deed a plot, three a holder. No program.
-/
import Derived.Test.YtmnkkdalobdabaaDeedO
import Derived.Test.YtmnkkdalobdabaaDeedK
namespace Go.Proofs.Ytmnkkdalobdabaa.dd
open rk
set_option linter.unusedVariables false

def Inv (L : List D) (nx : Int) : Prop := 1 ≤ nx ∧ L.Pairwise (fun a b => a.1 < b.1 ∧ a.2.1 ≠ b.2.1) ∧ (∀ d, d ∈ L → 1 ≤ d.1 ∧ d.1 < nx ∧ 1 ≤ d.2.1 ∧ 1 ≤ d.2.2) ∧ (∀ h, (held L h).length ≤ 3)
theorem held_sub {L M : List D} (s : List.Sublist L M) (h : Int) : (held L h).length ≤ (held M h).length := by
  unfold held
  rw [List.length_map, List.length_map]
  exact (s.filter _).length_le
theorem Inv.nil : Inv [] 1 := ⟨by omega, List.Pairwise.nil, fun d h => (by cases h), fun h => by simp [held]⟩
theorem Inv.right {L : List D} {nx : Int} (h : Inv L nx) (hn : nx ≤ 1099511627776) : Rt L nx := by
  obtain ⟨h1, h2, h3, h4⟩ := h
  refine ⟨h1, hn, fun i hi => ?_⟩
  have g := List.pairwise_iff_getElem.1 h2
  obtain ⟨a1, a2, a3, a4⟩ := h3 _ (List.getElem_mem hi)
  refine ⟨⟨a1, a2, a3, a4, fun h0 => ?_⟩, fun k hk => ?_, ?_⟩
  · have := (g (i - 1) i (by omega) hi (by omega)).1
    simpa [List.getD, show i - 1 < L.length by omega] using this
  · have := (g k i (by omega) hi hk).2
    simpa [List.getD, show k < L.length by omega] using this
  · have s := held_snoc L L[i].2.2 hi
    rw [if_pos (by simp)] at s
    have t := held_sub (List.take_sublist (i + 1) L) L[i].2.2
    rw [s, List.length_append] at t
    have := h4 L[i].2.2
    simp at t
    omega
theorem may_zero {L : List D} {h : Int} (q : ¬ may L h ≠ 0) : (held L h).length < 3 := by
  unfold may at q
  split at q
  · exact absurd (by omega) q
  · split at q
    · exact absurd (by omega) q
    · omega
theorem fi_no {p : D → Bool} {L : List D} (h : ¬ (fi p L).isSome) : ∀ d, d ∈ L → p d = false := by
  have q := fi_is p L
  cases e : fi p L with
  | some i => rw [e] at h; exact absurd rfl h
  | none =>
    rw [e] at q
    intro d hd
    obtain ⟨j, hj, rfl⟩ := List.mem_iff_getElem.1 hd
    exact q j hj
theorem Inv.issue {L : List D} {nx : Int} (h : Inv L nx) (p t : Int) : Inv (issue (L, nx) p t).1.1 (issue (L, nx) p t).1.2 := by
  unfold dd.issue
  split
  · exact h
  rename_i q0
  split
  · exact h
  rename_i q1
  split
  · exact h
  rename_i q2
  obtain ⟨h1, h2, h3, h4⟩ := h
  have q3 := may_zero q2
  have q4 := fi_no q1
  dsimp only at q3 q4
  refine ⟨by show 1 ≤ nx + 1; omega, ?_, ?_, ?_⟩
  · show (L ++ [(nx, p, t)]).Pairwise _
    rw [List.pairwise_append]
    refine ⟨h2, List.pairwise_singleton _ _, fun a ha b hb => ?_⟩
    rw [List.mem_singleton] at hb
    subst hb
    refine ⟨(h3 a ha).2.1, fun e => ?_⟩
    have := q4 a ha
    unfold isPlot at this
    rw [show a.2.1 = p from e] at this
    simp at this
  · intro d hd
    have hd : d ∈ L ++ [(nx, p, t)] := hd
    show 1 ≤ d.1 ∧ d.1 < nx + 1 ∧ _
    rcases List.mem_append.1 hd with q | q
    · have := h3 d q
      exact ⟨this.1, by omega, this.2.2⟩
    · rw [List.mem_singleton] at q
      subst q
      exact ⟨h1, by show nx < nx + 1; omega, by show 1 ≤ p; omega, by show 1 ≤ t; omega⟩
  · intro z
    show (held (L ++ [(nx, p, t)]) z).length ≤ 3
    unfold held
    rw [List.length_map, List.filter_append, List.length_append]
    have := h4 z
    unfold held at this q3
    rw [List.length_map] at this q3
    by_cases e : t = z
    · subst e
      simp
      omega
    · simp [e]
      exact this
theorem filter_set_le (p : D → Bool) (x : D) : ∀ (L : List D) (i : Nat), ((L.set i x).filter p).length ≤ (L.filter p).length + (if p x then 1 else 0)
  | [], i => by simp
  | a :: L, 0 => by
    simp only [List.set_cons_zero, List.filter_cons]
    cases p x <;> cases p a <;> simp
  | a :: L, i + 1 => by
    have := filter_set_le p x L i
    simp only [List.set_cons_succ, List.filter_cons]
    cases p a
    · exact this
    · simp only [if_true, List.length_cons]
      omega
theorem Inv.move {L : List D} {nx : Int} (h : Inv L nx) (n t : Int) : Inv (move (L, nx) n t).1.1 (move (L, nx) n t).1.2 := by
  unfold dd.move
  split
  · exact h
  rename_i i hi
  split
  · exact h
  rename_i q0
  split
  · exact h
  rename_i q1
  split
  · exact h
  rename_i q2
  obtain ⟨h1, h2, h3, h4⟩ := h
  have q3 := may_zero q2
  dsimp only at q3 hi
  have hil := fi_lt hi
  have gd : L.getD i (0, 0, 0) = L[i] := by simp [List.getD, hil]
  show Inv (L.set i ((L.getD i (0, 0, 0)).1, (L.getD i (0, 0, 0)).2.1, t)) nx
  rw [gd]
  refine ⟨h1, ?_, ?_, ?_⟩
  · have e : (L.set i (L[i].1, L[i].2.1, t)).map (fun d => (d.1, d.2.1)) = L.map (fun d => (d.1, d.2.1)) := by
      rw [List.map_set]
      apply List.ext_getElem
      · simp
      · intro j j1 j2
        rw [List.getElem_set]
        split
        · rename_i e; subst e; simp
        · rfl
    have k : ∀ M : List D, M.Pairwise (fun a b => a.1 < b.1 ∧ a.2.1 ≠ b.2.1) ↔ (M.map (fun d => (d.1, d.2.1))).Pairwise (fun a b => a.1 < b.1 ∧ a.2 ≠ b.2) := fun M => by rw [List.pairwise_map]
    rw [k, e, ← k]
    exact h2
  · intro d hd
    rcases List.mem_or_eq_of_mem_set hd with q | q
    · exact h3 d q
    · subst q
      obtain ⟨a1, a2, a3, _⟩ := h3 _ (List.getElem_mem hil)
      exact ⟨a1, a2, a3, by show 1 ≤ t; omega⟩
  · intro z
    unfold held
    rw [List.length_map]
    have := h4 z
    have f := filter_set_le (fun d => d.2.2 == z) (L[i].1, L[i].2.1, t) L i
    unfold held at this q3
    rw [List.length_map] at this q3
    by_cases e : t = z
    · subst e
      simp at f
      omega
    · simp [e] at f
      exact Nat.le_trans f this
theorem Inv.void {L : List D} {nx : Int} (h : Inv L nx) (n : Int) : Inv (void (L, nx) n).1.1 (void (L, nx) n).1.2 := by
  unfold dd.void
  split
  · exact h
  rename_i i hi
  obtain ⟨h1, h2, h3, h4⟩ := h
  show Inv (L.eraseIdx i) nx
  have s := List.eraseIdx_sublist L i
  exact ⟨h1, h2.sublist s, fun d hd => h3 d (s.mem hd), fun z => Nat.le_trans (held_sub s z) (h4 z)⟩
theorem Inv.step {L : List D} {nx : Int} (h : Inv L nx) (k a b : Int) : Inv (stepS (L, nx) k a b).1 (stepS (L, nx) k a b).2 := by
  unfold stepS
  split
  · exact h.issue a b
  · split
    · exact h.move a b
    · split
      · exact h.void a
      · exact h
end Go.Proofs.Ytmnkkdalobdabaa.dd
