/-
  What every sequence of calls keeps of the auctions: rising numbers, one auction a deed, right rows, 64 at most. No program.
-/
import Derived.Test.YtlklfolpcebahaaAucL
namespace Go.Proofs.Ytlklfolpcebahaa.bb
open rk
set_option linter.unusedVariables false

def seller (d : D) : Int := d.2.2.1
def least (d : D) : Int := d.2.2.2.1
def bidder (d : D) : Int := d.2.2.2.2.2.1
def ends (d : D) : Int := d.2.2.2.2.2.2
def Ok (nx : Int) (d : D) : Prop := 1 ≤ d.1 ∧ d.1 < nx ∧ 1 ≤ d.2.1 ∧ 1 ≤ seller d ∧ amt (least d) ∧ 0 ≤ ends d ∧ ends d ≤ 4398046511104 ∧ (bidder d = 0 ∧ best d = 0 ∨ 1 ≤ bidder d ∧ bidder d ≠ seller d ∧ amt (best d) ∧ least d ≤ best d)
theorem Ok.best {nx : Int} {d : D} (h : Ok nx d) : 0 ≤ best d ∧ best d ≤ 1099511627776 := by
  obtain ⟨_, _, _, _, _, _, _, ⟨_, h⟩ | ⟨_, _, h, _⟩⟩ := h
  · rw [h]; omega
  · exact h
theorem Ok.mono {nx ny : Int} {d : D} (h : Ok nx d) (hn : nx ≤ ny) : Ok ny d := ⟨h.1, by have := h.2.1; omega, h.2.2⟩
def Inv (L : List D) (nx : Int) : Prop := 1 ≤ nx ∧ L.Pairwise (fun a b => a.1 < b.1 ∧ a.2.1 ≠ b.2.1) ∧ (∀ d, d ∈ L → Ok nx d) ∧ L.length ≤ 64
theorem Inv.nil : Inv [] 1 := ⟨by omega, List.Pairwise.nil, fun d h => (by cases h), by simp⟩
theorem fi_no {p : D → Bool} {L : List D} (h : ¬ (fi p L).isSome) : ∀ d, d ∈ L → p d = false := by
  have q := fi_is p L
  cases e : fi p L with
  | some i => rw [e] at h; exact absurd rfl h
  | none =>
    rw [e] at q
    intro d hd
    obtain ⟨j, hj, rfl⟩ := List.mem_iff_getElem.1 hd
    exact q j hj
theorem Inv.opn {L : List D} {nx : Int} (h : Inv L nx) (d sl l en : Int) : Inv (opn (L, nx) d sl l en).1.1 (opn (L, nx) d sl l en).1.2 := by
  unfold bb.opn
  split
  · exact h
  rename_i q
  obtain ⟨h1, h2, h3, h4⟩ := h
  have q : ¬ mayOpen L d sl l en ≠ 0 := q
  unfold mayOpen at q
  split at q
  · exact absurd (by omega) q
  rename_i q1
  split at q
  · exact absurd (by omega) q
  rename_i q2
  split at q
  · exact absurd (by omega) q
  rename_i q3
  split at q
  · exact absurd (by omega) q
  rename_i q4
  have q5 := fi_no q3
  have q6 : amt l := Classical.byContradiction fun hh => q2 (.inl hh)
  have q7 : 0 ≤ en ∧ en ≤ 4398046511104 := ⟨by have := fun hh => q2 (.inr (.inl hh)); omega, by have := fun hh => q2 (.inr (.inr hh)); omega⟩
  refine ⟨by show 1 ≤ nx + 1; omega, ?_, ?_, by show (L ++ [_]).length ≤ 64; rw [List.length_append]; show L.length + 1 ≤ 64; omega⟩
  · show (L ++ [((nx, d, sl, l, 0, 0, en) : D)]).Pairwise _
    rw [List.pairwise_append]
    refine ⟨h2, List.pairwise_singleton _ _, fun a ha b hb => ?_⟩
    rw [List.mem_singleton] at hb
    subst hb
    refine ⟨(h3 a ha).2.1, fun e => ?_⟩
    have := q5 a ha
    unfold isDeed at this
    rw [show a.2.1 = d from e] at this
    simp at this
  · intro x hx
    have hx : x ∈ L ++ [((nx, d, sl, l, 0, 0, en) : D)] := hx
    show Ok (nx + 1) x
    rcases List.mem_append.1 hx with z | z
    · exact (h3 x z).mono (by omega)
    · rw [List.mem_singleton] at z
      subst z
      exact ⟨h1, by show nx < nx + 1; omega, by show 1 ≤ d; omega, by show 1 ≤ sl; omega, q6, q7.1, q7.2, .inl ⟨rfl, rfl⟩⟩
theorem Inv.cls {L : List D} {nx : Int} (h : Inv L nx) (n : Int) : Inv (cls (L, nx) n).1 (cls (L, nx) n).2 := by
  unfold bb.cls
  split
  · exact h
  rename_i i hi
  obtain ⟨h1, h2, h3, h4⟩ := h
  show Inv (L.eraseIdx i) nx
  have s := List.eraseIdx_sublist L i
  exact ⟨h1, h2.sublist s, fun d hd => h3 d (s.mem hd), Nat.le_trans s.length_le h4⟩
theorem Inv.bid {L : List D} {nx : Int} (h : Inv L nx) (id who n : Int) : Inv (bid (L, nx) id who n).1.1 (bid (L, nx) id who n).1.2 := by
  unfold bb.bid
  split
  · exact h
  rename_i i hi
  dsimp only at hi ⊢
  split
  · exact h
  rename_i q
  obtain ⟨h1, h2, h3, h4⟩ := h
  have hil := fi_lt hi
  have gd : L.getD i (0, 0, 0, 0, 0, 0, 0) = L[i] := by simp [List.getD, hil]
  rw [gd] at q ⊢
  have ok := h3 _ (List.getElem_mem hil)
  generalize hd : L[i] = d at *
  unfold bidErr at q
  split at q
  · exact absurd (by omega) q
  rename_i q1
  split at q
  · exact absurd (by omega) q
  rename_i q2
  split at q
  · exact absurd (by omega) q
  rename_i q3
  split at q
  · exact absurd (by omega) q
  rename_i q4
  have q5 : amt n := Classical.byContradiction q3
  have q6 : least d ≤ n := by
    unfold asks at q4
    obtain ⟨_, _, _, _, _, _, _, ⟨e1, _⟩ | ⟨e1, _, e2, e3⟩⟩ := ok
    · rw [if_pos (show d.2.2.2.2.2.1 = 0 from e1)] at q4
      show d.2.2.2.1 ≤ n
      omega
    · have e1 : 1 ≤ d.2.2.2.2.2.1 := e1
      rw [if_neg (by omega)] at q4
      split at q4 <;> omega
  refine ⟨h1, ?_, ?_, by show (L.set i _).length ≤ 64; rw [List.length_set]; exact h4⟩
  · show (L.set i (d.1, d.2.1, d.2.2.1, d.2.2.2.1, n, who, d.2.2.2.2.2.2)).Pairwise _
    have e : (L.set i (d.1, d.2.1, d.2.2.1, d.2.2.2.1, n, who, d.2.2.2.2.2.2)).map (fun d => (d.1, d.2.1)) = L.map (fun d => (d.1, d.2.1)) := by
      rw [List.map_set]
      apply List.ext_getElem
      · simp
      · intro j j1 j2
        rw [List.getElem_set]
        split
        · rename_i e; subst e; simp [hd]
        · rfl
    have k : ∀ M : List D, M.Pairwise (fun a b => a.1 < b.1 ∧ a.2.1 ≠ b.2.1) ↔ (M.map (fun d => (d.1, d.2.1))).Pairwise (fun a b => a.1 < b.1 ∧ a.2 ≠ b.2) := fun M => by rw [List.pairwise_map]
    rw [k, e, ← k]
    exact h2
  · intro x hx
    have hx : x ∈ L.set i (d.1, d.2.1, d.2.2.1, d.2.2.2.1, n, who, d.2.2.2.2.2.2) := hx
    show Ok nx x
    rcases List.mem_or_eq_of_mem_set hx with z | z
    · exact h3 x z
    · subst z
      obtain ⟨a1, a2, a3, a4, a5, a6, a7, _⟩ := ok
      exact ⟨a1, a2, a3, a4, a5, a6, a7, .inr ⟨by show 1 ≤ who; omega, fun e => q2 e, q5, q6⟩⟩
end Go.Proofs.Ytlklfolpcebahaa.bb
