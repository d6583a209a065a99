/-
  The free numbers of a list of bools, rising. No program.
-/
import Derived.Test.YteecebklomeklaaDoorPnum
namespace Go.Proofs.YteecebklomeklaaDoor.pnum
set_option linter.unusedVariables false

def fr (x : List Bool) : List Nat := (List.range x.length).filter (fun k => x.getD k false)
theorem lt_of_free {x : List Bool} {k : Nat} (h : x.getD k false = true) : k < x.length := by
  rcases Nat.lt_or_ge k x.length with q | q
  · exact q
  · simp [List.getD, List.getElem?_eq_none q] at h
theorem mem_fr {x : List Bool} {k : Nat} : k ∈ fr x ↔ x.getD k false = true := by
  simp only [fr, List.mem_filter, List.mem_range]
  exact ⟨fun h => h.2, fun h => ⟨lt_of_free h, h⟩⟩
theorem fr_sorted (x : List Bool) : (fr x).Pairwise (· < ·) := List.pairwise_lt_range.filter _
theorem fr_lt {x : List Bool} {i j : Nat} (hij : i < j) (hj : j < (fr x).length) : (fr x).getD i 0 < (fr x).getD j 0 := by
  have := List.pairwise_iff_getElem.1 (fr_sorted x) i j (by omega) hj hij
  simpa [List.getD, List.getElem?_eq_getElem hj, List.getElem?_eq_getElem (show i < (fr x).length by omega)] using this
theorem fr_mem {x : List Bool} {j : Nat} (hj : j < (fr x).length) : x.getD ((fr x).getD j 0) false = true := by
  apply mem_fr.1
  simp only [List.getD, List.getElem?_eq_getElem hj, Option.getD_some]
  exact List.getElem_mem hj
theorem fr_index {x : List Bool} {k : Nat} (h : x.getD k false = true) : ∃ m, m < (fr x).length ∧ (fr x).getD m 0 = k := by
  obtain ⟨m, hm, e⟩ := List.getElem_of_mem (mem_fr.2 h)
  exact ⟨m, hm, by simp [List.getD, List.getElem?_eq_getElem hm, e]⟩
def atF (x : List Bool) : Nat → Nat
  | 0 => 0
  | L + 1 => (fr x).getD L 0 + 1
theorem atF_le {x : List Bool} {L m : Nat} (hL : L ≤ (fr x).length) (hm : m < (fr x).length) (h : atF x L ≤ (fr x).getD m 0) : L ≤ m := by
  cases L with
  | zero => omega
  | succ L =>
    rcases Nat.lt_or_ge L m with q | q
    · omega
    · exfalso
      rcases Nat.eq_or_lt_of_le q with e | e
      · subst e; simp only [atF] at h; omega
      · have := fr_lt e (show L < (fr x).length by omega)
        simp only [atF] at h
        omega
theorem fr_next {x : List Bool} {L : Nat} (h : L < (fr x).length) : NextIs x (atF x L) (some ((fr x).getD L 0)) := by
  refine ⟨?_, lt_of_free (fr_mem h), fr_mem h, fun k a b => ?_⟩
  · cases L with
    | zero => exact Nat.zero_le _
    | succ L => exact fr_lt (Nat.lt_succ_self L) h
  · cases hk : x.getD k false with
    | false => rfl
    | true =>
      exfalso
      obtain ⟨m, hm, rfl⟩ := fr_index hk
      have h1 := atF_le (Nat.le_of_lt h) hm a
      rcases Nat.eq_or_lt_of_le h1 with e | e
      · subst e; omega
      · have := fr_lt e hm; omega
theorem fr_end (x : List Bool) : NextIs x (atF x (fr x).length) none := by
  intro k a
  cases hk : x.getD k false with
  | false => rfl
  | true =>
    exfalso
    obtain ⟨m, hm, rfl⟩ := fr_index hk
    have := atF_le (Nat.le_refl _) hm a
    omega
theorem fr_len (x : List Bool) : (fr x).length = x.count true := by
  have e : (List.range x.length).map (fun k => x.getD k false) = x := by
    apply List.ext_getElem
    · simp
    · intro i h1 h2
      simp [List.getD, List.getElem?_eq_getElem h2]
  conv => rhs; rw [← e, List.count_eq_countP, List.countP_map]
  rw [fr, List.countP_eq_length_filter]
  congr 1
  apply List.filter_congr
  intro k _
  simp
theorem atF_small {x : List Bool} {L : Nat} (h : L ≤ (fr x).length) : atF x L ≤ x.length := by
  cases L with
  | zero => exact Nat.zero_le _
  | succ L => exact lt_of_free (fr_mem (show L < (fr x).length by omega))
theorem fr_take {x : List Bool} {L : Nat} (h : L < (fr x).length) : (fr x).take (L + 1) = (fr x).take L ++ [(fr x).getD L 0] := by
  rw [List.take_succ_eq_append_getElem h]
  simp [List.getD, List.getElem?_eq_getElem h]
end Go.Proofs.YteecebklomeklaaDoor.pnum
