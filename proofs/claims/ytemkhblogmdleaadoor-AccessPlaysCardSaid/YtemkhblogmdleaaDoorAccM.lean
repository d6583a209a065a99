/-
  Lists of access: what With and Without give is what Insert and Delete give.
-/
import Derived.Test.YtemkhblogmdleaaDoorAccL
namespace Go.Proofs.YtemkhblogmdleaaDoor.acw
set_option linter.unusedVariables false
set_option linter.unusedSimpArgs false

def wf (p : Int) (s : Bool × List Int) (x : Int) : Bool × List Int := if !s.1 && decide (p < x) then (true, (s.2 ++ [p]) ++ [x]) else (s.1, s.2 ++ [x])
theorem wst_fold (l : List Int) (p : Int) : wst l p = l.foldl (wf p) (false, []) := rfl
theorem fold_true (p : Int) : ∀ (l acc : List Int), l.foldl (wf p) (true, acc) = (true, acc ++ l)
  | [], acc => by simp
  | x :: l, acc => by
    rw [List.foldl_cons]
    have : wf p (true, acc) x = (true, acc ++ [x]) := by simp [wf]
    rw [this, fold_true p l]
    simp
theorem fold_false (p : Int) : ∀ (l acc : List Int), l.Pairwise (· < ·) → p ∉ l → (if (l.foldl (wf p) (false, acc)).1 then (l.foldl (wf p) (false, acc)).2 else (l.foldl (wf p) (false, acc)).2 ++ [p]) = acc ++ il.ins l (il.pl l p) p
  | [], acc, _, _ => by simp [il.ins, il.pl]
  | x :: l, acc, h, hp => by
    obtain ⟨h1, h2⟩ := List.pairwise_cons.1 h
    rw [List.foldl_cons]
    by_cases q : p < x
    · have e : wf p (false, acc) x = (true, (acc ++ [p]) ++ [x]) := by simp [wf, q]
      have z : il.pl (x :: l) p = 0 := by
        unfold il.pl
        rw [List.countP_eq_zero]
        intro a ha
        rcases List.mem_cons.1 ha with rfl | ha
        · simp; omega
        · have := h1 a ha
          simp; omega
      rw [e, fold_true, z]
      simp [il.ins]
    · have hx : p ≠ x := fun e => hp (by simp [e])
      have e : wf p (false, acc) x = (false, acc ++ [x]) := by simp [wf, q]
      have z : il.pl (x :: l) p = il.pl l p + 1 := by
        unfold il.pl
        rw [List.countP_cons, if_pos (by simp; omega)]
      rw [e, fold_false p l (acc ++ [x]) h2 (fun m => hp (by simp [m])), z]
      simp [il.ins]
theorem rwi_ins {l : List Int} {p : Int} (h : l.Pairwise (· < ·)) (hp : p ∉ l) : rwi l p = il.ins l (il.pl l p) p := by
  have := fold_false p l [] h hp
  unfold rwi
  rw [wst_fold]
  simpa using this
theorem rwo_none {l : List Int} {p : Int} (hp : p ∉ l) : rwo l p = l := by
  unfold rwo
  rw [List.filter_eq_self]
  intro a ha
  have : a ≠ p := fun e => hp (e ▸ ha)
  simpa using this
theorem rwo_erase {p : Int} : ∀ {l : List Int} {i : Nat}, l.Pairwise (· < ·) → (hi : i < l.length) → l[i] = p → rwo l p = l.eraseIdx i
  | x :: l, 0, h, _, e => by
    obtain ⟨h1, h2⟩ := List.pairwise_cons.1 h
    obtain rfl : x = p := e
    have hn : x ∉ l := fun m => by have := h1 x m; omega
    show rwo (x :: l) x = l
    unfold rwo
    rw [List.filter_cons, if_neg (by simp)]
    exact rwo_none hn
  | x :: l, i + 1, h, hi, e => by
    obtain ⟨h1, h2⟩ := List.pairwise_cons.1 h
    have hi' : i < l.length := by simpa using hi
    have e' : l[i] = p := by simpa using e
    have hx : x ≠ p := by
      have := h1 l[i] (List.getElem_mem hi')
      omega
    show rwo (x :: l) p = x :: l.eraseIdx i
    rw [← rwo_erase h2 hi' e']
    unfold rwo
    rw [List.filter_cons, if_pos (by simpa using hx)]
end Go.Proofs.YtemkhblogmdleaaDoor.acw
