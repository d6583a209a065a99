/-
  Stalls: rows that are given back: what the program makes of one, what the lists do.
-/
import Derived.Test.YthnjacfpnbhfpaaStZ
namespace Go.Proofs.Ythnjacfpnbhfpaa.st
open Go.RowKit
open base (ret_bool ret_int made up Blk Only)
open rk mk
set_option linter.unusedVariables false
set_option linter.unusedSimpArgs false
variable {s : S3} {T : List C2} {G : List G3} {h u : Int} {gs : List C2}

/-- the program: one good after another; none: it isn't right -/
def gstep (h : Int) : Option (S3 × Int) → C2 → Option (S3 × Int)
  | none, _ => none
  | some (s, last), d => if d.1 ≤ last then none else if putE s h d.1 d.2 = 0 then some (putR s h d.1 d.2, d.1) else none
def gfold (s : S3) (h : Int) (gs : List C2) : Option (S3 × Int) := gs.foldl (gstep h) (some (s, 0))
theorem gfold_snoc (s : S3) (h : Int) (gs : List C2) {k : Nat} (hk : k < gs.length) : gfold s h (gs.take (k + 1)) = gstep h (gfold s h (gs.take k)) gs[k] := by
  unfold gfold
  rw [List.take_succ_eq_append_getElem hk, List.foldl_append]
  rfl
theorem gfold_none (s : S3) (h : Int) (gs : List C2) {k : Nat} (e : gfold s h (gs.take k) = none) : gfold s h gs = none := by
  have h1 : gs = gs.take k ++ gs.drop k := (List.take_append_drop k gs).symm
  have h2 : gfold s h gs = (gs.drop k).foldl (gstep h) (gfold s h (gs.take k)) := by
    unfold gfold
    rw [← List.foldl_append, ← h1]
  rw [h2, e]
  generalize gs.drop k = l
  induction l with
  | nil => rfl
  | cons d l ih => exact ih
/-- the program: one row -/
def prow (s : S3) (h u : Int) (gs : List C2) : Option S3 := if openE s h = 0 ∧ 0 ≤ u ∧ u ≤ 1099511627776 then (gfold (setS (openR s h) h u) h gs).map (·.1) else none
/-- the lists: one good after another -/
def lput (h : Int) (gs : List C2) (l0 : LS) (ok0 : Bool) : Nat → LS × Bool
  | 0 => (l0, ok0)
  | k + 1 => let r := lput h gs l0 ok0 k; let d := gs.getD k (0, 0)
    (rputL r.1.1 r.1.2 h d.1 d.2, r.2 && decide (rputE r.1.1 r.1.2 h d.1 d.2 = 0) && (decide (k = 0) || decide ((gs.getD (k - 1) (0, 0)).1 < d.1)))
theorem lput_false (h : Int) (gs : List C2) (l0 : LS) : ∀ k, (lput h gs l0 false k).2 = false
  | 0 => rfl
  | k + 1 => by
    show ((lput h gs l0 false k).2 && _ && _) = false
    rw [lput_false h gs l0 k]
    rfl
theorem lput_len (h : Int) (gs : List C2) (l0 : LS) (ok0 : Bool) : ∀ k, (lput h gs l0 ok0 k).1.1 = l0.1 ∧ (lput h gs l0 ok0 k).1.2.length ≤ l0.2.length + k
  | 0 => ⟨rfl, Nat.le_refl _⟩
  | k + 1 => by
    obtain ⟨h1, h2⟩ := lput_len h gs l0 ok0 k
    have e : (lput h gs l0 ok0 (k + 1)).1 = rputL (lput h gs l0 ok0 k).1.1 (lput h gs l0 ok0 k).1.2 h (gs.getD k (0, 0)).1 (gs.getD k (0, 0)).2 := rfl
    rw [e]
    unfold rputL
    split
    · refine ⟨h1, ?_⟩
      show (ins kG _ _).length ≤ _
      rw [len_ins]
      omega
    · exact ⟨h1, Nat.le_succ_of_le h2⟩
theorem Gd.putR (hg : Gd s) (n t p : Int) (ht : t ≤ 9223372036854775807) : Gd (putR s n t p) := by
  unfold st.putR
  by_cases q : putE s n t p = 0
  · rw [if_pos q]
    unfold putE at q
    by_cases q1 : (s.T n).isSome = false
    · rw [if_pos q1] at q; cases q
    rw [if_neg q1] at q
    by_cases q2 : t < 1
    · rw [if_pos q2] at q; cases q
    rw [if_neg q2] at q
    by_cases q3 : p < 1 ∨ 1099511627776 < p
    · rw [if_pos q3] at q; cases q
    rw [if_neg q3] at q
    by_cases q4 : (s.G t).isSome = true
    · rw [if_pos q4] at q; cases q
    rw [if_neg q4] at q
    by_cases q5 : 16 ≤ s.c n
    · rw [if_pos q5] at q; cases q
    exact hg.put_ (by cases e : (s.T n).isSome with | true => rfl | false => exact absurd e q1) (by omega) ht (by omega) (by omega) (by omega)
  · rw [if_neg q]; exact hg
/-- both go alike -/
theorem both_goods (l0 : LS) (R : Rel s l0) (hg : Gd s) (hT : (s.T h).isSome = true) (hw : ∀ d, d ∈ gs → d.1 ≤ 9223372036854775807) : ∀ k, k ≤ gs.length →
    match gfold s h (gs.take k) with
    | some (s2, last) => (lput h gs l0 true k).2 = true ∧ Rel s2 (lput h gs l0 true k).1 ∧ Gd s2 ∧ s2.T = s.T ∧ last = (if k = 0 then 0 else (gs.getD (k - 1) (0, 0)).1)
    | none => (lput h gs l0 true k).2 = false
  | 0, _ => ⟨rfl, R, hg, rfl, rfl⟩
  | k + 1, hk => by
    have ih := both_goods l0 R hg hT hw k (by omega)
    have hkl : k < gs.length := by omega
    rw [gfold_snoc s h gs hkl]
    have ed : gs.getD k (0, 0) = gs[k] := by simp [List.getD, hkl]
    have e2 : (lput h gs l0 true (k + 1)).2 = ((lput h gs l0 true k).2 && decide (rputE (lput h gs l0 true k).1.1 (lput h gs l0 true k).1.2 h gs[k].1 gs[k].2 = 0) && (decide (k = 0) || decide ((gs.getD (k - 1) (0, 0)).1 < gs[k].1))) := by
      show (_ && decide (rputE _ _ h (gs.getD k (0, 0)).1 (gs.getD k (0, 0)).2 = 0) && (_ || decide (_ < (gs.getD k (0, 0)).1))) = _
      rw [ed]
    have e1 : (lput h gs l0 true (k + 1)).1 = rputL (lput h gs l0 true k).1.1 (lput h gs l0 true k).1.2 h gs[k].1 gs[k].2 := by
      show rputL _ _ h (gs.getD k (0, 0)).1 (gs.getD k (0, 0)).2 = _
      rw [ed]
    cases q : gfold s h (gs.take k) with
    | none =>
      rw [q] at ih
      show (lput h gs l0 true (k + 1)).2 = false
      rw [e2, show (lput h gs l0 true k).2 = false from ih]
      rfl
    | some sl =>
      obtain ⟨s2, last⟩ := sl
      rw [q] at ih
      obtain ⟨i1, i2, i3, i4, i5⟩ := ih
      rw [i1, Bool.true_and] at e2
      have re : putE s2 h gs[k].1 gs[k].2 = rputE (lput h gs l0 true k).1.1 (lput h gs l0 true k).1.2 h gs[k].1 gs[k].2 := rel_putE i2 h gs[k].1 gs[k].2
      have hT2 : (s2.T h).isSome = true := by rw [i4]; exact hT
      rw [show gstep h (some (s2, last)) gs[k] = (if gs[k].1 ≤ last then none else if putE s2 h gs[k].1 gs[k].2 = 0 then some (putR s2 h gs[k].1 gs[k].2, gs[k].1) else none) from rfl]
      by_cases q1 : gs[k].1 ≤ last
      · rw [if_pos q1]
        show (lput h gs l0 true (k + 1)).2 = false
        rw [e2]
        by_cases k0 : k = 0
        · rw [if_pos k0] at i5
          have : rputE (lput h gs l0 true k).1.1 (lput h gs l0 true k).1.2 h gs[k].1 gs[k].2 ≠ 0 := by
            rw [← re]
            unfold putE
            rw [if_neg (by rw [hT2]; decide), if_pos (by omega)]
            decide
          rw [decide_eq_false this]
          rfl
        · rw [if_neg k0] at i5
          rw [decide_eq_false k0, decide_eq_false (p := (gs.getD (k - 1) (0, 0)).1 < gs[k].1) (by omega)]
          simp
      · rw [if_neg q1]
        by_cases q2 : putE s2 h gs[k].1 gs[k].2 = 0
        · rw [if_pos q2]
          refine ⟨?_, ?_, ?_, ?_, ?_⟩
          · rw [e2, decide_eq_true (re.symm.trans q2)]
            by_cases k0 : k = 0
            · rw [decide_eq_true k0]; rfl
            · rw [if_neg k0] at i5
              rw [decide_eq_true (p := (gs.getD (k - 1) (0, 0)).1 < gs[k].1) (by omega)]
              simp
          · rw [e1]
            exact rel_put i2 i3 h gs[k].1 gs[k].2
          · exact i3.putR h gs[k].1 gs[k].2 (hw _ (List.getElem_mem hkl))
          · rw [← i4]
            unfold putR
            split <;> rfl
          · rw [if_neg (by omega), show k + 1 - 1 = k from rfl, ed]
        · rw [if_neg q2]
          show (lput h gs l0 true (k + 1)).2 = false
          rw [e2, decide_eq_false (fun e => q2 (re.trans e))]
          rfl
end Go.Proofs.Ythnjacfpnbhfpaa.st
