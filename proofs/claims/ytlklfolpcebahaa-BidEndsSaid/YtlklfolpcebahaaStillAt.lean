/-
  A region whose first operations only read, whatever order its last ones come in: the rest is to be walked from there.
-/
import Derived.Test.YtlklfolpcebahaaStillIn
namespace Go.Proofs.Ytlklfolpcebahaa.still
open Go
section
variable {F : Fence} {P : Program} {ops : Array Oper} {md : Region.Mode} {w : World} {r : Nat}
/-- the head may be taken in the text's order, and leaves T listed -/
def headTo (md : Region.Mode) (ops : Array Oper) (T : Array Bool) : Nat → Nat → Array Bool → Bool
  | 0, _, listed => decide (listed.toList = T.toList)
  | f + 1, k, listed => (Region.ready md ops listed).contains k && Region.free md ops listed k && headTo md ops T f (k + 1) (listed.setIfInBounds k true)
theorem lex_to {n : Nat} {T : Array Bool} {Lq : Act → Prop} (hsel : Region.noSelect ops = true) (hs : Region.sinkB md ops n = true) (hc : Region.chainB md ops n = true) (hn : n < ops.size)
    (hT : ∀ j ∈ Region.ready md ops T, n ≤ j) :
    ∀ (l : List Oper) (k : Nat) (listed : Array Bool) (a : Act), (∀ j, j < l.length → l[j]? = ops[k + j]?) → k + l.length = n → HeadInv md ops n listed →
    headTo md ops T l.length k listed = true → wpStill P ops w Lq l a →
    wpAnyL P md ops w n (fun listed' a' => listed' = T ∧ Lq a') l.length listed a := by
  intro l
  induction l with
  | nil =>
    intro k listed a _ _ _ hB h
    exact ⟨Array.toList_inj.1 (of_decide_eq_true hB), h⟩
  | cons o l ih =>
    intro k listed a hl hk inv hB h
    have h0 : ops[k]? = some o := by simpa using (hl 0 (by simp)).symm
    simp only [List.length_cons, headTo, Bool.and_eq_true] at hB
    have hkn : k < n := by simp only [List.length_cons] at hk; omega
    have hr' : k ∈ Region.ready md ops listed := by simpa using hB.1.1
    obtain ⟨v, hy, hK⟩ := yieldsAt_of_stOp h0 (show stOp P ops w k (wpStill P ops w Lq l) a by unfold stOp; simp only [h0]; exact h)
    refine wpAnyL_first h0 (Region.noSelect_spec hsel) hs hc hn hkn (fun listed' a' hL => by rw [hL.1]; exact hT) l.length listed a inv (Region.free_spec h0 hB.1.2) hr' hy ?_
    exact ih (k + 1) _ _ (fun j hj => by have := hl (j + 1) (by simp; omega); simpa [Nat.add_assoc, Nat.add_comm 1 j] using this) (by simp only [List.length_cons] at hk; omega) (inv.set hr' hkn) hB.2 hK
def atB (md : Region.Mode) (ops : Array Oper) (n : Nat) (T : Array Bool) : Bool :=
  Region.noSelect ops && decide (n < ops.size) && Region.sinkB md ops n && Region.chainB md ops n && (Region.ready md ops T).all (fun j => decide (n ≤ j)) && headTo md ops T n 0 (Array.replicate ops.size false)
theorem region_at (hF : Free F) {id : Nat} {Q : Exit → Act → World → Prop} {a : Act} {l : List Oper} (n : Nat) (T : Array Bool) (hm : P.follows .mixedOrders = true) (hB : atB .any l.toArray n T = true)
    (h : wpStill P l.toArray w.drew (fun b => wpAnyIn F r P .any l.toArray Q (l.toArray.size - n) T b w.drew) (l.take n) a) : (Code.region id l.toArray true).wpIn F r P Q a w := by
  simp only [atB, Bool.and_eq_true, decide_eq_true_eq] at hB
  obtain ⟨⟨⟨⟨⟨hsel, hn⟩, hs⟩, hc⟩, hT⟩, hlex⟩ := hB
  have hn' : n < l.length := by simpa using hn
  have htl : (l.take n).length = n := by simp; omega
  have hT' : ∀ j ∈ Region.ready .any l.toArray T, n ≤ j := fun j hj => of_decide_eq_true (List.all_eq_true.1 hT j hj)
  have inv0 : HeadInv .any l.toArray n (Array.replicate l.toArray.size false) :=
    ⟨by simp, fun j oj _ hl => (by rw [getD_replicate_false] at hl; cases hl), fun t _ ht => getD_in (by simpa using ht) (getD_replicate_false _ _)⟩
  have H := lex_to (md := .any) (T := T) hsel hs hc hn hT' (l.take n) 0 _ a (fun j hj => by
    have hj' : j < n := by rw [htl] at hj; exact hj
    simp [hj']) (by simpa using htl) inv0 (by rw [htl]; exact hlex) h
  refine wpIn_region_any hm ?_
  have := head_in hF (r := r) (Q := Q) (g := l.toArray.size - n) (fun listed b hL => by
    rw [hL.1]
    exact hL.2) _ _ _ H
  rw [htl, show n + (l.toArray.size - n) = l.toArray.size by omega] at this
  exact this
end
end Go.Proofs.Ytlklfolpcebahaa.still
