/-
  More on arguments: a struct of one number and three slices of numbers, by value.
-/
import Derived.Test.YtemkhblogmdleaaDoorBase
import Derived.Lib.SmallJoins
namespace Go.Proofs.YtemkhblogmdleaaDoor.base
open Go.ChangeShapes Go.WideShapes Go.ChangeAt Go.RowKit
set_option linter.unusedVariables false
section
variable {H : Type} {enc : TypeId × Value → H} {P : Program}

theorem nums_trod {sp : Nat → Bool} {held : Bool} {base n : Nat} {W : World} {t e : TypeId} {k : IntKind} {v : Value} {y : DataW H × List MemPlace}
    (ht : P.underlying t = some (.slice e)) (he : P.underlying e = some (.int k)) (hc : P.cellsOf e = 1)
    (hf : DataW.trod enc P W base sp held n t [v] = some y) :
    ∃ (A : Option Addr) (cap : Nat) (zs : List Int), v = .slice A zs.length cap ∧ zs.length ≤ cap ∧ cap ≤ maxLen ∧ Nums k W A zs ∧ ∀ n ∈ zs, (Lit.int k n).wf = true := by
  rcases open_ints ht he hc hf with ⟨hcs, hx⟩ | ⟨a, len', cap', zs, hcs, _, hl, hm, hz, hx, hcell, hwz⟩
  · simp at hcs
    subst hcs
    exact ⟨none, 0, [], rfl, Nat.le_refl _, by unfold maxLen; omega, fun h => absurd h (by simp), by simp⟩
  · simp at hcs
    subst hcs
    have hle : len' ≤ zs.length := by rw [hz]; split <;> omega
    have hlen : (zs.take len').length = len' := by rw [List.length_take]; omega
    refine ⟨some a, cap', zs.take len', by rw [hlen], by omega, hm, ?_, fun n hn => hwz n (List.mem_of_mem_take hn)⟩
    intro h0
    obtain ⟨b, off, spot⟩ := a
    have g0 := hcell 0 (by omega)
    have hspot : spot = none := by simpa [Addr.add] using World.cell?_spot g0
    subst hspot
    have hadd : ∀ j, (⟨b, off, none⟩ : Addr).add j = ⟨b, off + j, none⟩ := fun j => by unfold Addr.add; split <;> simp_all
    refine ⟨b, off, rfl, by have := World.block_lt_of_cell? W _ g0; simpa [Addr.add] using this, fun j hj => ?_⟩
    have := hcell j (by omega)
    rw [hadd] at this
    rw [this]
    have hj' : j < len' := by omega
    simp [List.getD, hj']
theorem open_house {sp : Nat → Bool} {held : Bool} {base b0 : Nat} {r : Reach} {W : World} {t e : TypeId} {k : IntKind} {f0 f1 f2 f3 : Field} {v : Value} {d : DataW H} {ps : List MemPlace}
    (hs : P.underlying t = some (.struct #[f0, f1, f2, f3])) (h0 : P.underlying f0.type = some (.int k)) (h1 : f2.type = f1.type ∧ f3.type = f1.type)
    (ht : P.underlying f1.type = some (.slice e)) (he : P.underlying e = some (.int k)) (hc : P.cellsOf e = 1)
    (hone : Go.Deep.oneCellFields P #[f0, f1, f2, f3] = true) (hC : P.cellsOf t = 4)
    (hval : Value.okWide P W r b0 t v) (h : DataW.Trod enc P W base sp held t v d ps) :
    ∃ (x : Int) (A : Option Addr) (ca : Nat) (xs : List Int) (B : Option Addr) (cb : Nat) (ys : List Int) (C : Option Addr) (cc : Nat) (zs2 : List Int),
      v = .agg #[.int k x, .slice A xs.length ca, .slice B ys.length cb, .slice C zs2.length cc] ∧ (Lit.int k x).wf = true ∧
      (xs.length ≤ ca ∧ ca ≤ maxLen ∧ Nums k W A xs ∧ ∀ n ∈ xs, (Lit.int k n).wf = true) ∧
      (ys.length ≤ cb ∧ cb ≤ maxLen ∧ Nums k W B ys ∧ ∀ n ∈ ys, (Lit.int k n).wf = true) ∧
      (zs2.length ≤ cc ∧ cc ≤ maxLen ∧ Nums k W C zs2 ∧ ∀ n ∈ zs2, (Lit.int k n).wf = true) := by
  obtain ⟨v0, v1, v2, v3, y0, y1, y2, y3, n, rfl, _, _, g0, g1, g2, g3⟩ := Joins.open_agg4 hs hone hC hval h
  rw [h1.1] at g2
  rw [h1.2] at g3
  obtain ⟨x, hx, _, wx⟩ := DataW.trod_int h0 g0
  simp at hx
  subst hx
  obtain ⟨A, ca, xs, rfl, p1⟩ := nums_trod ht he hc g1
  obtain ⟨B, cb, ys, rfl, p2⟩ := nums_trod ht he hc g2
  obtain ⟨C, cc, zs2, rfl, p3⟩ := nums_trod ht he hc g3
  exact ⟨x, A, ca, xs, B, cb, ys, C, cc, zs2, rfl, wx, p1, p2, p3⟩
end
end Go.Proofs.YtemkhblogmdleaaDoor.base
