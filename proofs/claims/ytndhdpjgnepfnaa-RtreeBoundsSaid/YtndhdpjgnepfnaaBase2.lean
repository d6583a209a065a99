/-
  More on arguments: a struct of four numbers by value.
-/
import Derived.Test.YtndhdpjgnepfnaaBase
import Derived.Lib.SmallJoins
namespace Go.Proofs.Ytndhdpjgnepfnaa.base
open Go.ChangeShapes Go.WideShapes Go.ChangeAt Go.RowKit
set_option linter.unusedVariables false
section
variable {H : Type} {enc : TypeId × Value → H} {P : Program}

theorem one_int {w : World} {b0 n : Nat} {sp : Nat → Bool} {held : Bool} {t : TypeId} {k : IntKind} {v : Value} {y : DataW H × List MemPlace} (ht : P.underlying t = some (.int k))
    (h : DataW.trod enc P w b0 sp held n t [v] = some y) : ∃ a, v = .int k a ∧ (Lit.int k a).wf = true := by
  obtain ⟨a, h1, _, h2⟩ := DataW.trod_int ht h
  simp at h1
  exact ⟨a, h1, h2⟩

theorem open_four {sp : Nat → Bool} {held : Bool} {base b0 : Nat} {r : Reach} {W : World} {t : TypeId} {k : IntKind} {f0 f1 f2 f3 : Field} {v : Value} {d : DataW H} {ps : List MemPlace}
    (hs : P.underlying t = some (.struct #[f0, f1, f2, f3])) (h0 : P.underlying f0.type = some (.int k)) (h1 : f1.type = f0.type ∧ f2.type = f0.type ∧ f3.type = f0.type)
    (hone : Go.Deep.oneCellFields P #[f0, f1, f2, f3] = true) (hC : P.cellsOf t = 4)
    (hval : Value.okWide P W r b0 t v) (h : DataW.Trod enc P W base sp held t v d ps) :
    ∃ x y u z : Int, v = .agg #[.int k x, .int k y, .int k u, .int k z] ∧ (Lit.int k x).wf = true ∧ (Lit.int k y).wf = true ∧ (Lit.int k u).wf = true ∧ (Lit.int k z).wf = true := by
  obtain ⟨v0, v1, v2, v3, y0, y1, y2, y3, n, rfl, _, _, g0, g1, g2, g3⟩ := Joins.open_agg4 hs hone hC hval h
  rw [h1.1] at g1
  rw [h1.2.1] at g2
  rw [h1.2.2] at g3
  obtain ⟨x, rfl, wx⟩ := one_int h0 g0
  obtain ⟨y, rfl, wy⟩ := one_int h0 g1
  obtain ⟨u, rfl, wu⟩ := one_int h0 g2
  obtain ⟨z, rfl, wz⟩ := one_int h0 g3
  exact ⟨x, y, u, z, rfl, wx, wy, wu, wz⟩
theorem range64 {a : Int} (h : (Lit.int .i64 a).wf = true) : -9223372036854775808 ≤ a ∧ a ≤ 9223372036854775807 := by
  simpa [Lit.wf, IntKind.min, IntKind.max, IntKind.signed, IntKind.bits] using h
end
end Go.Proofs.Ytndhdpjgnepfnaa.base
