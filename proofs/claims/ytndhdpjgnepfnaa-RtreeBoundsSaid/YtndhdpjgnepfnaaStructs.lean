/-
  Arguments that are slices of structs of numbers.
-/
import Derived.Test.YtndhdpjgnepfnaaBase
import Derived.Deep.Slices
import Derived.Deep.Fields
import Derived.ChangeSame
namespace Go.Proofs.Ytndhdpjgnepfnaa.base
open Go.ChangeShapes Go.WideShapes Go.ChangeAt Go.RowKit Go.Deep
set_option linter.unusedVariables false
section
variable {H : Type} {enc : TypeId × Value → H} {P : Program}

theorem addr_add (b off j : Nat) : (⟨b, off, none⟩ : Addr).add j = ⟨b, off + j, none⟩ := by unfold Addr.add; split <;> simp_all

/-- each element's fields, each with its reading -/
theorem open_rows {sp : Nat → Bool} {held : Bool} {base b0 : Nat} {r : Reach} {W : World} {t e : TypeId} {fs : Array Field} {v : Value} {d : DataW H} {ps : List MemPlace}
    (ht : P.underlying t = some (.slice e)) (he : P.underlying e = some (.struct fs)) (hone : oneCellFields P fs = true) (hC : P.cellsOf e = fs.size) (hpos : 0 < fs.size)
    (hval : Value.okWide P W r b0 t v) (h : DataW.Trod enc P W base sp held t v d ps) :
    ∃ (A : Option Addr) (n cap : Nat), v = .slice A n cap ∧ n ≤ cap ∧ cap ≤ maxLen ∧ (0 < n → ∃ b off, A = some ⟨b, off, none⟩ ∧ b < W.heap.size ∧
      ∀ i, i < n → ∀ (j : Nat) (f : Field), fs[j]? = some f → ∃ (u : Value) (fuel : Nat) (y : DataW H × List MemPlace), W.cell? ⟨b, off + i * fs.size + j, none⟩ = some u ∧ DataW.trod enc P W base sp held fuel f.type [u] = some y) := by
  obtain ⟨a0, len, cap, rfl⟩ := okWide_slice ht hval
  obtain ⟨fuel, hf⟩ := h
  refine ⟨a0, len, cap, rfl, ?_⟩
  rcases open_slice ht hf with ⟨hcs, hx⟩ | ⟨a, len', cap', m, n, D, Pl, hcs, hb, hl, hm, hmm, hx, hi⟩
  · simp [Value.cells] at hcs
    obtain ⟨rfl, rfl, rfl⟩ := hcs
    exact ⟨Nat.le_refl _, by unfold maxLen; omega, fun h => absurd h (by simp)⟩
  · simp [Value.cells] at hcs
    obtain ⟨rfl, rfl, rfl⟩ := hcs
    refine ⟨hl, hm, fun h0 => ?_⟩
    have hlm : len ≤ m := by rw [hmm]; split <;> omega
    have key : ∀ i, i < m → ∀ (j : Nat) (f : Field), fs[j]? = some f → ∃ (u : Value) (fuel : Nat) (y : DataW H × List MemPlace), W.cell? (a.add (i * fs.size + j)) = some u ∧ DataW.trod enc P W base sp held fuel f.type [u] = some y := by
      intro i him j f hj
      obtain ⟨cs', hc, ht'⟩ := hi i him
      rw [hC] at hc
      obtain ⟨ys, n', hn', hy, hlen, hyl, hf2⟩ := DataW.trod_struct he ht'
      obtain ⟨_, hcl, hat⟩ := World.cells?_some hc
      obtain ⟨ho, hk⟩ := hone_of hone j f hj
      have hjl : j < fs.size := (Array.getElem?_eq_some_iff.1 hj).1
      have hcell := hat j hjl
      have hv : cs'[j]? = some (cs'[j]'(by omega)) := List.getElem?_eq_getElem (by omega)
      have h1 := hf2 j f hj
      rw [ho, hk] at h1
      have hone' : (cs'.drop j).take 1 = [cs'[j]'(by omega)] := by
        rw [List.drop_eq_getElem_cons (by omega)]
        rfl
      rw [hone'] at h1
      have hys : ys[j]? = some (ys[j]'(by omega)) := List.getElem?_eq_getElem (by omega)
      exact ⟨_, _, _, by rw [← Go.Deep.add_add, hcell, hv], h1.trans hys⟩
    obtain ⟨b, off, spot⟩ := a
    have hf0 : fs[0]? = some fs[0] := Array.getElem?_eq_getElem hpos
    obtain ⟨u0, _, _, g0, _⟩ := key 0 (by omega) 0 _ hf0
    have hspot : spot = none := by simpa [Addr.add] using World.cell?_spot g0
    subst hspot
    refine ⟨b, off, rfl, by have := World.block_lt_of_cell? W _ g0; simpa [Addr.add] using this, fun i hin j f hj => ?_⟩
    obtain ⟨u, fu, y, h1, h2⟩ := key i (by omega) j f hj
    rw [addr_add, ← Nat.add_assoc] at h1
    exact ⟨u, fu, y, h1, h2⟩

/-- A slice of n structs of k ints each: F i j is the j-th of the i-th. -/
def IntRows (w : World) (A : Option Addr) (n k : Nat) (F : Nat → Nat → Int) : Prop :=
  0 < n → ∃ b off, A = some ⟨b, off, none⟩ ∧ b < w.heap.size ∧ ∀ i, i < n → ∀ j, j < k → w.cell? ⟨b, off + i * k + j, none⟩ = some (.int .i64 (F i j))
theorem IntRows.keep {w w' : World} {A : Option Addr} {n k : Nat} {F : Nat → Nat → Int} (h : IntRows w A n k F) (hb : Below w.heap.size w w') : IntRows w' A n k F := fun h0 => by
  obtain ⟨b, off, e, hlt, hc⟩ := h h0
  exact ⟨b, off, e, Nat.lt_of_lt_of_le hlt hb.size, fun i hi j hj => (hb.cell hlt).trans (hc i hi j hj)⟩
theorem open_introws {sp : Nat → Bool} {held : Bool} {base b0 : Nat} {r : Reach} {W : World} {t e : TypeId} {fs : Array Field} {v : Value} {d : DataW H} {ps : List MemPlace} (k : Nat)
    (ht : P.underlying t = some (.slice e)) (he : P.underlying e = some (.struct fs)) (hone : oneCellFields P fs = true) (hC : P.cellsOf e = fs.size) (hk : fs.size = k) (hpos : 0 < k)
    (hi : ∀ (j : Nat) (f : Field), fs[j]? = some f → P.underlying f.type = some (.int .i64))
    (hval : Value.okWide P W r b0 t v) (h : DataW.Trod enc P W base sp held t v d ps) :
    ∃ (A : Option Addr) (n cap : Nat) (F : Nat → Nat → Int), v = .slice A n cap ∧ n ≤ cap ∧ cap ≤ maxLen ∧ IntRows W A n k F ∧ ∀ i, i < n → ∀ j, j < k → -9223372036854775808 ≤ F i j ∧ F i j ≤ 9223372036854775807 := by
  subst hk
  obtain ⟨A, n, cap, rfl, h1, h2, h3⟩ := open_rows ht he hone hC hpos hval h
  by_cases h0 : 0 < n
  · obtain ⟨b, off, rfl, hlt, hc⟩ := h3 h0
    have key : ∀ i j, ∃ z : Int, i < n → j < fs.size → W.cell? ⟨b, off + i * fs.size + j, none⟩ = some (.int .i64 z) ∧ -9223372036854775808 ≤ z ∧ z ≤ 9223372036854775807 := by
      intro i j
      by_cases hin : i < n
      · by_cases hjn : j < fs.size
        · obtain ⟨u, fu, y, g1, g2⟩ := hc i hin j _ (Array.getElem?_eq_getElem hjn)
          obtain ⟨z, e1, _, e2⟩ := DataW.trod_int (hi j _ (Array.getElem?_eq_getElem hjn)) g2
          simp at e1
          subst e1
          exact ⟨z, fun _ _ => ⟨g1, by simpa [Lit.wf, IntKind.min, IntKind.max, IntKind.signed, IntKind.bits] using e2⟩⟩
        · exact ⟨0, fun _ hh => absurd hh hjn⟩
      · exact ⟨0, fun hh => absurd hh hin⟩
    refine ⟨_, n, cap, fun i j => (key i j).choose, rfl, h1, h2, fun _ => ⟨b, off, rfl, hlt, fun i hin j hjn => ((key i j).choose_spec hin hjn).1⟩, fun i hin j hjn => ((key i j).choose_spec hin hjn).2⟩
  · exact ⟨A, n, cap, fun _ _ => 0, rfl, h1, h2, fun hh => absurd hh h0, fun i hin => absurd hin (by omega)⟩
end
end Go.Proofs.Ytndhdpjgnepfnaa.base
