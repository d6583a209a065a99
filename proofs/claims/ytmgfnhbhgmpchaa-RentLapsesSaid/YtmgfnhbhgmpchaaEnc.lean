/-
  Arguments that are slices of structs of one-cell fields (numbers, strings, bools), or slices of one-cell values: the elements as a list.
-/
import Derived.Test.YtmgfnhbhgmpchaaRk
import Derived.Test.YtmgfnhbhgmpchaaStructs
namespace Go.Proofs.Ytmgfnhbhgmpchaa.enc
open Go.ChangeShapes Go.WideShapes Go.ChangeAt Go.RowKit
open rk
set_option linter.unusedVariables false
section
variable {H : Type} {en : TypeId × Value → H} {P : Program} {α : Type}

theorem rows_of {E : Enc α} {ok : α → Prop} (x0 : α) {W : World} {A : Option Addr} {n cap : Nat} (h1 : n ≤ cap) (h2 : cap ≤ maxLen)
    (h3 : 0 < n → ∃ b off, A = some ⟨b, off, none⟩ ∧ b < W.heap.size ∧ ∀ i, i < n → ∃ x : α, ok x ∧ ∀ j, j < E.k → W.cell? ⟨b, off + i * E.k + j, none⟩ = (E.enc x)[j]?) :
    ∃ (A' : Option Addr) (cap' : Nat) (L : List α), (Value.slice A n cap) = .slice A' L.length cap' ∧ L.length ≤ cap' ∧ cap' ≤ maxLen ∧ Lay E W A' L ∧ ∀ x, x ∈ L → ok x := by
  by_cases h0 : 0 < n
  · obtain ⟨b, off, rfl, hlt, hc⟩ := h3 h0
    have key : ∀ i, ∃ x : α, i < n → ok x ∧ ∀ j, j < E.k → W.cell? ⟨b, off + i * E.k + j, none⟩ = (E.enc x)[j]? := by
      intro i
      by_cases hin : i < n
      · obtain ⟨x, h⟩ := hc i hin
        exact ⟨x, fun _ => h⟩
      · exact ⟨x0, fun hh => absurd hh hin⟩
    have hlen : ((List.range n).map (fun i => (key i).choose)).length = n := by simp
    refine ⟨some ⟨b, off, none⟩, cap, (List.range n).map (fun i => (key i).choose), by rw [hlen], by rw [hlen]; exact h1, h2, fun _ => ⟨b, off, rfl, hlt, fun i hi j hj => ?_⟩, fun x hx => ?_⟩
    · have hi2 : i < n := by simpa using hi
      simp only [List.getElem_map, List.getElem_range]
      exact ((key i).choose_spec hi2).2 j hj
    · obtain ⟨i, hi, rfl⟩ := List.mem_map.1 hx
      exact ((key i).choose_spec (by simpa using hi)).1
  · have : n = 0 := by omega
    subst this
    exact ⟨A, cap, [], rfl, h1, h2, Lay.nil E _ _, fun d hd => (by cases hd)⟩

/-- structs: what each row's cells read as makes an element -/
theorem open_enc {E : Enc α} {ok : α → Prop} (x0 : α) {sp : Nat → Bool} {held : Bool} {bs b0 : Nat} {r : Reach} {W : World} {t e : TypeId} {fs : Array Field} {v : Value} {d : DataW H} {ps : List MemPlace}
    (ht : P.underlying t = some (.slice e)) (he : P.underlying e = some (.struct fs)) (hone : Go.Deep.oneCellFields P fs = true) (hC : P.cellsOf e = fs.size) (hk : fs.size = E.k)
    (pick : ∀ V : Nat → Value, (∀ (j : Nat) (f : Field), fs[j]? = some f → ∃ (fuel : Nat) (y : DataW H × List MemPlace), DataW.trod en P W bs sp held fuel f.type [V j] = some y) → ∃ x : α, ok x ∧ ∀ j, j < E.k → (E.enc x)[j]? = some (V j))
    (hval : Value.okWide P W r b0 t v) (h : DataW.Trod en P W bs sp held t v d ps) :
    ∃ (A : Option Addr) (cap : Nat) (L : List α), v = .slice A L.length cap ∧ L.length ≤ cap ∧ cap ≤ maxLen ∧ Lay E W A L ∧ ∀ x, x ∈ L → ok x := by
  obtain ⟨A, n, cap, rfl, h1, h2, h3⟩ := base.open_rows ht he hone hC (by rw [hk]; exact E.pos) hval h
  refine rows_of x0 h1 h2 fun h0 => ?_
  obtain ⟨b, off, rfl, hlt, hc⟩ := h3 h0
  refine ⟨b, off, rfl, hlt, fun i hi => ?_⟩
  have key : ∀ j, ∃ u : Value, j < fs.size → W.cell? ⟨b, off + i * fs.size + j, none⟩ = some u ∧ ∀ f, fs[j]? = some f → ∃ (fuel : Nat) (y : DataW H × List MemPlace), DataW.trod en P W bs sp held fuel f.type [u] = some y := by
    intro j
    by_cases hj : j < fs.size
    · obtain ⟨u, fu, y, g1, g2⟩ := hc i hi j _ (Array.getElem?_eq_getElem hj)
      refine ⟨u, fun _ => ⟨g1, fun f hf => ?_⟩⟩
      rw [Array.getElem?_eq_getElem hj] at hf
      injection hf with hf
      subst hf
      exact ⟨fu, y, g2⟩
    · exact ⟨undef, fun q => absurd q hj⟩
  obtain ⟨x, hx, hy⟩ := pick (fun j => (key j).choose) (fun j f hf => ((key j).choose_spec (Array.getElem?_eq_some_iff.1 hf).1).2 f hf)
  refine ⟨x, hx, fun j hj => ?_⟩
  rw [hy j hj, ← hk]
  exact ((key j).choose_spec (by rw [hk]; exact hj)).1

/-- one cell each -/
theorem open_ones {E : Enc α} {ok : α → Prop} (x0 : α) {sp : Nat → Bool} {held : Bool} {bs b0 : Nat} {r : Reach} {W : World} {t e : TypeId} {v : Value} {d : DataW H} {ps : List MemPlace}
    (ht : P.underlying t = some (.slice e)) (hC : P.cellsOf e = 1) (hk : E.k = 1)
    (pick : ∀ (V : Value) (fuel : Nat) (y : DataW H × List MemPlace), DataW.trod en P W bs sp held fuel e [V] = some y → ∃ x : α, ok x ∧ E.enc x = [V])
    (hval : Value.okWide P W r b0 t v) (h : DataW.Trod en P W bs sp held t v d ps) :
    ∃ (A : Option Addr) (cap : Nat) (L : List α), v = .slice A L.length cap ∧ L.length ≤ cap ∧ cap ≤ maxLen ∧ Lay E W A L ∧ ∀ x, x ∈ L → ok x := by
  obtain ⟨a0, len, cap, rfl⟩ := okWide_slice ht hval
  obtain ⟨fuel, hf⟩ := h
  rcases Go.Deep.open_slice1 ht hC hf with ⟨hcs, hx⟩ | ⟨a, len', cap', m, n, V, D, Pl, hcs, hb, hl, hm, hmm, hx, hi⟩
  · simp [Value.cells] at hcs
    obtain ⟨rfl, rfl, rfl⟩ := hcs
    exact ⟨none, 0, [], rfl, Nat.le_refl _, by unfold maxLen; omega, Lay.nil E _ _, fun d hd => (by cases hd)⟩
  · simp [Value.cells] at hcs
    obtain ⟨rfl, rfl, rfl⟩ := hcs
    have hlm : len ≤ m := by rw [hmm]; split <;> omega
    refine rows_of x0 hl hm fun h0 => ?_
    obtain ⟨b, off, spot⟩ := a
    obtain ⟨g0, _⟩ := hi 0 (by omega)
    have hspot : spot = none := by simpa [Addr.add] using World.cell?_spot g0
    subst hspot
    refine ⟨b, off, rfl, by have := World.block_lt_of_cell? W _ g0; simpa [Addr.add] using this, fun i hin => ?_⟩
    obtain ⟨g1, g2⟩ := hi i (by omega)
    obtain ⟨x, hx1, hx2⟩ := pick _ _ _ g2
    refine ⟨x, hx1, fun j hj => ?_⟩
    obtain rfl : j = 0 := by omega
    rw [base.addr_add] at g1
    rw [hx2, hk, Nat.mul_one, Nat.add_zero, g1]
    rfl
end
end Go.Proofs.Ytmgfnhbhgmpchaa.enc
