/-
  Arguments that are slices of structs, whatever their fields: each element's cells read as an element.
-/
import Derived.Test.YtjbbphdjemdinaaRk
import Derived.Test.YtjbbphdjemdinaaStructs
import Derived.Lib.SmallJoins
namespace Go.Proofs.Ytjbbphdjemdinaa.opn
open Go.ChangeShapes Go.WideShapes Go.ChangeAt Go.RowKit Go.Deep
open rk
set_option linter.unusedVariables false
section
variable {H : Type} {en : TypeId × Value → H} {P : Program} {α : Type}
theorem open_any {E : Enc α} {ok : α → Prop} (x0 : α) {sp : Nat → Bool} {held : Bool} {bs b0 : Nat} {r : Reach} {W : World} {t e : TypeId} {v : Value} {d : DataW H} {ps : List MemPlace}
    (ht : P.underlying t = some (.slice e)) (hC : P.cellsOf e = E.k)
    (pick : ∀ (cs : List Value) (fuel : Nat) (y : DataW H × List MemPlace), DataW.trod en P W bs sp held fuel e cs = some y → ∃ x : α, ok x ∧ cs = E.enc x)
    (hval : Value.okWide P W r b0 t v) (h : DataW.Trod en P W bs sp held t v d ps) :
    ∃ (A : Option Addr) (cap : Nat) (L : List α), v = .slice A L.length cap ∧ L.length ≤ cap ∧ cap ≤ maxLen ∧ Lay E W A L ∧ ∀ x, x ∈ L → ok x := by
  obtain ⟨a0, len, cap, rfl⟩ := okWide_slice ht hval
  obtain ⟨fuel, hf⟩ := h
  rcases open_slice ht hf with ⟨hcs, hx⟩ | ⟨a, len', cap', m, n, D, Pl, hcs, hb, hl, hm, hmm, hx, hi⟩
  · simp [Value.cells] at hcs
    obtain ⟨rfl, rfl, rfl⟩ := hcs
    exact ⟨none, 0, [], rfl, Nat.le_refl _, by unfold maxLen; omega, Lay.nil _ _ _, fun o ho => (by cases ho)⟩
  · simp [Value.cells] at hcs
    obtain ⟨rfl, rfl, rfl⟩ := hcs
    have hlm : len ≤ m := by rw [hmm]; split <;> omega
    have key0 : ∀ i, ∃ o : α, i < m → ok o ∧ ∀ j, j < E.k → W.cell? (a.add (i * E.k + j)) = (E.enc o)[j]? := by
      intro i
      by_cases him : i < m
      · obtain ⟨cs', hc, ht'⟩ := hi i him
        rw [hC] at hc
        obtain ⟨o, ho, rfl⟩ := pick _ _ _ ht'
        obtain ⟨_, hcl, hat⟩ := World.cells?_some hc
        refine ⟨o, fun _ => ⟨ho, fun j hj => ?_⟩⟩
        rw [← Go.Deep.add_add, hat j hj]
      · exact ⟨x0, fun h => absurd h him⟩
    by_cases h0 : 0 < len
    · obtain ⟨b, off, spot⟩ := a
      have g0 := ((key0 0).choose_spec (by omega)).2 0 E.pos
      rw [List.getElem?_eq_getElem (by rw [E.len]; exact E.pos)] at g0
      have hspot : spot = none := by simpa [Addr.add] using World.cell?_spot g0
      subst hspot
      have hblt : b < W.heap.size := by
        have := World.block_lt_of_cell? W _ g0
        simpa [Addr.add] using this
      have hlen : ((List.range len).map (fun i => (key0 i).choose)).length = len := by simp
      refine ⟨some ⟨b, off, none⟩, cap, (List.range len).map (fun i => (key0 i).choose), by rw [hlen], by rw [hlen]; exact hl, hm, fun _ => ⟨b, off, rfl, hblt, fun i hi j hj => ?_⟩, fun o ho => ?_⟩
      · have hi2 : i < len := by simpa using hi
        obtain ⟨_, q⟩ := (key0 i).choose_spec (by omega)
        simp only [List.getElem_map, List.getElem_range]
        have := q j hj
        rw [base.addr_add, ← Nat.add_assoc] at this
        exact this
      · obtain ⟨i, hi, rfl⟩ := List.mem_map.1 ho
        have hi2 : i < len := by simpa using hi
        exact ((key0 i).choose_spec (by omega)).1
    · obtain rfl : len = 0 := by omega
      exact ⟨some a, cap, [], rfl, by simp, hm, Lay.nil _ _ _, fun o ho => (by cases ho)⟩
end
end Go.Proofs.Ytjbbphdjemdinaa.opn
