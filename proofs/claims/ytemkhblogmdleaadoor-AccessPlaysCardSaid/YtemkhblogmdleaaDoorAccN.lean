/-
  The same list told by Nums and by Lay; slices.Index and Equal of rows told by Lay.
-/
import Derived.Test.YtemkhblogmdleaaDoorAccM
namespace Go.Proofs.YtemkhblogmdleaaDoor.acw
open Go.RowKit
open base (ret_bool ret_int made up Blk Only Nums)
open rk il
set_option linter.unusedVariables false
set_option linter.unusedSimpArgs false

theorem nums_lay {w : World} {A : Option Addr} {l : List Int} (h : Nums .i64 w A l) : Lay il.E1 w A l := fun h0 => by
  obtain ⟨b, off, e, hb, hc⟩ := h h0
  refine ⟨b, off, e, hb, fun i hi j hj => ?_⟩
  have hj0 : j = 0 := by have : j < 1 := hj; omega
  subst hj0
  have := hc i hi
  rw [show off + i * il.E1.k + 0 = off + i by rw [show il.E1.k = 1 from rfl]; omega, this]
  simp [il.E1, List.getD, hi]
theorem lay_nums {w : World} {A : Option Addr} {l : List Int} (h : Lay il.E1 w A l) : Nums .i64 w A l := fun h0 => by
  obtain ⟨b, off, e, hb, hc⟩ := h h0
  refine ⟨b, off, e, hb, fun i hi => ?_⟩
  have := hc i hi 0 (by decide)
  rw [show off + i * il.E1.k + 0 = off + i by rw [show il.E1.k = 1 from rfl]; omega] at this
  rw [this]
  simp [il.E1, List.getD, hi]
/-- where a number first stands -/
theorem index_own (A : Option Addr) (c : Nat) (l : List Int) (p : Int) (w : World) (h : Lay il.E1 w A l) (hl : l.length ≤ 9000000) :
    ∃ o, ac.Idx l p o ∧ Calls Tryd.prog 31 #[.slice A l.length c, .int .i64 p] w fun e w' => e = .returned (.int .i64 (ac.idxI o)) ∧ w' = w := by
  obtain ⟨o, ho⟩ := ac.idx_ex l p
  exact ⟨o, ho, ac.index_any A c l p o w (lay_nums h) ho hl⟩
theorem idx_mem {l : List Int} {p : Int} {k : Nat} (h : ac.Idx l p (some k)) : ∃ hk : k < l.length, l[k] = p := by
  obtain ⟨h1, h2, _⟩ := h
  refine ⟨h1, ?_⟩
  rw [← h2]
  simp [List.getD, h1]
theorem idx_none {l : List Int} {p : Int} (h : ac.Idx l p none) : p ∉ l := fun m => by
  obtain ⟨k, hk, e⟩ := List.getElem_of_mem m
  refine h k hk ?_
  rw [← e]
  simp [List.getD, hk]
end Go.Proofs.YtemkhblogmdleaaDoor.acw
