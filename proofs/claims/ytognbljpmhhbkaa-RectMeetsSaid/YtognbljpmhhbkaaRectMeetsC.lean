/-
  RectMeets, third part: which tiles both have, by the numbers. Conditions: as the theorems say.
-/
import Derived.Test.YtognbljpmhhbkaaRectMeetsB
namespace Go.Proofs.Ytognbljpmhhbkaa.rectMeets
open Go.RowKit
open rect
open base (ret_bool ret_int made up Blk Only)
set_option linter.unusedVariables false

/-- p q r s is what both have. -/
structure Both (x y u z a b c d p q r s : Int) : Prop where
  h1 : rightB x y u z = true
  h2 : rightB a b c d = true
  h3 : rightB p q r s = true
  e1 : cx x a = p
  e2 : cx y b = q
  e3 : cw x u a c = r
  e4 : cw y z b d = s
theorem Both.ins {x y u z a b c d p q r s : Int} (h : Both x y u z a b c d p q r s) {i k : Int} (hi : p ≤ i ∧ i < p + r) (hk : q ≤ k ∧ k < q + s) : holdsB x y u z i k = true ∧ holdsB a b c d i k = true := by
  obtain ⟨h1, h2, h3, e1, e2, e3, e4⟩ := h
  unfold cx at e1 e2
  unfold cw at e3 e4
  exact ⟨holds_mk h1 (by omega), holds_mk h2 (by omega)⟩
theorem Both.corner {x y u z a b c d p q r s : Int} (h : Both x y u z a b c d p q r s) : 1 ≤ r ∧ 1 ≤ s ∧ 0 ≤ p ∧ 0 ≤ q ∧ p + r ≤ 256 ∧ q + s ≤ 256 := by
  obtain ⟨⟨y1, y2, y3, y4⟩, y5, y6, y7, y8⟩ := right_yes h.h3
  omega
theorem Both.out {x y u z a b c d p q r s : Int} (h : Both x y u z a b c d p q r s) {i k : Int} (hi : i < p ∨ p + r ≤ i ∨ k < q ∨ q + s ≤ k) : holdsB x y u z i k = false ∨ holdsB x y u z i k = true ∧ holdsB a b c d i k = false := by
  obtain ⟨h1, h2, h3, e1, e2, e3, e4⟩ := h
  unfold cx at e1 e2
  unfold cw at e3 e4
  by_cases g : x ≤ i ∧ i < x + u ∧ y ≤ k ∧ k < y + z
  · exact .inr ⟨holds_mk h1 g, holds_no (by omega)⟩
  · exact .inl (holds_no g)
theorem Both.swap {x y u z a b c d p q r s : Int} (h : Both x y u z a b c d p q r s) : Both a b c d x y u z p q r s :=
  ⟨h.h2, h.h1, h.h3, by rw [cx_comm, h.e1], by rw [cx_comm, h.e2], by rw [cw_comm, h.e3], by rw [cw_comm, h.e4]⟩
theorem Both.common {x y u z a b c d p q r s : Int} (h : Both x y u z a b c d p q r s) (w : World) :
    Calls Try.prog 19 #[(.agg #[.int .i64 x, .int .i64 y, .int .i64 u, .int .i64 z]), (.agg #[.int .i64 a, .int .i64 b, .int .i64 c, .int .i64 d])] w fun e w' => e = .returned (.tuple #[(.agg #[.int .i64 p, .int .i64 q, .int .i64 r, .int .i64 s]), .bool true]) ∧ Below w.heap.size w w' := by
  obtain ⟨h1, h2, h3, rfl, rfl, rfl, rfl⟩ := h
  exact common_yes x y u z a b c d w h1 h2 h3
theorem Both.meets {x y u z a b c d p q r s : Int} (h : Both x y u z a b c d p q r s) (w : World) :
    Calls Try.prog 20 #[(.agg #[.int .i64 x, .int .i64 y, .int .i64 u, .int .i64 z]), (.agg #[.int .i64 a, .int .i64 b, .int .i64 c, .int .i64 d])] w fun e w' => e = .returned (.bool true) ∧ Below w.heap.size w w' := by
  obtain ⟨h1, h2, h3, rfl, rfl, rfl, rfl⟩ := h
  exact meets_yes x y u z a b c d w h1 h2 h3
theorem Both.rmeets {x y u z a b c d p q r s : Int} (h : Both x y u z a b c d p q r s) (w : World) :
    Calls Try.prog 18 #[(.agg #[.int .i64 x, .int .i64 y, .int .i64 u, .int .i64 z]), (.agg #[.int .i64 a, .int .i64 b, .int .i64 c, .int .i64 d])] w fun e w' => e = .returned (.bool true) ∧ Below w.heap.size w w' := by
  have hc := h.corner
  obtain ⟨h1, h2, h3, e1, e2, e3, e4⟩ := h
  unfold cx at e1 e2
  unfold cw at e3 e4
  have := rmeets_yes x y u z a b c d w h1 h2
  rwa [decide_eq_true (show max x a < min (x + u) (a + c) by omega), decide_eq_true (show max y b < min (y + z) (b + d) by omega)] at this
theorem Both.within {x y u z a b c d p q r s : Int} (h : Both x y u z a b c d p q r s) (w : World) :
    Calls Try.prog 21 #[(.agg #[.int .i64 x, .int .i64 y, .int .i64 u, .int .i64 z]), (.agg #[.int .i64 a, .int .i64 b, .int .i64 c, .int .i64 d])] w fun e w' => e = .returned (.bool (same4 p q r s x y u z)) ∧ Below w.heap.size w w' := by
  obtain ⟨h1, h2, h3, e1, e2, e3, e4⟩ := h
  exact in_eq x y u z a b c d p q r s w h1 h2 (by rw [e1, e2, e3, e4]; exact h3) e1 e2 e3 e4
end Go.Proofs.Ytognbljpmhhbkaa.rectMeets
