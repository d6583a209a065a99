/-
  Contracts of package rect, fifth part: the fixed answer.
-/
import Derived.Test.YtndhdpjgnepfnaaRectD
namespace Go.Proofs.Ytndhdpjgnepfnaa.rect
open Go.RowKit
open base (ret_bool ret_int made up Blk Only)
set_option linter.unusedVariables false

theorem own_cells {w : World} {b size n : Nat} {e : TypeId} {v : Value} {xs : List Value} (h : w.ownsRow b e size v n xs) (hn : 0 < n) :
    ∃ g c, v = .slice (some ⟨g, 0, none⟩) n c ∧ b ≤ g ∧ g < w.heap.size ∧ ∀ j u, xs[j]? = some u → w.cell? ⟨g, j, none⟩ = some u := by
  rcases h.2 with ⟨_, h0⟩ | ⟨g, cap, cur, he, hb, hg, _⟩
  · omega
  · subst he
    refine ⟨g, cap, rfl, hb, (Array.getElem?_eq_some_iff.1 hg).1, fun j u hj => ?_⟩
    have := h.cells (g := g) rfl j u hj
    have hadd : (⟨g, 0, none⟩ : Addr).add j = ⟨g, j, none⟩ := by unfold Addr.add; split <;> simp_all
    rwa [hadd] at this

set_option maxHeartbeats 2000000 in
theorem meets_no (x y u z a b c d : Int) (w : World) (h : rightB x y u z = false ∨ rightB a b c d = false ∨ rightB (cx x a) (cx y b) (cw x u a c) (cw y z b d) = false) :
    Calls Try.prog 37 #[(.agg #[.int .i64 x, .int .i64 y, .int .i64 u, .int .i64 z]), (.agg #[.int .i64 a, .int .i64 b, .int .i64 c, .int .i64 d])] w fun e w' => e = .returned (.bool false) ∧ Below w.heap.size w w' := by
  have hc : ∀ W : World, Calls Try.prog 48 #[(.agg #[.int .i64 x, .int .i64 y, .int .i64 u, .int .i64 z]), (.agg #[.int .i64 a, .int .i64 b, .int .i64 c, .int .i64 d])] W fun e w' => e = .returned (.tuple #[(.agg #[.int .i64 0, .int .i64 0, .int .i64 0, .int .i64 0]), .bool false]) ∧ Below W.heap.size W w' := fun W => by
    rcases h with h | h | h
    · exact common_bad _ _ _ _ _ _ _ _ W (.inl h)
    · exact common_bad _ _ _ _ _ _ _ _ W (.inr h)
    · cases h1 : rightB x y u z
      · exact common_bad _ _ _ _ _ _ _ _ W (.inl h1)
      · cases h2 : rightB a b c d
        · exact common_bad _ _ _ _ _ _ _ _ W (.inr h2)
        · exact common_none _ _ _ _ _ _ _ _ W h1 h2 h
  have C := Lib.hid hc
  clear hc h
  go_enter Try.func37, Try.ntmps37
  go_wp2_with fail
  refine (C.out _).mono ?_
  rintro e w1 ⟨rfl, hb1⟩
  go_wp2
  go_ret
  exact ⟨rfl, (up (((Below.refl _ _).alloc (Nat.le_refl _) _).alloc (by simp) _) hb1 (by simp; omega)).alloc (by have := hb1.size; simp at this; omega) _⟩

set_option maxHeartbeats 2000000 in
theorem meets_yes (x y u z a b c d : Int) (w : World) (h1 : rightB x y u z = true) (h2 : rightB a b c d = true) (h3 : rightB (cx x a) (cx y b) (cw x u a c) (cw y z b d) = true) :
    Calls Try.prog 37 #[(.agg #[.int .i64 x, .int .i64 y, .int .i64 u, .int .i64 z]), (.agg #[.int .i64 a, .int .i64 b, .int .i64 c, .int .i64 d])] w fun e w' => e = .returned (.bool true) ∧ Below w.heap.size w w' := by
  go_enter Try.func37, Try.ntmps37
  go_wp2_with fail
  refine (common_yes _ _ _ _ _ _ _ _ _ h1 h2 h3).mono ?_
  rintro e w1 ⟨rfl, hb1⟩
  go_wp2
  go_ret
  exact ⟨rfl, (up (((Below.refl _ _).alloc (Nat.le_refl _) _).alloc (by simp) _) hb1 (by simp; omega)).alloc (by have := hb1.size; simp at this; omega) _⟩
end Go.Proofs.Ytndhdpjgnepfnaa.rect
