/-
  What a step keeps; Get, Find, Of by letters.
-/
import Derived.Test.YtlklfolpcebahaaAucX
import Derived.Test.YtlklfolpcebahaaBidG
namespace Go.Proofs.Ytlklfolpcebahaa.bb
open Go.RowKit
open base (ret_bool ret_int made up Blk Only Nums below_drewN)
open rk
set_option linter.unusedVariables false
set_option linter.unusedSimpArgs false

theorem Inv.step {L : List D} {nx : Int} (h : Inv L nx) (k a b n e : Int) : Inv (stepS (L, nx) k a b n e).1 (stepS (L, nx) k a b n e).2 := by
  unfold stepS
  split
  · exact h.opn a b n e
  · split
    · exact h.bid a b n
    · split
      · exact h.cls a
      · exact h
theorem step_next (L : List D) (nx : Int) (k a b n e : Int) : nx ≤ (stepS (L, nx) k a b n e).2 ∧ (stepS (L, nx) k a b n e).2 ≤ nx + 1 := by
  unfold stepS
  split
  · unfold opn
    split
    · exact ⟨Int.le_refl _, by show nx ≤ nx + 1; omega⟩
    · exact ⟨by show nx ≤ nx + 1; omega, Int.le_refl _⟩
  · split
    · rcases bid_two L nx a b n with ⟨_, h, _⟩ | ⟨i, h1, h2, _⟩
      · rw [h]
        exact ⟨Int.le_refl _, by show nx ≤ nx + 1; omega⟩
      · by_cases q : bidErr (L.getD i (0, 0, 0, 0, 0, 0, 0)) b n = 0
        · rw [bid_ok h1 q]
          exact ⟨Int.le_refl _, by show nx ≤ nx + 1; omega⟩
        · rw [bid_err h1 rfl q]
          exact ⟨Int.le_refl _, by show nx ≤ nx + 1; omega⟩
    · split
      · unfold cls
        split
        · exact ⟨Int.le_refl _, by show nx ≤ nx + 1; omega⟩
        · exact ⟨Int.le_refl _, by show nx ≤ nx + 1; omega⟩
      · exact ⟨Int.le_refl _, by show nx ≤ nx + 1; omega⟩
theorem get_l (B g : Nat) (L : List D) (nx n : Int) (hl : L.length ≤ 100000) : ∃ (d0 d1 d2 d3 d4 d5 d6 er : Int), ((er == 0) = (fi (isId n) L).isSome) ∧ ∀ w, DAt w B g L nx →
    Calls Try.prog 11 #[.pointer (some ⟨g, 0, none⟩), .int .i64 n] w fun e w' => e = .returned (.tuple #[(.agg #[.int .i64 d0, .int .i64 d1, .int .i64 d2, .int .i64 d3, .int .i64 d4, .int .i64 d5, .int .i64 d6]), .int .i64 er]) ∧ Below w.heap.size w w' :=
  ⟨_, _, _, _, _, _, _, _, by cases fi (isId n) L <;> rfl, fun w h => get_any B g L nx n w h hl⟩
theorem of_l (B g : Nat) (L : List D) (nx n : Int) (hl : L.length ≤ 100000) : ∃ (d0 d1 d2 d3 d4 d5 d6 : Int), ∀ w, DAt w B g L nx →
    Calls Try.prog 12 #[.pointer (some ⟨g, 0, none⟩), .int .i64 n] w fun e w' => e = .returned (.tuple #[(.agg #[.int .i64 d0, .int .i64 d1, .int .i64 d2, .int .i64 d3, .int .i64 d4, .int .i64 d5, .int .i64 d6]), .bool (fi (isDeed n) L).isSome]) ∧ Below w.heap.size w w' :=
  ⟨_, _, _, _, _, _, _, fun w h => of_any B g L nx n w h hl⟩
end Go.Proofs.Ytlklfolpcebahaa.bb
