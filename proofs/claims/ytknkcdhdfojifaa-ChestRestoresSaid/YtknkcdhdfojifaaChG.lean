/-
  One call of both: the chests and the list.
-/
import Derived.Test.YtknkcdhdfojifaaChE
import Derived.Test.YtknkcdhdfojifaaChF
namespace Go.Proofs.Ytknkcdhdfojifaa.ch
open Go.RowKit
open base (ret_bool ret_int made up Blk Only)
open rk mk
set_option linter.unusedVariables false
set_option linter.unusedSimpArgs false

theorem Own.empty (w : World) (t : TypeId) : Own E2 (w.alloc (.cells #[] t)) w.heap.size t (.slice (some ⟨w.heap.size, 0, none⟩) 0 0) [] :=
  ⟨rfl, .inr ⟨w.heap.size, 0, #[], rfl, Nat.le_refl _, heap_alloc_new w _, by simp, by unfold maxLen; omega, by simp, rfl⟩⟩
theorem Own.lay {w : World} {b : Nat} {t : TypeId} {A : Option Addr} {c : Nat} {L : List C2} (h : Own E2 w b t (.slice A L.length c) L) : Lay E2 w A L := by
  obtain ⟨A', c', e, h2, _⟩ := h.open_
  injection e with e1 e2 e3
  subst e1
  exact h2
/-- a copy of the list -/
theorem one_app (W : World) (A : Option Addr) (c : Nat) (L : List C2) (hA : Lay E2 W A L) (hl : L.length ≤ 100000) :
    ∃ v2 W2, (Builtin.append_ #[26, 26] 26 #[.slice (some ⟨W.heap.size, 0, none⟩) 0 0, .slice A L.length c]).run Try.prog (W.alloc (.cells #[] 37)) = .ok v2 W2
      ∧ Own E2 W2 W.heap.size 37 v2 L ∧ Below W.heap.size W W2 := by
  have h1 := made W (.cells #[] 37)
  obtain ⟨v2, W2, hr, ho, hg⟩ := app_run T2 (c := c) (Own.empty W 37) (hA.below h1) (fun _ => by cases A <;> simp) (by simp; omega) (by have := h1.size; omega)
  rw [List.nil_append] at ho
  exact ⟨v2, W2, hr, ho, h1.trans (hg.below (Own.empty W 37) h1.size)⟩
theorem two_a (W : World) (A : Option Addr) (c : Nat) (L : List C2) (n r : Int) (hA : Lay E2 W A L) (hl : L.length ≤ 100000) :
    ∃ v2 W2 v4 W4, (Builtin.append_ #[26, 26] 26 #[.slice (some ⟨W.heap.size, 0, none⟩) 0 0, .slice A L.length c]).run Try.prog (W.alloc (.cells #[] 37)) = .ok v2 W2
      ∧ (Builtin.append_ #[26, 26] 26 #[v2, .slice (some ⟨W2.heap.size, 0, none⟩) 1 1]).run Try.prog (W2.alloc (.cells #[.int .i64 n, .int .i64 r] 37)) = .ok v4 W4
      ∧ Below W.heap.size W W2 ∧ Own E2 W4 W.heap.size 37 v4 (L ++ [(n, r)]) ∧ Below W.heap.size W W4 := by
  obtain ⟨v2, W2, hr, ho, hb⟩ := one_app W A c L hA hl
  have h3 := made W2 (.cells #[.int .i64 n, .int .i64 r] 37)
  have ho3 := ho.below h3
  have LY := Lay.lit (E := E2) (W2.alloc (.cells #[.int .i64 n, .int .i64 r] 37)) (n, r) 37 W2.heap.size (Blk.new _ _ _)
  obtain ⟨v4, W4, hr4, ho4, hg4⟩ := app_run T2 (c := 1) ho3 LY (fun _ => .inr ⟨_, rfl⟩) (by simp; omega) (by have := hb.size; have := h3.size; omega)
  have hb3 := up hb h3 hb.size
  exact ⟨v2, W2, v4, W4, hr, hr4, hb, ho4, hb3.trans (hg4.below ho3 hb3.size)⟩
/-- both literals ahead of both appends -/
theorem two_b (W Wb : World) (e x : Nat) (A : Option Addr) (c : Nat) (L : List C2) (n r : Int) (hA : Lay E2 W A L) (hl : L.length ≤ 100000) (hb : Below W.heap.size W Wb)
    (he : Blk Wb e 37 #[]) (hx : Blk Wb x 37 #[.int .i64 n, .int .i64 r]) (he1 : W.heap.size ≤ e) (hne : x ≠ e) :
    ∃ v2 W2 v4 W4, (Builtin.append_ #[26, 26] 26 #[.slice (some ⟨e, 0, none⟩) 0 0, .slice A L.length c]).run Try.prog Wb = .ok v2 W2
      ∧ (Builtin.append_ #[26, 26] 26 #[v2, .slice (some ⟨x, 0, none⟩) 1 1]).run Try.prog W2 = .ok v4 W4
      ∧ Below W.heap.size W W2 ∧ Own E2 W4 W.heap.size 37 v4 (L ++ [(n, r)]) ∧ Below W.heap.size W W4 := by
  have ho0 : Own E2 Wb W.heap.size 37 (.slice (some ⟨e, 0, none⟩) 0 0) [] := ⟨rfl, .inr ⟨e, 0, #[], rfl, he1, he, by simp, by unfold maxLen; omega, by simp, rfl⟩⟩
  obtain ⟨v2, W2, hr, ho, hg⟩ := app_run T2 (c := c) ho0 (hA.below hb) (fun _ => by cases A <;> simp) (by simp; omega) hb.size
  rw [List.nil_append] at ho
  have hb2 := hb.trans (hg.below ho0 hb.size)
  have hx2 : Blk W2 x 37 #[.int .i64 n, .int .i64 r] := hx.grown hg.grown (fun q => hne (by injection q))
  have LY := Lay.lit (E := E2) W2 (n, r) 37 x hx2
  obtain ⟨v4, W4, hr4, ho4, hg4⟩ := app_run T2 (c := 1) ho LY (fun _ => .inr ⟨_, rfl⟩) (by simp; omega) hb2.size
  exact ⟨v2, W2, v4, W4, hr, hr4, hb2, ho4, hb2.trans (hg4.below ho hb2.size)⟩
def StepP (Bx B g b cn : Nat) (L : List C2) (w : World) (e : Ending) (w' : World) : Prop :=
  ∃ v c', e = .returned (.tuple #[v, .bool true]) ∧ CAt w' B g b L c' ∧ c' ≤ cn + 1 ∧ Own E2 w' Bx 37 v L ∧ Tch B b w w'
theorem tch_back {B b : Nat} {w w1 : World} (h : Tch B b w w1) {k : Nat} (hk : k < w.heap.size) (hs : k = b ∨ B ≤ k ∧ ∃ cs, Blk w1 k 3 cs) : k = b ∨ B ≤ k ∧ ∃ cs, Blk w k 3 cs := by
  rcases hs with q | ⟨q, cs, hb⟩
  · exact .inl q
  · by_cases e : k = b ∨ B ≤ k ∧ ∃ cs, Blk w k 3 cs
    · exact e
    · exact .inr ⟨q, cs, (h.block k hk e).symm.trans hb⟩
end Go.Proofs.Ytknkcdhdfojifaa.ch
