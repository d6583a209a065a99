/-
  RectMeets: for every two rectangles the law answers true. Conditions: none.
-/
import Derived.Test.YtognbljpmhhbkaaRectMeetsD
import Derived.Test.YtognbljpmhhbkaaBase2
namespace Go.Proofs.Ytognbljpmhhbkaa.rectMeetsLaw
open Go.ChangeShapes Go.WideShapes Go.ChangeAt Go.RowKit
open rect
set_option linter.unusedVariables false

theorem walk (w : World) (x y u z : Int) (wx : (Lit.int .i64 x).wf = true) (wy : (Lit.int .i64 y).wf = true) (wu : (Lit.int .i64 u).wf = true) (wz : (Lit.int .i64 z).wf = true)
    (a b c d : Int) (wa : (Lit.int .i64 a).wf = true) (wb : (Lit.int .i64 b).wf = true) (wc : (Lit.int .i64 c).wf = true) (wd : (Lit.int .i64 d).wf = true) :
    Calls Try.prog 4 #[(.agg #[.int .i64 x, .int .i64 y, .int .i64 u, .int .i64 z]), (.agg #[.int .i64 a, .int .i64 b, .int .i64 c, .int .i64 d])] w fun e w' => e = .returned (.bool true) ∧ Below w.heap.size w w' := by
  have b1 := (base.range64 wx).1
  have b2 := (base.range64 wa).1
  cases h1 : rightB x y u z
  · exact rectMeets.walk_none x y u z a b c d w b1 b2 (.inl h1)
  · cases h2 : rightB a b c d
    · exact rectMeets.walk_none x y u z a b c d w b1 b2 (.inr (.inl h2))
    · cases h3 : rightB (cx x a) (cx y b) (cw x u a c) (cw y z b d)
      · exact rectMeets.walk_none x y u z a b c d w b1 b2 (.inr (.inr h3))
      · exact rectMeets.walk_yes x y u z a b c d _ _ _ _ w ⟨h1, h2, h3, rfl, rfl, rfl, rfl⟩

set_option maxRecDepth 100000 in
theorem lifted (os : Os) (started : os.Started) (H : Type) (enc : TypeId × Value → H) :
    ReturnsInHanded {} Try.checked os 4 .any (Rows.rectMeetsSpec.pre6 enc Try.prog Try.f4 Rows.rectMeetsRow.domain false) (Rows.rectMeetsSpec.post enc Try.prog Try.f4 false true false false) := by
  refine returnsInHanded_of_change (C := Try.checked) base.own started (by kernel_rfl) Try.func4
    (ChangeSpec.witness6 (enc := enc) (C := Try.checked) false ⟨#[], #[.agg #[.int .i64 0, .int .i64 0, .int .i64 0, .int .i64 0], .agg #[.int .i64 0, .int .i64 0, .int .i64 0, .int .i64 0]], []⟩ 8 (by kernel_rfl) (by kernel_rfl) (by kernel_rfl) (by kernel_rfl)) ?_
  intro W bs args ds gs before hval0 hW _ _
  have hval : ∀ (j : Nat) t v, Try.f4.params[j]? = some t → args[j]? = some v → Value.okWide Try.prog W .any bs t v := hval0
  have hW' : DataW.Whole enc Try.prog Try.f4.params.toList Rows.rectMeetsSpec.vars false W args.toList ds gs before := hW
  obtain ⟨p, q, hA0, hV, rfl, _, _⟩ := hW
  have hA : DataW.TrodAll enc Try.prog W 0 (fun _ => true) true Try.f4.params.toList args.toList ds p := hA0
  rw [Try.params4] at hA hval
  obtain ⟨v0, vs0, d0, ds0, p0, q0, hargs, rfl, rfl, h0, r0⟩ := trodAll_cons hA
  obtain ⟨v1, vs1, d1, ds1, p1, q1, rfl, rfl, rfl, h1, r1⟩ := trodAll_cons r0
  obtain ⟨rfl, rfl, rfl⟩ := trodAll_nil r1
  obtain rfl : args = #[v0, v1] := by cases args; simp_all
  obtain ⟨rfl, rfl⟩ := trodVars_none hV
  obtain ⟨x0, y0, u0, z0, rfl, wx0, wy0, wu0, wz0⟩ := base.open_four Try.underlying23 Try.underlying3 ⟨rfl, rfl, rfl⟩ (by kernel_rfl) (by kernel_rfl) (hval 0 23 v0 rfl rfl) h0
  obtain ⟨x1, y1, u1, z1, rfl, wx1, wy1, wu1, wz1⟩ := base.open_four Try.underlying23 Try.underlying3 ⟨rfl, rfl, rfl⟩ (by kernel_rfl) (by kernel_rfl) (hval 1 23 v1 rfl rfl) h1
  clear hA0 hval0
  refine (walk W x0 y0 u0 z0 wx0 wy0 wu0 wz0 x1 y1 u1 z1 wx1 wy1 wu1 wz1).mono fun e W' ⟨he, hb⟩ => ?_
  subst he
  exact ⟨_, rfl, base.law_post base.laid (by kernel_rfl) rfl rfl Try.underlying4 hW' rfl rfl rfl hb⟩

theorem over : Rows.rectMeetsRow.holds Try.pinned (OpenSpec.ofChange Rows.rectMeetsSpec) :=
  OpenClaim.holds_of_wide 4 Try.f4 rfl rfl rfl rfl rfl rfl rfl ⟨rfl, rfl, rfl, rfl, rfl⟩ rfl rfl rfl rfl rfl (by kernel_rfl) Try.func4 (by kernel_rfl)
    (of_decide_eq_true (by kernel_rfl)) (by unfold Func.isWrapper; first | (rw [if_pos (by decide +kernel)]; kernel_rfl) | (rw [if_neg (by decide +kernel)]; exact ⟨rfl, rfl⟩))
    (fun os started H enc _ => lifted os started H enc)

theorem proved : Rows.RectMeetsSaid := over
#print axioms proved
end Go.Proofs.Ytognbljpmhhbkaa.rectMeetsLaw
