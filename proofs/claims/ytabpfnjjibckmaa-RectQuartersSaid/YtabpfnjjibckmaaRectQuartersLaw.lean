/-
  RectQuarters: for every rectangle the law answers true. Conditions: none.
-/
import Derived.Test.YtabpfnjjibckmaaRectQuartersB
import Derived.Test.YtabpfnjjibckmaaRectQuartersC
import Derived.Test.YtabpfnjjibckmaaBase2
namespace Go.Proofs.Ytabpfnjjibckmaa.rectQuartersLaw
open Go.ChangeShapes Go.WideShapes Go.ChangeAt Go.RowKit
open rect
set_option linter.unusedVariables false

theorem walk (w : World) (x y u z : Int) (wx : (Lit.int .i64 x).wf = true) (wy : (Lit.int .i64 y).wf = true) (wu : (Lit.int .i64 u).wf = true) (wz : (Lit.int .i64 z).wf = true) :
    Calls Try.prog 6 #[(.agg #[.int .i64 x, .int .i64 y, .int .i64 u, .int .i64 z])] w fun e w' => e = .returned (.bool true) ∧ Below w.heap.size w w' := by
  have hx := (base.range64 wx).1
  cases h : rightB x y u z
  · exact rectQuarters.walk_no1 x y u z hx w h
  · have hr := right_yes h
    by_cases h1 : u % 2 = 0
    · by_cases h2 : z % 2 = 0
      · exact rectQuarters.walk_yes x y u z hx w h h1 h2
      · exact rectQuarters.walk_no3 x y u z hx w h h1 (by omega)
    · exact rectQuarters.walk_no2 x y u z hx w h (by omega)

set_option maxRecDepth 100000 in
theorem lifted (os : Os) (started : os.Started) (H : Type) (enc : TypeId × Value → H) :
    ReturnsInHanded {} Try.checked os 6 .any (Rows.rectQuartersSpec.pre6 enc Try.prog Try.f6 Rows.rectQuartersRow.domain false) (Rows.rectQuartersSpec.post enc Try.prog Try.f6 false true false false) := by
  refine returnsInHanded_of_change (C := Try.checked) base.own started (by kernel_rfl) Try.func6
    (ChangeSpec.witness6 (enc := enc) (C := Try.checked) false ⟨#[], #[.agg #[.int .i64 0, .int .i64 0, .int .i64 0, .int .i64 0]], []⟩ 8 (by kernel_rfl) (by kernel_rfl) (by kernel_rfl) (by kernel_rfl)) ?_
  intro W bs args ds gs before hval0 hW _ _
  have hval : ∀ (j : Nat) t v, Try.f6.params[j]? = some t → args[j]? = some v → Value.okWide Try.prog W .any bs t v := hval0
  have hW' : DataW.Whole enc Try.prog Try.f6.params.toList Rows.rectQuartersSpec.vars false W args.toList ds gs before := hW
  obtain ⟨p, q, hA0, hV, rfl, _, _⟩ := hW
  have hA : DataW.TrodAll enc Try.prog W 0 (fun _ => true) true Try.f6.params.toList args.toList ds p := hA0
  rw [Try.params6] at hA hval
  obtain ⟨v0, vs0, d0, ds0, p0, q0, hargs, rfl, rfl, h0, r0⟩ := trodAll_cons hA
  obtain ⟨rfl, rfl, rfl⟩ := trodAll_nil r0
  obtain rfl : args = #[v0] := by cases args; simp_all
  obtain ⟨rfl, rfl⟩ := trodVars_none hV
  obtain ⟨x0, y0, u0, z0, rfl, wx0, wy0, wu0, wz0⟩ := base.open_four Try.underlying23 Try.underlying3 ⟨rfl, rfl, rfl⟩ (by kernel_rfl) (by kernel_rfl) (hval 0 23 v0 rfl rfl) h0
  clear hA0 hval0
  refine (walk W x0 y0 u0 z0 wx0 wy0 wu0 wz0).mono fun e W' ⟨he, hb⟩ => ?_
  subst he
  exact ⟨_, rfl, base.law_post base.laid (by kernel_rfl) rfl rfl Try.underlying4 hW' rfl rfl rfl hb⟩

theorem over : Rows.rectQuartersRow.holds Try.pinned (OpenSpec.ofChange Rows.rectQuartersSpec) :=
  OpenClaim.holds_of_wide 6 Try.f6 rfl rfl rfl rfl rfl rfl rfl ⟨rfl, rfl, rfl, rfl, rfl⟩ rfl rfl rfl rfl rfl (by kernel_rfl) Try.func6 (by kernel_rfl)
    (of_decide_eq_true (by kernel_rfl)) (by unfold Func.isWrapper; first | (rw [if_pos (by decide +kernel)]; kernel_rfl) | (rw [if_neg (by decide +kernel)]; exact ⟨rfl, rfl⟩))
    (fun os started H enc _ => lifted os started H enc)

theorem proved : Rows.RectQuartersSaid := over
#print axioms proved
end Go.Proofs.Ytabpfnjjibckmaa.rectQuartersLaw
