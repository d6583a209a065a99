/-
  RectTiles (P2.1): for every rectangle and every tile the law answers true. Conditions: none.
-/
import Derived.Test.YtognbljpmhhbkaaTilesD
import Derived.Test.YtognbljpmhhbkaaTilesE
import Derived.Test.YtognbljpmhhbkaaBase2
namespace Go.Proofs.Ytognbljpmhhbkaa.rectTilesLaw
open Go.ChangeShapes Go.WideShapes Go.ChangeAt Go.RowKit
open rect
set_option linter.unusedVariables false

theorem walk (w : World) (x y u z : Int) (wx : (Lit.int .i64 x).wf = true) (wy : (Lit.int .i64 y).wf = true) (wu : (Lit.int .i64 u).wf = true) (wz : (Lit.int .i64 z).wf = true)
    (a : Int) (wa : (Lit.int .i64 a).wf = true) (b : Int) (wb : (Lit.int .i64 b).wf = true) :
    Calls Try.prog 3 #[(.agg #[.int .i64 x, .int .i64 y, .int .i64 u, .int .i64 z]), .int .i64 a, .int .i64 b] w fun e w' => e = .returned (.bool true) ∧ Below w.heap.size w w' := by
  have hx := (base.range64 wx).1
  have ha := base.range64 wa
  have hb := base.range64 wb
  cases hr : rightB x y u z
  · exact rectTiles.walk_not x y u z a b hx ha hb w hr
  · obtain ⟨⟨_, _, h1, h2⟩, ⟨_, _, h3, h4⟩⟩ := right_yes hr
    have hu : u ≤ 256 := by omega
    have hz : z ≤ 256 := by omega
    have hle : u * z ≤ 256 * 256 := Int.mul_le_mul hu hz (by omega) (by omega)
    have hpos : 0 < u * z := Int.mul_pos (by omega) (by omega)
    by_cases hs : u ≤ 24 ∧ z ≤ 24
    · exact rectTiles.walk_small x y u z a b hx ha hb w hr hs (u * z).toNat (by omega) (by omega) (by omega)
    · exact rectTiles.walk_big x y u z a b hx ha hb w hr hs (u * z) rfl (by omega) (by omega)

set_option maxRecDepth 100000 in
theorem lifted (os : Os) (started : os.Started) (H : Type) (enc : TypeId × Value → H) :
    ReturnsInHanded {} Try.checked os 3 .any (Rows.rectTilesSpec.pre6 enc Try.prog Try.f3 Rows.rectTilesRow.domain false) (Rows.rectTilesSpec.post enc Try.prog Try.f3 false true false false) := by
  refine returnsInHanded_of_change (C := Try.checked) base.own started (by kernel_rfl) Try.func3
    (ChangeSpec.witness6 (enc := enc) (C := Try.checked) false ⟨#[], #[.agg #[.int .i64 0, .int .i64 0, .int .i64 0, .int .i64 0], .int .i64 0, .int .i64 0], []⟩ 8 (by kernel_rfl) (by kernel_rfl) (by kernel_rfl) (by kernel_rfl)) ?_
  intro W bs args ds gs before hval0 hW _ _
  have hval : ∀ (j : Nat) t v, Try.f3.params[j]? = some t → args[j]? = some v → Value.okWide Try.prog W .any bs t v := hval0
  have hW' : DataW.Whole enc Try.prog Try.f3.params.toList Rows.rectTilesSpec.vars false W args.toList ds gs before := hW
  obtain ⟨p, q, hA0, hV, rfl, _, _⟩ := hW
  have hA : DataW.TrodAll enc Try.prog W 0 (fun _ => true) true Try.f3.params.toList args.toList ds p := hA0
  rw [Try.params3] at hA hval
  obtain ⟨v0, vs0, d0, ds0, p0, q0, hargs, rfl, rfl, h0, r0⟩ := trodAll_cons hA
  obtain ⟨v1, vs1, d1, ds1, p1, q1, rfl, rfl, rfl, h1, r1⟩ := trodAll_cons r0
  obtain ⟨v2, vs2, d2, ds2, p2, q2, rfl, rfl, rfl, h2, r2⟩ := trodAll_cons r1
  obtain ⟨rfl, rfl, rfl⟩ := trodAll_nil r2
  obtain rfl : args = #[v0, v1, v2] := by cases args; simp_all
  obtain ⟨rfl, rfl⟩ := trodVars_none hV
  obtain ⟨x0, y0, u0, z0, rfl, wx0, wy0, wu0, wz0⟩ := base.open_four Try.underlying23 Try.underlying3 ⟨rfl, rfl, rfl⟩ (by kernel_rfl) (by kernel_rfl) (hval 0 23 v0 rfl rfl) h0
  obtain ⟨a1, rfl, rfl, rfl, w1⟩ := open_int Try.underlying3 (hval 1 3 v1 rfl rfl) h1
  obtain ⟨a2, rfl, rfl, rfl, w2⟩ := open_int Try.underlying3 (hval 2 3 v2 rfl rfl) h2
  clear hA0 hval0
  refine (walk W x0 y0 u0 z0 wx0 wy0 wu0 wz0 a1 w1 a2 w2).mono fun e W' ⟨he, hb⟩ => ?_
  subst he
  exact ⟨_, rfl, base.law_post base.laid (by kernel_rfl) rfl rfl Try.underlying4 hW' rfl rfl rfl hb⟩

theorem over : Rows.rectTilesRow.holds Try.pinned (OpenSpec.ofChange Rows.rectTilesSpec) :=
  OpenClaim.holds_of_wide 3 Try.f3 rfl rfl rfl rfl rfl rfl rfl ⟨rfl, rfl, rfl, rfl, rfl⟩ rfl rfl rfl rfl rfl (by kernel_rfl) Try.func3 (by kernel_rfl)
    (of_decide_eq_true (by kernel_rfl)) (by unfold Func.isWrapper; first | (rw [if_pos (by decide +kernel)]; kernel_rfl) | (rw [if_neg (by decide +kernel)]; exact ⟨rfl, rfl⟩))
    (fun os started H enc _ => lifted os started H enc)

theorem proved : Rows.RectTilesSaid := over
#print axioms proved
end Go.Proofs.Ytognbljpmhhbkaa.rectTilesLaw
