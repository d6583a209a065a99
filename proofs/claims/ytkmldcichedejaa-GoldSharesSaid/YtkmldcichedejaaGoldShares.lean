/-
  GoldShares: for every input the law answers true. Conditions: none.
-/
import Derived.Test.YtkmldcichedejaaBase
import Derived.Test.YtkmldcichedejaaGoldD
namespace Go.Proofs.Ytkmldcichedejaa.goldShares
open Go.ChangeShapes Go.WideShapes Go.ChangeAt Go.RowKit
open gold
open base (Nums ret_bool ret_int)
set_option linter.unusedVariables false

def Good (w : World) (e : Ending) (w' : World) : Prop := e = .returned (.bool true) ∧ Below w.heap.size w w'

set_option maxHeartbeats 1000000 in
theorem walk_range (a n : Int) (w : World) (h : isRight a = false ∨ n < 0 ∨ 10000 < n) : Calls Try.prog 5 #[.int .i64 a, .int .i64 n] w (Good w) := by
  have HH := Lib.hid h
  have h2 : isRight a = true → n < 0 ∨ 10000 < n := by intro q; simpa [q] using h
  clear h
  cases ha : isRight a
  · clear h2
    go_enter Try.func5, Try.ntmps5
    go_wp2_with (first | (go_at_call 9; refine (right_any _ _).mono ?_; rintro e w' ⟨rfl, rfl⟩) | (go_at_call 10; refine (rright_any _ _).mono ?_; rintro e w' ⟨rfl, rfl⟩) | (go_at_call 13; refine (awake_any _).mono ?_; rintro e w2 ⟨rfl, hb2⟩) | (go_at_call 16; refine (share_range _ _ _ HH.out).mono ?_; rintro e w' ⟨rfl, rfl⟩))
    go_ret
    exact ⟨rfl, hb2⟩
  · rcases h2 ha with hn | hn
    all_goals
      clear h2
      go_enter Try.func5, Try.ntmps5
      go_wp2_with (first | (go_at_call 9; refine (right_any _ _).mono ?_; rintro e w' ⟨rfl, rfl⟩) | (go_at_call 10; refine (rright_any _ _).mono ?_; rintro e w' ⟨rfl, rfl⟩) | (go_at_call 13; refine (awake_any _).mono ?_; rintro e w2 ⟨rfl, hb2⟩) | (go_at_call 16; refine (share_range _ _ _ HH.out).mono ?_; rintro e w' ⟨rfl, rfl⟩))
      go_ret
      exact ⟨rfl, hb2⟩

set_option maxHeartbeats 1000000 in
theorem walk_ok (a n : Int) (w : World) (ha : isRight a = true) (hn : 0 ≤ n) (hn2 : n ≤ 10000) : Calls Try.prog 5 #[.int .i64 a, .int .i64 n] w (Good w) := by
  go_enter Try.func5, Try.ntmps5
  go_wp2_with (first | (go_at_call 9; refine (right_any _ _).mono ?_; rintro e w' ⟨rfl, rfl⟩) | (go_at_call 10; refine (rright_any _ _).mono ?_; rintro e w' ⟨rfl, rfl⟩) | (go_at_call 13; refine (awake_any _).mono ?_; rintro e w2 ⟨rfl, hb2⟩) | (go_at_call 16; refine (share_ok _ _ _ ha hn hn2).mono ?_; rintro e w' ⟨rfl, rfl⟩) | (go_at_call 17; refine (rshare_ok _ _ _ ha hn hn2).mono ?_; rintro e w' ⟨rfl, rfl⟩))
  go_ret
  exact ⟨rfl, hb2⟩

theorem walk_all (a n : Int) (wa : (Lit.int .i64 a).wf = true) (wn : (Lit.int .i64 n).wf = true) (w : World) : Calls Try.prog 5 #[.int .i64 a, .int .i64 n] w (Good w) := by
  cases ha : isRight a
  · exact walk_range a n w (.inl ha)
  · by_cases hn : n < 0
    · exact walk_range a n w (.inr (.inl hn))
    · by_cases ho : n ≤ 10000
      · exact walk_ok a n w ha (by omega) ho
      · exact walk_range a n w (.inr (.inr (by omega)))

theorem walk (a0 : Int) (w0 : (Lit.int .i64 a0).wf = true) (a1 : Int) (w1 : (Lit.int .i64 a1).wf = true) (w : World) :
    Calls Try.prog 5 #[.int .i64 a0, .int .i64 a1] w fun e w' => e = .returned (.bool true) ∧ Below w.heap.size w w' := walk_all a0 a1 w0 w1 w

set_option maxRecDepth 100000 in
theorem lifted (os : Os) (started : os.Started) (H : Type) (enc : TypeId × Value → H) :
    ReturnsInHanded {} Try.checked os 5 .any (Rows.goldSharesSpec.pre6 enc Try.prog Try.f5 Rows.goldSharesRow.domain false) (Rows.goldSharesSpec.post enc Try.prog Try.f5 false true false false) := by
  refine returnsInHanded_of_change (C := Try.checked) base.own started (by kernel_rfl) Try.func5
    (ChangeSpec.witness6 (enc := enc) (C := Try.checked) false ⟨#[], #[.int .i64 0, .int .i64 0], []⟩ 8 (by kernel_rfl) (by kernel_rfl) (by kernel_rfl) (by kernel_rfl)) ?_
  intro W bs args ds gs before hval0 hW _ _
  have hval : ∀ (j : Nat) t v, Try.f5.params[j]? = some t → args[j]? = some v → Value.okWide Try.prog W .any bs t v := hval0
  have hW' : DataW.Whole enc Try.prog Try.f5.params.toList Rows.goldSharesSpec.vars false W args.toList ds gs before := hW
  obtain ⟨p, q, hA0, hV, rfl, _, _⟩ := hW
  have hA : DataW.TrodAll enc Try.prog W 0 (fun _ => true) true Try.f5.params.toList args.toList ds p := hA0
  rw [Try.params5] at hA hval
  obtain ⟨v0, vs0, d0, ds0, p0, q0, hargs, rfl, rfl, h0, r0⟩ := trodAll_cons hA
  obtain ⟨v1, vs1, d1, ds1, p1, q1, rfl, rfl, rfl, h1, r1⟩ := trodAll_cons r0
  obtain ⟨rfl, rfl, rfl⟩ := trodAll_nil r1
  obtain rfl : args = #[v0, v1] := by cases args; simp_all
  obtain ⟨rfl, rfl⟩ := trodVars_none hV
  obtain ⟨a0, rfl, rfl, rfl, w0⟩ := open_int Try.underlying3 (hval 0 3 v0 rfl rfl) h0
  obtain ⟨a1, rfl, rfl, rfl, w1⟩ := open_int Try.underlying3 (hval 1 3 v1 rfl rfl) h1
  clear hA0 hval0
  refine (walk a0 w0 a1 w1 W).mono fun e W' ⟨he, hb⟩ => ?_
  subst he
  exact ⟨_, rfl, base.law_post base.laid (by kernel_rfl) rfl rfl Try.underlying4 hW' rfl rfl rfl hb⟩

theorem over : Rows.goldSharesRow.holds Try.pinned (OpenSpec.ofChange Rows.goldSharesSpec) :=
  OpenClaim.holds_of_wide 5 Try.f5 rfl rfl rfl rfl rfl rfl rfl ⟨rfl, rfl, rfl, rfl, rfl⟩ rfl rfl rfl rfl rfl (by kernel_rfl) Try.func5 (by kernel_rfl)
    (of_decide_eq_true (by kernel_rfl)) (by unfold Func.isWrapper; first | (rw [if_pos (by decide +kernel)]; kernel_rfl) | (rw [if_neg (by decide +kernel)]; exact ⟨rfl, rfl⟩))
    (fun os started H enc _ => lifted os started H enc)

theorem proved : Rows.GoldSharesSaid := over
#print axioms proved
end Go.Proofs.Ytkmldcichedejaa.goldShares
