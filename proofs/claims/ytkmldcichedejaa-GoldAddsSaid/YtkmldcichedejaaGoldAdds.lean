/-
  GoldAdds: for every two ints the law answers true. Conditions: none.
-/
import Derived.Test.YtkmldcichedejaaBase
import Derived.Test.YtkmldcichedejaaGoldD
namespace Go.Proofs.Ytkmldcichedejaa.goldAdds
open Go.ChangeShapes Go.WideShapes Go.ChangeAt Go.RowKit
open gold
set_option linter.unusedVariables false

def Good (w : World) (e : Ending) (w' : World) : Prop := e = .returned (.bool true) ∧ Below w.heap.size w w'

theorem add_range (a b : Int) (w : World) (h : (isRight a && isRight b) = false) :
    Calls Try.prog 11 #[.int .i64 a, .int .i64 b] w fun e w' => e = .returned (.tuple #[.int .i64 0, .int .i64 11]) ∧ Below w.heap.size w w' :=
  (add_any a b w).mono fun _ _ ⟨h1, _, _, hb⟩ => ⟨h1 h, hb⟩
theorem add_over (a b : Int) (w : World) (h : (isRight a && isRight b) = true) (h2 : 1099511627776 < a + b) :
    Calls Try.prog 11 #[.int .i64 a, .int .i64 b] w fun e w' => e = .returned (.tuple #[.int .i64 0, .int .i64 15]) ∧ Below w.heap.size w w' :=
  (add_any a b w).mono fun _ _ ⟨_, h1, _, hb⟩ => ⟨h1 h h2, hb⟩
theorem add_ok (a b : Int) (w : World) (h : (isRight a && isRight b) = true) (h2 : a + b ≤ 1099511627776) :
    Calls Try.prog 11 #[.int .i64 a, .int .i64 b] w fun e w' => e = .returned (.tuple #[.int .i64 (a + b), .int .i64 0]) ∧ Below w.heap.size w w' :=
  (add_any a b w).mono fun _ _ ⟨_, _, h1, hb⟩ => ⟨h1 h h2, hb⟩

set_option maxHeartbeats 1000000 in
theorem walk_range (a b : Int) (w : World) (h : (isRight a && isRight b) = false) : Calls Try.prog 3 #[.int .i64 a, .int .i64 b] w (Good w) := by
  have HH := Lib.hid h
  have h2 : isRight a = true → isRight b = false := by intro q; simpa [q] using h
  clear h
  cases ha : isRight a
  · clear h2
    go_enter Try.func3, Try.ntmps3
    go_wp2_with (first
      | (go_at_call 9; refine (right_any _ _).mono ?_; rintro e w' ⟨rfl, rfl⟩)
      | (go_at_call 10; refine (rright_any _ _).mono ?_; rintro e w' ⟨rfl, rfl⟩)
      | (go_at_call 11; refine (add_range _ _ _ HH.out).mono ?_; rintro e w1 ⟨rfl, hb1⟩)
      | (go_at_call 12; refine (sub_range _ _ _ HH.out).mono ?_; rintro e w' ⟨rfl, rfl⟩)
      | (go_at_call 13; refine (awake_any _).mono ?_; rintro e w2 ⟨rfl, hb2⟩))
    go_ret
    exact ⟨rfl, hb1.trans (hb2.mono hb1.size)⟩
  · have hb := h2 ha
    clear h2
    go_enter Try.func3, Try.ntmps3
    go_wp2_with (first
      | (go_at_call 9; refine (right_any _ _).mono ?_; rintro e w' ⟨rfl, rfl⟩)
      | (go_at_call 10; refine (rright_any _ _).mono ?_; rintro e w' ⟨rfl, rfl⟩)
      | (go_at_call 11; refine (add_range _ _ _ HH.out).mono ?_; rintro e w1 ⟨rfl, hb1⟩)
      | (go_at_call 12; refine (sub_range _ _ _ HH.out).mono ?_; rintro e w' ⟨rfl, rfl⟩)
      | (go_at_call 13; refine (awake_any _).mono ?_; rintro e w2 ⟨rfl, hb2⟩))
    go_ret
    exact ⟨rfl, hb1.trans (hb2.mono hb1.size)⟩

set_option maxHeartbeats 1000000 in
theorem walk_over (a b : Int) (w : World) (ha : isRight a = true) (hb : isRight b = true) (ho : 1099511627776 < a + b) : Calls Try.prog 3 #[.int .i64 a, .int .i64 b] w (Good w) := by
  have HH := Lib.hid (show (isRight a && isRight b) = true by simp [ha, hb])
  have h1 := right_yes ha
  have h2 := right_yes hb
  by_cases hf : a < b
  all_goals
    go_enter Try.func3, Try.ntmps3
    go_wp2_with (first
      | (go_at_call 9; refine (right_any _ _).mono ?_; rintro e w' ⟨rfl, rfl⟩)
      | (go_at_call 10; refine (rright_any _ _).mono ?_; rintro e w' ⟨rfl, rfl⟩)
      | (go_at_call 11; refine (add_over _ _ _ HH.out ho).mono ?_; rintro e w1 ⟨rfl, hb1⟩)
      | (go_at_call 12; first | (refine (sub_funds _ _ _ ha hb (by omega)).mono ?_; rintro e w' ⟨rfl, rfl⟩) | (refine (sub_ok _ _ _ ha hb (by omega)).mono ?_; rintro e w' ⟨rfl, rfl⟩))
      | (go_at_call 13; refine (awake_any _).mono ?_; rintro e w2 ⟨rfl, hb2⟩))
    go_ret
    exact ⟨rfl, hb1.trans (hb2.mono hb1.size)⟩

set_option maxHeartbeats 1000000 in
theorem walk_ok (a b : Int) (w : World) (ha : isRight a = true) (hb : isRight b = true) (ho : a + b ≤ 1099511627776) : Calls Try.prog 3 #[.int .i64 a, .int .i64 b] w (Good w) := by
  have HH := Lib.hid (show (isRight a && isRight b) = true by simp [ha, hb])
  have h1 := right_yes ha
  have h2 := right_yes hb
  have hs : isRight (a + b) = true := right_mk (by omega) ho
  have HS := Lib.hid hs
  clear hs
  have he : a + b - b = a := by omega
  by_cases hf : a < b
  all_goals
    go_enter Try.func3, Try.ntmps3
    go_wp2_with (first
      | (go_at_call 9; refine (right_any _ _).mono ?_; rintro e w' ⟨rfl, rfl⟩)
      | (go_at_call 10; refine (rright_any _ _).mono ?_; rintro e w' ⟨rfl, rfl⟩)
      | (go_at_call 11; refine (add_ok _ _ _ HH.out ho).mono ?_; rintro e w1 ⟨rfl, hb1⟩)
      | (go_at_call 12; first | (with_reducible refine (sub_ok (a + b) b _ HS.out hb (by omega)).mono ?_; rintro e w' ⟨rfl, rfl⟩) | (refine (sub_funds _ _ _ ha hb (by omega)).mono ?_; rintro e w' ⟨rfl, rfl⟩) | (refine (sub_ok _ _ _ ha hb (by omega)).mono ?_; rintro e w' ⟨rfl, rfl⟩))
      | (go_at_call 13; refine (awake_any _).mono ?_; rintro e w2 ⟨rfl, hb2⟩))
    go_ret
    exact ⟨rfl, hb1.trans (hb2.mono hb1.size)⟩

theorem walk (a0 : Int) (w0 : (Lit.int .i64 a0).wf = true) (a1 : Int) (w1 : (Lit.int .i64 a1).wf = true) (w : World) :
    Calls Try.prog 3 #[.int .i64 a0, .int .i64 a1] w fun e w' => e = .returned (.bool true) ∧ Below w.heap.size w w' := by
  cases ha : isRight a0
  · exact walk_range a0 a1 w (by simp [ha])
  · cases hb : isRight a1
    · exact walk_range a0 a1 w (by simp [hb])
    · by_cases ho : a0 + a1 ≤ 1099511627776
      · exact walk_ok a0 a1 w ha hb ho
      · exact walk_over a0 a1 w ha hb (by omega)

set_option maxRecDepth 100000 in
theorem lifted (os : Os) (started : os.Started) (H : Type) (enc : TypeId × Value → H) :
    ReturnsInHanded {} Try.checked os 3 .any (Rows.goldAddsSpec.pre6 enc Try.prog Try.f3 Rows.goldAddsRow.domain false) (Rows.goldAddsSpec.post enc Try.prog Try.f3 false true false false) := by
  refine returnsInHanded_of_change (C := Try.checked) base.own started (by kernel_rfl) Try.func3
    (ChangeSpec.witness6 (enc := enc) (C := Try.checked) false ⟨#[], #[.int .i64 0, .int .i64 0], []⟩ 8 (by kernel_rfl) (by kernel_rfl) (by kernel_rfl) (by kernel_rfl)) ?_
  intro W bs args ds gs before hval0 hW _ _
  have hval : ∀ (j : Nat) t v, Try.f3.params[j]? = some t → args[j]? = some v → Value.okWide Try.prog W .any bs t v := hval0
  have hW' : DataW.Whole enc Try.prog Try.f3.params.toList Rows.goldAddsSpec.vars false W args.toList ds gs before := hW
  obtain ⟨p, q, hA0, hV, rfl, _, _⟩ := hW
  have hA : DataW.TrodAll enc Try.prog W 0 (fun _ => true) true Try.f3.params.toList args.toList ds p := hA0
  rw [Try.params3] at hA hval
  obtain ⟨v0, vs0, d0, ds0, p0, q0, hargs, rfl, rfl, h0, r0⟩ := trodAll_cons hA
  obtain ⟨v1, vs1, d1, ds1, p1, q1, rfl, rfl, rfl, h1, r1⟩ := trodAll_cons r0
  obtain ⟨rfl, rfl, rfl⟩ := trodAll_nil r1
  obtain rfl : args = #[v0, v1] := by cases args; simp_all
  obtain ⟨rfl, rfl⟩ := trodVars_none hV
  obtain ⟨a0, rfl, rfl, rfl, w0⟩ := open_int Try.underlying3 (hval 0 3 v0 rfl rfl) h0
  obtain ⟨a1, rfl, rfl, rfl, w1⟩ := open_int Try.underlying3 (hval 1 3 v1 rfl rfl) h1
  clear hA0 hval0
  refine (walk a0 w0 a1 w1 W).mono fun e W' ⟨he, hb⟩ => ?_
  subst he
  exact ⟨_, rfl, base.law_post base.laid (by kernel_rfl) rfl rfl Try.underlying4 hW' rfl rfl rfl hb⟩

theorem over : Rows.goldAddsRow.holds Try.pinned (OpenSpec.ofChange Rows.goldAddsSpec) :=
  OpenClaim.holds_of_wide 3 Try.f3 rfl rfl rfl rfl rfl rfl rfl ⟨rfl, rfl, rfl, rfl, rfl⟩ rfl rfl rfl rfl rfl (by kernel_rfl) Try.func3 (by kernel_rfl)
    (of_decide_eq_true (by kernel_rfl)) (by unfold Func.isWrapper; first | (rw [if_pos (by decide +kernel)]; kernel_rfl) | (rw [if_neg (by decide +kernel)]; exact ⟨rfl, rfl⟩))
    (fun os started H enc _ => lifted os started H enc)

theorem proved : Rows.GoldAddsSaid := over
#print axioms proved
end Go.Proofs.Ytkmldcichedejaa.goldAdds
