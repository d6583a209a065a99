/-
  OrderFields (P27.1), for the tied reading: for every kind the law answers true, whatever the memory, if the table of fields stands as the program lays it.
  Conditions: none beyond the card's own.
-/
import Derived.Test.YtndhammngejdiaaDoorOrO

namespace Go.Proofs.YtndhammngejdiaaDoor.orderFields
open Go.ChangeShapes Go.WideShapes Go.ChangeAt Go.RowKit
open base (ret_bool ret_int made up Blk Only Nums)
open bytes (str)
open od
set_option linter.unusedVariables false
set_option linter.unusedSimpArgs false
theorem tableOf {W : World} (h : laidMetH Tryd.prog Rows.orderFieldsRow.laid W) : Tab W := od.tableOf h
set_option maxRecDepth 100000 in
set_option maxHeartbeats 1000000 in
theorem walk_0true (w : World) (hT : Tab w) (k : Int) (hu : us k = (0, true)) : Calls Tryd.prog 7 #[.int .i64 k] w (BoolP true w) := by
  have US := Lib.hid (uses_any k w)
  have FI := Lib.hid (fields_any k w hT)
  have AW := Lib.hid (awake_any w hT)
  rw [hu] at US
  rw [fs_us, hu, show str (fx ((0 : Nat), true).1 ((0 : Nat), true).2) = ⟨#[84]⟩ from rfl] at FI
  dsimp only at US
  have ex : ((⟨#[65, 66, 67, 68]⟩ : ByteArray).extract 0 0) = ⟨#[]⟩ := by decide
  clear hu hT
  unfold BoolP at AW
  go_enter Tryd.func7, Tryd.ntmps7
  go_wp2_with fail
  refine US.out.mono ?_
  rintro e w1 ⟨rfl, e1⟩
  subst e1
  go_wp2_with fail
  refine FI.out.mono ?_
  rintro e w1 ⟨rfl, e1⟩
  subst e1
  go_wp2_with fail
  refine AW.out.mono ?_
  rintro e w1 ⟨rfl, hb⟩
  have B1 := Lib.hid hb
  clear hb
  go_wp2_with fail
  go_ret
  exact ⟨rfl, B1.out⟩
set_option maxRecDepth 100000 in
set_option maxHeartbeats 1000000 in
theorem walk_0false (w : World) (hT : Tab w) (k : Int) (hu : us k = (0, false)) : Calls Tryd.prog 7 #[.int .i64 k] w (BoolP true w) := by
  have US := Lib.hid (uses_any k w)
  have FI := Lib.hid (fields_any k w hT)
  have AW := Lib.hid (awake_any w hT)
  rw [hu] at US
  rw [fs_us, hu, show str (fx ((0 : Nat), false).1 ((0 : Nat), false).2) = ⟨#[]⟩ from rfl] at FI
  dsimp only at US
  have ex : ((⟨#[65, 66, 67, 68]⟩ : ByteArray).extract 0 0) = ⟨#[]⟩ := by decide
  clear hu hT
  unfold BoolP at AW
  go_enter Tryd.func7, Tryd.ntmps7
  go_wp2_with fail
  refine US.out.mono ?_
  rintro e w1 ⟨rfl, e1⟩
  subst e1
  go_wp2_with fail
  refine FI.out.mono ?_
  rintro e w1 ⟨rfl, e1⟩
  subst e1
  go_wp2_with fail
  refine AW.out.mono ?_
  rintro e w1 ⟨rfl, hb⟩
  have B1 := Lib.hid hb
  clear hb
  go_wp2_with fail
  go_ret
  exact ⟨rfl, B1.out⟩
set_option maxRecDepth 100000 in
set_option maxHeartbeats 1000000 in
theorem walk_1false (w : World) (hT : Tab w) (k : Int) (hu : us k = (1, false)) : Calls Tryd.prog 7 #[.int .i64 k] w (BoolP true w) := by
  have US := Lib.hid (uses_any k w)
  have FI := Lib.hid (fields_any k w hT)
  have AW := Lib.hid (awake_any w hT)
  rw [hu] at US
  rw [fs_us, hu, show str (fx ((1 : Nat), false).1 ((1 : Nat), false).2) = ⟨#[65]⟩ from rfl] at FI
  dsimp only at US
  have ex : ((⟨#[65, 66, 67, 68]⟩ : ByteArray).extract 0 1) = ⟨#[65]⟩ := by decide
  clear hu hT
  unfold BoolP at AW
  go_enter Tryd.func7, Tryd.ntmps7
  go_wp2_with fail
  refine US.out.mono ?_
  rintro e w1 ⟨rfl, e1⟩
  subst e1
  go_wp2_with fail
  refine FI.out.mono ?_
  rintro e w1 ⟨rfl, e1⟩
  subst e1
  go_wp2_with fail
  refine AW.out.mono ?_
  rintro e w1 ⟨rfl, hb⟩
  have B1 := Lib.hid hb
  clear hb
  go_wp2_with fail
  go_ret
  exact ⟨rfl, B1.out⟩
set_option maxRecDepth 100000 in
set_option maxHeartbeats 1000000 in
theorem walk_2false (w : World) (hT : Tab w) (k : Int) (hu : us k = (2, false)) : Calls Tryd.prog 7 #[.int .i64 k] w (BoolP true w) := by
  have US := Lib.hid (uses_any k w)
  have FI := Lib.hid (fields_any k w hT)
  have AW := Lib.hid (awake_any w hT)
  rw [hu] at US
  rw [fs_us, hu, show str (fx ((2 : Nat), false).1 ((2 : Nat), false).2) = ⟨#[65, 66]⟩ from rfl] at FI
  dsimp only at US
  have ex : ((⟨#[65, 66, 67, 68]⟩ : ByteArray).extract 0 2) = ⟨#[65, 66]⟩ := by decide
  clear hu hT
  unfold BoolP at AW
  go_enter Tryd.func7, Tryd.ntmps7
  go_wp2_with fail
  refine US.out.mono ?_
  rintro e w1 ⟨rfl, e1⟩
  subst e1
  go_wp2_with fail
  refine FI.out.mono ?_
  rintro e w1 ⟨rfl, e1⟩
  subst e1
  go_wp2_with fail
  refine AW.out.mono ?_
  rintro e w1 ⟨rfl, hb⟩
  have B1 := Lib.hid hb
  clear hb
  go_wp2_with fail
  go_ret
  exact ⟨rfl, B1.out⟩
set_option maxRecDepth 100000 in
set_option maxHeartbeats 1000000 in
theorem walk_3false (w : World) (hT : Tab w) (k : Int) (hu : us k = (3, false)) : Calls Tryd.prog 7 #[.int .i64 k] w (BoolP true w) := by
  have US := Lib.hid (uses_any k w)
  have FI := Lib.hid (fields_any k w hT)
  have AW := Lib.hid (awake_any w hT)
  rw [hu] at US
  rw [fs_us, hu, show str (fx ((3 : Nat), false).1 ((3 : Nat), false).2) = ⟨#[65, 66, 67]⟩ from rfl] at FI
  dsimp only at US
  have ex : ((⟨#[65, 66, 67, 68]⟩ : ByteArray).extract 0 3) = ⟨#[65, 66, 67]⟩ := by decide
  clear hu hT
  unfold BoolP at AW
  go_enter Tryd.func7, Tryd.ntmps7
  go_wp2_with fail
  refine US.out.mono ?_
  rintro e w1 ⟨rfl, e1⟩
  subst e1
  go_wp2_with fail
  refine FI.out.mono ?_
  rintro e w1 ⟨rfl, e1⟩
  subst e1
  go_wp2_with fail
  refine AW.out.mono ?_
  rintro e w1 ⟨rfl, hb⟩
  have B1 := Lib.hid hb
  clear hb
  go_wp2_with fail
  go_ret
  exact ⟨rfl, B1.out⟩
set_option maxRecDepth 100000 in
set_option maxHeartbeats 1000000 in
theorem walk_4false (w : World) (hT : Tab w) (k : Int) (hu : us k = (4, false)) : Calls Tryd.prog 7 #[.int .i64 k] w (BoolP true w) := by
  have US := Lib.hid (uses_any k w)
  have FI := Lib.hid (fields_any k w hT)
  have AW := Lib.hid (awake_any w hT)
  rw [hu] at US
  rw [fs_us, hu, show str (fx ((4 : Nat), false).1 ((4 : Nat), false).2) = ⟨#[65, 66, 67, 68]⟩ from rfl] at FI
  dsimp only at US
  have ex : ((⟨#[65, 66, 67, 68]⟩ : ByteArray).extract 0 4) = ⟨#[65, 66, 67, 68]⟩ := by decide
  clear hu hT
  unfold BoolP at AW
  go_enter Tryd.func7, Tryd.ntmps7
  go_wp2_with fail
  refine US.out.mono ?_
  rintro e w1 ⟨rfl, e1⟩
  subst e1
  go_wp2_with fail
  refine FI.out.mono ?_
  rintro e w1 ⟨rfl, e1⟩
  subst e1
  go_wp2_with fail
  refine AW.out.mono ?_
  rintro e w1 ⟨rfl, hb⟩
  have B1 := Lib.hid hb
  clear hb
  go_wp2_with fail
  go_ret
  exact ⟨rfl, B1.out⟩
theorem walk (w : World) (hT : Tab w) (k : Int) (hk : (Lit.int .i64 k).wf = true) : Calls Tryd.prog 7 #[.int .i64 k] w fun e w' => e = .returned (.bool true) ∧ Below w.heap.size w w' := by
  have h := us_le k
  cases hu : us k with
  | mk n tx =>
    rw [hu] at h
    dsimp only at h
    cases tx with
    | true =>
      obtain rfl := h.2 rfl
      exact walk_0true w hT k hu
    | false =>
      rcases (show n = 0 ∨ n = 1 ∨ n = 2 ∨ n = 3 ∨ n = 4 by omega) with rfl | rfl | rfl | rfl | rfl
      · exact walk_0false w hT k hu
      · exact walk_1false w hT k hu
      · exact walk_2false w hT k hu
      · exact walk_3false w hT k hu
      · exact walk_4false w hT k hu

theorem contract (H : Type) (enc : TypeId × Value → H) (W : World) (bs : Nat) (args : Array Value) (ds gs : List (DataW H)) (before : List MemPlace)
    (hval : ∀ (j : Nat) t v, Tryd.f7.params[j]? = some t → args[j]? = some v → Value.okWide Tryd.prog W .any bs t v)
    (hW : DataW.Whole enc Tryd.prog Tryd.f7.params.toList Rows.orderFieldsSpec.vars false W args.toList ds gs before) (hL : laidMetH Tryd.prog Rows.orderFieldsRow.laid W) :
    Calls Tryd.prog 7 args W fun e W' => ∃ v, e = .returned v ∧ Rows.orderFieldsSpec.post enc Tryd.prog Tryd.f7 false true false false W args v W' := by
  have hW' := hW
  obtain ⟨p, q, hA0, hV, rfl, _, _⟩ := hW
  have hA : DataW.TrodAll enc Tryd.prog W 0 (fun _ => true) true Tryd.f7.params.toList args.toList ds p := hA0
  rw [Tryd.params7] at hA hval
  obtain ⟨v0, vs0, d0, ds0, p0, q0, hargs, rfl, rfl, h0, r0⟩ := trodAll_cons hA
  obtain ⟨rfl, rfl, rfl⟩ := trodAll_nil r0
  obtain rfl : args = #[v0] := by cases args; simp_all
  obtain ⟨rfl, rfl⟩ := trodVars_none hV
  obtain ⟨a0, rfl, rfl, rfl, w0⟩ := open_int Tryd.underlying3 (hval 0 3 v0 rfl rfl) h0
  clear hA0
  refine (walk W (tableOf hL) a0 w0).mono fun e W' ⟨he, hb⟩ => ?_
  subst he
  exact ⟨_, rfl, base.law_post base.laid (by kernel_rfl) rfl rfl Tryd.underlying4 hW' rfl rfl rfl hb⟩

noncomputable def laidWorld (os : Os) : World :=
  { World.holding Tryd.prog os ⟨#[], #[], []⟩ with heap := (World.holding Tryd.prog os ⟨#[], #[], []⟩).heap.modify 0 fun
      | .cells _ t frozen => .cells #[.string ⟨#[]⟩, .string ⟨#[84]⟩, .string ⟨#[65, 66]⟩, .string ⟨#[65, 66]⟩, .string ⟨#[65, 66, 67, 68]⟩, .string ⟨#[65]⟩, .string ⟨#[65, 66]⟩, .string ⟨#[65, 66, 67, 68]⟩, .string ⟨#[84]⟩, .string ⟨#[65]⟩, .string ⟨#[65, 66]⟩, .string ⟨#[65, 66, 67]⟩, .string ⟨#[65]⟩, .string ⟨#[65]⟩, .string ⟨#[65, 66, 67]⟩, .string ⟨#[65]⟩, .string ⟨#[65]⟩, .string ⟨#[65]⟩, .string ⟨#[65, 66]⟩, .string ⟨#[65, 66, 67]⟩, .string ⟨#[65, 66]⟩, .string ⟨#[65, 66]⟩, .string ⟨#[65, 66, 67, 68]⟩, .string ⟨#[65]⟩, .string ⟨#[]⟩, .string ⟨#[65]⟩, .string ⟨#[65, 66]⟩, .string ⟨#[]⟩] t frozen
      | o => o }
theorem laid_met (os : Os) : laidMet Tryd.prog Rows.orderFieldsRow.laid ((laidWorld os).forCall (fun _ _ => 0) ⟨#[], #[.int .i64 0], []⟩).memory :=
  laidMet_of_run' 8 (by kernel_rfl) (by kernel_rfl)
theorem reads (os : Os) {H : Type} (enc : TypeId × Value → H) : ∃ places, DataW.whole enc Tryd.prog ((laidWorld os).forCall (fun _ _ => 0) ⟨#[], #[.int .i64 0], []⟩).memory Tryd.f7.params.toList Rows.orderFieldsSpec.vars false (#[.int .i64 0] : Array Value).toList 8 = some ([.lit (.int .i64 0)], [], places) :=
  ⟨[], by kernel_rfl⟩

set_option maxRecDepth 100000 in
theorem lifted (os : Os) (started : os.Started) (H : Type) (enc : TypeId × Value → H) (F : Stop.Interp) :
    ReturnsInHanded {} Tryd.checked os 7 .any ((OpenSpec.ofChange Rows.orderFieldsSpec).preRow enc Tryd.prog Tryd.f7 Rows.orderFieldsRow.domain false Rows.orderFieldsRow.laid) (((OpenSpec.ofChange Rows.orderFieldsSpec).at F).post enc Tryd.prog Tryd.f7 false true false false) := by
  obtain ⟨places, hx⟩ := reads os enc
  refine returnsInHanded_of_row (C := Tryd.checked) (s := OpenSpec.ofChange Rows.orderFieldsSpec) base.own started (by kernel_rfl) Tryd.func7
    (witness_row_at (enc := enc) (C := Tryd.checked) false (laidWorld os) #[.int .i64 0] rfl (by kernel_rfl) (by kernel_rfl) (by kernel_rfl)
      (OpenSpec.preRow_of_cond 8 hx (by kernel_rfl) (fun k hk => by cases hk) (by kernel_rfl) (laid_met os))) ?_
  intro W bs args ds gs before hval hW _ _ _ hL _ _
  exact contract H enc W bs args ds gs before hval hW hL

theorem said : Rows.OrderFieldsSaid :=
  OpenClaim.holds_of_cond 7 Tryd.f7 rfl rfl rfl rfl rfl rfl rfl ⟨rfl, rfl, rfl, rfl, rfl⟩ rfl rfl rfl rfl rfl (by kernel_rfl) Tryd.func7 (by kernel_rfl)
    (of_decide_eq_true (by kernel_rfl)) (by unfold Func.isWrapper; first | (rw [if_pos (by decide +kernel)]; kernel_rfl) | (rw [if_neg (by decide +kernel)]; exact ⟨rfl, rfl⟩))
    (fun os started H enc _ F => by rw [OpenClaim.pre_eq_preRow]; exact lifted os started H enc F)

theorem plain (f : FuncId) (fn : Func) (hf : Tryd.pinned.checked.prog.funcNamed "deedhold/deedholdlaw27.OrderFields" = some f) (hfn : Tryd.pinned.checked.prog.funcs[f]? = some fn) :
    false = Tryd.pinned.checked.prog.looks [] ∧ ∀ (j : Nat) t, fn.params[j]? = some t → Tryd.pinned.checked.prog.wantsStandIn t = false := by
  obtain rfl : f = 7 := Option.some.inj ((show Tryd.prog.funcNamed "deedhold/deedholdlaw27.OrderFields" = some 7 by kernel_rfl).symm.trans hf) |>.symm
  obtain rfl : fn = Tryd.f7 := (Option.some.inj (Tryd.func7.symm.trans hfn)).symm
  refine ⟨by kernel_rfl, fun j t ht => ?_⟩
  rw [Tryd.params7] at ht
  have ht2 : t = 3 := by simpa using Array.mem_of_getElem? ht
  rcases ht2 with rfl
  all_goals first | exact (show Tryd.prog.wantsStandIn _ = false by kernel_rfl)

theorem card : Rows.OrderFieldsCardSaid :=
  Claim7.holds_tied_plain_at .later [] _ _ _ _ said (fun _ h => by cases h) (by kernel_rfl) (fun _ h => by cases h) orderFields_row_tie rfl ⟨rfl, rfl⟩ (by kernel_rfl) rfl plain (by kernel_rfl)
#print axioms card
end Go.Proofs.YtndhammngejdiaaDoor.orderFields
