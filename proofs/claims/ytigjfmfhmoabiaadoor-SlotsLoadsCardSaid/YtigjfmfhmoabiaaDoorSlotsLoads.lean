/-
  SlotsLoads (P6.2), for the tied reading: for every input the law answers true, whatever the memory, if the table of the sum stands as the program lays it.
  Conditions: none beyond the card's own.
-/
import Derived.Test.YtigjfmfhmoabiaaDoorSoQ
import Derived.Test.YtigjfmfhmoabiaaDoorSoQA
import Derived.Test.YtigjfmfhmoabiaaDoorSoQB
namespace Go.Proofs.YtigjfmfhmoabiaaDoor.slotsLoads
open Go.ChangeShapes Go.WideShapes Go.ChangeAt Go.RowKit Go.Deep Go.Lib
open base (ret_bool ret_int made up Blk Only Nums)
open bytes (str Small small_nil small_app Lay Own conv_any)
open so vnum
open dk (DD DU DAt Gd Chg D0 new_any NewP)
set_option linter.unusedVariables false
set_option linter.unusedSimpArgs false
theorem tableOf {W : World} (h : laidMetH Tryd.prog Rows.slotsLoadsRow.laid W) : sl.Tab W := so.tableOf h
theorem walk (w : World) (hT : sl.Tab w) (E : Int) (A : Option Addr) (ca : Nat) (ta : List Int) (hE : (Lit.int .i64 E).wf = true) (hA : Nums .i64 w A ta) (hza : ∀ z ∈ ta, (Lit.int .i64 z).wf = true) (hca : ta.length ≤ ca) (hma : ca ≤ maxLen) (F : Int) (B : Option Addr) (cb : Nat) (tb : List Int) (hF : (Lit.int .i64 F).wf = true) (hB : Nums .i64 w B tb) (hzb : ∀ z ∈ tb, (Lit.int .i64 z).wf = true) (hcb : tb.length ≤ cb) (hmb : cb ≤ maxLen) (tn : Bool) (KK : Option Addr) (kc : Nat) (L : List Int) (hK : Nums .i64 w KK L) (hwl : ∀ z ∈ L, (Lit.int .i64 z).wf = true) (hlk : L.length ≤ kc) (hkm : kc ≤ maxLen) : Calls Tryd.prog 5 #[.agg #[.int .i64 E, .slice A ta.length ca], .agg #[.int .i64 F, .slice B tb.length cb], .agg #[.bool tn, .slice KK L.length kc]] w (BoolP true w) := by
  by_cases h : 80 < ta.length ∨ 80 < tb.length ∨ 10 < L.length
  · cases tn with
    | true => exact walk_long_true w hT E A ca ta hA F B cb tb hB KK kc L hK h
    | false => exact walk_long_false w hT E A ca ta hA F B cb tb hB KK kc L hK h
  · cases tn with
    | true => exact walk_main_true w hT E A ca ta hA F B cb tb hB KK kc L hK (by omega) (by omega) (by omega) hwl
    | false => exact walk_main_false w hT E A ca ta hA F B cb tb hB KK kc L hK (by omega) (by omega) (by omega) hwl
theorem contract (H : Type) (enc : TypeId × Value → H) (W : World) (bs : Nat) (args : Array Value) (ds gs : List (DataW H)) (before : List MemPlace)
    (hval : ∀ (j : Nat) t v, Tryd.f5.params[j]? = some t → args[j]? = some v → Value.okWide Tryd.prog W .any bs t v)
    (hW : DataW.Whole enc Tryd.prog Tryd.f5.params.toList Rows.slotsLoadsSpec.vars false W args.toList ds gs before) (hL : laidMetH Tryd.prog Rows.slotsLoadsRow.laid W) :
    Calls Tryd.prog 5 args W fun e W' => ∃ v, e = .returned v ∧ Rows.slotsLoadsSpec.post enc Tryd.prog Tryd.f5 false true false false W args v W' := by
  have hW' := hW
  obtain ⟨p, q, hA0, hV, rfl, _, _⟩ := hW
  have hA : DataW.TrodAll enc Tryd.prog W 0 (fun _ => true) true Tryd.f5.params.toList args.toList ds p := hA0
  rw [Tryd.params5] at hA hval
  obtain ⟨v0, vs0, d0, ds0, p0, q0, hargs, rfl, rfl, h0, r0⟩ := trodAll_cons hA
  obtain ⟨v1, vs1, d1, ds1, p1, q1, rfl, rfl, rfl, h1, r1⟩ := trodAll_cons r0
  obtain ⟨v2, vs2, d2, ds2, p2, q2, rfl, rfl, rfl, h2, r2⟩ := trodAll_cons r1
  obtain ⟨rfl, rfl, rfl⟩ := trodAll_nil r2
  obtain rfl : args = #[v0, v1, v2] := by cases args; simp_all
  obtain ⟨rfl, rfl⟩ := trodVars_none hV
  obtain ⟨E0, A0, c0, zs0, rfl, hE0, hN0, hz0, hc0, hm0⟩ := so.open_root (hval 0 24 v0 rfl rfl) h0
  obtain ⟨E1, A1, c1, zs1, rfl, hE1, hN1, hz1, hc1, hm1⟩ := so.open_root (hval 1 24 v1 rfl rfl) h1
  obtain ⟨t2, K2, k2, L2, rfl, hK2, hL2, hc2, hm2⟩ := open_bend (hval 2 39 v2 rfl rfl) h2
  clear hA0
  refine (walk W (tableOf hL) E0 A0 c0 zs0 hE0 hN0 hz0 hc0 hm0 E1 A1 c1 zs1 hE1 hN1 hz1 hc1 hm1 t2 K2 k2 L2 hK2 hL2 hc2 hm2).mono fun e W' ⟨he, hb⟩ => ?_
  subst he
  exact ⟨_, rfl, base.law_post base.laid (by kernel_rfl) rfl rfl Tryd.underlying4 hW' rfl rfl rfl hb⟩

noncomputable def laidWorld (os : Os) : World :=
  { World.holding Tryd.prog os ⟨#[], #[], []⟩ with heap := (World.holding Tryd.prog os ⟨#[], #[], []⟩).heap.modify 0 fun
      | .cells _ t frozen => .cells #[.int .u32 0, .int .u32 498536548, .int .u32 997073096, .int .u32 651767980, .int .u32 1994146192, .int .u32 1802195444, .int .u32 1303535960, .int .u32 1342533948, .int .u32 3988292384, .int .u32 4027552580, .int .u32 3604390888, .int .u32 3412177804, .int .u32 2607071920, .int .u32 2262029012, .int .u32 2685067896, .int .u32 3183342108] t frozen
      | o => o }
theorem laid_met (os : Os) : laidMet Tryd.prog Rows.slotsLoadsRow.laid ((laidWorld os).forCall (fun _ _ => 0) ⟨#[], #[.agg #[.int .i64 0, .slice none 0 0], .agg #[.int .i64 0, .slice none 0 0], .agg #[.bool false, .slice none 0 0]], []⟩).memory :=
  laidMet_of_run' 8 (by kernel_rfl) (by kernel_rfl)
theorem reads (os : Os) {H : Type} (enc : TypeId × Value → H) : ∃ places, DataW.whole enc Tryd.prog ((laidWorld os).forCall (fun _ _ => 0) ⟨#[], #[.agg #[.int .i64 0, .slice none 0 0], .agg #[.int .i64 0, .slice none 0 0], .agg #[.bool false, .slice none 0 0]], []⟩).memory Tryd.f5.params.toList Rows.slotsLoadsSpec.vars false (#[.agg #[.int .i64 0, .slice none 0 0], .agg #[.int .i64 0, .slice none 0 0], .agg #[.bool false, .slice none 0 0]] : Array Value).toList 8 = some ([.agg [.lit (.int .i64 0), .nil], .agg [.lit (.int .i64 0), .nil], .agg [.lit (.bool false), .nil]], [], places) :=
  ⟨[], by kernel_rfl⟩

set_option maxRecDepth 100000 in
theorem lifted (os : Os) (started : os.Started) (H : Type) (enc : TypeId × Value → H) (F : Stop.Interp) :
    ReturnsInHanded {} Tryd.checked os 5 .any ((OpenSpec.ofChange Rows.slotsLoadsSpec).preRow enc Tryd.prog Tryd.f5 Rows.slotsLoadsRow.domain false Rows.slotsLoadsRow.laid) (((OpenSpec.ofChange Rows.slotsLoadsSpec).at F).post enc Tryd.prog Tryd.f5 false true false false) := by
  obtain ⟨places, hx⟩ := reads os enc
  refine returnsInHanded_of_row (C := Tryd.checked) (s := OpenSpec.ofChange Rows.slotsLoadsSpec) base.own started (by kernel_rfl) Tryd.func5
    (witness_row_at (enc := enc) (C := Tryd.checked) false (laidWorld os) #[.agg #[.int .i64 0, .slice none 0 0], .agg #[.int .i64 0, .slice none 0 0], .agg #[.bool false, .slice none 0 0]] rfl (by kernel_rfl) (by kernel_rfl) (by kernel_rfl)
      (OpenSpec.preRow_of_cond 8 hx (by kernel_rfl) (fun k hk => by cases hk) (by kernel_rfl) (laid_met os))) ?_
  intro W bs args ds gs before hval hW _ _ _ hL _ _
  exact contract H enc W bs args ds gs before hval hW hL

theorem said : Rows.SlotsLoadsSaid :=
  OpenClaim.holds_of_cond 5 Tryd.f5 rfl rfl rfl rfl rfl rfl rfl ⟨rfl, rfl, rfl, rfl, rfl⟩ rfl rfl rfl rfl rfl (by kernel_rfl) Tryd.func5 (by kernel_rfl)
    (of_decide_eq_true (by kernel_rfl)) (by unfold Func.isWrapper; first | (rw [if_pos (by decide +kernel)]; kernel_rfl) | (rw [if_neg (by decide +kernel)]; exact ⟨rfl, rfl⟩))
    (fun os started H enc _ F => by rw [OpenClaim.pre_eq_preRow]; exact lifted os started H enc F)

theorem plain (f : FuncId) (fn : Func) (hf : Tryd.pinned.checked.prog.funcNamed "deedhold/deedholdlaw06.SlotsLoads" = some f) (hfn : Tryd.pinned.checked.prog.funcs[f]? = some fn) :
    false = Tryd.pinned.checked.prog.looks [] ∧ ∀ (j : Nat) t, fn.params[j]? = some t → Tryd.pinned.checked.prog.wantsStandIn t = false := by
  obtain rfl : f = 5 := Option.some.inj ((show Tryd.prog.funcNamed "deedhold/deedholdlaw06.SlotsLoads" = some 5 by kernel_rfl).symm.trans hf) |>.symm
  obtain rfl : fn = Tryd.f5 := (Option.some.inj (Tryd.func5.symm.trans hfn)).symm
  refine ⟨by kernel_rfl, fun j t ht => ?_⟩
  rw [Tryd.params5] at ht
  have ht2 : t = 24 ∨ t = 24 ∨ t = 39 := by simpa using Array.mem_of_getElem? ht
  rcases ht2 with rfl | rfl | rfl
  all_goals first | exact (show Tryd.prog.wantsStandIn _ = false by kernel_rfl)

theorem card : Rows.SlotsLoadsCardSaid :=
  Claim7.holds_tied_plain_at .later [] _ _ _ _ said (fun _ h => by cases h) (by kernel_rfl) (fun _ h => by cases h) slotsLoads_row_tie rfl ⟨rfl, rfl⟩ (by kernel_rfl) rfl plain (by kernel_rfl)
#print axioms card
end Go.Proofs.YtigjfmfhmoabiaaDoor.slotsLoads
