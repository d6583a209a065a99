/-
  AccessRight (P18.1), for the tied reading: for every house and every number of a list the law answers true, whatever the memory, if the table of needs stands as the program lays it.
  Conditions: none beyond the card's own.
-/
import Derived.Test.YtemkhblogmdleaaDoorAccRA
import Derived.Test.YtemkhblogmdleaaDoorAccRB
import Derived.Test.YtemkhblogmdleaaDoorCards
import Derived.Test.YtemkhblogmdleaaDoorTie
import Derived.Deep.DeepHandedRow
import Derived.Lib.LaidTab
namespace Go.Proofs.YtemkhblogmdleaaDoor.accessRight
open Go.ChangeShapes Go.WideShapes Go.ChangeAt Go.RowKit
open base (ret_bool ret_int made up Blk Only Nums)
open ac
set_option linter.unusedVariables false
set_option linter.unusedSimpArgs false
theorem gTab : Tryd.prog.globalNamed "deedhold/access.needs" = some 0 := by kernel_rfl
theorem gTabType : (Tryd.prog.globals[0]?).map (·.type) = some 51 := by kernel_rfl
theorem cells11 : Tryd.prog.cellsOf 51 = 11 := by kernel_rfl
theorem cells1 : Tryd.prog.cellsOf 3 = 1 := by kernel_rfl
theorem table {W : World} (h : laidMetH Tryd.prog Rows.accessRightRow.laid W) : Lib.TabIs Tryd.prog W "deedhold/access.needs" .i64 [1, 2, 3, 3, 3, 4, 4, 4, 4, 4, 4] :=
  Lib.tabIs_of_head (rest := []) gTab gTabType Tryd.underlying51 Tryd.underlying3 cells1 cells11 h
theorem tableOf {W : World} (h : laidMetH Tryd.prog Rows.accessRightRow.laid W) : Tab W := by
  have c : ∀ k, k < 11 → W.cell? ⟨0, k, none⟩ = some (.int .i64 (nt.getD k 0)) := by
    intro k hk
    have := (table h).cell gTab k (by simpa using hk)
    rw [this]
    rfl
  exact ⟨World.block_lt_of_cell? W _ (c 0 (by omega)), c⟩

set_option maxHeartbeats 1000000 in
theorem walk_no (w : World) (hT : Tab w) (o : Int) (A : Option Addr) (ca : Nat) (la : List Int) (B : Option Addr) (cb : Nat) (lb : List Int) (C : Option Addr) (cc : Nat) (lc : List Int) (q : Int)
    (h1 : la.length ≤ 9223372036854775807) (h2 : lb.length ≤ 9223372036854775807) (h3 : lc.length ≤ 9223372036854775807) (hn : ¬ (la.length ≤ 40 ∧ lb.length ≤ 40 ∧ lc.length ≤ 40)) :
    Calls Tryd.prog 4 #[.agg #[.int .i64 o, .slice A la.length ca, .slice B lb.length cb, .slice C lc.length cc], .int .i64 q] w (SmP true w) := by
  have hb := made w (.cells #[.int .i64 o, .slice A la.length ca, .slice B lb.length cb, .slice C lc.length cc] 24)
  have bx : Blk (w.alloc (.cells #[.int .i64 o, .slice A la.length ca, .slice B lb.length cb, .slice C lc.length cc] 24)) w.heap.size 24 #[.int .i64 o, .slice A la.length ca, .slice B lb.length cb, .slice C lc.length cc] := Blk.new _ _ _
  have b0 := bx.cell 0
  have b1 := bx.cell 1
  have b2 := bx.cell 2
  have b3 := bx.cell 3
  have HB := Lib.hid hb
  have SM := Lib.hid (small_any o A ca la B cb lb C cc lc (w.alloc (.cells #[.int .i64 o, .slice A la.length ca, .slice B lb.length cb, .slice C lc.length cc] 24)) h1 h2 h3)
  rw [decide_eq_false hn] at SM
  have TB := Lib.hid (hT.keep hb)
  clear hb bx h1 h2 h3 hn hT
  generalize hw1 : w.alloc (.cells #[.int .i64 o, .slice A la.length ca, .slice B lb.length cb, .slice C lc.length cc] 24) = w1 at *
  go_enter Tryd.func4, Tryd.ntmps4
  go_wp2_with (rw [hw1])
  refine SM.out.mono ?_
  rintro e w2 ⟨rfl, hb2⟩
  have AW := Lib.hid (awake_any w2 (TB.out.keep hb2))
  have B2 := Lib.hid (up HB.out hb2 HB.out.size)
  clear hb2
  go_wp2_with fail
  refine AW.out.mono ?_
  rintro e w3 ⟨rfl, hb3⟩
  have B3 := Lib.hid (up B2.out hb3 B2.out.size)
  clear hb3
  go_wp2_with fail
  go_ret
  exact ⟨rfl, B3.out⟩

theorem walk (w : World) (hT : Tab w) (o : Int) (A : Option Addr) (ca : Nat) (la : List Int) (B : Option Addr) (cb : Nat) (lb : List Int) (C : Option Addr) (cc : Nat) (lc : List Int) (ho : (Lit.int .i64 o).wf = true)
    (wa : la.length ≤ ca ∧ ca ≤ maxLen ∧ Nums .i64 w A la ∧ ∀ n ∈ la, (Lit.int .i64 n).wf = true) (wb : lb.length ≤ cb ∧ cb ≤ maxLen ∧ Nums .i64 w B lb ∧ ∀ n ∈ lb, (Lit.int .i64 n).wf = true) (wc : lc.length ≤ cc ∧ cc ≤ maxLen ∧ Nums .i64 w C lc ∧ ∀ n ∈ lc, (Lit.int .i64 n).wf = true)
    (q : Int) (hq : (Lit.int .i64 q).wf = true) :
    Calls Tryd.prog 4 #[.agg #[.int .i64 o, .slice A la.length ca, .slice B lb.length cb, .slice C lc.length cc], .int .i64 q] w fun e w' => e = .returned (.bool true) ∧ Below w.heap.size w w' := by
  obtain ⟨a1, a2, a3, -⟩ := wa
  obtain ⟨b1, b2, b3, -⟩ := wb
  obtain ⟨c1, c2, c3, -⟩ := wc
  unfold maxLen at a2 b2 c2
  by_cases hn : la.length ≤ 40 ∧ lb.length ≤ 40 ∧ lc.length ≤ 40
  · have L : Ls w A la B lb C lc := ⟨a3, b3, c3, by omega, by omega, by omega⟩
    obtain ⟨b, hb⟩ := ex_bool (RightH o la lb lc)
    by_cases q1 : q < 1
    · exact walk_lo w hT o A ca la B cb lb C cc lc q q1 L hn b hb
    by_cases q3 : 3 < q
    · exact walk_hi w hT o A ca la B cb lb C cc lc q q3 L hn b hb
    have h3 : q = 1 ∨ q = 2 ∨ q = 3 := by omega
    rcases h3 with rfl | rfl | rfl
    · exact walk_in0 w hT o A ca la B cb lb C cc lc L hn b hb
    · exact walk_in1 w hT o A ca la B cb lb C cc lc L hn b hb
    · exact walk_in2 w hT o A ca la B cb lb C cc lc L hn b hb
  · exact walk_no w hT o A ca la B cb lb C cc lc q (by omega) (by omega) (by omega) hn

theorem contract (H : Type) (enc : TypeId × Value → H) (W : World) (bs : Nat) (args : Array Value) (ds gs : List (DataW H)) (before : List MemPlace)
    (hval : ∀ (j : Nat) t v, Tryd.f4.params[j]? = some t → args[j]? = some v → Value.okWide Tryd.prog W .any bs t v)
    (hW : DataW.Whole enc Tryd.prog Tryd.f4.params.toList Rows.accessRightSpec.vars false W args.toList ds gs before) (hL : laidMetH Tryd.prog Rows.accessRightRow.laid W) :
    Calls Tryd.prog 4 args W fun e W' => ∃ v, e = .returned v ∧ Rows.accessRightSpec.post enc Tryd.prog Tryd.f4 false true false false W args v W' := by
  have hW' := hW
  obtain ⟨p, q, hA0, hV, rfl, _, _⟩ := hW
  have hA : DataW.TrodAll enc Tryd.prog W 0 (fun _ => true) true Tryd.f4.params.toList args.toList ds p := hA0
  rw [Tryd.params4] at hA hval
  obtain ⟨v0, vs0, d0, ds0, p0, q0, hargs, rfl, rfl, h0, r0⟩ := trodAll_cons hA
  obtain ⟨v1, vs1, d1, ds1, p1, q1, rfl, rfl, rfl, h1, r1⟩ := trodAll_cons r0
  obtain ⟨rfl, rfl, rfl⟩ := trodAll_nil r1
  obtain rfl : args = #[v0, v1] := by cases args; simp_all
  obtain ⟨rfl, rfl⟩ := trodVars_none hV
  obtain ⟨o0, A0, ca0, la0, B0, cb0, lb0, C0, cc0, lc0, rfl, w0, wa0, wb0, wc0⟩ := base.open_house Tryd.underlying24 Tryd.underlying3 ⟨rfl, rfl⟩ Tryd.underlying22 Tryd.underlying3 (by kernel_rfl) (by kernel_rfl) (by kernel_rfl) (hval 0 24 v0 rfl rfl) h0
  obtain ⟨a1, rfl, rfl, rfl, w1⟩ := open_int Tryd.underlying3 (hval 1 3 v1 rfl rfl) h1
  clear hA0
  refine (walk W (tableOf hL) o0 A0 ca0 la0 B0 cb0 lb0 C0 cc0 lc0 w0 wa0 wb0 wc0 a1 w1).mono fun e W' ⟨he, hb⟩ => ?_
  subst he
  exact ⟨_, rfl, base.law_post base.laid (by kernel_rfl) rfl rfl Tryd.underlying4 hW' rfl rfl rfl hb⟩

noncomputable def laidWorld (os : Os) : World :=
  { World.holding Tryd.prog os ⟨#[], #[], []⟩ with heap := (World.holding Tryd.prog os ⟨#[], #[], []⟩).heap.modify 0 fun
      | .cells _ t frozen => .cells #[.int .i64 1, .int .i64 2, .int .i64 3, .int .i64 3, .int .i64 3, .int .i64 4, .int .i64 4, .int .i64 4, .int .i64 4, .int .i64 4, .int .i64 4] t frozen
      | o => o }
theorem laid_met (os : Os) : laidMet Tryd.prog Rows.accessRightRow.laid ((laidWorld os).forCall (fun _ _ => 0) ⟨#[], #[.agg #[.int .i64 0, .slice none 0 0, .slice none 0 0, .slice none 0 0], .int .i64 0], []⟩).memory :=
  laidMet_of_run' 8 (by kernel_rfl) (by kernel_rfl)
theorem reads (os : Os) {H : Type} (enc : TypeId × Value → H) : ∃ places, DataW.whole enc Tryd.prog ((laidWorld os).forCall (fun _ _ => 0) ⟨#[], #[.agg #[.int .i64 0, .slice none 0 0, .slice none 0 0, .slice none 0 0], .int .i64 0], []⟩).memory Tryd.f4.params.toList Rows.accessRightSpec.vars false (#[.agg #[.int .i64 0, .slice none 0 0, .slice none 0 0, .slice none 0 0], .int .i64 0] : Array Value).toList 8 = some ([.agg [.lit (.int .i64 0), .nil, .nil, .nil], .lit (.int .i64 0)], [], places) :=
  ⟨[], by kernel_rfl⟩

set_option maxRecDepth 100000 in
theorem lifted (os : Os) (started : os.Started) (H : Type) (enc : TypeId × Value → H) (F : Stop.Interp) :
    ReturnsInHanded {} Tryd.checked os 4 .any ((OpenSpec.ofChange Rows.accessRightSpec).preRow enc Tryd.prog Tryd.f4 Rows.accessRightRow.domain false Rows.accessRightRow.laid) (((OpenSpec.ofChange Rows.accessRightSpec).at F).post enc Tryd.prog Tryd.f4 false true false false) := by
  obtain ⟨places, hx⟩ := reads os enc
  refine returnsInHanded_of_row (C := Tryd.checked) (s := OpenSpec.ofChange Rows.accessRightSpec) base.own started (by kernel_rfl) Tryd.func4
    (witness_row_at (enc := enc) (C := Tryd.checked) false (laidWorld os) #[.agg #[.int .i64 0, .slice none 0 0, .slice none 0 0, .slice none 0 0], .int .i64 0] rfl (by kernel_rfl) (by kernel_rfl) (by kernel_rfl)
      (OpenSpec.preRow_of_cond 8 hx (by kernel_rfl) (fun k hk => by cases hk) (by kernel_rfl) (laid_met os))) ?_
  intro W bs args ds gs before hval hW _ _ _ hL _ _
  exact contract H enc W bs args ds gs before hval hW hL

theorem said : Rows.AccessRightSaid :=
  OpenClaim.holds_of_cond 4 Tryd.f4 rfl rfl rfl rfl rfl rfl rfl ⟨rfl, rfl, rfl, rfl, rfl⟩ rfl rfl rfl rfl rfl (by kernel_rfl) Tryd.func4 (by kernel_rfl)
    (of_decide_eq_true (by kernel_rfl)) (by unfold Func.isWrapper; first | (rw [if_pos (by decide +kernel)]; kernel_rfl) | (rw [if_neg (by decide +kernel)]; exact ⟨rfl, rfl⟩))
    (fun os started H enc _ F => by rw [OpenClaim.pre_eq_preRow]; exact lifted os started H enc F)

theorem plain (f : FuncId) (fn : Func) (hf : Tryd.pinned.checked.prog.funcNamed "deedhold/deedholdlaw18.AccessRight" = some f) (hfn : Tryd.pinned.checked.prog.funcs[f]? = some fn) :
    false = Tryd.pinned.checked.prog.looks [] ∧ ∀ (j : Nat) t, fn.params[j]? = some t → Tryd.pinned.checked.prog.wantsStandIn t = false := by
  obtain rfl : f = 4 := Option.some.inj ((show Tryd.prog.funcNamed "deedhold/deedholdlaw18.AccessRight" = some 4 by kernel_rfl).symm.trans hf) |>.symm
  obtain rfl : fn = Tryd.f4 := (Option.some.inj (Tryd.func4.symm.trans hfn)).symm
  refine ⟨by kernel_rfl, fun j t ht => ?_⟩
  rw [Tryd.params4] at ht
  have ht2 : t = 24 ∨ t = 3 := by simpa using Array.mem_of_getElem? ht
  rcases ht2 with rfl | rfl
  all_goals first | exact (show Tryd.prog.wantsStandIn _ = false by kernel_rfl)

theorem card : Rows.AccessRightCardSaid :=
  Claim7.holds_tied_plain_at .later [] _ _ _ _ said (fun _ h => by cases h) (by kernel_rfl) (fun _ h => by cases h) accessRight_row_tie rfl ⟨rfl, rfl⟩ (by kernel_rfl) rfl plain (by kernel_rfl)
#print axioms card
end Go.Proofs.YtemkhblogmdleaaDoor.accessRight
