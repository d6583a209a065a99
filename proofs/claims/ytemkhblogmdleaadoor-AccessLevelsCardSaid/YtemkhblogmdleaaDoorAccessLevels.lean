/-
  AccessLevels (P18.1), for the tied reading: for every house, every person and every number of what is done, the law answers true, whatever the memory, if the table of needs stands as the program lays it.
  Conditions: none beyond the card's own.
-/
import Derived.Test.YtemkhblogmdleaaDoorAccF
import Derived.Test.YtemkhblogmdleaaDoorCards
import Derived.Test.YtemkhblogmdleaaDoorTie
import Derived.Deep.DeepHandedRow
import Derived.Lib.LaidTab
namespace Go.Proofs.YtemkhblogmdleaaDoor.accessLevels
open Go.ChangeShapes Go.WideShapes Go.ChangeAt Go.RowKit
open base (ret_bool ret_int made up Blk Only Nums)
open ac
set_option linter.unusedVariables false
set_option linter.unusedSimpArgs false
theorem gTab : Tryd.prog.globalNamed "deedhold/access.needs" = some 0 := by kernel_rfl
theorem gTabType : (Tryd.prog.globals[0]?).map (·.type) = some 51 := by kernel_rfl
theorem cells11 : Tryd.prog.cellsOf 51 = 11 := by kernel_rfl
theorem cells1 : Tryd.prog.cellsOf 3 = 1 := by kernel_rfl
theorem table {W : World} (h : laidMetH Tryd.prog Rows.accessLevelsRow.laid W) : Lib.TabIs Tryd.prog W "deedhold/access.needs" .i64 [1, 2, 3, 3, 3, 4, 4, 4, 4, 4, 4] :=
  Lib.tabIs_of_head (rest := []) gTab gTabType Tryd.underlying51 Tryd.underlying3 cells1 cells11 h
theorem tableOf {W : World} (h : laidMetH Tryd.prog Rows.accessLevelsRow.laid W) : Tab W := by
  have c : ∀ k, k < 11 → W.cell? ⟨0, k, none⟩ = some (.int .i64 (nt.getD k 0)) := by
    intro k hk
    have := (table h).cell gTab k (by simpa using hk)
    rw [this]
    rfl
  exact ⟨World.block_lt_of_cell? W _ (c 0 (by omega)), c⟩

set_option maxHeartbeats 1000000 in
theorem walk_no (w : World) (hT : Tab w) (o : Int) (A : Option Addr) (ca : Nat) (la : List Int) (B : Option Addr) (cb : Nat) (lb : List Int) (C : Option Addr) (cc : Nat) (lc : List Int) (p q : Int)
    (h1 : la.length ≤ 9223372036854775807) (h2 : lb.length ≤ 9223372036854775807) (h3 : lc.length ≤ 9223372036854775807) (hn : ¬ (la.length ≤ 40 ∧ lb.length ≤ 40 ∧ lc.length ≤ 40)) :
    Calls Tryd.prog 3 #[.agg #[.int .i64 o, .slice A la.length ca, .slice B lb.length cb, .slice C lc.length cc], .int .i64 p, .int .i64 q] w (SmP true w) := by
  have hb := made w (.cells #[.int .i64 o, .slice A la.length ca, .slice B lb.length cb, .slice C lc.length cc] 24)
  have bx : Blk (w.alloc (.cells #[.int .i64 o, .slice A la.length ca, .slice B lb.length cb, .slice C lc.length cc] 24)) w.heap.size 24 #[.int .i64 o, .slice A la.length ca, .slice B lb.length cb, .slice C lc.length cc] := Blk.new _ _ _
  have b0 := bx.cell 0
  have b1 := bx.cell 1
  have b2 := bx.cell 2
  have b3 := bx.cell 3
  have HB := Lib.hid hb
  have SM := Lib.hid (small_any o A ca la B cb lb C cc lc (w.alloc (.cells #[.int .i64 o, .slice A la.length ca, .slice B lb.length cb, .slice C lc.length cc] 24)) h1 h2 h3)
  rw [decide_eq_false hn] at SM
  have TB := Lib.hid (hT.keep hb)
  clear hb bx h1 h2 h3 hn hT
  generalize hw1 : w.alloc (.cells #[.int .i64 o, .slice A la.length ca, .slice B lb.length cb, .slice C lc.length cc] 24) = w1 at *
  go_enter Tryd.func3, Tryd.ntmps3
  go_wp2_with (rw [hw1])
  refine SM.out.mono ?_
  rintro e w2 ⟨rfl, hb2⟩
  have AW := Lib.hid (awake_any w2 (TB.out.keep hb2))
  have B2 := Lib.hid (up HB.out hb2 HB.out.size)
  clear hb2
  go_wp2_with fail
  refine AW.out.mono ?_
  rintro e w3 ⟨rfl, hb3⟩
  have B3 := Lib.hid (up B2.out hb3 B2.out.size)
  clear hb3
  go_wp2_with fail
  go_ret
  exact ⟨rfl, B3.out⟩

set_option maxHeartbeats 2000000 in
theorem walk_yes (w : World) (hT : Tab w) (o : Int) (A : Option Addr) (ca : Nat) (la : List Int) (B : Option Addr) (cb : Nat) (lb : List Int) (C : Option Addr) (cc : Nat) (lc : List Int) (p q : Int)
    (L : Ls w A la B lb C lc) (hq1 : -9223372036854775808 ≤ q) (hq2 : q ≤ 9223372036854775807) (hn : la.length ≤ 40 ∧ lb.length ≤ 40 ∧ lc.length ≤ 40) (b : Bool) (hb0 : b = decide (levelOf o la lb lc p < needsOf q)) :
    Calls Tryd.prog 3 #[.agg #[.int .i64 o, .slice A la.length ca, .slice B lb.length cb, .slice C lc.length cc], .int .i64 p, .int .i64 q] w (SmP true w) := by
  have hb := made w (.cells #[.int .i64 o, .slice A la.length ca, .slice B lb.length cb, .slice C lc.length cc] 24)
  have bx : Blk (w.alloc (.cells #[.int .i64 o, .slice A la.length ca, .slice B lb.length cb, .slice C lc.length cc] 24)) w.heap.size 24 #[.int .i64 o, .slice A la.length ca, .slice B lb.length cb, .slice C lc.length cc] := Blk.new _ _ _
  have b0 := bx.cell 0
  have b1 := bx.cell 1
  have b2 := bx.cell 2
  have b3 := bx.cell 3
  have HB := Lib.hid hb
  have SM := Lib.hid (small_any o A ca la B cb lb C cc lc (w.alloc (.cells #[.int .i64 o, .slice A la.length ca, .slice B lb.length cb, .slice C lc.length cc] 24)) (by omega) (by omega) (by omega))
  rw [decide_eq_true hn] at SM
  have TB := Lib.hid (hT.keep hb)
  have LS := Lib.hid (L.keep hb)
  have BX := Lib.hid bx
  have KX := Lib.hid (fun ws h => BX.out.below (w' := ws) h BX.out.lt)
  have V1 := Lib.hid (fun ws h => rlevel_any o A ca la B cb lb C cc lc p ws (LS.out.keep h))
  have V2 := Lib.hid (fun ws => rneeds_any q ws)
  have V3 := Lib.hid (fun ws h => level_any o A ca la B cb lb C cc lc p ws (LS.out.keep h))
  have V4 := Lib.hid (fun ws h => needs_any q ws (TB.out.keep h) hq1 hq2)
  have V5 := Lib.hid (fun ws h => may_any o A ca la B cb lb C cc lc p q ws (LS.out.keep h) (TB.out.keep h) hq1 hq2)
  have AW := Lib.hid (fun ws h => awake_any ws (TB.out.keep h))
  clear hb bx hn hT L LS BX TB
  generalize hw1 : w.alloc (.cells #[.int .i64 o, .slice A la.length ca, .slice B lb.length cb, .slice C lc.length cc] 24) = w1 at *
  clear hq1 hq2
  generalize levelOf o la lb lc p = n at *
  generalize needsOf q = m at *
  go_enter Tryd.func3, Tryd.ntmps3
  go_wp2_with (rw [hw1])
  refine SM.out.mono ?_
  rintro e w2 ⟨rfl, hb2⟩
  have U2 := Lib.hid hb2
  have y := KX.out _ hb2
  have c0 := y.cell 0
  have c1 := y.cell 1
  have c2 := y.cell 2
  have c3 := y.cell 3
  clear b0 b1 b2 b3 y hb2
  go_wp2_with fail
  refine (V1.out _ U2.out).mono ?_
  rintro e w3 ⟨rfl, rfl⟩
  go_wp2_with fail
  refine (V2.out _).mono ?_
  rintro e w4 ⟨rfl, rfl⟩
  cases b with
  | true =>
    have hlt : n < m := by simpa using hb0.symm
    rw [if_pos hlt] at V5
    clear hb0
    go_wp2_with fail
    refine (V3.out _ U2.out).mono ?_
    rintro e w5 ⟨rfl, hb5⟩
    have hu := up U2.out hb5 U2.out.size
    have y := KX.out _ hu
    have d0 := y.cell 0
    have d1 := y.cell 1
    have d2 := y.cell 2
    have d3 := y.cell 3
    have U5 := Lib.hid hu
    clear c0 c1 c2 c3 y hb5 hu
    go_wp2_with fail
    refine (V4.out _ U5.out).mono ?_
    rintro e w6 ⟨rfl, rfl⟩
    go_wp2_with fail
    refine (V5.out _ U5.out).mono ?_
    rintro e w7 ⟨rfl, hb7⟩
    have U7 := Lib.hid (up U5.out hb7 U5.out.size)
    clear d0 d1 d2 d3 hb7
    go_wp2_with fail
    refine (AW.out _ U7.out).mono ?_
    rintro e w8 ⟨rfl, hb8⟩
    have U8 := Lib.hid (up HB.out (up U7.out hb8 U7.out.size) HB.out.size)
    clear hb8
    go_wp2_with fail
    go_ret
    exact ⟨rfl, U8.out⟩
  | false =>
    have hlt : ¬ n < m := by simpa using hb0.symm
    rw [if_neg hlt] at V5
    clear hb0
    go_wp2_with fail
    refine (V3.out _ U2.out).mono ?_
    rintro e w5 ⟨rfl, hb5⟩
    have hu := up U2.out hb5 U2.out.size
    have y := KX.out _ hu
    have d0 := y.cell 0
    have d1 := y.cell 1
    have d2 := y.cell 2
    have d3 := y.cell 3
    have U5 := Lib.hid hu
    clear c0 c1 c2 c3 y hb5 hu
    go_wp2_with fail
    refine (V4.out _ U5.out).mono ?_
    rintro e w6 ⟨rfl, rfl⟩
    go_wp2_with fail
    refine (V5.out _ U5.out).mono ?_
    rintro e w7 ⟨rfl, hb7⟩
    have U7 := Lib.hid (up U5.out hb7 U5.out.size)
    clear d0 d1 d2 d3 hb7
    go_wp2_with fail
    refine (AW.out _ U7.out).mono ?_
    rintro e w8 ⟨rfl, hb8⟩
    have U8 := Lib.hid (up HB.out (up U7.out hb8 U7.out.size) HB.out.size)
    clear hb8
    go_wp2_with fail
    go_ret
    exact ⟨rfl, U8.out⟩

theorem walk (w : World) (hT : Tab w) (o : Int) (A : Option Addr) (ca : Nat) (la : List Int) (B : Option Addr) (cb : Nat) (lb : List Int) (C : Option Addr) (cc : Nat) (lc : List Int) (ho : (Lit.int .i64 o).wf = true)
    (wa : la.length ≤ ca ∧ ca ≤ maxLen ∧ Nums .i64 w A la ∧ ∀ n ∈ la, (Lit.int .i64 n).wf = true) (wb : lb.length ≤ cb ∧ cb ≤ maxLen ∧ Nums .i64 w B lb ∧ ∀ n ∈ lb, (Lit.int .i64 n).wf = true) (wc : lc.length ≤ cc ∧ cc ≤ maxLen ∧ Nums .i64 w C lc ∧ ∀ n ∈ lc, (Lit.int .i64 n).wf = true)
    (p : Int) (hp : (Lit.int .i64 p).wf = true) (q : Int) (hq : (Lit.int .i64 q).wf = true) :
    Calls Tryd.prog 3 #[.agg #[.int .i64 o, .slice A la.length ca, .slice B lb.length cb, .slice C lc.length cc], .int .i64 p, .int .i64 q] w fun e w' => e = .returned (.bool true) ∧ Below w.heap.size w w' := by
  obtain ⟨a1, a2, a3, -⟩ := wa
  obtain ⟨b1, b2, b3, -⟩ := wb
  obtain ⟨c1, c2, c3, -⟩ := wc
  unfold maxLen at a2 b2 c2
  by_cases hn : la.length ≤ 40 ∧ lb.length ≤ 40 ∧ lc.length ≤ 40
  · have hr : -9223372036854775808 ≤ q ∧ q ≤ 9223372036854775807 := by simpa [Lit.wf, IntKind.min, IntKind.max, IntKind.signed, IntKind.bits] using hq
    exact walk_yes w hT o A ca la B cb lb C cc lc p q ⟨a3, b3, c3, by omega, by omega, by omega⟩ hr.1 hr.2 hn _ rfl
  · exact walk_no w hT o A ca la B cb lb C cc lc p q (by omega) (by omega) (by omega) hn

theorem contract (H : Type) (enc : TypeId × Value → H) (W : World) (bs : Nat) (args : Array Value) (ds gs : List (DataW H)) (before : List MemPlace)
    (hval : ∀ (j : Nat) t v, Tryd.f3.params[j]? = some t → args[j]? = some v → Value.okWide Tryd.prog W .any bs t v)
    (hW : DataW.Whole enc Tryd.prog Tryd.f3.params.toList Rows.accessLevelsSpec.vars false W args.toList ds gs before) (hL : laidMetH Tryd.prog Rows.accessLevelsRow.laid W) :
    Calls Tryd.prog 3 args W fun e W' => ∃ v, e = .returned v ∧ Rows.accessLevelsSpec.post enc Tryd.prog Tryd.f3 false true false false W args v W' := by
  have hW' := hW
  obtain ⟨p, q, hA0, hV, rfl, _, _⟩ := hW
  have hA : DataW.TrodAll enc Tryd.prog W 0 (fun _ => true) true Tryd.f3.params.toList args.toList ds p := hA0
  rw [Tryd.params3] at hA hval
  obtain ⟨v0, vs0, d0, ds0, p0, q0, hargs, rfl, rfl, h0, r0⟩ := trodAll_cons hA
  obtain ⟨v1, vs1, d1, ds1, p1, q1, rfl, rfl, rfl, h1, r1⟩ := trodAll_cons r0
  obtain ⟨v2, vs2, d2, ds2, p2, q2, rfl, rfl, rfl, h2, r2⟩ := trodAll_cons r1
  obtain ⟨rfl, rfl, rfl⟩ := trodAll_nil r2
  obtain rfl : args = #[v0, v1, v2] := by cases args; simp_all
  obtain ⟨rfl, rfl⟩ := trodVars_none hV
  obtain ⟨o0, A0, ca0, la0, B0, cb0, lb0, C0, cc0, lc0, rfl, w0, wa0, wb0, wc0⟩ := base.open_house Tryd.underlying24 Tryd.underlying3 ⟨rfl, rfl⟩ Tryd.underlying22 Tryd.underlying3 (by kernel_rfl) (by kernel_rfl) (by kernel_rfl) (hval 0 24 v0 rfl rfl) h0
  obtain ⟨a1, rfl, rfl, rfl, w1⟩ := open_int Tryd.underlying3 (hval 1 3 v1 rfl rfl) h1
  obtain ⟨a2, rfl, rfl, rfl, w2⟩ := open_int Tryd.underlying3 (hval 2 3 v2 rfl rfl) h2
  clear hA0
  refine (walk W (tableOf hL) o0 A0 ca0 la0 B0 cb0 lb0 C0 cc0 lc0 w0 wa0 wb0 wc0 a1 w1 a2 w2).mono fun e W' ⟨he, hb⟩ => ?_
  subst he
  exact ⟨_, rfl, base.law_post base.laid (by kernel_rfl) rfl rfl Tryd.underlying4 hW' rfl rfl rfl hb⟩

noncomputable def laidWorld (os : Os) : World :=
  { World.holding Tryd.prog os ⟨#[], #[], []⟩ with heap := (World.holding Tryd.prog os ⟨#[], #[], []⟩).heap.modify 0 fun
      | .cells _ t frozen => .cells #[.int .i64 1, .int .i64 2, .int .i64 3, .int .i64 3, .int .i64 3, .int .i64 4, .int .i64 4, .int .i64 4, .int .i64 4, .int .i64 4, .int .i64 4] t frozen
      | o => o }
theorem laid_met (os : Os) : laidMet Tryd.prog Rows.accessLevelsRow.laid ((laidWorld os).forCall (fun _ _ => 0) ⟨#[], #[.agg #[.int .i64 0, .slice none 0 0, .slice none 0 0, .slice none 0 0], .int .i64 0, .int .i64 0], []⟩).memory :=
  laidMet_of_run' 8 (by kernel_rfl) (by kernel_rfl)
theorem reads (os : Os) {H : Type} (enc : TypeId × Value → H) : ∃ places, DataW.whole enc Tryd.prog ((laidWorld os).forCall (fun _ _ => 0) ⟨#[], #[.agg #[.int .i64 0, .slice none 0 0, .slice none 0 0, .slice none 0 0], .int .i64 0, .int .i64 0], []⟩).memory Tryd.f3.params.toList Rows.accessLevelsSpec.vars false (#[.agg #[.int .i64 0, .slice none 0 0, .slice none 0 0, .slice none 0 0], .int .i64 0, .int .i64 0] : Array Value).toList 8 = some ([.agg [.lit (.int .i64 0), .nil, .nil, .nil], .lit (.int .i64 0), .lit (.int .i64 0)], [], places) :=
  ⟨[], by kernel_rfl⟩

set_option maxRecDepth 100000 in
theorem lifted (os : Os) (started : os.Started) (H : Type) (enc : TypeId × Value → H) (F : Stop.Interp) :
    ReturnsInHanded {} Tryd.checked os 3 .any ((OpenSpec.ofChange Rows.accessLevelsSpec).preRow enc Tryd.prog Tryd.f3 Rows.accessLevelsRow.domain false Rows.accessLevelsRow.laid) (((OpenSpec.ofChange Rows.accessLevelsSpec).at F).post enc Tryd.prog Tryd.f3 false true false false) := by
  obtain ⟨places, hx⟩ := reads os enc
  refine returnsInHanded_of_row (C := Tryd.checked) (s := OpenSpec.ofChange Rows.accessLevelsSpec) base.own started (by kernel_rfl) Tryd.func3
    (witness_row_at (enc := enc) (C := Tryd.checked) false (laidWorld os) #[.agg #[.int .i64 0, .slice none 0 0, .slice none 0 0, .slice none 0 0], .int .i64 0, .int .i64 0] rfl (by kernel_rfl) (by kernel_rfl) (by kernel_rfl)
      (OpenSpec.preRow_of_cond 8 hx (by kernel_rfl) (fun k hk => by cases hk) (by kernel_rfl) (laid_met os))) ?_
  intro W bs args ds gs before hval hW _ _ _ hL _ _
  exact contract H enc W bs args ds gs before hval hW hL

theorem said : Rows.AccessLevelsSaid :=
  OpenClaim.holds_of_cond 3 Tryd.f3 rfl rfl rfl rfl rfl rfl rfl ⟨rfl, rfl, rfl, rfl, rfl⟩ rfl rfl rfl rfl rfl (by kernel_rfl) Tryd.func3 (by kernel_rfl)
    (of_decide_eq_true (by kernel_rfl)) (by unfold Func.isWrapper; first | (rw [if_pos (by decide +kernel)]; kernel_rfl) | (rw [if_neg (by decide +kernel)]; exact ⟨rfl, rfl⟩))
    (fun os started H enc _ F => by rw [OpenClaim.pre_eq_preRow]; exact lifted os started H enc F)

theorem plain (f : FuncId) (fn : Func) (hf : Tryd.pinned.checked.prog.funcNamed "deedhold/deedholdlaw18.AccessLevels" = some f) (hfn : Tryd.pinned.checked.prog.funcs[f]? = some fn) :
    false = Tryd.pinned.checked.prog.looks [] ∧ ∀ (j : Nat) t, fn.params[j]? = some t → Tryd.pinned.checked.prog.wantsStandIn t = false := by
  obtain rfl : f = 3 := Option.some.inj ((show Tryd.prog.funcNamed "deedhold/deedholdlaw18.AccessLevels" = some 3 by kernel_rfl).symm.trans hf) |>.symm
  obtain rfl : fn = Tryd.f3 := (Option.some.inj (Tryd.func3.symm.trans hfn)).symm
  refine ⟨by kernel_rfl, fun j t ht => ?_⟩
  rw [Tryd.params3] at ht
  have ht2 : t = 24 ∨ t = 3 ∨ t = 3 := by simpa using Array.mem_of_getElem? ht
  rcases ht2 with rfl | rfl | rfl
  all_goals first | exact (show Tryd.prog.wantsStandIn _ = false by kernel_rfl)

theorem card : Rows.AccessLevelsCardSaid :=
  Claim7.holds_tied_plain_at .later [] _ _ _ _ said (fun _ h => by cases h) (by kernel_rfl) (fun _ h => by cases h) accessLevels_row_tie rfl ⟨rfl, rfl⟩ (by kernel_rfl) rfl plain (by kernel_rfl)
#print axioms card
end Go.Proofs.YtemkhblogmdleaaDoor.accessLevels
