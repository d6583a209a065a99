/-
  PoolTakes: for every number and every list of numbers the law answers true, the table of the library being what its text lays. Conditions: none.
-/
import Derived.Test.YteecebklomeklaaDoorPoolRows
import Derived.Test.YteecebklomeklaaDoorCards
import Derived.Test.YteecebklomeklaaDoorTie
import Derived.Deep.DeepHandedRow
import Derived.Lib.LaidTab
namespace Go.Proofs.YteecebklomeklaaDoor.poolTakes
open Go.ChangeShapes Go.WideShapes Go.ChangeAt Go.RowKit
open po pnum
open base (ret_bool ret_int made up Blk Only Nums)
set_option linter.unusedVariables false

theorem gTab : Tryd.prog.globalNamed "math/bits.deBruijn64tab" = some 0 := by kernel_rfl
theorem gTabType : (Tryd.prog.globals[0]?).map (·.type) = some 71 := by kernel_rfl
theorem cells64 : Tryd.prog.cellsOf 71 = 64 := by kernel_rfl
theorem cells1 : Tryd.prog.cellsOf 5 = 1 := by kernel_rfl
theorem table {W : World} (h : laidMetH Tryd.prog Rows.poolTakesRow.laid W) : Lib.TabIs Tryd.prog W "math/bits.deBruijn64tab" .u8 [0, 1, 56, 2, 57, 49, 28, 3, 61, 58, 42, 50, 38, 29, 17, 4, 62, 47, 59, 36, 45, 43, 51, 22, 53, 39, 33, 30, 24, 18, 12, 5, 63, 55, 48, 27, 60, 41, 37, 16, 46, 35, 44, 21, 52, 32, 23, 11, 54, 26, 40, 15, 34, 20, 31, 10, 25, 14, 19, 9, 13, 8, 7, 6] :=
  Lib.tabIs_of_head (rest := []) gTab gTabType Tryd.underlying71 Tryd.underlying5 cells1 cells64 h
theorem tableOf {W : World} (h : laidMetH Tryd.prog Rows.poolTakesRow.laid W) : Tab W := by
  have c : ∀ k, k < 64 → W.cell? ⟨0, k, none⟩ = some (.int .u8 (Lib.deBruijn64tab.getD k 0 : Nat)) := by
    intro k hk
    have := (table h).cell gTab k (by simpa using hk)
    rw [this]
    have h2 : ∀ k : Fin 64, ([0, 1, 56, 2, 57, 49, 28, 3, 61, 58, 42, 50, 38, 29, 17, 4, 62, 47, 59, 36, 45, 43, 51, 22, 53, 39, 33, 30, 24, 18, 12, 5, 63, 55, 48, 27, 60, 41, 37, 16, 46, 35, 44, 21, 52, 32, 23, 11, 54, 26, 40, 15, 34, 20, 31, 10, 25, 14, 19, 9, 13, 8, 7, 6] : List Int).getD k.1 0 = (Lib.deBruijn64tab.getD k.1 0 : Nat) := by decide +kernel
    have h3 := h2 ⟨k, hk⟩
    rw [← h3]
  exact ⟨World.block_lt_of_cell? W _ (c 0 (by omega)), c⟩

set_option maxHeartbeats 1000000 in
theorem walk_no (w : World) (hT : Tab w) (z : Int) (A : Option Addr) (n c : Nat) (hm : n ≤ 9223372036854775807) (h : z < 0 ∨ 300 < z ∨ 100 < n) :
    Calls Tryd.prog 7 #[.int .i64 z, .slice A n c] w fun e w' => e = .returned (.bool true) ∧ Below w.heap.size w w' := by
  have AW := Lib.hid (awake_any w hT)
  clear hT
  by_cases q1 : z < 0
  · clear h
    go_enter Tryd.func7, Tryd.ntmps7
    go_wp2_with fail
    refine AW.out.mono ?_
    rintro e w1 ⟨rfl, hb⟩
    have HB := Lib.hid hb
    clear hb AW
    go_wp2_with fail
    go_ret
    exact ⟨rfl, HB.out⟩
  · by_cases q2 : 300 < z
    · clear h
      go_enter Tryd.func7, Tryd.ntmps7
      go_wp2_with fail
      refine AW.out.mono ?_
      rintro e w1 ⟨rfl, hb⟩
      have HB := Lib.hid hb
      clear hb AW
      go_wp2_with fail
      go_ret
      exact ⟨rfl, HB.out⟩
    · have q3 : 100 < n := by omega
      clear h
      go_enter Tryd.func7, Tryd.ntmps7
      go_wp2_with fail
      refine AW.out.mono ?_
      rintro e w1 ⟨rfl, hb⟩
      have HB := Lib.hid hb
      clear hb AW
      go_wp2_with fail
      go_ret
      exact ⟨rfl, HB.out⟩

set_option maxRecDepth 100000 in
set_option maxHeartbeats 4000000 in
theorem walk_yes (w : World) (hT : Tab w) (n : Nat) (A : Option Addr) (c : Nat) (l : List Int) (h1 : Nums .i64 w A l) (hn : n ≤ 300) (hl : l.length ≤ 100) (hc : l.length ≤ c) (hm : c ≤ 9223372036854775807) :
    Calls Tryd.prog 7 #[.int .i64 n, .slice A l.length c] w fun e w' => e = .returned (.bool true) ∧ Below w.heap.size w w' := by
  have N := Lib.hid (new_up n w (by omega) hT)
  have NN := Lib.hid h1
  have hmk := run_make_row' (P := Tryd.prog) 26 4 (.bool false) 1 Tryd.underlying26 info_bool rfl .i64 .i64 n (by omega) (by omega)
  have T0 := Lib.hid hT
  clear hT h1
  go_enter Tryd.func7, Tryd.ntmps7
  go_wp2_with fail
  refine N.out.mono ?_
  rintro e w1 ⟨rfl, hu⟩
  have U1 := Lib.hid hu
  clear hu N
  go_wp2_with fail
  go_loopw [36] (fun i wr => ∃ (k : Nat) (W : World), W = wr ∧ k ≤ n ∧ i = .int .i64 k ∧ Up w (w.heap.size + 1) w.heap.size (After (List.replicate n true) k) wr) (fun i _ => n - (intOf i).toNat)
  case atStart => exact ⟨0, _, rfl, by omega, rfl, U1.out⟩
  case round =>
    obtain ⟨k, w2, rfl, hk, rfl, hu⟩ := hrel
    by_cases hkn : k < n
    · have TK := Lib.hid (take_up hu (After.next (k := k) (by simpa using hkn) (by simp [List.getD, hkn])))
      rw [After.set (by simpa using hkn)] at TK
      clear hu U1
      go_wp2_with fail
      refine TK.out.mono ?_
      rintro e w3 ⟨rfl, hu, -⟩
      have U3 := Lib.hid hu
      clear hu TK
      go_wp2_with fail
      refine ⟨⟨k + 1, _, rfl, by omega, by go_num, U3.out⟩, by simp [intOf]; omega⟩
    · obtain rfl : k = n := by omega
      have hfull : After (List.replicate k true) k = List.replicate k false := by
        have := After.full (List.replicate k true)
        rwa [List.length_replicate] at this
      rw [hfull] at hu
      have TF := Lib.hid (take_full hu (none_free k))
      clear hu U1 hfull
      go_wp2_with fail
      refine TF.out.mono ?_
      rintro e w3 ⟨rfl, hu, -⟩
      have U3 := Lib.hid (hu.alloc (.cells (madeCells #[.bool false] k) 4))
      have L3 := Lib.hid hu.lts
      have B3 := Lib.hid (made_bools w3 k)
      have G3 := Lib.hid hu.below.size
      clear hu TF
      go_wp2_with fail
      have NT : ¬ Two (w.heap.size + 1) w.heap.size w3.heap.size := by have hL := L3.out; rintro (q | q) <;> omega
      obtain ⟨gb, hgb⟩ : ∃ gb, gb = w3.heap.size := ⟨_, rfl⟩
      rw [← hgb] at B3 NT L3 G3 ⊢
      generalize w3.alloc (.cells (madeCells #[.bool false] k) 4) = w4 at *
      have D := Lib.hid (show gb ≠ w.heap.size + 1 ∧ gb ≠ w.heap.size ∧ w.heap.size ≤ gb ∧ 0 < gb from ⟨by have := L3.out; omega, by have := L3.out; omega, G3.out, by have := L3.out; omega⟩)
      have NTH := Lib.hid NT
      clear hgb L3 G3 NT hmk
      go_loopw [63] (fun i wr => ∃ (j : Nat) (W : World) (y : List Bool), W = wr ∧ j ≤ l.length ∧ i = .int .i64 j ∧ y.length = k ∧ Up w (w.heap.size + 1) w.heap.size y wr ∧ RowB wr gb y) (fun i _ => l.length - (intOf i).toNat)
      case atStart => exact ⟨0, _, _, rfl, by omega, rfl, by simp, U3.out, B3.out⟩
      case round =>
        obtain ⟨j, w5, y, rfl, hj, rfl, hy, hu, hB⟩ := hrel
        have Y := Lib.hid hy
        have U := Lib.hid hu
        have B := Lib.hid hB
        clear hu hB U3 B3
        by_cases hjl : j < l.length
        · obtain ⟨b, off, rfl, _, hcell⟩ := (base.Nums.keep NN.out U.out.below) (by omega)
          have hv := hcell j hjl
          clear hcell hy
          generalize l.getD j 0 = v at *
          by_cases q1 : v < 0
          · have G := Lib.hid (give_far (i := v) U.out (by omega))
            go_wp2_with fail
            refine G.out.mono ?_
            rintro e w6 ⟨rfl, hu, ho⟩
            have U6 := Lib.hid hu
            have B6 := Lib.hid (B.out.only ho NTH.out)
            clear hu ho G
            go_wp2_with fail
            refine ⟨⟨j + 1, _, y, rfl, by omega, by go_num, Y.out, U6.out, B6.out⟩, by simp [intOf]; omega⟩
          · by_cases q2 : (k : Int) ≤ v
            · have G := Lib.hid (give_far (i := v) U.out (by have := Y.out; omega))
              go_wp2_with fail
              refine G.out.mono ?_
              rintro e w6 ⟨rfl, hu, ho⟩
              have U6 := Lib.hid hu
              have B6 := Lib.hid (B.out.only ho NTH.out)
              clear hu ho G
              go_wp2_with fail
              refine ⟨⟨j + 1, _, y, rfl, by omega, by go_num, Y.out, U6.out, B6.out⟩, by simp [intOf]; omega⟩
            · obtain ⟨m, rfl⟩ : ∃ m : Nat, v = m := ⟨v.toNat, by omega⟩
              have hmk : m < k := by omega
              have hc := B.out.cell (j := m) (by rw [Y.out]; exact hmk)
              have hf := B.out.free m
              cases hym : y.getD m false with
              | true =>
                rw [hym] at hc
                have G := Lib.hid (give_twice (i := m) U.out (by rw [Y.out]; exact hmk) hym)
                clear hym
                go_wp2_with fail
                refine G.out.mono ?_
                rintro e w6 ⟨rfl, hu, ho⟩
                have U6 := Lib.hid hu
                have B6 := Lib.hid (B.out.only ho NTH.out)
                clear hu ho G
                go_wp2_with fail
                refine ⟨⟨j + 1, _, y, rfl, by omega, by go_num, Y.out, U6.out, B6.out⟩, by simp [intOf]; omega⟩
              | false =>
                rw [hym] at hc
                have G := Lib.hid (give_up (i := m) (U.out.far D.out.1 D.out.2.1 D.out.2.2.1 D.out.2.2.2 m (.bool true)) (by rw [Y.out]; exact hmk) hym)
                have BP := Lib.hid (B.out.put (j := m) (by rw [Y.out]; exact hmk) true)
                clear hym
                go_wp2_with fail
                refine G.out.mono ?_
                rintro e w6 ⟨rfl, hu, ho⟩
                have U6 := Lib.hid hu
                have B6 := Lib.hid (BP.out.only ho NTH.out)
                clear hu ho G BP
                go_wp2_with fail
                refine ⟨⟨j + 1, _, y.set m true, rfl, by omega, by go_num, by rw [List.length_set]; exact Y.out, U6.out, B6.out⟩, by simp [intOf]; omega⟩
        · have hjl2 : j = l.length := by omega
          subst hjl2
          go_wp2_with fail
          clear hy
          go_loopw [91] (fun i wr => ∃ (m : Nat) (W : World), W = wr ∧ m ≤ k ∧ i = .int .i64 m ∧ Up w (w.heap.size + 1) w.heap.size (After y m) wr ∧ RowB wr gb y) (fun i _ => k - (intOf i).toNat)
          case atStart => exact ⟨0, _, rfl, by omega, rfl, U.out, B.out⟩
          case round =>
            obtain ⟨m, w7, rfl, hmk, rfl, hu, hB⟩ := hrel
            by_cases hm2 : m < k
            · have hc := hB.cell (j := m) (by rw [Y.out]; exact hm2)
              have B7 := Lib.hid hB
              have hyl := Y.out
              cases hym : y.getD m false with
              | true =>
                rw [hym] at hc
                have TK := Lib.hid (take_up hu (After.next (by omega) hym))
                rw [After.set (by omega)] at TK
                clear hym hyl hu hB
                go_wp2_with fail
                refine TK.out.mono ?_
                rintro e w8 ⟨rfl, hu, ho⟩
                have U8 := Lib.hid hu
                have B8 := Lib.hid (B7.out.only ho NTH.out)
                clear hu ho TK
                go_wp2_with fail
                refine ⟨⟨m + 1, _, rfl, by omega, by go_num, U8.out, B8.out⟩, by simp [intOf]; omega⟩
              | false =>
                rw [hym] at hc
                rw [After.pass (by omega) hym] at hu
                have U8 := Lib.hid hu
                clear hym hyl hu hB
                go_wp2_with fail
                refine ⟨⟨m + 1, _, rfl, by omega, by go_num, U8.out, B7.out⟩, by simp [intOf]; omega⟩
            · obtain rfl : m = k := by omega
              have hfull : After y m = List.replicate m false := by
                have := After.full y
                rwa [Y.out] at this
              rw [hfull] at hu
              have F := Lib.hid (free_up hu)
              rw [count_none] at F
              have AW := Lib.hid (awake_any w7 hu.tab)
              have BL := Lib.hid hu.below
              rw [show ((0 : Nat) : Int) = 0 from rfl] at F
              clear hu hB hfull
              go_wp2_with fail
              refine F.out.mono ?_
              rintro e w8 ⟨rfl, rfl⟩
              clear F
              go_wp2_with fail
              refine AW.out.mono ?_
              rintro e w9 ⟨rfl, hb⟩
              have R := Lib.hid (up BL.out hb BL.out.size)
              clear hb AW BL
              go_wp2_with fail
              go_ret
              exact ⟨rfl, R.out⟩

theorem walk (w : World) (hT : Tab w) (z : Int) (hz : (Lit.int .i64 z).wf = true) (A : Option Addr) (c : Nat) (l : List Int) (h1 : Nums .i64 w A l) (hc : l.length ≤ c) (hm : c ≤ maxLen) (hw : ∀ n ∈ l, (Lit.int .i64 n).wf = true) :
    Calls Tryd.prog 7 #[.int .i64 z, .slice A l.length c] w fun e w' => e = .returned (.bool true) ∧ Below w.heap.size w w' := by
  unfold maxLen at hm
  by_cases q : z < 0 ∨ 300 < z ∨ 100 < l.length
  · exact walk_no w hT z A _ c (by omega) q
  · obtain ⟨n, rfl⟩ : ∃ n : Nat, z = n := ⟨z.toNat, by omega⟩
    exact walk_yes w hT n A c l h1 (by omega) (by omega) hc (by omega)

theorem contract (H : Type) (enc : TypeId × Value → H) (W : World) (bs : Nat) (args : Array Value) (ds gs : List (DataW H)) (before : List MemPlace)
    (hval : ∀ (j : Nat) t v, Tryd.f7.params[j]? = some t → args[j]? = some v → Value.okWide Tryd.prog W .any bs t v)
    (hW : DataW.Whole enc Tryd.prog Tryd.f7.params.toList Rows.poolTakesSpec.vars false W args.toList ds gs before) (hL : laidMetH Tryd.prog Rows.poolTakesRow.laid W) :
    Calls Tryd.prog 7 args W fun e W' => ∃ v, e = .returned v ∧ Rows.poolTakesSpec.post enc Tryd.prog Tryd.f7 false true false false W args v W' := by
  have hW' := hW
  obtain ⟨p, q, hA0, hV, rfl, _, _⟩ := hW
  have hA : DataW.TrodAll enc Tryd.prog W 0 (fun _ => true) true Tryd.f7.params.toList args.toList ds p := hA0
  rw [Tryd.params7] at hA hval
  obtain ⟨v0, vs0, d0, ds0, p0, q0, hargs, rfl, rfl, h0, r0⟩ := trodAll_cons hA
  obtain ⟨v1, vs1, d1, ds1, p1, q1, rfl, rfl, rfl, h1, r1⟩ := trodAll_cons r0
  obtain ⟨rfl, rfl, rfl⟩ := trodAll_nil r1
  obtain rfl : args = #[v0, v1] := by cases args; simp_all
  obtain ⟨rfl, rfl⟩ := trodVars_none hV
  obtain ⟨a0, rfl, rfl, rfl, w0⟩ := open_int Tryd.underlying3 (hval 0 3 v0 rfl rfl) h0
  obtain ⟨A1, c1, l1, rfl, b1, m1, n1, w1⟩ := base.open_nums Tryd.underlying53 Tryd.underlying3 (by kernel_rfl) (hval 1 53 v1 rfl rfl) h1
  clear hA0
  refine (walk W (tableOf hL) a0 w0 A1 c1 l1 n1 b1 m1 w1).mono fun e W' ⟨he, hb⟩ => ?_
  subst he
  exact ⟨_, rfl, base.law_post base.laid (by kernel_rfl) rfl rfl Tryd.underlying4 hW' rfl rfl rfl hb⟩

noncomputable def laidWorld (os : Os) : World :=
  { World.holding Tryd.prog os ⟨#[], #[], []⟩ with heap := (World.holding Tryd.prog os ⟨#[], #[], []⟩).heap.modify 0 fun
      | .cells _ t frozen => .cells #[.int .u8 0, .int .u8 1, .int .u8 56, .int .u8 2, .int .u8 57, .int .u8 49, .int .u8 28, .int .u8 3, .int .u8 61, .int .u8 58, .int .u8 42, .int .u8 50, .int .u8 38, .int .u8 29, .int .u8 17, .int .u8 4, .int .u8 62, .int .u8 47, .int .u8 59, .int .u8 36, .int .u8 45, .int .u8 43, .int .u8 51, .int .u8 22, .int .u8 53, .int .u8 39, .int .u8 33, .int .u8 30, .int .u8 24, .int .u8 18, .int .u8 12, .int .u8 5, .int .u8 63, .int .u8 55, .int .u8 48, .int .u8 27, .int .u8 60, .int .u8 41, .int .u8 37, .int .u8 16, .int .u8 46, .int .u8 35, .int .u8 44, .int .u8 21, .int .u8 52, .int .u8 32, .int .u8 23, .int .u8 11, .int .u8 54, .int .u8 26, .int .u8 40, .int .u8 15, .int .u8 34, .int .u8 20, .int .u8 31, .int .u8 10, .int .u8 25, .int .u8 14, .int .u8 19, .int .u8 9, .int .u8 13, .int .u8 8, .int .u8 7, .int .u8 6] t frozen
      | o => o }
theorem laid_met (os : Os) : laidMet Tryd.prog Rows.poolTakesRow.laid ((laidWorld os).forCall (fun _ _ => 0) ⟨#[], #[.int .i64 0, .slice none 0 0], []⟩).memory :=
  laidMet_of_run' 8 (by kernel_rfl) (by kernel_rfl)
theorem reads (os : Os) {H : Type} (enc : TypeId × Value → H) : ∃ places, DataW.whole enc Tryd.prog ((laidWorld os).forCall (fun _ _ => 0) ⟨#[], #[.int .i64 0, .slice none 0 0], []⟩).memory Tryd.f7.params.toList Rows.poolTakesSpec.vars false (#[.int .i64 0, .slice none 0 0] : Array Value).toList 8 = some ([.lit (.int .i64 0), .nil], [], places) :=
  ⟨[], by kernel_rfl⟩

set_option maxRecDepth 100000 in
theorem lifted (os : Os) (started : os.Started) (H : Type) (enc : TypeId × Value → H) (F : Stop.Interp) :
    ReturnsInHanded {} Tryd.checked os 7 .any ((OpenSpec.ofChange Rows.poolTakesSpec).preRow enc Tryd.prog Tryd.f7 Rows.poolTakesRow.domain false Rows.poolTakesRow.laid) (((OpenSpec.ofChange Rows.poolTakesSpec).at F).post enc Tryd.prog Tryd.f7 false true false false) := by
  obtain ⟨places, hx⟩ := reads os enc
  refine returnsInHanded_of_row (C := Tryd.checked) (s := OpenSpec.ofChange Rows.poolTakesSpec) base.own started (by kernel_rfl) Tryd.func7
    (witness_row_at (enc := enc) (C := Tryd.checked) false (laidWorld os) #[.int .i64 0, .slice none 0 0] rfl (by kernel_rfl) (by kernel_rfl) (by kernel_rfl)
      (OpenSpec.preRow_of_cond 8 hx (by kernel_rfl) (fun k hk => by cases hk) (by kernel_rfl) (laid_met os))) ?_
  intro W bs args ds gs before hval hW _ _ _ hL _ _
  exact contract H enc W bs args ds gs before hval hW hL

theorem said : Rows.PoolTakesSaid :=
  OpenClaim.holds_of_cond 7 Tryd.f7 rfl rfl rfl rfl rfl rfl rfl ⟨rfl, rfl, rfl, rfl, rfl⟩ rfl rfl rfl rfl rfl (by kernel_rfl) Tryd.func7 (by kernel_rfl)
    (of_decide_eq_true (by kernel_rfl)) (by unfold Func.isWrapper; first | (rw [if_pos (by decide +kernel)]; kernel_rfl) | (rw [if_neg (by decide +kernel)]; exact ⟨rfl, rfl⟩))
    (fun os started H enc _ F => by rw [OpenClaim.pre_eq_preRow]; exact lifted os started H enc F)

theorem plain (f : FuncId) (fn : Func) (hf : Tryd.pinned.checked.prog.funcNamed "deedhold/deedholdlaw07.PoolTakes" = some f) (hfn : Tryd.pinned.checked.prog.funcs[f]? = some fn) :
    false = Tryd.pinned.checked.prog.looks [] ∧ ∀ (j : Nat) t, fn.params[j]? = some t → Tryd.pinned.checked.prog.wantsStandIn t = false := by
  obtain rfl : f = 7 := Option.some.inj ((show Tryd.prog.funcNamed "deedhold/deedholdlaw07.PoolTakes" = some 7 by kernel_rfl).symm.trans hf) |>.symm
  obtain rfl : fn = Tryd.f7 := (Option.some.inj (Tryd.func7.symm.trans hfn)).symm
  refine ⟨by kernel_rfl, fun j t ht => ?_⟩
  rw [Tryd.params7] at ht
  have ht2 : t = 3 ∨ t = 53 := by simpa using Array.mem_of_getElem? ht
  rcases ht2 with rfl | rfl
  all_goals first | exact (show Tryd.prog.wantsStandIn _ = false by kernel_rfl)

theorem card : Rows.PoolTakesCardSaid :=
  Claim7.holds_tied_plain_at .later [] _ _ _ _ said (fun _ h => by cases h) (by kernel_rfl) (fun _ h => by cases h) poolTakes_row_tie rfl ⟨rfl, rfl⟩ (by kernel_rfl) rfl plain (by kernel_rfl)
#print axioms card
end Go.Proofs.YteecebklomeklaaDoor.poolTakes
