/-
  PoolPlays: for every number and every list of calls the law answers true, the table of the library being what its text lays. Conditions: none.
-/
import Derived.Test.YteecebklomeklaaDoorPoolS
import Derived.Test.YteecebklomeklaaDoorStructs
import Derived.Test.YteecebklomeklaaDoorCards
import Derived.Test.YteecebklomeklaaDoorTie
import Derived.Deep.DeepHandedRow
import Derived.Lib.LaidTab
namespace Go.Proofs.YteecebklomeklaaDoor.poolPlays
open Go.ChangeShapes Go.WideShapes Go.ChangeAt Go.RowKit
open po pnum
open base (ret_bool ret_int made up Blk Only Nums IntRows)
set_option linter.unusedVariables false

theorem gTab : Tryd.prog.globalNamed "math/bits.deBruijn64tab" = some 0 := by kernel_rfl
theorem gTabType : (Tryd.prog.globals[0]?).map (·.type) = some 71 := by kernel_rfl
theorem cells64 : Tryd.prog.cellsOf 71 = 64 := by kernel_rfl
theorem cells1 : Tryd.prog.cellsOf 5 = 1 := by kernel_rfl
theorem table {W : World} (h : laidMetH Tryd.prog Rows.poolPlaysRow.laid W) : Lib.TabIs Tryd.prog W "math/bits.deBruijn64tab" .u8 [0, 1, 56, 2, 57, 49, 28, 3, 61, 58, 42, 50, 38, 29, 17, 4, 62, 47, 59, 36, 45, 43, 51, 22, 53, 39, 33, 30, 24, 18, 12, 5, 63, 55, 48, 27, 60, 41, 37, 16, 46, 35, 44, 21, 52, 32, 23, 11, 54, 26, 40, 15, 34, 20, 31, 10, 25, 14, 19, 9, 13, 8, 7, 6] :=
  Lib.tabIs_of_head (rest := []) gTab gTabType Tryd.underlying71 Tryd.underlying5 cells1 cells64 h
theorem tableOf {W : World} (h : laidMetH Tryd.prog Rows.poolPlaysRow.laid W) : Tab W := by
  have c : ∀ k, k < 64 → W.cell? ⟨0, k, none⟩ = some (.int .u8 (Lib.deBruijn64tab.getD k 0 : Nat)) := by
    intro k hk
    have := (table h).cell gTab k (by simpa using hk)
    rw [this]
    have h2 : ∀ k : Fin 64, ([0, 1, 56, 2, 57, 49, 28, 3, 61, 58, 42, 50, 38, 29, 17, 4, 62, 47, 59, 36, 45, 43, 51, 22, 53, 39, 33, 30, 24, 18, 12, 5, 63, 55, 48, 27, 60, 41, 37, 16, 46, 35, 44, 21, 52, 32, 23, 11, 54, 26, 40, 15, 34, 20, 31, 10, 25, 14, 19, 9, 13, 8, 7, 6] : List Int).getD k.1 0 = (Lib.deBruijn64tab.getD k.1 0 : Nat) := by decide +kernel
    have h3 := h2 ⟨k, hk⟩
    rw [← h3]
  exact ⟨World.block_lt_of_cell? W _ (c 0 (by omega)), c⟩

set_option maxHeartbeats 1000000 in
theorem new_bad (z : Int) (w : World) (h : z < 0 ∨ 65536 < z) :
    Calls Tryd.prog 9 #[.int .i64 z] w fun e w' => e = .returned (.pointer none) ∧ w' = w := by
  by_cases q : z < 0
  · clear h
    go_enter Tryd.func9, Tryd.ntmps9
    go_wp2_with fail
    go_ret
    exact ⟨rfl, rfl⟩
  · have q2 : 65536 < z := by omega
    clear h
    go_enter Tryd.func9, Tryd.ntmps9
    go_wp2_with fail
    go_ret
    exact ⟨rfl, rfl⟩
set_option maxHeartbeats 1000000 in
theorem walk_no (w : World) (hT : Tab w) (z : Int) (A : Option Addr) (n c : Nat) (hm : n ≤ 9223372036854775807) (h : 300 < z ∧ z ≤ 65536 ∨ 200 < n) :
    Calls Tryd.prog 3 #[.int .i64 z, .slice A n c] w fun e w' => e = .returned (.bool true) ∧ Below w.heap.size w w' := by
  have AW := Lib.hid (awake_any w hT)
  clear hT
  by_cases q1 : 300 < z ∧ z ≤ 65536
  · obtain ⟨q1, q2⟩ := q1
    clear h
    go_enter Tryd.func3, Tryd.ntmps3
    go_wp2_with fail
    refine AW.out.mono ?_
    rintro e w1 ⟨rfl, hb⟩
    have HB := Lib.hid hb
    clear hb AW
    go_wp2_with fail
    go_ret
    exact ⟨rfl, HB.out⟩
  · have q3 : 200 < n := by omega
    by_cases q2 : 300 < z
    · have q4 : ¬ z ≤ 65536 := by omega
      clear h q1
      go_enter Tryd.func3, Tryd.ntmps3
      go_wp2_with fail
      refine AW.out.mono ?_
      rintro e w1 ⟨rfl, hb⟩
      have HB := Lib.hid hb
      clear hb AW
      go_wp2_with fail
      go_ret
      exact ⟨rfl, HB.out⟩
    · clear h q1
      go_enter Tryd.func3, Tryd.ntmps3
      go_wp2_with fail
      refine AW.out.mono ?_
      rintro e w1 ⟨rfl, hb⟩
      have HB := Lib.hid hb
      clear hb AW
      go_wp2_with fail
      go_ret
      exact ⟨rfl, HB.out⟩
set_option maxHeartbeats 1000000 in
theorem walk_bad (w : World) (hT : Tab w) (z : Int) (A : Option Addr) (n c : Nat) (hn : n ≤ 200) (h : z < 0 ∨ 65536 < z) :
    Calls Tryd.prog 3 #[.int .i64 z, .slice A n c] w fun e w' => e = .returned (.bool true) ∧ Below w.heap.size w w' := by
  have AW := Lib.hid (awake_any w hT)
  have NB := Lib.hid (new_bad z w h)
  clear hT
  by_cases q1 : z < 0
  · clear h
    go_enter Tryd.func3, Tryd.ntmps3
    go_wp2_with fail
    refine NB.out.mono ?_
    rintro e w0 ⟨rfl, rfl⟩
    clear NB
    go_wp2_with fail
    refine AW.out.mono ?_
    rintro e w1 ⟨rfl, hb⟩
    have HB := Lib.hid hb
    clear hb AW
    go_wp2_with fail
    go_ret
    exact ⟨rfl, HB.out⟩
  · have q2 : 65536 < z := by omega
    clear h
    go_enter Tryd.func3, Tryd.ntmps3
    go_wp2_with fail
    refine NB.out.mono ?_
    rintro e w0 ⟨rfl, rfl⟩
    clear NB
    go_wp2_with fail
    refine AW.out.mono ?_
    rintro e w1 ⟨rfl, hb⟩
    have HB := Lib.hid hb
    clear hb AW
    go_wp2_with fail
    go_ret
    exact ⟨rfl, HB.out⟩

set_option maxRecDepth 100000 in
set_option maxHeartbeats 4000000 in
theorem walk_yes (w : World) (hT : Tab w) (n : Nat) (A : Option Addr) (m c : Nat) (F : Nat → Nat → Int) (h1 : IntRows w A m 2 F) (hn : n ≤ 300) (hl : m ≤ 200) (hc : m ≤ c) (hm : c ≤ 9223372036854775807) :
    Calls Tryd.prog 3 #[.int .i64 n, .slice A m c] w fun e w' => e = .returned (.bool true) ∧ Below w.heap.size w w' := by
  have N := Lib.hid (new_up n w (by omega) hT)
  have NN := Lib.hid h1
  clear hT h1
  go_enter Tryd.func3, Tryd.ntmps3
  go_wp2_with fail
  refine N.out.mono ?_
  rintro e w1 ⟨rfl, hu⟩
  have U1 := Lib.hid hu
  have RN := Lib.hid (rnew_any n w1 (by omega))
  clear hu N
  go_wp2_with fail
  refine RN.out.mono ?_
  rintro e w2 ⟨v, rfl, ho, hb⟩
  obtain ⟨Ax, cx, rfl, hxc, hxm, hx⟩ := ho.open_
  have U2 := Lib.hid (U1.out.below' hb)
  have R2 := Lib.hid (show Ro w (w.heap.size + 1) w.heap.size Ax (List.replicate n true) w2 from fun h0 => by
    rcases hx with ⟨_, e, _⟩ | ⟨gx, e, hge, hr⟩
    · rw [e] at h0; simp at h0
    · have := U1.out.lts
      have := U1.out.below.size
      exact ⟨gx, e, hr, by omega, by omega, by omega, by omega⟩)
  clear ho hb hx hxm U1 RN
  rw [List.length_replicate] at hxc ⊢
  go_wp2_with fail
  go_loopw [40] (fun i wr => ∃ (j : Nat) (W : World) (x : List Bool), W = wr ∧ j ≤ m ∧ i = .int .i64 j ∧ x.length = n ∧ Up w (w.heap.size + 1) w.heap.size x wr ∧ Ro w (w.heap.size + 1) w.heap.size Ax x wr) (fun i _ => m - (intOf i).toNat)
  case atStart => exact ⟨0, _, _, rfl, by omega, rfl, by simp, U2.out, R2.out⟩
  case round =>
    obtain ⟨j, w3, x, rfl, hj, rfl, hxl, hu, hr⟩ := hrel
    have XL := Lib.hid hxl
    have U := Lib.hid hu
    have R := Lib.hid hr
    clear hu hr U2 R2 hxl
    by_cases hjm : j < m
    · obtain ⟨b, off, rfl, _, hcell⟩ := (base.IntRows.keep NN.out U.out.below) (by omega)
      have e0 := hcell j hjm 0 (by omega)
      have e1 := hcell j hjm 1 (by omega)
      rw [Nat.add_zero] at e0
      clear hcell
      generalize F j 0 = K at *
      generalize F j 1 = z at *
      have hbx := made w3 (.cells #[.int .i64 K, .int .i64 z] 29)
      have ST := Lib.hid (step_any w _ _ _ Ax cx x K z (U.out.below' hbx) (R.out.below hbx))
      rw [XL.out] at ST
      have bx : Blk (w3.alloc (.cells #[.int .i64 K, .int .i64 z] 29)) w3.heap.size 29 #[.int .i64 K, .int .i64 z] := Blk.new _ _ _
      have b0 := bx.cell 0
      have b1 := bx.cell 1
      clear bx hbx
      go_wp2_with fail
      refine ST.out.mono ?_
      rintro e w4 ⟨rfl, x', hx', hu', hr', -⟩
      have U4 := Lib.hid hu'
      have R4 := Lib.hid hr'
      have X4 := Lib.hid hx'
      clear hu' hr' hx' ST b0 b1
      go_wp2_with fail
      refine ⟨⟨j + 1, _, x', rfl, by omega, by go_num, X4.out, U4.out, R4.out⟩, by simp [intOf]; omega⟩
    · obtain rfl : j = m := by omega
      have SA := Lib.hid (same_any w w3 _ _ Ax cx x U.out R.out.lay)
      rw [XL.out] at SA
      go_wp2_with fail
      refine SA.out.mono ?_
      rintro e w4 ⟨rfl, hb4⟩
      have AW := Lib.hid (awake_any w4 (U.out.tab.below hb4))
      have B4 := Lib.hid (up U.out.below hb4 U.out.below.size)
      clear hb4 SA
      go_wp2_with fail
      refine AW.out.mono ?_
      rintro e w5 ⟨rfl, hb5⟩
      have B5 := Lib.hid (up B4.out hb5 B4.out.size)
      clear hb5 AW B4
      go_wp2_with fail
      go_ret
      exact ⟨rfl, B5.out⟩

theorem walk (w : World) (hT : Tab w) (z : Int) (hz : (Lit.int .i64 z).wf = true) (A : Option Addr) (m c : Nat) (F : Nat → Nat → Int) (h1 : IntRows w A m 2 F) (hc : m ≤ c) (hm : c ≤ maxLen) (hw : ∀ i, i < m → ∀ j, j < 2 → -9223372036854775808 ≤ F i j ∧ F i j ≤ 9223372036854775807) :
    Calls Tryd.prog 3 #[.int .i64 z, .slice A m c] w fun e w' => e = .returned (.bool true) ∧ Below w.heap.size w w' := by
  unfold maxLen at hm
  by_cases q : 300 < z ∧ z ≤ 65536 ∨ 200 < m
  · exact walk_no w hT z A _ c (by omega) q
  · by_cases q2 : z < 0 ∨ 65536 < z
    · exact walk_bad w hT z A m c (by omega) q2
    · obtain ⟨n, rfl⟩ : ∃ n : Nat, z = n := ⟨z.toNat, by omega⟩
      exact walk_yes w hT n A m c F h1 (by omega) (by omega) hc (by omega)

theorem contract (H : Type) (enc : TypeId × Value → H) (W : World) (bs : Nat) (args : Array Value) (ds gs : List (DataW H)) (before : List MemPlace)
    (hval : ∀ (j : Nat) t v, Tryd.f3.params[j]? = some t → args[j]? = some v → Value.okWide Tryd.prog W .any bs t v)
    (hW : DataW.Whole enc Tryd.prog Tryd.f3.params.toList Rows.poolPlaysSpec.vars false W args.toList ds gs before) (hL : laidMetH Tryd.prog Rows.poolPlaysRow.laid W) :
    Calls Tryd.prog 3 args W fun e W' => ∃ v, e = .returned v ∧ Rows.poolPlaysSpec.post enc Tryd.prog Tryd.f3 false true false false W args v W' := by
  have hW' := hW
  obtain ⟨p, q, hA0, hV, rfl, _, _⟩ := hW
  have hA : DataW.TrodAll enc Tryd.prog W 0 (fun _ => true) true Tryd.f3.params.toList args.toList ds p := hA0
  rw [Tryd.params3] at hA hval
  obtain ⟨v0, vs0, d0, ds0, p0, q0, hargs, rfl, rfl, h0, r0⟩ := trodAll_cons hA
  obtain ⟨v1, vs1, d1, ds1, p1, q1, rfl, rfl, rfl, h1, r1⟩ := trodAll_cons r0
  obtain ⟨rfl, rfl, rfl⟩ := trodAll_nil r1
  obtain rfl : args = #[v0, v1] := by cases args; simp_all
  obtain ⟨rfl, rfl⟩ := trodVars_none hV
  obtain ⟨a0, rfl, rfl, rfl, w0⟩ := open_int Tryd.underlying3 (hval 0 3 v0 rfl rfl) h0
  obtain ⟨A1, k1, c1, F1, rfl, b1, m1, n1, w1⟩ := base.open_introws 2 Tryd.underlying22 Tryd.underlying29 (by kernel_rfl) (by kernel_rfl) rfl (by omega) (by intro j f hj; rcases j with _ | _ | j <;> simp at hj <;> (subst hj; exact Tryd.underlying3)) (hval 1 22 v1 rfl rfl) h1
  clear hA0
  refine (walk W (tableOf hL) a0 w0 A1 k1 c1 F1 n1 b1 m1 w1).mono fun e W' ⟨he, hb⟩ => ?_
  subst he
  exact ⟨_, rfl, base.law_post base.laid (by kernel_rfl) rfl rfl Tryd.underlying4 hW' rfl rfl rfl hb⟩

noncomputable def laidWorld (os : Os) : World :=
  { World.holding Tryd.prog os ⟨#[], #[], []⟩ with heap := (World.holding Tryd.prog os ⟨#[], #[], []⟩).heap.modify 0 fun
      | .cells _ t frozen => .cells #[.int .u8 0, .int .u8 1, .int .u8 56, .int .u8 2, .int .u8 57, .int .u8 49, .int .u8 28, .int .u8 3, .int .u8 61, .int .u8 58, .int .u8 42, .int .u8 50, .int .u8 38, .int .u8 29, .int .u8 17, .int .u8 4, .int .u8 62, .int .u8 47, .int .u8 59, .int .u8 36, .int .u8 45, .int .u8 43, .int .u8 51, .int .u8 22, .int .u8 53, .int .u8 39, .int .u8 33, .int .u8 30, .int .u8 24, .int .u8 18, .int .u8 12, .int .u8 5, .int .u8 63, .int .u8 55, .int .u8 48, .int .u8 27, .int .u8 60, .int .u8 41, .int .u8 37, .int .u8 16, .int .u8 46, .int .u8 35, .int .u8 44, .int .u8 21, .int .u8 52, .int .u8 32, .int .u8 23, .int .u8 11, .int .u8 54, .int .u8 26, .int .u8 40, .int .u8 15, .int .u8 34, .int .u8 20, .int .u8 31, .int .u8 10, .int .u8 25, .int .u8 14, .int .u8 19, .int .u8 9, .int .u8 13, .int .u8 8, .int .u8 7, .int .u8 6] t frozen
      | o => o }
theorem laid_met (os : Os) : laidMet Tryd.prog Rows.poolPlaysRow.laid ((laidWorld os).forCall (fun _ _ => 0) ⟨#[], #[.int .i64 0, .slice none 0 0], []⟩).memory :=
  laidMet_of_run' 8 (by kernel_rfl) (by kernel_rfl)
theorem reads (os : Os) {H : Type} (enc : TypeId × Value → H) : ∃ places, DataW.whole enc Tryd.prog ((laidWorld os).forCall (fun _ _ => 0) ⟨#[], #[.int .i64 0, .slice none 0 0], []⟩).memory Tryd.f3.params.toList Rows.poolPlaysSpec.vars false (#[.int .i64 0, .slice none 0 0] : Array Value).toList 8 = some ([.lit (.int .i64 0), .nil], [], places) :=
  ⟨[], by kernel_rfl⟩

set_option maxRecDepth 100000 in
theorem lifted (os : Os) (started : os.Started) (H : Type) (enc : TypeId × Value → H) (F : Stop.Interp) :
    ReturnsInHanded {} Tryd.checked os 3 .any ((OpenSpec.ofChange Rows.poolPlaysSpec).preRow enc Tryd.prog Tryd.f3 Rows.poolPlaysRow.domain false Rows.poolPlaysRow.laid) (((OpenSpec.ofChange Rows.poolPlaysSpec).at F).post enc Tryd.prog Tryd.f3 false true false false) := by
  obtain ⟨places, hx⟩ := reads os enc
  refine returnsInHanded_of_row (C := Tryd.checked) (s := OpenSpec.ofChange Rows.poolPlaysSpec) base.own started (by kernel_rfl) Tryd.func3
    (witness_row_at (enc := enc) (C := Tryd.checked) false (laidWorld os) #[.int .i64 0, .slice none 0 0] rfl (by kernel_rfl) (by kernel_rfl) (by kernel_rfl)
      (OpenSpec.preRow_of_cond 8 hx (by kernel_rfl) (fun k hk => by cases hk) (by kernel_rfl) (laid_met os))) ?_
  intro W bs args ds gs before hval hW _ _ _ hL _ _
  exact contract H enc W bs args ds gs before hval hW hL

theorem said : Rows.PoolPlaysSaid :=
  OpenClaim.holds_of_cond 3 Tryd.f3 rfl rfl rfl rfl rfl rfl rfl ⟨rfl, rfl, rfl, rfl, rfl⟩ rfl rfl rfl rfl rfl (by kernel_rfl) Tryd.func3 (by kernel_rfl)
    (of_decide_eq_true (by kernel_rfl)) (by unfold Func.isWrapper; first | (rw [if_pos (by decide +kernel)]; kernel_rfl) | (rw [if_neg (by decide +kernel)]; exact ⟨rfl, rfl⟩))
    (fun os started H enc _ F => by rw [OpenClaim.pre_eq_preRow]; exact lifted os started H enc F)

theorem plain (f : FuncId) (fn : Func) (hf : Tryd.pinned.checked.prog.funcNamed "deedhold/deedholdlaw07.PoolPlays" = some f) (hfn : Tryd.pinned.checked.prog.funcs[f]? = some fn) :
    false = Tryd.pinned.checked.prog.looks [] ∧ ∀ (j : Nat) t, fn.params[j]? = some t → Tryd.pinned.checked.prog.wantsStandIn t = false := by
  obtain rfl : f = 3 := Option.some.inj ((show Tryd.prog.funcNamed "deedhold/deedholdlaw07.PoolPlays" = some 3 by kernel_rfl).symm.trans hf) |>.symm
  obtain rfl : fn = Tryd.f3 := (Option.some.inj (Tryd.func3.symm.trans hfn)).symm
  refine ⟨by kernel_rfl, fun j t ht => ?_⟩
  rw [Tryd.params3] at ht
  have ht2 : t = 3 ∨ t = 22 := by simpa using Array.mem_of_getElem? ht
  rcases ht2 with rfl | rfl
  all_goals first | exact (show Tryd.prog.wantsStandIn _ = false by kernel_rfl)

theorem card : Rows.PoolPlaysCardSaid :=
  Claim7.holds_tied_plain_at .later [] _ _ _ _ said (fun _ h => by cases h) (by kernel_rfl) (fun _ h => by cases h) poolPlays_row_tie rfl ⟨rfl, rfl⟩ (by kernel_rfl) rfl plain (by kernel_rfl)
#print axioms card
end Go.Proofs.YteecebklomeklaaDoor.poolPlays
