/-
  AccessSets (P18.2), for the tied reading: for every house, every number of a list and every person the law answers true, whatever the memory, if the table of needs stands as the program lays it.
  Conditions: none beyond the card's own.
-/
import Derived.Test.YtemkhblogmdleaaDoorAccT
import Derived.Test.YtemkhblogmdleaaDoorCards
import Derived.Test.YtemkhblogmdleaaDoorTie
import Derived.Deep.DeepHandedRow
import Derived.Lib.LaidTab
import Derived.Deep.CutBlock
namespace Go.Proofs.YtemkhblogmdleaaDoor.accessSets
open Go.ChangeShapes Go.WideShapes Go.ChangeAt Go.RowKit
open base (ret_bool ret_int made up Blk Only Nums)
open ac acw rk il
set_option linter.unusedVariables false
set_option linter.unusedSimpArgs false
theorem gTab : Tryd.prog.globalNamed "deedhold/access.needs" = some 0 := by kernel_rfl
theorem gTabType : (Tryd.prog.globals[0]?).map (·.type) = some 51 := by kernel_rfl
theorem cells11 : Tryd.prog.cellsOf 51 = 11 := by kernel_rfl
theorem cells1 : Tryd.prog.cellsOf 3 = 1 := by kernel_rfl
theorem table {W : World} (h : laidMetH Tryd.prog Rows.accessSetsRow.laid W) : Lib.TabIs Tryd.prog W "deedhold/access.needs" .i64 [1, 2, 3, 3, 3, 4, 4, 4, 4, 4, 4] :=
  Lib.tabIs_of_head (rest := []) gTab gTabType Tryd.underlying51 Tryd.underlying3 cells1 cells11 h
theorem tableOf {W : World} (h : laidMetH Tryd.prog Rows.accessSetsRow.laid W) : Tab W := by
  have c : ∀ k, k < 11 → W.cell? ⟨0, k, none⟩ = some (.int .i64 (nt.getD k 0)) := by
    intro k hk
    have := (table h).cell gTab k (by simpa using hk)
    rw [this]
    rfl
  exact ⟨World.block_lt_of_cell? W _ (c 0 (by omega)), c⟩


theorem rows_end {w wx : World} {os : List Row} {A1 A2 A3 : Option Addr} {c1 c2 c3 : Nat} {la lb lc : List Int} (h : St w.heap.size w wx os) (h1 : (.slice A1 la.length c1, la) ∈ os) (h2 : (.slice A2 lb.length c2, lb) ∈ os) (h3 : (.slice A3 lc.length c3, lc) ∈ os) (hl : la.length ≤ 40 ∧ lb.length ≤ 40 ∧ lc.length ≤ 40) :
    ∃ (B1 : Option Addr) (d1 : Nat) (B2 : Option Addr) (d2 : Nat) (B3 : Option Addr) (d3 : Nat), Value.slice A1 la.length c1 = .slice B1 la.length d1 ∧ Value.slice A2 lb.length c2 = .slice B2 lb.length d2 ∧ Value.slice A3 lc.length c3 = .slice B3 lc.length d3 ∧ Ls wx B1 la B2 lb B3 lc ∧ Below w.heap.size w wx := by
  have k : ∀ (X : Option Addr) (c : Nat) (l : List Int), rk.Own il.E1 wx w.heap.size 3 (.slice X l.length c) l → Nums .i64 wx X l := fun X c l o => by
    obtain ⟨X2, c2, e, hl, _⟩ := o.open_
    cases e
    exact lay_nums hl
  exact ⟨A1, c1, A2, c2, A3, c3, rfl, rfl, rfl, ⟨k _ _ _ (h.tri.own _ h1), k _ _ _ (h.tri.own _ h2), k _ _ _ (h.tri.own _ h3), by omega, by omega, by omega⟩, h.below⟩
theorem hequal_zero (w : World) : Calls Tryd.prog 18 #[.agg #[.int .i64 0, .slice none 0 0, .slice none 0 0, .slice none 0 0], .agg #[.int .i64 0, .slice none 0 0, .slice none 0 0, .slice none 0 0]] w (SmP true w) :=
  hequal_eq 0 none 0 [] none 0 [] none 0 [] none 0 none 0 none 0 w ⟨fun h => absurd h (by simp), fun h => absurd h (by simp), fun h => absurd h (by simp), by simp, by simp, by simp⟩ ⟨fun h => absurd h (by simp), fun h => absurd h (by simp), fun h => absurd h (by simp), by simp, by simp, by simp⟩
set_option maxHeartbeats 1000000 in
theorem walk_no (w : World) (hT : Tab w) (o : Int) (A : Option Addr) (ca : Nat) (la : List Int) (B : Option Addr) (cb : Nat) (lb : List Int) (C : Option Addr) (cc : Nat) (lc : List Int) (z p : Int)
    (h1 : la.length ≤ 9223372036854775807) (h2 : lb.length ≤ 9223372036854775807) (h3 : lc.length ≤ 9223372036854775807) (hn : ¬ (la.length ≤ 40 ∧ lb.length ≤ 40 ∧ lc.length ≤ 40)) :
    Calls Tryd.prog 5 #[.agg #[.int .i64 o, .slice A la.length ca, .slice B lb.length cb, .slice C lc.length cc], .int .i64 z, .int .i64 p] w (SmP true w) := by
  have hb := made w (.cells #[.int .i64 o, .slice A la.length ca, .slice B lb.length cb, .slice C lc.length cc] 24)
  have bx : Blk (w.alloc (.cells #[.int .i64 o, .slice A la.length ca, .slice B lb.length cb, .slice C lc.length cc] 24)) w.heap.size 24 #[.int .i64 o, .slice A la.length ca, .slice B lb.length cb, .slice C lc.length cc] := Blk.new _ _ _
  have b0 := bx.cell 0
  have b1 := bx.cell 1
  have b2 := bx.cell 2
  have b3 := bx.cell 3
  have HB := Lib.hid hb
  have SM := Lib.hid (small_any o A ca la B cb lb C cc lc (w.alloc (.cells #[.int .i64 o, .slice A la.length ca, .slice B lb.length cb, .slice C lc.length cc] 24)) h1 h2 h3)
  rw [decide_eq_false hn] at SM
  have TB := Lib.hid (hT.keep hb)
  clear hb bx h1 h2 h3 hn hT
  generalize hw1 : w.alloc (.cells #[.int .i64 o, .slice A la.length ca, .slice B lb.length cb, .slice C lc.length cc] 24) = w1 at *
  go_enter Tryd.func5, Tryd.ntmps5
  go_wp2_with (rw [hw1])
  refine SM.out.mono ?_
  rintro e w2 ⟨rfl, hb2⟩
  have AW := Lib.hid (awake_any w2 (TB.out.keep hb2))
  have B2 := Lib.hid (up HB.out hb2 HB.out.size)
  clear hb2
  go_wp2_with fail
  refine AW.out.mono ?_
  rintro e w3 ⟨rfl, hb3⟩
  have B3 := Lib.hid (up B2.out hb3 B2.out.size)
  clear hb3
  go_wp2_with fail
  go_ret
  exact ⟨rfl, B3.out⟩

set_option maxHeartbeats 2000000 in
theorem walk_bad (w : World) (hT : Tab w) (o : Int) (A : Option Addr) (ca : Nat) (la : List Int) (B : Option Addr) (cb : Nat) (lb : List Int) (C : Option Addr) (cc : Nat) (lc : List Int) (z p : Int) (L : Ls w A la B lb C lc) (hn : la.length ≤ 40 ∧ lb.length ≤ 40 ∧ lc.length ≤ 40) (hr : ¬ RightH o la lb lc) :
    Calls Tryd.prog 5 #[.agg #[.int .i64 o, .slice A la.length ca, .slice B lb.length cb, .slice C lc.length cc], .int .i64 z, .int .i64 p] w (SmP true w) := by
  have hm := made w (.cells #[.int .i64 o, .slice A la.length ca, .slice B lb.length cb, .slice C lc.length cc] 24)
  have bx : Blk (w.alloc (.cells #[.int .i64 o, .slice A la.length ca, .slice B lb.length cb, .slice C lc.length cc] 24)) w.heap.size 24 #[.int .i64 o, .slice A la.length ca, .slice B lb.length cb, .slice C lc.length cc] := Blk.new _ _ _
  have HB := Lib.hid hm
  have BX := Lib.hid bx
  have LS := Lib.hid (L.keep hm)
  have TB := Lib.hid (hT.keep hm)
  have SM := Lib.hid (small_any o A ca la B cb lb C cc lc (w.alloc (.cells #[.int .i64 o, .slice A la.length ca, .slice B lb.length cb, .slice C lc.length cc] 24)) (by omega) (by omega) (by omega))
  rw [decide_eq_true hn] at SM
  have HN := Lib.hid hn
  have b0 := bx.cell 0
  have b1 := bx.cell 1
  have b2 := bx.cell 2
  have b3 := bx.cell 3
  clear hm bx L hT hn
  generalize hw1 : w.alloc (.cells #[.int .i64 o, .slice A la.length ca, .slice B lb.length cb, .slice C lc.length cc] 24) = w1 at *
  go_enter Tryd.func5, Tryd.ntmps5
  go_wp2_with (rw [hw1])
  refine SM.out.mono ?_
  rintro e w2 ⟨rfl, hb2⟩
  have bx2 := BX.out.below hb2 BX.out.lt
  have c0 := bx2.cell 0
  have c1 := bx2.cell 1
  have c2 := bx2.cell 2
  have c3 := bx2.cell 3
  have B2 := Lib.hid (up HB.out hb2 HB.out.size)
  have L2 := Lib.hid (LS.out.keep hb2)
  have T2 := Lib.hid (TB.out.keep hb2)
  have BX2 := Lib.hid bx2
  clear b0 b1 b2 b3 hw1 hb2 bx2 LS TB SM BX HB
  have LR := Lib.hid (lright_any o A ca la B cb lb C cc lc false (by simp [hr]) w2 L2.out)
  clear hr
  go_wp2_with fail
  refine LR.out.mono ?_
  rintro e w3 ⟨rfl, hb3⟩
  have B3 := Lib.hid (up B2.out hb3 B2.out.size)
  have AW := Lib.hid (awake_any w3 (T2.out.keep hb3))
  clear hb3
  go_wp2_with fail
  refine AW.out.mono ?_
  rintro e w4 ⟨rfl, hb4⟩
  have B4 := Lib.hid (up B3.out hb4 B3.out.size)
  clear hb4
  go_wp2_with fail
  go_ret
  exact ⟨rfl, B4.out⟩
set_option maxRecDepth 100000 in
set_option maxHeartbeats 8000000 in
theorem walk_main (w : World) (hT : Tab w) (o : Int) (A : Option Addr) (ca : Nat) (la : List Int) (B : Option Addr) (cb : Nat) (lb : List Int) (C : Option Addr) (cc : Nat) (lc : List Int) (z p : Int) (L : Ls w A la B lb C lc) (hn : la.length ≤ 40 ∧ lb.length ≤ 40 ∧ lc.length ≤ 40) (hr : RightH o la lb lc) :
    Calls Tryd.prog 5 #[.agg #[.int .i64 o, .slice A la.length ca, .slice B lb.length cb, .slice C lc.length cc], .int .i64 z, .int .i64 p] w (SmP true w) := by
  have hm := made w (.cells #[.int .i64 o, .slice A la.length ca, .slice B lb.length cb, .slice C lc.length cc] 24)
  have bx : Blk (w.alloc (.cells #[.int .i64 o, .slice A la.length ca, .slice B lb.length cb, .slice C lc.length cc] 24)) w.heap.size 24 #[.int .i64 o, .slice A la.length ca, .slice B lb.length cb, .slice C lc.length cc] := Blk.new _ _ _
  have HB := Lib.hid hm
  have BX := Lib.hid bx
  have LS := Lib.hid (L.keep hm)
  have TB := Lib.hid (hT.keep hm)
  have SM := Lib.hid (small_any o A ca la B cb lb C cc lc (w.alloc (.cells #[.int .i64 o, .slice A la.length ca, .slice B lb.length cb, .slice C lc.length cc] 24)) (by omega) (by omega) (by omega))
  rw [decide_eq_true hn] at SM
  have HN := Lib.hid hn
  have b0 := bx.cell 0
  have b1 := bx.cell 1
  have b2 := bx.cell 2
  have b3 := bx.cell 3
  clear hm bx L hT hn
  generalize hw1 : w.alloc (.cells #[.int .i64 o, .slice A la.length ca, .slice B lb.length cb, .slice C lc.length cc] 24) = w1 at *
  go_enter Tryd.func5, Tryd.ntmps5
  go_wp2_with (rw [hw1])
  refine SM.out.mono ?_
  rintro e w2 ⟨rfl, hb2⟩
  have bx2 := BX.out.below hb2 BX.out.lt
  have c0 := bx2.cell 0
  have c1 := bx2.cell 1
  have c2 := bx2.cell 2
  have c3 := bx2.cell 3
  have B2 := Lib.hid (up HB.out hb2 HB.out.size)
  have L2 := Lib.hid (LS.out.keep hb2)
  have T2 := Lib.hid (TB.out.keep hb2)
  have BX2 := Lib.hid bx2
  clear b0 b1 b2 b3 hw1 hb2 bx2 LS TB SM BX HB
  have LR := Lib.hid (lright_any o A ca la B cb lb C cc lc true (by simp [hr]) w2 L2.out)
  have RH := Lib.hid hr
  clear hr
  go_wp2_with fail
  refine LR.out.mono ?_
  rintro e w3 ⟨rfl, hb3⟩
  have BX3 := Lib.hid (BX2.out.below hb3 BX2.out.lt)
  have L3 := Lib.hid (L2.out.keep hb3)
  have T3 := Lib.hid (T2.out.keep hb3)
  have B3 := Lib.hid (up B2.out hb3 B2.out.size)
  clear hb3 c0 c1 c2 c3 LR L2 T2 BX2
  go_upto_region 3 with fail
  go_cut [7, 8, 9] from 29 to 40 (fun s7 s8 s9 wx => ∃ (A1 : Option Addr) (c1 : Nat) (A2 : Option Addr) (c2 : Nat) (A3 : Option Addr) (c3 : Nat), s7 = .slice A1 la.length c1 ∧ s8 = .slice A2 lb.length c2 ∧ s9 = .slice A3 lc.length c3 ∧ Ls wx A1 la A2 lb A3 lc ∧ Below w3.heap.size w3 wx)
  case first =>
    have KS := Lib.hid (fun ws (h : Below w3.heap.size w3 ws) => (show ws.cell? ⟨w.heap.size, 0, none⟩ = some (.int .i64 o) ∧ ws.cell? ⟨w.heap.size, 1, none⟩ = some (.slice A la.length ca) ∧ ws.cell? ⟨w.heap.size, 2, none⟩ = some (.slice B lb.length cb) ∧ ws.cell? ⟨w.heap.size, 3, none⟩ = some (.slice C lc.length cc) from ⟨(BX3.out.below h BX3.out.lt).cell 0, (BX3.out.below h BX3.out.lt).cell 1, (BX3.out.below h BX3.out.lt).cell 2, (BX3.out.below h BX3.out.lt).cell 3⟩))
    have KL0 := Lib.hid (fun ws (h : Below w3.heap.size w3 ws) => nums_lay (L3.out.keep h).a)
    have KL1 := Lib.hid (fun ws (h : Below w3.heap.size w3 ws) => nums_lay (L3.out.keep h).b)
    have KL2 := Lib.hid (fun ws (h : Below w3.heap.size w3 ws) => nums_lay (L3.out.keep h).c)
    have st0 := Lib.hid (show St w3.heap.size w3 w3.drew [] from ⟨(Below.refl _ _).drew, Nat.le_refl _, Tri.nil _ _⟩)
    refine wp_region_held_drew (S := (fun ws => ws.cell? ⟨w.heap.size, 0, none⟩ = some (.int .i64 o) ∧ ws.cell? ⟨w.heap.size, 1, none⟩ = some (.slice A la.length ca) ∧ ws.cell? ⟨w.heap.size, 2, none⟩ = some (.slice B lb.length cb) ∧ ws.cell? ⟨w.heap.size, 3, none⟩ = some (.slice C lc.length cc))) (by kernel_rfl) (KS.out _ st0.out.below) (fun hHeld => ?_)
    generalize w3.drew = wq0 at *
    refine wpAnyH_take (i := 1) (v := ?_) rfl (by kernel_rfl) (by kernel_rfl) (by kernel_rfl) (fun _ _ _ h => h) (Or.inl ⟨by rfl, ?_⟩) (by assumption) ?_
    rotate_left
    · (intro w hSw; (try dsimp only at hSw); first | (go_simp; done) | (go_simp; with_reducible rfl))
    simp only [Act.put, List.getElem_toArray, List.getElem_cons_zero, List.getElem_cons_succ, List.setIfInBounds_toArray, List.set_cons_zero, List.set_cons_succ]
    refine wpAnyH_take (i := 2) (v := ?_) rfl (by kernel_rfl) (by kernel_rfl) (by kernel_rfl) (fun _ _ _ h => h) (Or.inl ⟨by rfl, ?_⟩) (by assumption) ?_
    rotate_left
    · (intro w hSw; (try dsimp only at hSw); first | (go_simp; done) | (go_simp; with_reducible rfl))
    simp only [Act.put, List.getElem_toArray, List.getElem_cons_zero, List.getElem_cons_succ, List.setIfInBounds_toArray, List.set_cons_zero, List.set_cons_succ]
    refine wpAnyH_take (i := 5) (v := ?_) rfl (by kernel_rfl) (by kernel_rfl) (by kernel_rfl) (fun _ _ _ h => h) (Or.inl ⟨by rfl, ?_⟩) (by assumption) ?_
    rotate_left
    · (intro w hSw; (try dsimp only at hSw); first | (go_simp; done) | (go_simp; with_reducible rfl))
    simp only [Act.put, List.getElem_toArray, List.getElem_cons_zero, List.getElem_cons_succ, List.setIfInBounds_toArray, List.set_cons_zero, List.set_cons_succ]
    refine wpAnyH_take (i := 6) (v := ?_) rfl (by kernel_rfl) (by kernel_rfl) (by kernel_rfl) (fun _ _ _ h => h) (Or.inl ⟨by rfl, ?_⟩) (by assumption) ?_
    rotate_left
    · (intro w hSw; (try dsimp only at hSw); first | (go_simp; done) | (go_simp; with_reducible rfl))
    simp only [Act.put, List.getElem_toArray, List.getElem_cons_zero, List.getElem_cons_succ, List.setIfInBounds_toArray, List.set_cons_zero, List.set_cons_succ]
    refine wpAnyH_take (i := 9) (v := ?_) rfl (by kernel_rfl) (by kernel_rfl) (by kernel_rfl) (fun _ _ _ h => h) (Or.inl ⟨by rfl, ?_⟩) (by assumption) ?_
    rotate_left
    · (intro w hSw; (try dsimp only at hSw); first | (go_simp; done) | (go_simp; with_reducible rfl))
    simp only [Act.put, List.getElem_toArray, List.getElem_cons_zero, List.getElem_cons_succ, List.setIfInBounds_toArray, List.set_cons_zero, List.set_cons_succ]
    refine wpAnyH_take (i := 10) (v := ?_) rfl (by kernel_rfl) (by kernel_rfl) (by kernel_rfl) (fun _ _ _ h => h) (Or.inl ⟨by rfl, ?_⟩) (by assumption) ?_
    rotate_left
    · (intro w hSw; (try dsimp only at hSw); first | (go_simp; done) | (go_simp; with_reducible rfl))
    simp only [Act.put, List.getElem_toArray, List.getElem_cons_zero, List.getElem_cons_succ, List.setIfInBounds_toArray, List.set_cons_zero, List.set_cons_succ]
    refine wpAnyH_ready (rs := [0, 4, 8]) (by kernel_rfl) (by simp) ?_
    refine AllReadyH.cons rfl (fun K hK => ?_) (AllReadyH.cons rfl (fun K hK => ?_) (AllReadyH.cons rfl (fun K hK => ?_) AllReadyH.nil))
    · go_simp
      have st1 := Lib.hid (st0.out.clone (il.Own.empty1 wq0 3) (made wq0 _))
      refine hK.out _ _ (KS.out _ st1.out.below) (fun hH1 => ?_)
      clear hK K hHeld
      generalize wq0.alloc (.cells #[] 3) = wq1 at *
      refine wpAnyH_ready (rs := [3, 4, 8]) (by kernel_rfl) (by simp) ?_
      refine AllReadyH.cons rfl (fun K hK => ?_) (AllReadyH.cons rfl (fun K hK => ?_) (AllReadyH.cons rfl (fun K hK => ?_) AllReadyH.nil))
      · obtain ⟨A2, c2, wq2, hr2, sx2⟩ := st1.out.app (k := 0) (v := (.slice (some ⟨wq0.heap.size, 0, none⟩) 0 0)) rfl (KL0.out _ st1.out.below) (by have := HN.out; omega) (c := ca)
        have st2 := Lib.hid sx2
        rw [if_pos (by rfl)]
        refine op_app (.tmp 29) (.tmp 31) rfl rfl rfl rfl hr2 ?_
        simp only [Act.put, List.setIfInBounds_toArray, List.set_cons_zero, List.set_cons_succ]
        refine hK.out _ _ (KS.out _ st2.out.below) (fun hH2 => ?_)
        clear hK K hH1 hr2 sx2
        refine wpAnyH_ready (rs := [4, 8]) (by kernel_rfl) (by simp) ?_
        refine AllReadyH.cons rfl (fun K hK => ?_) (AllReadyH.cons rfl (fun K hK => ?_) AllReadyH.nil)
        · go_simp
          have st3 := Lib.hid (st2.out.clone (il.Own.empty1 wq2 3) (made wq2 _))
          refine hK.out _ _ (KS.out _ st3.out.below) (fun hH3 => ?_)
          clear hK K hH2
          generalize wq2.alloc (.cells #[] 3) = wq3 at *
          refine wpAnyH_ready (rs := [7, 8]) (by kernel_rfl) (by simp) ?_
          refine AllReadyH.cons rfl (fun K hK => ?_) (AllReadyH.cons rfl (fun K hK => ?_) AllReadyH.nil)
          · obtain ⟨A4, c4, wq4, hr4, sx4⟩ := st3.out.app (k := 1) (v := (.slice (some ⟨wq2.heap.size, 0, none⟩) 0 0)) rfl (KL1.out _ st3.out.below) (by have := HN.out; omega) (c := cb)
            have st4 := Lib.hid sx4
            rw [if_pos (by rfl)]
            refine op_app (.tmp 33) (.tmp 35) rfl rfl rfl rfl hr4 ?_
            simp only [Act.put, List.setIfInBounds_toArray, List.set_cons_zero, List.set_cons_succ]
            refine hK.out _ _ (KS.out _ st4.out.below) (fun hH4 => ?_)
            clear hK K hH3 hr4 sx4
            refine wpAnyH_ready (rs := [8]) (by kernel_rfl) (by simp) ?_
            refine AllReadyH.cons rfl (fun K hK => ?_) AllReadyH.nil
            · go_simp
              have st5 := Lib.hid (st4.out.clone (il.Own.empty1 wq4 3) (made wq4 _))
              refine hK.out _ _ (KS.out _ st5.out.below) (fun hH5 => ?_)
              clear hK K hH4
              generalize wq4.alloc (.cells #[] 3) = wq5 at *
              refine wpAnyH_ready (rs := [11]) (by kernel_rfl) (by simp) ?_
              refine AllReadyH.cons rfl (fun K hK => ?_) AllReadyH.nil
              · obtain ⟨A6, c6, wq6, hr6, sx6⟩ := st5.out.app (k := 2) (v := (.slice (some ⟨wq4.heap.size, 0, none⟩) 0 0)) rfl (KL2.out _ st5.out.below) (by have := HN.out; omega) (c := cc)
                have st6 := Lib.hid sx6
                rw [if_pos (by rfl)]
                refine op_app (.tmp 37) (.tmp 39) rfl rfl rfl rfl hr6 ?_
                simp only [Act.put, List.setIfInBounds_toArray, List.set_cons_zero, List.set_cons_succ]
                refine hK.out _ _ (KS.out _ st6.out.below) (fun hH6 => ?_)
                clear hK K hH5 hr6 sx6
                refine wpAnyH_take (i := 12) (v := ?_) rfl (by kernel_rfl) (by kernel_rfl) (by kernel_rfl) (fun _ _ _ h => h) (Or.inl ⟨by rfl, ?_⟩) (by assumption) ?_
                rotate_left
                · (intro w hSw; (try dsimp only at hSw); first | (go_simp; done) | (go_simp; with_reducible rfl))
                simp only [Act.put, List.getElem_toArray, List.getElem_cons_zero, List.getElem_cons_succ, List.setIfInBounds_toArray, List.set_cons_zero, List.set_cons_succ]
                refine wpAnyH_take (i := 13) (v := ?_) rfl (by kernel_rfl) (by kernel_rfl) (by kernel_rfl) (fun _ _ _ h => h) (Or.inl ⟨by rfl, ?_⟩) (by assumption) ?_
                rotate_left
                · (intro w hSw; (try dsimp only at hSw); first | (go_simp; done) | (go_simp; with_reducible rfl))
                simp only [Act.put, List.getElem_toArray, List.getElem_cons_zero, List.getElem_cons_succ, List.setIfInBounds_toArray, List.set_cons_zero, List.set_cons_succ]
                refine wpAnyH_take (i := 14) (v := ?_) rfl (by kernel_rfl) (by kernel_rfl) (by kernel_rfl) (fun _ _ _ h => h) (Or.inl ⟨by rfl, ?_⟩) (by assumption) ?_
                rotate_left
                · (intro w hSw; (try dsimp only at hSw); first | (go_simp; done) | (go_simp; with_reducible rfl))
                simp only [Act.put, List.getElem_toArray, List.getElem_cons_zero, List.getElem_cons_succ, List.setIfInBounds_toArray, List.set_cons_zero, List.set_cons_succ]
                refine wpAnyH_done (by kernel_rfl) ?_ _
                clear hH6
                go_wp2_with fail
                go_meet
                case rel => exact rows_end st6.out (by simp) (by simp) (by simp) HN.out
          · go_simp
            have st8 := Lib.hid (st3.out.clone (il.Own.empty1 wq3 3) (made wq3 _))
            refine hK.out _ _ (KS.out _ st8.out.below) (fun hH8 => ?_)
            clear hK K hH3
            generalize wq3.alloc (.cells #[] 3) = wq8 at *
            refine wpAnyH_ready (rs := [7]) (by kernel_rfl) (by simp) ?_
            refine AllReadyH.cons rfl (fun K hK => ?_) AllReadyH.nil
            · obtain ⟨A9, c9, wq9, hr9, sx9⟩ := st8.out.app (k := 1) (v := (.slice (some ⟨wq2.heap.size, 0, none⟩) 0 0)) rfl (KL1.out _ st8.out.below) (by have := HN.out; omega) (c := cb)
              have st9 := Lib.hid sx9
              rw [if_pos (by rfl)]
              refine op_app (.tmp 33) (.tmp 35) rfl rfl rfl rfl hr9 ?_
              simp only [Act.put, List.setIfInBounds_toArray, List.set_cons_zero, List.set_cons_succ]
              refine hK.out _ _ (KS.out _ st9.out.below) (fun hH9 => ?_)
              clear hK K hH8 hr9 sx9
              refine wpAnyH_ready (rs := [11]) (by kernel_rfl) (by simp) ?_
              refine AllReadyH.cons rfl (fun K hK => ?_) AllReadyH.nil
              · obtain ⟨A10, c10, wq10, hr10, sx10⟩ := st9.out.app (k := 2) (v := (.slice (some ⟨wq3.heap.size, 0, none⟩) 0 0)) rfl (KL2.out _ st9.out.below) (by have := HN.out; omega) (c := cc)
                have st10 := Lib.hid sx10
                rw [if_pos (by rfl)]
                refine op_app (.tmp 37) (.tmp 39) rfl rfl rfl rfl hr10 ?_
                simp only [Act.put, List.setIfInBounds_toArray, List.set_cons_zero, List.set_cons_succ]
                refine hK.out _ _ (KS.out _ st10.out.below) (fun hH10 => ?_)
                clear hK K hH9 hr10 sx10
                refine wpAnyH_take (i := 12) (v := ?_) rfl (by kernel_rfl) (by kernel_rfl) (by kernel_rfl) (fun _ _ _ h => h) (Or.inl ⟨by rfl, ?_⟩) (by assumption) ?_
                rotate_left
                · (intro w hSw; (try dsimp only at hSw); first | (go_simp; done) | (go_simp; with_reducible rfl))
                simp only [Act.put, List.getElem_toArray, List.getElem_cons_zero, List.getElem_cons_succ, List.setIfInBounds_toArray, List.set_cons_zero, List.set_cons_succ]
                refine wpAnyH_take (i := 13) (v := ?_) rfl (by kernel_rfl) (by kernel_rfl) (by kernel_rfl) (fun _ _ _ h => h) (Or.inl ⟨by rfl, ?_⟩) (by assumption) ?_
                rotate_left
                · (intro w hSw; (try dsimp only at hSw); first | (go_simp; done) | (go_simp; with_reducible rfl))
                simp only [Act.put, List.getElem_toArray, List.getElem_cons_zero, List.getElem_cons_succ, List.setIfInBounds_toArray, List.set_cons_zero, List.set_cons_succ]
                refine wpAnyH_take (i := 14) (v := ?_) rfl (by kernel_rfl) (by kernel_rfl) (by kernel_rfl) (fun _ _ _ h => h) (Or.inl ⟨by rfl, ?_⟩) (by assumption) ?_
                rotate_left
                · (intro w hSw; (try dsimp only at hSw); first | (go_simp; done) | (go_simp; with_reducible rfl))
                simp only [Act.put, List.getElem_toArray, List.getElem_cons_zero, List.getElem_cons_succ, List.setIfInBounds_toArray, List.set_cons_zero, List.set_cons_succ]
                refine wpAnyH_done (by kernel_rfl) ?_ _
                clear hH10
                go_wp2_with fail
                go_meet
                case rel => exact rows_end st10.out (by simp) (by simp) (by simp) HN.out
        · go_simp
          have st12 := Lib.hid (st2.out.clone (il.Own.empty1 wq2 3) (made wq2 _))
          refine hK.out _ _ (KS.out _ st12.out.below) (fun hH12 => ?_)
          clear hK K hH2
          generalize wq2.alloc (.cells #[] 3) = wq12 at *
          refine wpAnyH_ready (rs := [4]) (by kernel_rfl) (by simp) ?_
          refine AllReadyH.cons rfl (fun K hK => ?_) AllReadyH.nil
          · go_simp
            have st13 := Lib.hid (st12.out.clone (il.Own.empty1 wq12 3) (made wq12 _))
            refine hK.out _ _ (KS.out _ st13.out.below) (fun hH13 => ?_)
            clear hK K hH12
            generalize wq12.alloc (.cells #[] 3) = wq13 at *
            refine wpAnyH_ready (rs := [7]) (by kernel_rfl) (by simp) ?_
            refine AllReadyH.cons rfl (fun K hK => ?_) AllReadyH.nil
            · obtain ⟨A14, c14, wq14, hr14, sx14⟩ := st13.out.app (k := 2) (v := (.slice (some ⟨wq12.heap.size, 0, none⟩) 0 0)) rfl (KL1.out _ st13.out.below) (by have := HN.out; omega) (c := cb)
              have st14 := Lib.hid sx14
              rw [if_pos (by rfl)]
              refine op_app (.tmp 33) (.tmp 35) rfl rfl rfl rfl hr14 ?_
              simp only [Act.put, List.setIfInBounds_toArray, List.set_cons_zero, List.set_cons_succ]
              refine hK.out _ _ (KS.out _ st14.out.below) (fun hH14 => ?_)
              clear hK K hH13 hr14 sx14
              refine wpAnyH_ready (rs := [11]) (by kernel_rfl) (by simp) ?_
              refine AllReadyH.cons rfl (fun K hK => ?_) AllReadyH.nil
              · obtain ⟨A15, c15, wq15, hr15, sx15⟩ := st14.out.app (k := 1) (v := (.slice (some ⟨wq2.heap.size, 0, none⟩) 0 0)) rfl (KL2.out _ st14.out.below) (by have := HN.out; omega) (c := cc)
                have st15 := Lib.hid sx15
                rw [if_pos (by rfl)]
                refine op_app (.tmp 37) (.tmp 39) rfl rfl rfl rfl hr15 ?_
                simp only [Act.put, List.setIfInBounds_toArray, List.set_cons_zero, List.set_cons_succ]
                refine hK.out _ _ (KS.out _ st15.out.below) (fun hH15 => ?_)
                clear hK K hH14 hr15 sx15
                refine wpAnyH_take (i := 12) (v := ?_) rfl (by kernel_rfl) (by kernel_rfl) (by kernel_rfl) (fun _ _ _ h => h) (Or.inl ⟨by rfl, ?_⟩) (by assumption) ?_
                rotate_left
                · (intro w hSw; (try dsimp only at hSw); first | (go_simp; done) | (go_simp; with_reducible rfl))
                simp only [Act.put, List.getElem_toArray, List.getElem_cons_zero, List.getElem_cons_succ, List.setIfInBounds_toArray, List.set_cons_zero, List.set_cons_succ]
                refine wpAnyH_take (i := 13) (v := ?_) rfl (by kernel_rfl) (by kernel_rfl) (by kernel_rfl) (fun _ _ _ h => h) (Or.inl ⟨by rfl, ?_⟩) (by assumption) ?_
                rotate_left
                · (intro w hSw; (try dsimp only at hSw); first | (go_simp; done) | (go_simp; with_reducible rfl))
                simp only [Act.put, List.getElem_toArray, List.getElem_cons_zero, List.getElem_cons_succ, List.setIfInBounds_toArray, List.set_cons_zero, List.set_cons_succ]
                refine wpAnyH_take (i := 14) (v := ?_) rfl (by kernel_rfl) (by kernel_rfl) (by kernel_rfl) (fun _ _ _ h => h) (Or.inl ⟨by rfl, ?_⟩) (by assumption) ?_
                rotate_left
                · (intro w hSw; (try dsimp only at hSw); first | (go_simp; done) | (go_simp; with_reducible rfl))
                simp only [Act.put, List.getElem_toArray, List.getElem_cons_zero, List.getElem_cons_succ, List.setIfInBounds_toArray, List.set_cons_zero, List.set_cons_succ]
                refine wpAnyH_done (by kernel_rfl) ?_ _
                clear hH15
                go_wp2_with fail
                go_meet
                case rel => exact rows_end st15.out (by simp) (by simp) (by simp) HN.out
      · go_simp
        have st17 := Lib.hid (st1.out.clone (il.Own.empty1 wq1 3) (made wq1 _))
        refine hK.out _ _ (KS.out _ st17.out.below) (fun hH17 => ?_)
        clear hK K hH1
        generalize wq1.alloc (.cells #[] 3) = wq17 at *
        refine wpAnyH_ready (rs := [3, 8]) (by kernel_rfl) (by simp) ?_
        refine AllReadyH.cons rfl (fun K hK => ?_) (AllReadyH.cons rfl (fun K hK => ?_) AllReadyH.nil)
        · obtain ⟨A18, c18, wq18, hr18, sx18⟩ := st17.out.app (k := 0) (v := (.slice (some ⟨wq0.heap.size, 0, none⟩) 0 0)) rfl (KL0.out _ st17.out.below) (by have := HN.out; omega) (c := ca)
          have st18 := Lib.hid sx18
          rw [if_pos (by rfl)]
          refine op_app (.tmp 29) (.tmp 31) rfl rfl rfl rfl hr18 ?_
          simp only [Act.put, List.setIfInBounds_toArray, List.set_cons_zero, List.set_cons_succ]
          refine hK.out _ _ (KS.out _ st18.out.below) (fun hH18 => ?_)
          clear hK K hH17 hr18 sx18
          refine wpAnyH_ready (rs := [7, 8]) (by kernel_rfl) (by simp) ?_
          refine AllReadyH.cons rfl (fun K hK => ?_) (AllReadyH.cons rfl (fun K hK => ?_) AllReadyH.nil)
          · obtain ⟨A19, c19, wq19, hr19, sx19⟩ := st18.out.app (k := 1) (v := (.slice (some ⟨wq1.heap.size, 0, none⟩) 0 0)) rfl (KL1.out _ st18.out.below) (by have := HN.out; omega) (c := cb)
            have st19 := Lib.hid sx19
            rw [if_pos (by rfl)]
            refine op_app (.tmp 33) (.tmp 35) rfl rfl rfl rfl hr19 ?_
            simp only [Act.put, List.setIfInBounds_toArray, List.set_cons_zero, List.set_cons_succ]
            refine hK.out _ _ (KS.out _ st19.out.below) (fun hH19 => ?_)
            clear hK K hH18 hr19 sx19
            refine wpAnyH_ready (rs := [8]) (by kernel_rfl) (by simp) ?_
            refine AllReadyH.cons rfl (fun K hK => ?_) AllReadyH.nil
            · go_simp
              have st20 := Lib.hid (st19.out.clone (il.Own.empty1 wq19 3) (made wq19 _))
              refine hK.out _ _ (KS.out _ st20.out.below) (fun hH20 => ?_)
              clear hK K hH19
              generalize wq19.alloc (.cells #[] 3) = wq20 at *
              refine wpAnyH_ready (rs := [11]) (by kernel_rfl) (by simp) ?_
              refine AllReadyH.cons rfl (fun K hK => ?_) AllReadyH.nil
              · obtain ⟨A21, c21, wq21, hr21, sx21⟩ := st20.out.app (k := 2) (v := (.slice (some ⟨wq19.heap.size, 0, none⟩) 0 0)) rfl (KL2.out _ st20.out.below) (by have := HN.out; omega) (c := cc)
                have st21 := Lib.hid sx21
                rw [if_pos (by rfl)]
                refine op_app (.tmp 37) (.tmp 39) rfl rfl rfl rfl hr21 ?_
                simp only [Act.put, List.setIfInBounds_toArray, List.set_cons_zero, List.set_cons_succ]
                refine hK.out _ _ (KS.out _ st21.out.below) (fun hH21 => ?_)
                clear hK K hH20 hr21 sx21
                refine wpAnyH_take (i := 12) (v := ?_) rfl (by kernel_rfl) (by kernel_rfl) (by kernel_rfl) (fun _ _ _ h => h) (Or.inl ⟨by rfl, ?_⟩) (by assumption) ?_
                rotate_left
                · (intro w hSw; (try dsimp only at hSw); first | (go_simp; done) | (go_simp; with_reducible rfl))
                simp only [Act.put, List.getElem_toArray, List.getElem_cons_zero, List.getElem_cons_succ, List.setIfInBounds_toArray, List.set_cons_zero, List.set_cons_succ]
                refine wpAnyH_take (i := 13) (v := ?_) rfl (by kernel_rfl) (by kernel_rfl) (by kernel_rfl) (fun _ _ _ h => h) (Or.inl ⟨by rfl, ?_⟩) (by assumption) ?_
                rotate_left
                · (intro w hSw; (try dsimp only at hSw); first | (go_simp; done) | (go_simp; with_reducible rfl))
                simp only [Act.put, List.getElem_toArray, List.getElem_cons_zero, List.getElem_cons_succ, List.setIfInBounds_toArray, List.set_cons_zero, List.set_cons_succ]
                refine wpAnyH_take (i := 14) (v := ?_) rfl (by kernel_rfl) (by kernel_rfl) (by kernel_rfl) (fun _ _ _ h => h) (Or.inl ⟨by rfl, ?_⟩) (by assumption) ?_
                rotate_left
                · (intro w hSw; (try dsimp only at hSw); first | (go_simp; done) | (go_simp; with_reducible rfl))
                simp only [Act.put, List.getElem_toArray, List.getElem_cons_zero, List.getElem_cons_succ, List.setIfInBounds_toArray, List.set_cons_zero, List.set_cons_succ]
                refine wpAnyH_done (by kernel_rfl) ?_ _
                clear hH21
                go_wp2_with fail
                go_meet
                case rel => exact rows_end st21.out (by simp) (by simp) (by simp) HN.out
          · go_simp
            have st23 := Lib.hid (st18.out.clone (il.Own.empty1 wq18 3) (made wq18 _))
            refine hK.out _ _ (KS.out _ st23.out.below) (fun hH23 => ?_)
            clear hK K hH18
            generalize wq18.alloc (.cells #[] 3) = wq23 at *
            refine wpAnyH_ready (rs := [7]) (by kernel_rfl) (by simp) ?_
            refine AllReadyH.cons rfl (fun K hK => ?_) AllReadyH.nil
            · obtain ⟨A24, c24, wq24, hr24, sx24⟩ := st23.out.app (k := 1) (v := (.slice (some ⟨wq1.heap.size, 0, none⟩) 0 0)) rfl (KL1.out _ st23.out.below) (by have := HN.out; omega) (c := cb)
              have st24 := Lib.hid sx24
              rw [if_pos (by rfl)]
              refine op_app (.tmp 33) (.tmp 35) rfl rfl rfl rfl hr24 ?_
              simp only [Act.put, List.setIfInBounds_toArray, List.set_cons_zero, List.set_cons_succ]
              refine hK.out _ _ (KS.out _ st24.out.below) (fun hH24 => ?_)
              clear hK K hH23 hr24 sx24
              refine wpAnyH_ready (rs := [11]) (by kernel_rfl) (by simp) ?_
              refine AllReadyH.cons rfl (fun K hK => ?_) AllReadyH.nil
              · obtain ⟨A25, c25, wq25, hr25, sx25⟩ := st24.out.app (k := 2) (v := (.slice (some ⟨wq18.heap.size, 0, none⟩) 0 0)) rfl (KL2.out _ st24.out.below) (by have := HN.out; omega) (c := cc)
                have st25 := Lib.hid sx25
                rw [if_pos (by rfl)]
                refine op_app (.tmp 37) (.tmp 39) rfl rfl rfl rfl hr25 ?_
                simp only [Act.put, List.setIfInBounds_toArray, List.set_cons_zero, List.set_cons_succ]
                refine hK.out _ _ (KS.out _ st25.out.below) (fun hH25 => ?_)
                clear hK K hH24 hr25 sx25
                refine wpAnyH_take (i := 12) (v := ?_) rfl (by kernel_rfl) (by kernel_rfl) (by kernel_rfl) (fun _ _ _ h => h) (Or.inl ⟨by rfl, ?_⟩) (by assumption) ?_
                rotate_left
                · (intro w hSw; (try dsimp only at hSw); first | (go_simp; done) | (go_simp; with_reducible rfl))
                simp only [Act.put, List.getElem_toArray, List.getElem_cons_zero, List.getElem_cons_succ, List.setIfInBounds_toArray, List.set_cons_zero, List.set_cons_succ]
                refine wpAnyH_take (i := 13) (v := ?_) rfl (by kernel_rfl) (by kernel_rfl) (by kernel_rfl) (fun _ _ _ h => h) (Or.inl ⟨by rfl, ?_⟩) (by assumption) ?_
                rotate_left
                · (intro w hSw; (try dsimp only at hSw); first | (go_simp; done) | (go_simp; with_reducible rfl))
                simp only [Act.put, List.getElem_toArray, List.getElem_cons_zero, List.getElem_cons_succ, List.setIfInBounds_toArray, List.set_cons_zero, List.set_cons_succ]
                refine wpAnyH_take (i := 14) (v := ?_) rfl (by kernel_rfl) (by kernel_rfl) (by kernel_rfl) (fun _ _ _ h => h) (Or.inl ⟨by rfl, ?_⟩) (by assumption) ?_
                rotate_left
                · (intro w hSw; (try dsimp only at hSw); first | (go_simp; done) | (go_simp; with_reducible rfl))
                simp only [Act.put, List.getElem_toArray, List.getElem_cons_zero, List.getElem_cons_succ, List.setIfInBounds_toArray, List.set_cons_zero, List.set_cons_succ]
                refine wpAnyH_done (by kernel_rfl) ?_ _
                clear hH25
                go_wp2_with fail
                go_meet
                case rel => exact rows_end st25.out (by simp) (by simp) (by simp) HN.out
        · go_simp
          have st27 := Lib.hid (st17.out.clone (il.Own.empty1 wq17 3) (made wq17 _))
          refine hK.out _ _ (KS.out _ st27.out.below) (fun hH27 => ?_)
          clear hK K hH17
          generalize wq17.alloc (.cells #[] 3) = wq27 at *
          refine wpAnyH_ready (rs := [3]) (by kernel_rfl) (by simp) ?_
          refine AllReadyH.cons rfl (fun K hK => ?_) AllReadyH.nil
          · obtain ⟨A28, c28, wq28, hr28, sx28⟩ := st27.out.app (k := 0) (v := (.slice (some ⟨wq0.heap.size, 0, none⟩) 0 0)) rfl (KL0.out _ st27.out.below) (by have := HN.out; omega) (c := ca)
            have st28 := Lib.hid sx28
            rw [if_pos (by rfl)]
            refine op_app (.tmp 29) (.tmp 31) rfl rfl rfl rfl hr28 ?_
            simp only [Act.put, List.setIfInBounds_toArray, List.set_cons_zero, List.set_cons_succ]
            refine hK.out _ _ (KS.out _ st28.out.below) (fun hH28 => ?_)
            clear hK K hH27 hr28 sx28
            refine wpAnyH_ready (rs := [7]) (by kernel_rfl) (by simp) ?_
            refine AllReadyH.cons rfl (fun K hK => ?_) AllReadyH.nil
            · obtain ⟨A29, c29, wq29, hr29, sx29⟩ := st28.out.app (k := 1) (v := (.slice (some ⟨wq1.heap.size, 0, none⟩) 0 0)) rfl (KL1.out _ st28.out.below) (by have := HN.out; omega) (c := cb)
              have st29 := Lib.hid sx29
              rw [if_pos (by rfl)]
              refine op_app (.tmp 33) (.tmp 35) rfl rfl rfl rfl hr29 ?_
              simp only [Act.put, List.setIfInBounds_toArray, List.set_cons_zero, List.set_cons_succ]
              refine hK.out _ _ (KS.out _ st29.out.below) (fun hH29 => ?_)
              clear hK K hH28 hr29 sx29
              refine wpAnyH_ready (rs := [11]) (by kernel_rfl) (by simp) ?_
              refine AllReadyH.cons rfl (fun K hK => ?_) AllReadyH.nil
              · obtain ⟨A30, c30, wq30, hr30, sx30⟩ := st29.out.app (k := 2) (v := (.slice (some ⟨wq17.heap.size, 0, none⟩) 0 0)) rfl (KL2.out _ st29.out.below) (by have := HN.out; omega) (c := cc)
                have st30 := Lib.hid sx30
                rw [if_pos (by rfl)]
                refine op_app (.tmp 37) (.tmp 39) rfl rfl rfl rfl hr30 ?_
                simp only [Act.put, List.setIfInBounds_toArray, List.set_cons_zero, List.set_cons_succ]
                refine hK.out _ _ (KS.out _ st30.out.below) (fun hH30 => ?_)
                clear hK K hH29 hr30 sx30
                refine wpAnyH_take (i := 12) (v := ?_) rfl (by kernel_rfl) (by kernel_rfl) (by kernel_rfl) (fun _ _ _ h => h) (Or.inl ⟨by rfl, ?_⟩) (by assumption) ?_
                rotate_left
                · (intro w hSw; (try dsimp only at hSw); first | (go_simp; done) | (go_simp; with_reducible rfl))
                simp only [Act.put, List.getElem_toArray, List.getElem_cons_zero, List.getElem_cons_succ, List.setIfInBounds_toArray, List.set_cons_zero, List.set_cons_succ]
                refine wpAnyH_take (i := 13) (v := ?_) rfl (by kernel_rfl) (by kernel_rfl) (by kernel_rfl) (fun _ _ _ h => h) (Or.inl ⟨by rfl, ?_⟩) (by assumption) ?_
                rotate_left
                · (intro w hSw; (try dsimp only at hSw); first | (go_simp; done) | (go_simp; with_reducible rfl))
                simp only [Act.put, List.getElem_toArray, List.getElem_cons_zero, List.getElem_cons_succ, List.setIfInBounds_toArray, List.set_cons_zero, List.set_cons_succ]
                refine wpAnyH_take (i := 14) (v := ?_) rfl (by kernel_rfl) (by kernel_rfl) (by kernel_rfl) (fun _ _ _ h => h) (Or.inl ⟨by rfl, ?_⟩) (by assumption) ?_
                rotate_left
                · (intro w hSw; (try dsimp only at hSw); first | (go_simp; done) | (go_simp; with_reducible rfl))
                simp only [Act.put, List.getElem_toArray, List.getElem_cons_zero, List.getElem_cons_succ, List.setIfInBounds_toArray, List.set_cons_zero, List.set_cons_succ]
                refine wpAnyH_done (by kernel_rfl) ?_ _
                clear hH30
                go_wp2_with fail
                go_meet
                case rel => exact rows_end st30.out (by simp) (by simp) (by simp) HN.out
      · go_simp
        have st32 := Lib.hid (st1.out.clone (il.Own.empty1 wq1 3) (made wq1 _))
        refine hK.out _ _ (KS.out _ st32.out.below) (fun hH32 => ?_)
        clear hK K hH1
        generalize wq1.alloc (.cells #[] 3) = wq32 at *
        refine wpAnyH_ready (rs := [3, 4]) (by kernel_rfl) (by simp) ?_
        refine AllReadyH.cons rfl (fun K hK => ?_) (AllReadyH.cons rfl (fun K hK => ?_) AllReadyH.nil)
        · obtain ⟨A33, c33, wq33, hr33, sx33⟩ := st32.out.app (k := 0) (v := (.slice (some ⟨wq0.heap.size, 0, none⟩) 0 0)) rfl (KL0.out _ st32.out.below) (by have := HN.out; omega) (c := ca)
          have st33 := Lib.hid sx33
          rw [if_pos (by rfl)]
          refine op_app (.tmp 29) (.tmp 31) rfl rfl rfl rfl hr33 ?_
          simp only [Act.put, List.setIfInBounds_toArray, List.set_cons_zero, List.set_cons_succ]
          refine hK.out _ _ (KS.out _ st33.out.below) (fun hH33 => ?_)
          clear hK K hH32 hr33 sx33
          refine wpAnyH_ready (rs := [4]) (by kernel_rfl) (by simp) ?_
          refine AllReadyH.cons rfl (fun K hK => ?_) AllReadyH.nil
          · go_simp
            have st34 := Lib.hid (st33.out.clone (il.Own.empty1 wq33 3) (made wq33 _))
            refine hK.out _ _ (KS.out _ st34.out.below) (fun hH34 => ?_)
            clear hK K hH33
            generalize wq33.alloc (.cells #[] 3) = wq34 at *
            refine wpAnyH_ready (rs := [7]) (by kernel_rfl) (by simp) ?_
            refine AllReadyH.cons rfl (fun K hK => ?_) AllReadyH.nil
            · obtain ⟨A35, c35, wq35, hr35, sx35⟩ := st34.out.app (k := 2) (v := (.slice (some ⟨wq33.heap.size, 0, none⟩) 0 0)) rfl (KL1.out _ st34.out.below) (by have := HN.out; omega) (c := cb)
              have st35 := Lib.hid sx35
              rw [if_pos (by rfl)]
              refine op_app (.tmp 33) (.tmp 35) rfl rfl rfl rfl hr35 ?_
              simp only [Act.put, List.setIfInBounds_toArray, List.set_cons_zero, List.set_cons_succ]
              refine hK.out _ _ (KS.out _ st35.out.below) (fun hH35 => ?_)
              clear hK K hH34 hr35 sx35
              refine wpAnyH_ready (rs := [11]) (by kernel_rfl) (by simp) ?_
              refine AllReadyH.cons rfl (fun K hK => ?_) AllReadyH.nil
              · obtain ⟨A36, c36, wq36, hr36, sx36⟩ := st35.out.app (k := 1) (v := (.slice (some ⟨wq1.heap.size, 0, none⟩) 0 0)) rfl (KL2.out _ st35.out.below) (by have := HN.out; omega) (c := cc)
                have st36 := Lib.hid sx36
                rw [if_pos (by rfl)]
                refine op_app (.tmp 37) (.tmp 39) rfl rfl rfl rfl hr36 ?_
                simp only [Act.put, List.setIfInBounds_toArray, List.set_cons_zero, List.set_cons_succ]
                refine hK.out _ _ (KS.out _ st36.out.below) (fun hH36 => ?_)
                clear hK K hH35 hr36 sx36
                refine wpAnyH_take (i := 12) (v := ?_) rfl (by kernel_rfl) (by kernel_rfl) (by kernel_rfl) (fun _ _ _ h => h) (Or.inl ⟨by rfl, ?_⟩) (by assumption) ?_
                rotate_left
                · (intro w hSw; (try dsimp only at hSw); first | (go_simp; done) | (go_simp; with_reducible rfl))
                simp only [Act.put, List.getElem_toArray, List.getElem_cons_zero, List.getElem_cons_succ, List.setIfInBounds_toArray, List.set_cons_zero, List.set_cons_succ]
                refine wpAnyH_take (i := 13) (v := ?_) rfl (by kernel_rfl) (by kernel_rfl) (by kernel_rfl) (fun _ _ _ h => h) (Or.inl ⟨by rfl, ?_⟩) (by assumption) ?_
                rotate_left
                · (intro w hSw; (try dsimp only at hSw); first | (go_simp; done) | (go_simp; with_reducible rfl))
                simp only [Act.put, List.getElem_toArray, List.getElem_cons_zero, List.getElem_cons_succ, List.setIfInBounds_toArray, List.set_cons_zero, List.set_cons_succ]
                refine wpAnyH_take (i := 14) (v := ?_) rfl (by kernel_rfl) (by kernel_rfl) (by kernel_rfl) (fun _ _ _ h => h) (Or.inl ⟨by rfl, ?_⟩) (by assumption) ?_
                rotate_left
                · (intro w hSw; (try dsimp only at hSw); first | (go_simp; done) | (go_simp; with_reducible rfl))
                simp only [Act.put, List.getElem_toArray, List.getElem_cons_zero, List.getElem_cons_succ, List.setIfInBounds_toArray, List.set_cons_zero, List.set_cons_succ]
                refine wpAnyH_done (by kernel_rfl) ?_ _
                clear hH36
                go_wp2_with fail
                go_meet
                case rel => exact rows_end st36.out (by simp) (by simp) (by simp) HN.out
        · go_simp
          have st38 := Lib.hid (st32.out.clone (il.Own.empty1 wq32 3) (made wq32 _))
          refine hK.out _ _ (KS.out _ st38.out.below) (fun hH38 => ?_)
          clear hK K hH32
          generalize wq32.alloc (.cells #[] 3) = wq38 at *
          refine wpAnyH_ready (rs := [3]) (by kernel_rfl) (by simp) ?_
          refine AllReadyH.cons rfl (fun K hK => ?_) AllReadyH.nil
          · obtain ⟨A39, c39, wq39, hr39, sx39⟩ := st38.out.app (k := 0) (v := (.slice (some ⟨wq0.heap.size, 0, none⟩) 0 0)) rfl (KL0.out _ st38.out.below) (by have := HN.out; omega) (c := ca)
            have st39 := Lib.hid sx39
            rw [if_pos (by rfl)]
            refine op_app (.tmp 29) (.tmp 31) rfl rfl rfl rfl hr39 ?_
            simp only [Act.put, List.setIfInBounds_toArray, List.set_cons_zero, List.set_cons_succ]
            refine hK.out _ _ (KS.out _ st39.out.below) (fun hH39 => ?_)
            clear hK K hH38 hr39 sx39
            refine wpAnyH_ready (rs := [7]) (by kernel_rfl) (by simp) ?_
            refine AllReadyH.cons rfl (fun K hK => ?_) AllReadyH.nil
            · obtain ⟨A40, c40, wq40, hr40, sx40⟩ := st39.out.app (k := 2) (v := (.slice (some ⟨wq32.heap.size, 0, none⟩) 0 0)) rfl (KL1.out _ st39.out.below) (by have := HN.out; omega) (c := cb)
              have st40 := Lib.hid sx40
              rw [if_pos (by rfl)]
              refine op_app (.tmp 33) (.tmp 35) rfl rfl rfl rfl hr40 ?_
              simp only [Act.put, List.setIfInBounds_toArray, List.set_cons_zero, List.set_cons_succ]
              refine hK.out _ _ (KS.out _ st40.out.below) (fun hH40 => ?_)
              clear hK K hH39 hr40 sx40
              refine wpAnyH_ready (rs := [11]) (by kernel_rfl) (by simp) ?_
              refine AllReadyH.cons rfl (fun K hK => ?_) AllReadyH.nil
              · obtain ⟨A41, c41, wq41, hr41, sx41⟩ := st40.out.app (k := 1) (v := (.slice (some ⟨wq1.heap.size, 0, none⟩) 0 0)) rfl (KL2.out _ st40.out.below) (by have := HN.out; omega) (c := cc)
                have st41 := Lib.hid sx41
                rw [if_pos (by rfl)]
                refine op_app (.tmp 37) (.tmp 39) rfl rfl rfl rfl hr41 ?_
                simp only [Act.put, List.setIfInBounds_toArray, List.set_cons_zero, List.set_cons_succ]
                refine hK.out _ _ (KS.out _ st41.out.below) (fun hH41 => ?_)
                clear hK K hH40 hr41 sx41
                refine wpAnyH_take (i := 12) (v := ?_) rfl (by kernel_rfl) (by kernel_rfl) (by kernel_rfl) (fun _ _ _ h => h) (Or.inl ⟨by rfl, ?_⟩) (by assumption) ?_
                rotate_left
                · (intro w hSw; (try dsimp only at hSw); first | (go_simp; done) | (go_simp; with_reducible rfl))
                simp only [Act.put, List.getElem_toArray, List.getElem_cons_zero, List.getElem_cons_succ, List.setIfInBounds_toArray, List.set_cons_zero, List.set_cons_succ]
                refine wpAnyH_take (i := 13) (v := ?_) rfl (by kernel_rfl) (by kernel_rfl) (by kernel_rfl) (fun _ _ _ h => h) (Or.inl ⟨by rfl, ?_⟩) (by assumption) ?_
                rotate_left
                · (intro w hSw; (try dsimp only at hSw); first | (go_simp; done) | (go_simp; with_reducible rfl))
                simp only [Act.put, List.getElem_toArray, List.getElem_cons_zero, List.getElem_cons_succ, List.setIfInBounds_toArray, List.set_cons_zero, List.set_cons_succ]
                refine wpAnyH_take (i := 14) (v := ?_) rfl (by kernel_rfl) (by kernel_rfl) (by kernel_rfl) (fun _ _ _ h => h) (Or.inl ⟨by rfl, ?_⟩) (by assumption) ?_
                rotate_left
                · (intro w hSw; (try dsimp only at hSw); first | (go_simp; done) | (go_simp; with_reducible rfl))
                simp only [Act.put, List.getElem_toArray, List.getElem_cons_zero, List.getElem_cons_succ, List.setIfInBounds_toArray, List.set_cons_zero, List.set_cons_succ]
                refine wpAnyH_done (by kernel_rfl) ?_ _
                clear hH41
                go_wp2_with fail
                go_meet
                case rel => exact rows_end st41.out (by simp) (by simp) (by simp) HN.out
    · go_simp
      have st43 := Lib.hid (st0.out.clone (il.Own.empty1 wq0 3) (made wq0 _))
      refine hK.out _ _ (KS.out _ st43.out.below) (fun hH43 => ?_)
      clear hK K hHeld
      generalize wq0.alloc (.cells #[] 3) = wq43 at *
      refine wpAnyH_ready (rs := [0, 8]) (by kernel_rfl) (by simp) ?_
      refine AllReadyH.cons rfl (fun K hK => ?_) (AllReadyH.cons rfl (fun K hK => ?_) AllReadyH.nil)
      · go_simp
        have st44 := Lib.hid (st43.out.clone (il.Own.empty1 wq43 3) (made wq43 _))
        refine hK.out _ _ (KS.out _ st44.out.below) (fun hH44 => ?_)
        clear hK K hH43
        generalize wq43.alloc (.cells #[] 3) = wq44 at *
        refine wpAnyH_ready (rs := [3, 8]) (by kernel_rfl) (by simp) ?_
        refine AllReadyH.cons rfl (fun K hK => ?_) (AllReadyH.cons rfl (fun K hK => ?_) AllReadyH.nil)
        · obtain ⟨A45, c45, wq45, hr45, sx45⟩ := st44.out.app (k := 1) (v := (.slice (some ⟨wq43.heap.size, 0, none⟩) 0 0)) rfl (KL0.out _ st44.out.below) (by have := HN.out; omega) (c := ca)
          have st45 := Lib.hid sx45
          rw [if_pos (by rfl)]
          refine op_app (.tmp 29) (.tmp 31) rfl rfl rfl rfl hr45 ?_
          simp only [Act.put, List.setIfInBounds_toArray, List.set_cons_zero, List.set_cons_succ]
          refine hK.out _ _ (KS.out _ st45.out.below) (fun hH45 => ?_)
          clear hK K hH44 hr45 sx45
          refine wpAnyH_ready (rs := [7, 8]) (by kernel_rfl) (by simp) ?_
          refine AllReadyH.cons rfl (fun K hK => ?_) (AllReadyH.cons rfl (fun K hK => ?_) AllReadyH.nil)
          · obtain ⟨A46, c46, wq46, hr46, sx46⟩ := st45.out.app (k := 0) (v := (.slice (some ⟨wq0.heap.size, 0, none⟩) 0 0)) rfl (KL1.out _ st45.out.below) (by have := HN.out; omega) (c := cb)
            have st46 := Lib.hid sx46
            rw [if_pos (by rfl)]
            refine op_app (.tmp 33) (.tmp 35) rfl rfl rfl rfl hr46 ?_
            simp only [Act.put, List.setIfInBounds_toArray, List.set_cons_zero, List.set_cons_succ]
            refine hK.out _ _ (KS.out _ st46.out.below) (fun hH46 => ?_)
            clear hK K hH45 hr46 sx46
            refine wpAnyH_ready (rs := [8]) (by kernel_rfl) (by simp) ?_
            refine AllReadyH.cons rfl (fun K hK => ?_) AllReadyH.nil
            · go_simp
              have st47 := Lib.hid (st46.out.clone (il.Own.empty1 wq46 3) (made wq46 _))
              refine hK.out _ _ (KS.out _ st47.out.below) (fun hH47 => ?_)
              clear hK K hH46
              generalize wq46.alloc (.cells #[] 3) = wq47 at *
              refine wpAnyH_ready (rs := [11]) (by kernel_rfl) (by simp) ?_
              refine AllReadyH.cons rfl (fun K hK => ?_) AllReadyH.nil
              · obtain ⟨A48, c48, wq48, hr48, sx48⟩ := st47.out.app (k := 2) (v := (.slice (some ⟨wq46.heap.size, 0, none⟩) 0 0)) rfl (KL2.out _ st47.out.below) (by have := HN.out; omega) (c := cc)
                have st48 := Lib.hid sx48
                rw [if_pos (by rfl)]
                refine op_app (.tmp 37) (.tmp 39) rfl rfl rfl rfl hr48 ?_
                simp only [Act.put, List.setIfInBounds_toArray, List.set_cons_zero, List.set_cons_succ]
                refine hK.out _ _ (KS.out _ st48.out.below) (fun hH48 => ?_)
                clear hK K hH47 hr48 sx48
                refine wpAnyH_take (i := 12) (v := ?_) rfl (by kernel_rfl) (by kernel_rfl) (by kernel_rfl) (fun _ _ _ h => h) (Or.inl ⟨by rfl, ?_⟩) (by assumption) ?_
                rotate_left
                · (intro w hSw; (try dsimp only at hSw); first | (go_simp; done) | (go_simp; with_reducible rfl))
                simp only [Act.put, List.getElem_toArray, List.getElem_cons_zero, List.getElem_cons_succ, List.setIfInBounds_toArray, List.set_cons_zero, List.set_cons_succ]
                refine wpAnyH_take (i := 13) (v := ?_) rfl (by kernel_rfl) (by kernel_rfl) (by kernel_rfl) (fun _ _ _ h => h) (Or.inl ⟨by rfl, ?_⟩) (by assumption) ?_
                rotate_left
                · (intro w hSw; (try dsimp only at hSw); first | (go_simp; done) | (go_simp; with_reducible rfl))
                simp only [Act.put, List.getElem_toArray, List.getElem_cons_zero, List.getElem_cons_succ, List.setIfInBounds_toArray, List.set_cons_zero, List.set_cons_succ]
                refine wpAnyH_take (i := 14) (v := ?_) rfl (by kernel_rfl) (by kernel_rfl) (by kernel_rfl) (fun _ _ _ h => h) (Or.inl ⟨by rfl, ?_⟩) (by assumption) ?_
                rotate_left
                · (intro w hSw; (try dsimp only at hSw); first | (go_simp; done) | (go_simp; with_reducible rfl))
                simp only [Act.put, List.getElem_toArray, List.getElem_cons_zero, List.getElem_cons_succ, List.setIfInBounds_toArray, List.set_cons_zero, List.set_cons_succ]
                refine wpAnyH_done (by kernel_rfl) ?_ _
                clear hH48
                go_wp2_with fail
                go_meet
                case rel => exact rows_end st48.out (by simp) (by simp) (by simp) HN.out
          · go_simp
            have st50 := Lib.hid (st45.out.clone (il.Own.empty1 wq45 3) (made wq45 _))
            refine hK.out _ _ (KS.out _ st50.out.below) (fun hH50 => ?_)
            clear hK K hH45
            generalize wq45.alloc (.cells #[] 3) = wq50 at *
            refine wpAnyH_ready (rs := [7]) (by kernel_rfl) (by simp) ?_
            refine AllReadyH.cons rfl (fun K hK => ?_) AllReadyH.nil
            · obtain ⟨A51, c51, wq51, hr51, sx51⟩ := st50.out.app (k := 0) (v := (.slice (some ⟨wq0.heap.size, 0, none⟩) 0 0)) rfl (KL1.out _ st50.out.below) (by have := HN.out; omega) (c := cb)
              have st51 := Lib.hid sx51
              rw [if_pos (by rfl)]
              refine op_app (.tmp 33) (.tmp 35) rfl rfl rfl rfl hr51 ?_
              simp only [Act.put, List.setIfInBounds_toArray, List.set_cons_zero, List.set_cons_succ]
              refine hK.out _ _ (KS.out _ st51.out.below) (fun hH51 => ?_)
              clear hK K hH50 hr51 sx51
              refine wpAnyH_ready (rs := [11]) (by kernel_rfl) (by simp) ?_
              refine AllReadyH.cons rfl (fun K hK => ?_) AllReadyH.nil
              · obtain ⟨A52, c52, wq52, hr52, sx52⟩ := st51.out.app (k := 2) (v := (.slice (some ⟨wq45.heap.size, 0, none⟩) 0 0)) rfl (KL2.out _ st51.out.below) (by have := HN.out; omega) (c := cc)
                have st52 := Lib.hid sx52
                rw [if_pos (by rfl)]
                refine op_app (.tmp 37) (.tmp 39) rfl rfl rfl rfl hr52 ?_
                simp only [Act.put, List.setIfInBounds_toArray, List.set_cons_zero, List.set_cons_succ]
                refine hK.out _ _ (KS.out _ st52.out.below) (fun hH52 => ?_)
                clear hK K hH51 hr52 sx52
                refine wpAnyH_take (i := 12) (v := ?_) rfl (by kernel_rfl) (by kernel_rfl) (by kernel_rfl) (fun _ _ _ h => h) (Or.inl ⟨by rfl, ?_⟩) (by assumption) ?_
                rotate_left
                · (intro w hSw; (try dsimp only at hSw); first | (go_simp; done) | (go_simp; with_reducible rfl))
                simp only [Act.put, List.getElem_toArray, List.getElem_cons_zero, List.getElem_cons_succ, List.setIfInBounds_toArray, List.set_cons_zero, List.set_cons_succ]
                refine wpAnyH_take (i := 13) (v := ?_) rfl (by kernel_rfl) (by kernel_rfl) (by kernel_rfl) (fun _ _ _ h => h) (Or.inl ⟨by rfl, ?_⟩) (by assumption) ?_
                rotate_left
                · (intro w hSw; (try dsimp only at hSw); first | (go_simp; done) | (go_simp; with_reducible rfl))
                simp only [Act.put, List.getElem_toArray, List.getElem_cons_zero, List.getElem_cons_succ, List.setIfInBounds_toArray, List.set_cons_zero, List.set_cons_succ]
                refine wpAnyH_take (i := 14) (v := ?_) rfl (by kernel_rfl) (by kernel_rfl) (by kernel_rfl) (fun _ _ _ h => h) (Or.inl ⟨by rfl, ?_⟩) (by assumption) ?_
                rotate_left
                · (intro w hSw; (try dsimp only at hSw); first | (go_simp; done) | (go_simp; with_reducible rfl))
                simp only [Act.put, List.getElem_toArray, List.getElem_cons_zero, List.getElem_cons_succ, List.setIfInBounds_toArray, List.set_cons_zero, List.set_cons_succ]
                refine wpAnyH_done (by kernel_rfl) ?_ _
                clear hH52
                go_wp2_with fail
                go_meet
                case rel => exact rows_end st52.out (by simp) (by simp) (by simp) HN.out
        · go_simp
          have st54 := Lib.hid (st44.out.clone (il.Own.empty1 wq44 3) (made wq44 _))
          refine hK.out _ _ (KS.out _ st54.out.below) (fun hH54 => ?_)
          clear hK K hH44
          generalize wq44.alloc (.cells #[] 3) = wq54 at *
          refine wpAnyH_ready (rs := [3]) (by kernel_rfl) (by simp) ?_
          refine AllReadyH.cons rfl (fun K hK => ?_) AllReadyH.nil
          · obtain ⟨A55, c55, wq55, hr55, sx55⟩ := st54.out.app (k := 1) (v := (.slice (some ⟨wq43.heap.size, 0, none⟩) 0 0)) rfl (KL0.out _ st54.out.below) (by have := HN.out; omega) (c := ca)
            have st55 := Lib.hid sx55
            rw [if_pos (by rfl)]
            refine op_app (.tmp 29) (.tmp 31) rfl rfl rfl rfl hr55 ?_
            simp only [Act.put, List.setIfInBounds_toArray, List.set_cons_zero, List.set_cons_succ]
            refine hK.out _ _ (KS.out _ st55.out.below) (fun hH55 => ?_)
            clear hK K hH54 hr55 sx55
            refine wpAnyH_ready (rs := [7]) (by kernel_rfl) (by simp) ?_
            refine AllReadyH.cons rfl (fun K hK => ?_) AllReadyH.nil
            · obtain ⟨A56, c56, wq56, hr56, sx56⟩ := st55.out.app (k := 0) (v := (.slice (some ⟨wq0.heap.size, 0, none⟩) 0 0)) rfl (KL1.out _ st55.out.below) (by have := HN.out; omega) (c := cb)
              have st56 := Lib.hid sx56
              rw [if_pos (by rfl)]
              refine op_app (.tmp 33) (.tmp 35) rfl rfl rfl rfl hr56 ?_
              simp only [Act.put, List.setIfInBounds_toArray, List.set_cons_zero, List.set_cons_succ]
              refine hK.out _ _ (KS.out _ st56.out.below) (fun hH56 => ?_)
              clear hK K hH55 hr56 sx56
              refine wpAnyH_ready (rs := [11]) (by kernel_rfl) (by simp) ?_
              refine AllReadyH.cons rfl (fun K hK => ?_) AllReadyH.nil
              · obtain ⟨A57, c57, wq57, hr57, sx57⟩ := st56.out.app (k := 2) (v := (.slice (some ⟨wq44.heap.size, 0, none⟩) 0 0)) rfl (KL2.out _ st56.out.below) (by have := HN.out; omega) (c := cc)
                have st57 := Lib.hid sx57
                rw [if_pos (by rfl)]
                refine op_app (.tmp 37) (.tmp 39) rfl rfl rfl rfl hr57 ?_
                simp only [Act.put, List.setIfInBounds_toArray, List.set_cons_zero, List.set_cons_succ]
                refine hK.out _ _ (KS.out _ st57.out.below) (fun hH57 => ?_)
                clear hK K hH56 hr57 sx57
                refine wpAnyH_take (i := 12) (v := ?_) rfl (by kernel_rfl) (by kernel_rfl) (by kernel_rfl) (fun _ _ _ h => h) (Or.inl ⟨by rfl, ?_⟩) (by assumption) ?_
                rotate_left
                · (intro w hSw; (try dsimp only at hSw); first | (go_simp; done) | (go_simp; with_reducible rfl))
                simp only [Act.put, List.getElem_toArray, List.getElem_cons_zero, List.getElem_cons_succ, List.setIfInBounds_toArray, List.set_cons_zero, List.set_cons_succ]
                refine wpAnyH_take (i := 13) (v := ?_) rfl (by kernel_rfl) (by kernel_rfl) (by kernel_rfl) (fun _ _ _ h => h) (Or.inl ⟨by rfl, ?_⟩) (by assumption) ?_
                rotate_left
                · (intro w hSw; (try dsimp only at hSw); first | (go_simp; done) | (go_simp; with_reducible rfl))
                simp only [Act.put, List.getElem_toArray, List.getElem_cons_zero, List.getElem_cons_succ, List.setIfInBounds_toArray, List.set_cons_zero, List.set_cons_succ]
                refine wpAnyH_take (i := 14) (v := ?_) rfl (by kernel_rfl) (by kernel_rfl) (by kernel_rfl) (fun _ _ _ h => h) (Or.inl ⟨by rfl, ?_⟩) (by assumption) ?_
                rotate_left
                · (intro w hSw; (try dsimp only at hSw); first | (go_simp; done) | (go_simp; with_reducible rfl))
                simp only [Act.put, List.getElem_toArray, List.getElem_cons_zero, List.getElem_cons_succ, List.setIfInBounds_toArray, List.set_cons_zero, List.set_cons_succ]
                refine wpAnyH_done (by kernel_rfl) ?_ _
                clear hH57
                go_wp2_with fail
                go_meet
                case rel => exact rows_end st57.out (by simp) (by simp) (by simp) HN.out
      · go_simp
        have st59 := Lib.hid (st43.out.clone (il.Own.empty1 wq43 3) (made wq43 _))
        refine hK.out _ _ (KS.out _ st59.out.below) (fun hH59 => ?_)
        clear hK K hH43
        generalize wq43.alloc (.cells #[] 3) = wq59 at *
        refine wpAnyH_ready (rs := [0]) (by kernel_rfl) (by simp) ?_
        refine AllReadyH.cons rfl (fun K hK => ?_) AllReadyH.nil
        · go_simp
          have st60 := Lib.hid (st59.out.clone (il.Own.empty1 wq59 3) (made wq59 _))
          refine hK.out _ _ (KS.out _ st60.out.below) (fun hH60 => ?_)
          clear hK K hH59
          generalize wq59.alloc (.cells #[] 3) = wq60 at *
          refine wpAnyH_ready (rs := [3]) (by kernel_rfl) (by simp) ?_
          refine AllReadyH.cons rfl (fun K hK => ?_) AllReadyH.nil
          · obtain ⟨A61, c61, wq61, hr61, sx61⟩ := st60.out.app (k := 2) (v := (.slice (some ⟨wq59.heap.size, 0, none⟩) 0 0)) rfl (KL0.out _ st60.out.below) (by have := HN.out; omega) (c := ca)
            have st61 := Lib.hid sx61
            rw [if_pos (by rfl)]
            refine op_app (.tmp 29) (.tmp 31) rfl rfl rfl rfl hr61 ?_
            simp only [Act.put, List.setIfInBounds_toArray, List.set_cons_zero, List.set_cons_succ]
            refine hK.out _ _ (KS.out _ st61.out.below) (fun hH61 => ?_)
            clear hK K hH60 hr61 sx61
            refine wpAnyH_ready (rs := [7]) (by kernel_rfl) (by simp) ?_
            refine AllReadyH.cons rfl (fun K hK => ?_) AllReadyH.nil
            · obtain ⟨A62, c62, wq62, hr62, sx62⟩ := st61.out.app (k := 0) (v := (.slice (some ⟨wq0.heap.size, 0, none⟩) 0 0)) rfl (KL1.out _ st61.out.below) (by have := HN.out; omega) (c := cb)
              have st62 := Lib.hid sx62
              rw [if_pos (by rfl)]
              refine op_app (.tmp 33) (.tmp 35) rfl rfl rfl rfl hr62 ?_
              simp only [Act.put, List.setIfInBounds_toArray, List.set_cons_zero, List.set_cons_succ]
              refine hK.out _ _ (KS.out _ st62.out.below) (fun hH62 => ?_)
              clear hK K hH61 hr62 sx62
              refine wpAnyH_ready (rs := [11]) (by kernel_rfl) (by simp) ?_
              refine AllReadyH.cons rfl (fun K hK => ?_) AllReadyH.nil
              · obtain ⟨A63, c63, wq63, hr63, sx63⟩ := st62.out.app (k := 1) (v := (.slice (some ⟨wq43.heap.size, 0, none⟩) 0 0)) rfl (KL2.out _ st62.out.below) (by have := HN.out; omega) (c := cc)
                have st63 := Lib.hid sx63
                rw [if_pos (by rfl)]
                refine op_app (.tmp 37) (.tmp 39) rfl rfl rfl rfl hr63 ?_
                simp only [Act.put, List.setIfInBounds_toArray, List.set_cons_zero, List.set_cons_succ]
                refine hK.out _ _ (KS.out _ st63.out.below) (fun hH63 => ?_)
                clear hK K hH62 hr63 sx63
                refine wpAnyH_take (i := 12) (v := ?_) rfl (by kernel_rfl) (by kernel_rfl) (by kernel_rfl) (fun _ _ _ h => h) (Or.inl ⟨by rfl, ?_⟩) (by assumption) ?_
                rotate_left
                · (intro w hSw; (try dsimp only at hSw); first | (go_simp; done) | (go_simp; with_reducible rfl))
                simp only [Act.put, List.getElem_toArray, List.getElem_cons_zero, List.getElem_cons_succ, List.setIfInBounds_toArray, List.set_cons_zero, List.set_cons_succ]
                refine wpAnyH_take (i := 13) (v := ?_) rfl (by kernel_rfl) (by kernel_rfl) (by kernel_rfl) (fun _ _ _ h => h) (Or.inl ⟨by rfl, ?_⟩) (by assumption) ?_
                rotate_left
                · (intro w hSw; (try dsimp only at hSw); first | (go_simp; done) | (go_simp; with_reducible rfl))
                simp only [Act.put, List.getElem_toArray, List.getElem_cons_zero, List.getElem_cons_succ, List.setIfInBounds_toArray, List.set_cons_zero, List.set_cons_succ]
                refine wpAnyH_take (i := 14) (v := ?_) rfl (by kernel_rfl) (by kernel_rfl) (by kernel_rfl) (fun _ _ _ h => h) (Or.inl ⟨by rfl, ?_⟩) (by assumption) ?_
                rotate_left
                · (intro w hSw; (try dsimp only at hSw); first | (go_simp; done) | (go_simp; with_reducible rfl))
                simp only [Act.put, List.getElem_toArray, List.getElem_cons_zero, List.getElem_cons_succ, List.setIfInBounds_toArray, List.set_cons_zero, List.set_cons_succ]
                refine wpAnyH_done (by kernel_rfl) ?_ _
                clear hH63
                go_wp2_with fail
                go_meet
                case rel => exact rows_end st63.out (by simp) (by simp) (by simp) HN.out
    · go_simp
      have st65 := Lib.hid (st0.out.clone (il.Own.empty1 wq0 3) (made wq0 _))
      refine hK.out _ _ (KS.out _ st65.out.below) (fun hH65 => ?_)
      clear hK K hHeld
      generalize wq0.alloc (.cells #[] 3) = wq65 at *
      refine wpAnyH_ready (rs := [0, 4]) (by kernel_rfl) (by simp) ?_
      refine AllReadyH.cons rfl (fun K hK => ?_) (AllReadyH.cons rfl (fun K hK => ?_) AllReadyH.nil)
      · go_simp
        have st66 := Lib.hid (st65.out.clone (il.Own.empty1 wq65 3) (made wq65 _))
        refine hK.out _ _ (KS.out _ st66.out.below) (fun hH66 => ?_)
        clear hK K hH65
        generalize wq65.alloc (.cells #[] 3) = wq66 at *
        refine wpAnyH_ready (rs := [3, 4]) (by kernel_rfl) (by simp) ?_
        refine AllReadyH.cons rfl (fun K hK => ?_) (AllReadyH.cons rfl (fun K hK => ?_) AllReadyH.nil)
        · obtain ⟨A67, c67, wq67, hr67, sx67⟩ := st66.out.app (k := 1) (v := (.slice (some ⟨wq65.heap.size, 0, none⟩) 0 0)) rfl (KL0.out _ st66.out.below) (by have := HN.out; omega) (c := ca)
          have st67 := Lib.hid sx67
          rw [if_pos (by rfl)]
          refine op_app (.tmp 29) (.tmp 31) rfl rfl rfl rfl hr67 ?_
          simp only [Act.put, List.setIfInBounds_toArray, List.set_cons_zero, List.set_cons_succ]
          refine hK.out _ _ (KS.out _ st67.out.below) (fun hH67 => ?_)
          clear hK K hH66 hr67 sx67
          refine wpAnyH_ready (rs := [4]) (by kernel_rfl) (by simp) ?_
          refine AllReadyH.cons rfl (fun K hK => ?_) AllReadyH.nil
          · go_simp
            have st68 := Lib.hid (st67.out.clone (il.Own.empty1 wq67 3) (made wq67 _))
            refine hK.out _ _ (KS.out _ st68.out.below) (fun hH68 => ?_)
            clear hK K hH67
            generalize wq67.alloc (.cells #[] 3) = wq68 at *
            refine wpAnyH_ready (rs := [7]) (by kernel_rfl) (by simp) ?_
            refine AllReadyH.cons rfl (fun K hK => ?_) AllReadyH.nil
            · obtain ⟨A69, c69, wq69, hr69, sx69⟩ := st68.out.app (k := 2) (v := (.slice (some ⟨wq67.heap.size, 0, none⟩) 0 0)) rfl (KL1.out _ st68.out.below) (by have := HN.out; omega) (c := cb)
              have st69 := Lib.hid sx69
              rw [if_pos (by rfl)]
              refine op_app (.tmp 33) (.tmp 35) rfl rfl rfl rfl hr69 ?_
              simp only [Act.put, List.setIfInBounds_toArray, List.set_cons_zero, List.set_cons_succ]
              refine hK.out _ _ (KS.out _ st69.out.below) (fun hH69 => ?_)
              clear hK K hH68 hr69 sx69
              refine wpAnyH_ready (rs := [11]) (by kernel_rfl) (by simp) ?_
              refine AllReadyH.cons rfl (fun K hK => ?_) AllReadyH.nil
              · obtain ⟨A70, c70, wq70, hr70, sx70⟩ := st69.out.app (k := 0) (v := (.slice (some ⟨wq0.heap.size, 0, none⟩) 0 0)) rfl (KL2.out _ st69.out.below) (by have := HN.out; omega) (c := cc)
                have st70 := Lib.hid sx70
                rw [if_pos (by rfl)]
                refine op_app (.tmp 37) (.tmp 39) rfl rfl rfl rfl hr70 ?_
                simp only [Act.put, List.setIfInBounds_toArray, List.set_cons_zero, List.set_cons_succ]
                refine hK.out _ _ (KS.out _ st70.out.below) (fun hH70 => ?_)
                clear hK K hH69 hr70 sx70
                refine wpAnyH_take (i := 12) (v := ?_) rfl (by kernel_rfl) (by kernel_rfl) (by kernel_rfl) (fun _ _ _ h => h) (Or.inl ⟨by rfl, ?_⟩) (by assumption) ?_
                rotate_left
                · (intro w hSw; (try dsimp only at hSw); first | (go_simp; done) | (go_simp; with_reducible rfl))
                simp only [Act.put, List.getElem_toArray, List.getElem_cons_zero, List.getElem_cons_succ, List.setIfInBounds_toArray, List.set_cons_zero, List.set_cons_succ]
                refine wpAnyH_take (i := 13) (v := ?_) rfl (by kernel_rfl) (by kernel_rfl) (by kernel_rfl) (fun _ _ _ h => h) (Or.inl ⟨by rfl, ?_⟩) (by assumption) ?_
                rotate_left
                · (intro w hSw; (try dsimp only at hSw); first | (go_simp; done) | (go_simp; with_reducible rfl))
                simp only [Act.put, List.getElem_toArray, List.getElem_cons_zero, List.getElem_cons_succ, List.setIfInBounds_toArray, List.set_cons_zero, List.set_cons_succ]
                refine wpAnyH_take (i := 14) (v := ?_) rfl (by kernel_rfl) (by kernel_rfl) (by kernel_rfl) (fun _ _ _ h => h) (Or.inl ⟨by rfl, ?_⟩) (by assumption) ?_
                rotate_left
                · (intro w hSw; (try dsimp only at hSw); first | (go_simp; done) | (go_simp; with_reducible rfl))
                simp only [Act.put, List.getElem_toArray, List.getElem_cons_zero, List.getElem_cons_succ, List.setIfInBounds_toArray, List.set_cons_zero, List.set_cons_succ]
                refine wpAnyH_done (by kernel_rfl) ?_ _
                clear hH70
                go_wp2_with fail
                go_meet
                case rel => exact rows_end st70.out (by simp) (by simp) (by simp) HN.out
        · go_simp
          have st72 := Lib.hid (st66.out.clone (il.Own.empty1 wq66 3) (made wq66 _))
          refine hK.out _ _ (KS.out _ st72.out.below) (fun hH72 => ?_)
          clear hK K hH66
          generalize wq66.alloc (.cells #[] 3) = wq72 at *
          refine wpAnyH_ready (rs := [3]) (by kernel_rfl) (by simp) ?_
          refine AllReadyH.cons rfl (fun K hK => ?_) AllReadyH.nil
          · obtain ⟨A73, c73, wq73, hr73, sx73⟩ := st72.out.app (k := 1) (v := (.slice (some ⟨wq65.heap.size, 0, none⟩) 0 0)) rfl (KL0.out _ st72.out.below) (by have := HN.out; omega) (c := ca)
            have st73 := Lib.hid sx73
            rw [if_pos (by rfl)]
            refine op_app (.tmp 29) (.tmp 31) rfl rfl rfl rfl hr73 ?_
            simp only [Act.put, List.setIfInBounds_toArray, List.set_cons_zero, List.set_cons_succ]
            refine hK.out _ _ (KS.out _ st73.out.below) (fun hH73 => ?_)
            clear hK K hH72 hr73 sx73
            refine wpAnyH_ready (rs := [7]) (by kernel_rfl) (by simp) ?_
            refine AllReadyH.cons rfl (fun K hK => ?_) AllReadyH.nil
            · obtain ⟨A74, c74, wq74, hr74, sx74⟩ := st73.out.app (k := 2) (v := (.slice (some ⟨wq66.heap.size, 0, none⟩) 0 0)) rfl (KL1.out _ st73.out.below) (by have := HN.out; omega) (c := cb)
              have st74 := Lib.hid sx74
              rw [if_pos (by rfl)]
              refine op_app (.tmp 33) (.tmp 35) rfl rfl rfl rfl hr74 ?_
              simp only [Act.put, List.setIfInBounds_toArray, List.set_cons_zero, List.set_cons_succ]
              refine hK.out _ _ (KS.out _ st74.out.below) (fun hH74 => ?_)
              clear hK K hH73 hr74 sx74
              refine wpAnyH_ready (rs := [11]) (by kernel_rfl) (by simp) ?_
              refine AllReadyH.cons rfl (fun K hK => ?_) AllReadyH.nil
              · obtain ⟨A75, c75, wq75, hr75, sx75⟩ := st74.out.app (k := 0) (v := (.slice (some ⟨wq0.heap.size, 0, none⟩) 0 0)) rfl (KL2.out _ st74.out.below) (by have := HN.out; omega) (c := cc)
                have st75 := Lib.hid sx75
                rw [if_pos (by rfl)]
                refine op_app (.tmp 37) (.tmp 39) rfl rfl rfl rfl hr75 ?_
                simp only [Act.put, List.setIfInBounds_toArray, List.set_cons_zero, List.set_cons_succ]
                refine hK.out _ _ (KS.out _ st75.out.below) (fun hH75 => ?_)
                clear hK K hH74 hr75 sx75
                refine wpAnyH_take (i := 12) (v := ?_) rfl (by kernel_rfl) (by kernel_rfl) (by kernel_rfl) (fun _ _ _ h => h) (Or.inl ⟨by rfl, ?_⟩) (by assumption) ?_
                rotate_left
                · (intro w hSw; (try dsimp only at hSw); first | (go_simp; done) | (go_simp; with_reducible rfl))
                simp only [Act.put, List.getElem_toArray, List.getElem_cons_zero, List.getElem_cons_succ, List.setIfInBounds_toArray, List.set_cons_zero, List.set_cons_succ]
                refine wpAnyH_take (i := 13) (v := ?_) rfl (by kernel_rfl) (by kernel_rfl) (by kernel_rfl) (fun _ _ _ h => h) (Or.inl ⟨by rfl, ?_⟩) (by assumption) ?_
                rotate_left
                · (intro w hSw; (try dsimp only at hSw); first | (go_simp; done) | (go_simp; with_reducible rfl))
                simp only [Act.put, List.getElem_toArray, List.getElem_cons_zero, List.getElem_cons_succ, List.setIfInBounds_toArray, List.set_cons_zero, List.set_cons_succ]
                refine wpAnyH_take (i := 14) (v := ?_) rfl (by kernel_rfl) (by kernel_rfl) (by kernel_rfl) (fun _ _ _ h => h) (Or.inl ⟨by rfl, ?_⟩) (by assumption) ?_
                rotate_left
                · (intro w hSw; (try dsimp only at hSw); first | (go_simp; done) | (go_simp; with_reducible rfl))
                simp only [Act.put, List.getElem_toArray, List.getElem_cons_zero, List.getElem_cons_succ, List.setIfInBounds_toArray, List.set_cons_zero, List.set_cons_succ]
                refine wpAnyH_done (by kernel_rfl) ?_ _
                clear hH75
                go_wp2_with fail
                go_meet
                case rel => exact rows_end st75.out (by simp) (by simp) (by simp) HN.out
      · go_simp
        have st77 := Lib.hid (st65.out.clone (il.Own.empty1 wq65 3) (made wq65 _))
        refine hK.out _ _ (KS.out _ st77.out.below) (fun hH77 => ?_)
        clear hK K hH65
        generalize wq65.alloc (.cells #[] 3) = wq77 at *
        refine wpAnyH_ready (rs := [0]) (by kernel_rfl) (by simp) ?_
        refine AllReadyH.cons rfl (fun K hK => ?_) AllReadyH.nil
        · go_simp
          have st78 := Lib.hid (st77.out.clone (il.Own.empty1 wq77 3) (made wq77 _))
          refine hK.out _ _ (KS.out _ st78.out.below) (fun hH78 => ?_)
          clear hK K hH77
          generalize wq77.alloc (.cells #[] 3) = wq78 at *
          refine wpAnyH_ready (rs := [3]) (by kernel_rfl) (by simp) ?_
          refine AllReadyH.cons rfl (fun K hK => ?_) AllReadyH.nil
          · obtain ⟨A79, c79, wq79, hr79, sx79⟩ := st78.out.app (k := 2) (v := (.slice (some ⟨wq77.heap.size, 0, none⟩) 0 0)) rfl (KL0.out _ st78.out.below) (by have := HN.out; omega) (c := ca)
            have st79 := Lib.hid sx79
            rw [if_pos (by rfl)]
            refine op_app (.tmp 29) (.tmp 31) rfl rfl rfl rfl hr79 ?_
            simp only [Act.put, List.setIfInBounds_toArray, List.set_cons_zero, List.set_cons_succ]
            refine hK.out _ _ (KS.out _ st79.out.below) (fun hH79 => ?_)
            clear hK K hH78 hr79 sx79
            refine wpAnyH_ready (rs := [7]) (by kernel_rfl) (by simp) ?_
            refine AllReadyH.cons rfl (fun K hK => ?_) AllReadyH.nil
            · obtain ⟨A80, c80, wq80, hr80, sx80⟩ := st79.out.app (k := 1) (v := (.slice (some ⟨wq65.heap.size, 0, none⟩) 0 0)) rfl (KL1.out _ st79.out.below) (by have := HN.out; omega) (c := cb)
              have st80 := Lib.hid sx80
              rw [if_pos (by rfl)]
              refine op_app (.tmp 33) (.tmp 35) rfl rfl rfl rfl hr80 ?_
              simp only [Act.put, List.setIfInBounds_toArray, List.set_cons_zero, List.set_cons_succ]
              refine hK.out _ _ (KS.out _ st80.out.below) (fun hH80 => ?_)
              clear hK K hH79 hr80 sx80
              refine wpAnyH_ready (rs := [11]) (by kernel_rfl) (by simp) ?_
              refine AllReadyH.cons rfl (fun K hK => ?_) AllReadyH.nil
              · obtain ⟨A81, c81, wq81, hr81, sx81⟩ := st80.out.app (k := 0) (v := (.slice (some ⟨wq0.heap.size, 0, none⟩) 0 0)) rfl (KL2.out _ st80.out.below) (by have := HN.out; omega) (c := cc)
                have st81 := Lib.hid sx81
                rw [if_pos (by rfl)]
                refine op_app (.tmp 37) (.tmp 39) rfl rfl rfl rfl hr81 ?_
                simp only [Act.put, List.setIfInBounds_toArray, List.set_cons_zero, List.set_cons_succ]
                refine hK.out _ _ (KS.out _ st81.out.below) (fun hH81 => ?_)
                clear hK K hH80 hr81 sx81
                refine wpAnyH_take (i := 12) (v := ?_) rfl (by kernel_rfl) (by kernel_rfl) (by kernel_rfl) (fun _ _ _ h => h) (Or.inl ⟨by rfl, ?_⟩) (by assumption) ?_
                rotate_left
                · (intro w hSw; (try dsimp only at hSw); first | (go_simp; done) | (go_simp; with_reducible rfl))
                simp only [Act.put, List.getElem_toArray, List.getElem_cons_zero, List.getElem_cons_succ, List.setIfInBounds_toArray, List.set_cons_zero, List.set_cons_succ]
                refine wpAnyH_take (i := 13) (v := ?_) rfl (by kernel_rfl) (by kernel_rfl) (by kernel_rfl) (fun _ _ _ h => h) (Or.inl ⟨by rfl, ?_⟩) (by assumption) ?_
                rotate_left
                · (intro w hSw; (try dsimp only at hSw); first | (go_simp; done) | (go_simp; with_reducible rfl))
                simp only [Act.put, List.getElem_toArray, List.getElem_cons_zero, List.getElem_cons_succ, List.setIfInBounds_toArray, List.set_cons_zero, List.set_cons_succ]
                refine wpAnyH_take (i := 14) (v := ?_) rfl (by kernel_rfl) (by kernel_rfl) (by kernel_rfl) (fun _ _ _ h => h) (Or.inl ⟨by rfl, ?_⟩) (by assumption) ?_
                rotate_left
                · (intro w hSw; (try dsimp only at hSw); first | (go_simp; done) | (go_simp; with_reducible rfl))
                simp only [Act.put, List.getElem_toArray, List.getElem_cons_zero, List.getElem_cons_succ, List.setIfInBounds_toArray, List.set_cons_zero, List.set_cons_succ]
                refine wpAnyH_done (by kernel_rfl) ?_ _
                clear hH81
                go_wp2_with fail
                go_meet
                case rel => exact rows_end st81.out (by simp) (by simp) (by simp) HN.out
  case rest =>
    obtain ⟨A1, c1x, A2, c2x, A3, c3x, rfl, rfl, rfl, L1, hbc⟩ := hcut
    have hmw := made wc (.cells #[.bool true, .bool false] 4)
    have bwl : Blk (wc.alloc (.cells #[.bool true, .bool false] 4)) wc.heap.size 4 #[.bool true, .bool false] := Blk.new _ _ _
    have hb3l := up hbc hmw hbc.size
    have BL := Lib.hid (up B3.out hb3l B3.out.size)
    have BXL := Lib.hid (BX3.out.below hb3l BX3.out.lt)
    have LL := Lib.hid (L3.out.keep hb3l)
    have L1L := Lib.hid (L1.keep hmw)
    have TL := Lib.hid (T3.out.keep hb3l)
    have BWL := Lib.hid bwl
    clear hmw bwl hb3l hbc L1 B3 BX3 L3 T3
    go_wp2_with fail
    generalize wc.alloc (.cells #[.bool true, .bool false] 4) = wL at *
    go_loopw [43] (fun j wr => ∃ (k : Nat) (W : World), W = wr ∧ j = .int .i64 k ∧ k ≤ 2 ∧ Below wL.heap.size wL wr) (fun j _ => 2 - (intOf j).toNat)
    case atStart => exact ⟨0, _, rfl, rfl, by omega, Below.refl _ _⟩
    case round =>
    obtain ⟨k, wr, rfl, rfl, hk, hbr⟩ := hrel
    have HBR := Lib.hid hbr
    have BXr := Lib.hid (BXL.out.below hbr BXL.out.lt)
    have x0 := BXr.out.cell 0
    have x1 := BXr.out.cell 1
    have x2 := BXr.out.cell 2
    have x3 := BXr.out.cell 3
    have Lr := Lib.hid (LL.out.keep hbr)
    have L1r := Lib.hid (L1L.out.keep hbr)
    have Tr := Lib.hid (TL.out.keep hbr)
    have bwr := BWL.out.below hbr BWL.out.lt
    clear hbr BWL LL L1L TL
    by_cases hkl : k < 2
    · have kk : decide ((k : Int) < 2) = true := decide_eq_true (by omega)
      obtain ⟨on, hon⟩ : ∃ on : Bool, wr.cell? ⟨wc.heap.size, k, none⟩ = some (.bool on) := by
        have e := bwr.cell k
        match k, hkl with
        | 0, _ => exact ⟨true, e⟩
        | 1, _ => exact ⟨false, e⟩
      have SE := Lib.hid (set_any o A ca la B cb lb C cc lc z p on wr RH.out Lr.out)
      have WR := Lib.hid (fun ws (h : Below wr.heap.size wr ws) => wrong_any o A ca la B cb lb C cc lc z p on ws (Lr.out.keep h) (by have := HN.out; omega))
      clear bwr BXL
      go_wp2_with fail
      refine SE.out.mono ?_
      rintro e w4 (⟨hne, rfl, hb4⟩ | ⟨he0, t0, t1, t2, rfl, ot⟩)
      · have g5 : Blk (w4.alloc (.cells #[.int .i64 0, .slice none 0 0, .slice none 0 0, .slice none 0 0] 24)) w4.heap.size 24 #[.int .i64 0, .slice none 0 0, .slice none 0 0, .slice none 0 0] := Blk.new _ _ _
        have hm5 := made w4 (.cells #[.int .i64 0, .slice none 0 0, .slice none 0 0, .slice none 0 0] 24)
        have hb5 := up hb4 hm5 hb4.size
        have WR5 := Lib.hid (WR.out _ hb5)
        have X5 := BXr.out.below hb5 BXr.out.lt
        have y0 := X5.cell 0
        have y1 := X5.cell 1
        have y2 := X5.cell 2
        have y3 := X5.cell 3
        have kne : (wrongAny o la lb lc z p on != 0) = true := by simpa using hne
        have G5 := Lib.hid g5
        have HB5 := Lib.hid hb5
        clear SE WR g5 hm5 hb5 hb4 X5 x0 x1 x2 x3 hne
        generalize wrongAny o la lb lc z p on = er at *
        go_wp2_with fail
        generalize w4.alloc (.cells #[.int .i64 0, .slice none 0 0, .slice none 0 0, .slice none 0 0] 24) = w5 at *
        refine WR5.out.mono ?_
        rintro e w6 ⟨rfl, hb6⟩
        have G6 := G5.out.below hb6 G5.out.lt
        have g0 := G6.cell 0
        have g1 := G6.cell 1
        have g2 := G6.cell 2
        have g3 := G6.cell 3
        have HB6 := Lib.hid (up HB5.out hb6 HB5.out.size)
        have HEZ := Lib.hid (hequal_zero w6)
        clear hb6 G6 y0 y1 y2 y3 G5 HB5 WR5
        go_wp2_with fail
        refine HEZ.out.mono ?_
        rintro e w7 ⟨rfl, hb7⟩
        have HB7 := Lib.hid (up HBR.out (up HB6.out hb7 HB6.out.size) HBR.out.size)
        clear hb7 g0 g1 g2 g3 HB6 HEZ
        go_wp2_with fail
        refine ⟨⟨k + 1, _, rfl, by go_num, by omega, HB7.out⟩, by simp [intOf]; omega⟩
      · cases on with
        | true =>
        obtain ⟨G1, d1, G2, d2, G3, d3, rfl, rfl, rfl⟩ := ot.tri.open3
        have hb4 := ot.below
        have RN := Lib.hid (rightH_new RH.out he0)
        have zz := wrongAny_z he0
        have ZZ := Lib.hid zz
        have g5 : Blk (w4.alloc (.cells #[.int .i64 o, .slice G1 (na 1 z true p la).length d1, .slice G2 (na 2 z true p lb).length d2, .slice G3 (na 3 z true p lc).length d3] 24)) w4.heap.size 24 #[.int .i64 o, .slice G1 (na 1 z true p la).length d1, .slice G2 (na 2 z true p lb).length d2, .slice G3 (na 3 z true p lc).length d3] := Blk.new _ _ _
        have hm5 := made w4 (.cells #[.int .i64 o, .slice G1 (na 1 z true p la).length d1, .slice G2 (na 2 z true p lb).length d2, .slice G3 (na 3 z true p lc).length d3] 24)
        have T5 := Lib.hid (ot.tri.below hm5)
        have hb5 := up hb4 hm5 hb4.size
        have WR5 := Lib.hid (WR.out _ hb5)
        rw [he0] at WR5
        have X5 := BXr.out.below hb5 BXr.out.lt
        have y0 := X5.cell 0
        have y1 := X5.cell 1
        have y2 := X5.cell 2
        have y3 := X5.cell 3
        have G5 := Lib.hid g5
        have HB5 := Lib.hid hb5
        have NL := Lib.hid (show (na 1 z true p la).length ≤ 41 ∧ (na 2 z true p lb).length ≤ 41 ∧ (na 3 z true p lc).length ≤ 41 from by have h1 := na_len 1 z true p la; have h2 := na_len 2 z true p lb; have h3 := na_len 3 z true p lc; have := HN.out; omega)
        have hwz : IntKind.i64.wrap (z - 1) = z - 1 := IntWalk.i64_in _ (by omega)
        clear g5 hm5 hb4 hb5 X5 ot WR SE x0 x1 x2 x3 he0 zz
        go_wp2_with fail
        generalize hw5 : w4.alloc (.cells #[.int .i64 o, .slice G1 (na 1 z true p la).length d1, .slice G2 (na 2 z true p lb).length d2, .slice G3 (na 3 z true p lc).length d3] 24) = w5 at *
        clear y0 y1 y2 y3
        refine WR5.out.mono ?_
        rintro e w6 ⟨rfl, hb6⟩
        have HB6 := Lib.hid (up HB5.out hb6 HB5.out.size)
        have G6 := Lib.hid (G5.out.below hb6 G5.out.lt)
        have T6 := Lib.hid (T5.out.below hb6)
        have X6 := BXr.out.below HB6.out BXr.out.lt
        have y0 := X6.cell 0
        have LX := Lib.hid (L1r.out.keep HB6.out)
        have bxk : Blk (w6.alloc (.cells #[.int .i64 o, .slice A1 la.length c1x, .slice A2 lb.length c2x, .slice A3 lc.length c3x] 24)) w6.heap.size 24 #[.int .i64 o, .slice A1 la.length c1x, .slice A2 lb.length c2x, .slice A3 lc.length c3x] := Blk.new _ _ _
        have hmx := made w6 (.cells #[.int .i64 o, .slice A1 la.length c1x, .slice A2 lb.length c2x, .slice A3 lc.length c3x] 24)
        have hix := ix3 ZZ.out w6.heap.size
        obtain ⟨X, cx, hcx, hX⟩ := cell3 ZZ.out bxk (LX.out.keep hmx)
        have RW := Lib.hid (rwith_any X cx (sel z la lb lc) p (w6.alloc (.cells #[.int .i64 o, .slice A1 la.length c1x, .slice A2 lb.length c2x, .slice A3 lc.length c3x] 24)) (nums_lay hX) (by have := sel_len (z := z) RH.out; omega))
        have BXK := Lib.hid bxk
        clear hb6 X6 bxk hX hmx G5 T5 HB5 WR5 hw5
        generalize hw8 : w6.alloc (.cells #[.int .i64 o, .slice A1 la.length c1x, .slice A2 lb.length c2x, .slice A3 lc.length c3x] 24) = w8 at *
        go_wp2_with (rw [hw8])
        refine RW.out.mono ?_
        rintro e w9 ⟨v9, rfl, own9a, hb9⟩
        have own9 : il.OwnI w9 w8.heap.size v9 (nw true p (sel z la lb lc)) := own9a
        obtain ⟨X9, c9, rfl, -⟩ := own9.open_
        obtain ⟨A', ca', B', cb', C', cc', bw, LW, hbw⟩ := want_box (o := o) (z := z) (p := p) (on := true) (ca := c1x) (cb := c2x) (cc := c3x) (c9 := c9) LX.out ZZ.out hw8.symm hb9 own9 (by have := sel_len (z := z) RH.out; have := nw_len true (sel z la lb lc) p; omega)
        have bx9 := BXK.out.below hb9 BXK.out.lt
        have fz := bx9.free z.toNat
        have cz9 : w9.cell? ⟨w6.heap.size, z.toNat, none⟩ = some (.slice X (sel z la lb lc).length cx) := (hb9.cell (p := ⟨w6.heap.size, z.toNat, none⟩) BXK.out.lt).trans hcx
        have BW := Lib.hid bw
        have LWH := Lib.hid LW
        have HBW := Lib.hid hbw
        clear bw LW hbw own9 own9a bx9 hb9 hcx y0 hix hw8 RW
        go_upto_region 17 with fail
        generalize w9.setCell ⟨w6.heap.size, z.toNat, none⟩ (.slice X9 (nw true p (sel z la lb lc)).length c9) = w10 at *
        clear fz cz9
        have G10 := Lib.hid (G6.out.below HBW.out G6.out.lt)
        have T10 := Lib.hid (T6.out.below HBW.out)
        have g0 := G10.out.cell 0
        have g1 := G10.out.cell 1
        have g2 := G10.out.cell 2
        have g3 := G10.out.cell 3
        have x0 := BW.out.cell 0
        have x1 := BW.out.cell 1
        have x2 := BW.out.cell 2
        have x3 := BW.out.cell 3
        have GL := Lib.hid (T10.out.ls (by have := NL.out.1; omega) (by have := NL.out.2.1; omega) (by have := NL.out.2.2; omega))
        have HE := Lib.hid (hequal_eq o G1 d1 (na 1 z true p la) G2 d2 (na 2 z true p lb) G3 d3 (na 3 z true p lc) A' ca' B' cb' C' cc' w10 GL.out LWH.out)
        have HB10 := Lib.hid (up HB6.out HBW.out HB6.out.size)
        clear HBW
        go_wp2_with fail
        refine HE.out.mono ?_
        rintro e w11 ⟨rfl, hb11⟩
        have G11 := Lib.hid (G10.out.below hb11 G10.out.lt)
        have y0 := G11.out.cell 0
        have y1 := G11.out.cell 1
        have y2 := G11.out.cell 2
        have y3 := G11.out.cell 3
        have RI := Lib.hid (hright_any o G1 d1 (na 1 z true p la) G2 d2 (na 2 z true p lb) G3 d3 (na 3 z true p lc) true (by simp; exact RN.out) w11 (GL.out.keep hb11))
        have T11 := Lib.hid (T10.out.below hb11)
        have HB11 := Lib.hid (up HB10.out hb11 HB10.out.size)
        clear hb11 g0 g1 g2 g3 x0 x1 x2 x3
        go_wp2_with fail
        refine RI.out.mono ?_
        rintro e w12 ⟨rfl, hb12⟩
        have G12 := Lib.hid (G11.out.below hb12 G11.out.lt)
        have g0 := G12.out.cell 0
        have g1 := G12.out.cell 1
        have g2 := G12.out.cell 2
        have g3 := G12.out.cell 3
        have T12 := Lib.hid (T11.out.below hb12)
        have HB12 := Lib.hid (up HB11.out hb12 HB11.out.size)
        have bs : Blk (w12.alloc (.cells #[.slice G1 (na 1 z true p la).length d1, .slice G2 (na 2 z true p lb).length d2, .slice G3 (na 3 z true p lc).length d3] 22)) w12.heap.size 22 #[.slice G1 (na 1 z true p la).length d1, .slice G2 (na 2 z true p lb).length d2, .slice G3 (na 3 z true p lc).length d3] := Blk.new _ _ _
        have HW : wL.heap.size ≤ wr.heap.size := HBR.out.size
        have YS := Lib.hid (Ys.mk (b := wL.heap.size) bs ((OwnY.of (T12.out.own (.slice G1 (na 1 z true p la).length d1, na 1 z true p la) (by simp)) HW (Nat.le_refl _)).keep (made _ _)) ((OwnY.of (T12.out.own (.slice G2 (na 2 z true p lb).length d2, na 2 z true p lb) (by simp)) HW (Nat.le_refl _)).keep (made _ _)) ((OwnY.of (T12.out.own (.slice G3 (na 3 z true p lc).length d3, na 3 z true p lc) (by simp)) HW (Nat.le_refl _)).keep (made _ _)))
        have HBS := Lib.hid (up HBR.out (HB12.out.alloc HB12.out.size (.cells #[.slice G1 (na 1 z true p la).length d1, .slice G2 (na 2 z true p lb).length d2, .slice G3 (na 3 z true p lc).length d3] 22)) HBR.out.size)
        clear bs hb12 y0 y1 y2 y3 G10 G11 G12 T10 T11 T12 GL HE RI HB10 HB11 HB12 BW LWH HW
        go_wp2_with fail
        generalize w12.alloc (.cells #[.slice G1 (na 1 z true p la).length d1, .slice G2 (na 2 z true p lb).length d2, .slice G3 (na 3 z true p lc).length d3] 22) = w13 at *
        clear g0 g1 g2 g3
        go_loopw [120] (fun j wr2 => ∃ (k2 : Nat) (W : World), W = wr2 ∧ j = .int .i64 k2 ∧ k2 ≤ 3 ∧ Below wL.heap.size wL wr2 ∧ Ys wr2 wL.heap.size w12.heap.size G1 (na 1 z true p la).length d1 G2 (na 2 z true p lb).length d2 G3 (na 3 z true p lc).length d3) (fun j _ => 3 - (intOf j).toNat)
        case atStart => exact ⟨0, _, rfl, rfl, by omega, HBS.out, YS.out⟩
        case round =>
        clear YS HBS
        obtain ⟨k2, w14, rfl, rfl, hk2, hb14, ys14⟩ := hrel
        by_cases hk3 : k2 < 3
        · have kk2 : decide ((k2 : Int) < 3) = true := decide_eq_true (by omega)
          obtain ⟨X2, n2, cp2, hce, hox, hn100⟩ := ys14.elem (by have := NL.out.1; omega) (by have := NL.out.2.1; omega) (by have := NL.out.2.2; omega) hk3
          have HB14 := Lib.hid hb14
          have YS14 := Lib.hid ys14
          have OX14 := Lib.hid hox
          clear hb14 ys14 hox
          go_wp2_with fail
          clear hce
          go_loopw [126] (fun j wr2 => ∃ (i : Nat) (W : World), W = wr2 ∧ j = .int .i64 i ∧ i ≤ n2 ∧ Below wL.heap.size wL wr2 ∧ Ys wr2 wL.heap.size w12.heap.size G1 (na 1 z true p la).length d1 G2 (na 2 z true p lb).length d2 G3 (na 3 z true p lc).length d3 ∧ OwnY wr2 X2 n2 wL.heap.size w12.heap.size) (fun j _ => n2 - (intOf j).toNat)
          case atStart => exact ⟨0, _, rfl, rfl, by omega, HB14.out, YS14.out, OX14.out⟩
          case round =>
          clear HB14 YS14 OX14
          obtain ⟨i, w15, rfl, rfl, hi, hb15, ys15, ox15⟩ := hrel
          by_cases hil : i < n2
          · obtain ⟨g, cur, rfl, hg, hgc, hblk, hcs⟩ := ox15 (by omega)
            obtain ⟨x, hx⟩ := hcs i hil
            have cx0 : w15.cell? ⟨g, i, none⟩ = some (.int .i64 x) := (hblk.cell i).trans hx
            have fx0 := hblk.free i
            have R1 := Lib.hid (hb15.setCell (p := ⟨g, i, none⟩) hg (.int .i64 9))
            have R2 := Lib.hid (ys15.any hblk hgc i 9)
            have R3 := Lib.hid (OwnY.any ox15 hblk i 9)
            clear hb15 ys15 ox15 hg hgc hblk hcs hx
            go_wp2_with fail
            refine ⟨⟨i + 1, _, rfl, by go_num, by omega, R1.out, R2.out, R3.out⟩, by simp [intOf]; omega⟩
          · have R1 := Lib.hid hb15
            have R2 := Lib.hid ys15
            clear hb15 ys15 ox15
            go_wp2_with fail
            refine ⟨⟨k2 + 1, _, rfl, by go_num, by omega, R1.out, R2.out⟩, by simp [intOf]; omega⟩
        · have kk2 : decide ((k2 : Int) < 3) = false := decide_eq_false (by omega)
          have HB14 := Lib.hid hb14
          clear hb14 ys14
          go_wp2_with fail
          refine ⟨⟨k + 1, _, rfl, by go_num, by omega, HB14.out⟩, by simp [intOf]; omega⟩
        | false =>
          obtain ⟨G1, d1, G2, d2, G3, d3, rfl, rfl, rfl⟩ := ot.tri.open3
          have hb4 := ot.below
          have RN := Lib.hid (rightH_new RH.out he0)
          have zz := wrongAny_z he0
          have ZZ := Lib.hid zz
          have g5 : Blk (w4.alloc (.cells #[.int .i64 o, .slice G1 (na 1 z false p la).length d1, .slice G2 (na 2 z false p lb).length d2, .slice G3 (na 3 z false p lc).length d3] 24)) w4.heap.size 24 #[.int .i64 o, .slice G1 (na 1 z false p la).length d1, .slice G2 (na 2 z false p lb).length d2, .slice G3 (na 3 z false p lc).length d3] := Blk.new _ _ _
          have hm5 := made w4 (.cells #[.int .i64 o, .slice G1 (na 1 z false p la).length d1, .slice G2 (na 2 z false p lb).length d2, .slice G3 (na 3 z false p lc).length d3] 24)
          have T5 := Lib.hid (ot.tri.below hm5)
          have hb5 := up hb4 hm5 hb4.size
          have WR5 := Lib.hid (WR.out _ hb5)
          rw [he0] at WR5
          have X5 := BXr.out.below hb5 BXr.out.lt
          have y0 := X5.cell 0
          have y1 := X5.cell 1
          have y2 := X5.cell 2
          have y3 := X5.cell 3
          have G5 := Lib.hid g5
          have HB5 := Lib.hid hb5
          have NL := Lib.hid (show (na 1 z false p la).length ≤ 41 ∧ (na 2 z false p lb).length ≤ 41 ∧ (na 3 z false p lc).length ≤ 41 from by have h1 := na_len 1 z false p la; have h2 := na_len 2 z false p lb; have h3 := na_len 3 z false p lc; have := HN.out; omega)
          have hwz : IntKind.i64.wrap (z - 1) = z - 1 := IntWalk.i64_in _ (by omega)
          clear g5 hm5 hb4 hb5 X5 ot WR SE x0 x1 x2 x3 he0 zz
          go_wp2_with fail
          generalize hw5 : w4.alloc (.cells #[.int .i64 o, .slice G1 (na 1 z false p la).length d1, .slice G2 (na 2 z false p lb).length d2, .slice G3 (na 3 z false p lc).length d3] 24) = w5 at *
          clear y0 y1 y2 y3
          refine WR5.out.mono ?_
          rintro e w6 ⟨rfl, hb6⟩
          have HB6 := Lib.hid (up HB5.out hb6 HB5.out.size)
          have G6 := Lib.hid (G5.out.below hb6 G5.out.lt)
          have T6 := Lib.hid (T5.out.below hb6)
          have X6 := BXr.out.below HB6.out BXr.out.lt
          have y0 := X6.cell 0
          have LX := Lib.hid (L1r.out.keep HB6.out)
          have bxk : Blk (w6.alloc (.cells #[.int .i64 o, .slice A1 la.length c1x, .slice A2 lb.length c2x, .slice A3 lc.length c3x] 24)) w6.heap.size 24 #[.int .i64 o, .slice A1 la.length c1x, .slice A2 lb.length c2x, .slice A3 lc.length c3x] := Blk.new _ _ _
          have hmx := made w6 (.cells #[.int .i64 o, .slice A1 la.length c1x, .slice A2 lb.length c2x, .slice A3 lc.length c3x] 24)
          have hix := ix3 ZZ.out w6.heap.size
          obtain ⟨X, cx, hcx, hX⟩ := cell3 ZZ.out bxk (LX.out.keep hmx)
          have RW := Lib.hid (rwithout_any X cx (sel z la lb lc) p (w6.alloc (.cells #[.int .i64 o, .slice A1 la.length c1x, .slice A2 lb.length c2x, .slice A3 lc.length c3x] 24)) (nums_lay hX) (by have := sel_len (z := z) RH.out; omega))
          have BXK := Lib.hid bxk
          clear hb6 X6 bxk hX hmx G5 T5 HB5 WR5 hw5
          generalize hw8 : w6.alloc (.cells #[.int .i64 o, .slice A1 la.length c1x, .slice A2 lb.length c2x, .slice A3 lc.length c3x] 24) = w8 at *
          go_wp2_with (rw [hw8])
          refine RW.out.mono ?_
          rintro e w9 ⟨v9, rfl, own9a, hb9⟩
          have own9 : il.OwnI w9 w8.heap.size v9 (nw false p (sel z la lb lc)) := own9a
          obtain ⟨X9, c9, rfl, -⟩ := own9.open_
          obtain ⟨A', ca', B', cb', C', cc', bw, LW, hbw⟩ := want_box (o := o) (z := z) (p := p) (on := false) (ca := c1x) (cb := c2x) (cc := c3x) (c9 := c9) LX.out ZZ.out hw8.symm hb9 own9 (by have := sel_len (z := z) RH.out; have := nw_len false (sel z la lb lc) p; omega)
          have bx9 := BXK.out.below hb9 BXK.out.lt
          have fz := bx9.free z.toNat
          have cz9 : w9.cell? ⟨w6.heap.size, z.toNat, none⟩ = some (.slice X (sel z la lb lc).length cx) := (hb9.cell (p := ⟨w6.heap.size, z.toNat, none⟩) BXK.out.lt).trans hcx
          have BW := Lib.hid bw
          have LWH := Lib.hid LW
          have HBW := Lib.hid hbw
          clear bw LW hbw own9 own9a bx9 hb9 hcx y0 hix hw8 RW
          go_upto_region 17 with fail
          generalize w9.setCell ⟨w6.heap.size, z.toNat, none⟩ (.slice X9 (nw false p (sel z la lb lc)).length c9) = w10 at *
          clear fz cz9
          have G10 := Lib.hid (G6.out.below HBW.out G6.out.lt)
          have T10 := Lib.hid (T6.out.below HBW.out)
          have g0 := G10.out.cell 0
          have g1 := G10.out.cell 1
          have g2 := G10.out.cell 2
          have g3 := G10.out.cell 3
          have x0 := BW.out.cell 0
          have x1 := BW.out.cell 1
          have x2 := BW.out.cell 2
          have x3 := BW.out.cell 3
          have GL := Lib.hid (T10.out.ls (by have := NL.out.1; omega) (by have := NL.out.2.1; omega) (by have := NL.out.2.2; omega))
          have HE := Lib.hid (hequal_eq o G1 d1 (na 1 z false p la) G2 d2 (na 2 z false p lb) G3 d3 (na 3 z false p lc) A' ca' B' cb' C' cc' w10 GL.out LWH.out)
          have HB10 := Lib.hid (up HB6.out HBW.out HB6.out.size)
          clear HBW
          go_wp2_with fail
          refine HE.out.mono ?_
          rintro e w11 ⟨rfl, hb11⟩
          have G11 := Lib.hid (G10.out.below hb11 G10.out.lt)
          have y0 := G11.out.cell 0
          have y1 := G11.out.cell 1
          have y2 := G11.out.cell 2
          have y3 := G11.out.cell 3
          have RI := Lib.hid (hright_any o G1 d1 (na 1 z false p la) G2 d2 (na 2 z false p lb) G3 d3 (na 3 z false p lc) true (by simp; exact RN.out) w11 (GL.out.keep hb11))
          have T11 := Lib.hid (T10.out.below hb11)
          have HB11 := Lib.hid (up HB10.out hb11 HB10.out.size)
          clear hb11 g0 g1 g2 g3 x0 x1 x2 x3
          go_wp2_with fail
          refine RI.out.mono ?_
          rintro e w12 ⟨rfl, hb12⟩
          have G12 := Lib.hid (G11.out.below hb12 G11.out.lt)
          have g0 := G12.out.cell 0
          have g1 := G12.out.cell 1
          have g2 := G12.out.cell 2
          have g3 := G12.out.cell 3
          have T12 := Lib.hid (T11.out.below hb12)
          have HB12 := Lib.hid (up HB11.out hb12 HB11.out.size)
          have bs : Blk (w12.alloc (.cells #[.slice G1 (na 1 z false p la).length d1, .slice G2 (na 2 z false p lb).length d2, .slice G3 (na 3 z false p lc).length d3] 22)) w12.heap.size 22 #[.slice G1 (na 1 z false p la).length d1, .slice G2 (na 2 z false p lb).length d2, .slice G3 (na 3 z false p lc).length d3] := Blk.new _ _ _
          have HW : wL.heap.size ≤ wr.heap.size := HBR.out.size
          have YS := Lib.hid (Ys.mk (b := wL.heap.size) bs ((OwnY.of (T12.out.own (.slice G1 (na 1 z false p la).length d1, na 1 z false p la) (by simp)) HW (Nat.le_refl _)).keep (made _ _)) ((OwnY.of (T12.out.own (.slice G2 (na 2 z false p lb).length d2, na 2 z false p lb) (by simp)) HW (Nat.le_refl _)).keep (made _ _)) ((OwnY.of (T12.out.own (.slice G3 (na 3 z false p lc).length d3, na 3 z false p lc) (by simp)) HW (Nat.le_refl _)).keep (made _ _)))
          have HBS := Lib.hid (up HBR.out (HB12.out.alloc HB12.out.size (.cells #[.slice G1 (na 1 z false p la).length d1, .slice G2 (na 2 z false p lb).length d2, .slice G3 (na 3 z false p lc).length d3] 22)) HBR.out.size)
          clear bs hb12 y0 y1 y2 y3 G10 G11 G12 T10 T11 T12 GL HE RI HB10 HB11 HB12 BW LWH HW
          go_wp2_with fail
          generalize w12.alloc (.cells #[.slice G1 (na 1 z false p la).length d1, .slice G2 (na 2 z false p lb).length d2, .slice G3 (na 3 z false p lc).length d3] 22) = w13 at *
          clear g0 g1 g2 g3
          go_loopw [120] (fun j wr2 => ∃ (k2 : Nat) (W : World), W = wr2 ∧ j = .int .i64 k2 ∧ k2 ≤ 3 ∧ Below wL.heap.size wL wr2 ∧ Ys wr2 wL.heap.size w12.heap.size G1 (na 1 z false p la).length d1 G2 (na 2 z false p lb).length d2 G3 (na 3 z false p lc).length d3) (fun j _ => 3 - (intOf j).toNat)
          case atStart => exact ⟨0, _, rfl, rfl, by omega, HBS.out, YS.out⟩
          case round =>
          clear YS HBS
          obtain ⟨k2, w14, rfl, rfl, hk2, hb14, ys14⟩ := hrel
          by_cases hk3 : k2 < 3
          · have kk2 : decide ((k2 : Int) < 3) = true := decide_eq_true (by omega)
            obtain ⟨X2, n2, cp2, hce, hox, hn100⟩ := ys14.elem (by have := NL.out.1; omega) (by have := NL.out.2.1; omega) (by have := NL.out.2.2; omega) hk3
            have HB14 := Lib.hid hb14
            have YS14 := Lib.hid ys14
            have OX14 := Lib.hid hox
            clear hb14 ys14 hox
            go_wp2_with fail
            clear hce
            go_loopw [126] (fun j wr2 => ∃ (i : Nat) (W : World), W = wr2 ∧ j = .int .i64 i ∧ i ≤ n2 ∧ Below wL.heap.size wL wr2 ∧ Ys wr2 wL.heap.size w12.heap.size G1 (na 1 z false p la).length d1 G2 (na 2 z false p lb).length d2 G3 (na 3 z false p lc).length d3 ∧ OwnY wr2 X2 n2 wL.heap.size w12.heap.size) (fun j _ => n2 - (intOf j).toNat)
            case atStart => exact ⟨0, _, rfl, rfl, by omega, HB14.out, YS14.out, OX14.out⟩
            case round =>
            clear HB14 YS14 OX14
            obtain ⟨i, w15, rfl, rfl, hi, hb15, ys15, ox15⟩ := hrel
            by_cases hil : i < n2
            · obtain ⟨g, cur, rfl, hg, hgc, hblk, hcs⟩ := ox15 (by omega)
              obtain ⟨x, hx⟩ := hcs i hil
              have cx0 : w15.cell? ⟨g, i, none⟩ = some (.int .i64 x) := (hblk.cell i).trans hx
              have fx0 := hblk.free i
              have R1 := Lib.hid (hb15.setCell (p := ⟨g, i, none⟩) hg (.int .i64 9))
              have R2 := Lib.hid (ys15.any hblk hgc i 9)
              have R3 := Lib.hid (OwnY.any ox15 hblk i 9)
              clear hb15 ys15 ox15 hg hgc hblk hcs hx
              go_wp2_with fail
              refine ⟨⟨i + 1, _, rfl, by go_num, by omega, R1.out, R2.out, R3.out⟩, by simp [intOf]; omega⟩
            · have R1 := Lib.hid hb15
              have R2 := Lib.hid ys15
              clear hb15 ys15 ox15
              go_wp2_with fail
              refine ⟨⟨k2 + 1, _, rfl, by go_num, by omega, R1.out, R2.out⟩, by simp [intOf]; omega⟩
          · have kk2 : decide ((k2 : Int) < 3) = false := decide_eq_false (by omega)
            have HB14 := Lib.hid hb14
            clear hb14 ys14
            go_wp2_with fail
            refine ⟨⟨k + 1, _, rfl, by go_num, by omega, HB14.out⟩, by simp [intOf]; omega⟩
    · have kk : decide ((k : Int) < 2) = false := decide_eq_false (by omega)
      have SA := Lib.hid (fun ws (h : Below wr.heap.size wr ws) => same_eq A ca la A1 c1x ws (Lr.out.keep h).a (L1r.out.keep h).a (by have := HN.out; omega))
      have SB := Lib.hid (fun ws (h : Below wr.heap.size wr ws) => same_eq B cb lb A2 c2x ws (Lr.out.keep h).b (L1r.out.keep h).b (by have := HN.out; omega))
      have SC := Lib.hid (fun ws (h : Below wr.heap.size wr ws) => same_eq C cc lc A3 c3x ws (Lr.out.keep h).c (L1r.out.keep h).c (by have := HN.out; omega))
      have AW := Lib.hid (fun ws (h : Below wr.heap.size wr ws) => awake_any ws (Tr.out.keep h))
      have KX := Lib.hid (fun ws (h : Below wr.heap.size wr ws) => BXr.out.below h BXr.out.lt)
      clear bwr BXL BXr Lr L1r Tr
      go_wp2_with fail
      refine (SA.out _ (Below.refl _ _)).mono ?_
      rintro e w4 ⟨rfl, hb4⟩
      have H4 := Lib.hid hb4
      have y2 := (KX.out _ hb4).cell 2
      clear hb4 x0 x1 x2 x3
      go_wp2_with fail
      refine (SB.out _ H4.out).mono ?_
      rintro e w5 ⟨rfl, hb5⟩
      have H5 := Lib.hid (up H4.out hb5 H4.out.size)
      have x3 := (KX.out _ H5.out).cell 3
      clear hb5 y2
      go_wp2_with fail
      refine (SC.out _ H5.out).mono ?_
      rintro e w6 ⟨rfl, hb6⟩
      have H6 := Lib.hid (up H5.out hb6 H5.out.size)
      clear hb6 x3
      go_wp2_with fail
      refine (AW.out _ H6.out).mono ?_
      rintro e w7 ⟨rfl, hb7⟩
      have H7 := Lib.hid (up BL.out (up HBR.out (up H6.out hb7 H6.out.size) HBR.out.size) BL.out.size)
      clear hb7
      go_wp2_with fail
      go_ret
      exact ⟨rfl, H7.out⟩

theorem walk (w : World) (hT : Tab w) (o : Int) (A : Option Addr) (ca : Nat) (la : List Int) (B : Option Addr) (cb : Nat) (lb : List Int) (C : Option Addr) (cc : Nat) (lc : List Int) (ho : (Lit.int .i64 o).wf = true)
    (wa : la.length ≤ ca ∧ ca ≤ maxLen ∧ Nums .i64 w A la ∧ ∀ n ∈ la, (Lit.int .i64 n).wf = true) (wb : lb.length ≤ cb ∧ cb ≤ maxLen ∧ Nums .i64 w B lb ∧ ∀ n ∈ lb, (Lit.int .i64 n).wf = true) (wc : lc.length ≤ cc ∧ cc ≤ maxLen ∧ Nums .i64 w C lc ∧ ∀ n ∈ lc, (Lit.int .i64 n).wf = true)
    (z : Int) (hz : (Lit.int .i64 z).wf = true) (p : Int) (hp : (Lit.int .i64 p).wf = true) :
    Calls Tryd.prog 5 #[.agg #[.int .i64 o, .slice A la.length ca, .slice B lb.length cb, .slice C lc.length cc], .int .i64 z, .int .i64 p] w fun e w' => e = .returned (.bool true) ∧ Below w.heap.size w w' := by
  obtain ⟨a1, a2, a3, -⟩ := wa
  obtain ⟨b1, b2, b3, -⟩ := wb
  obtain ⟨c1, c2, c3, -⟩ := wc
  unfold maxLen at a2 b2 c2
  by_cases hn : la.length ≤ 40 ∧ lb.length ≤ 40 ∧ lc.length ≤ 40
  · have L : Ls w A la B lb C lc := ⟨a3, b3, c3, by omega, by omega, by omega⟩
    by_cases hr : RightH o la lb lc
    · exact walk_main w hT o A ca la B cb lb C cc lc z p L hn hr
    · exact walk_bad w hT o A ca la B cb lb C cc lc z p L hn hr
  · exact walk_no w hT o A ca la B cb lb C cc lc z p (by omega) (by omega) (by omega) hn

theorem contract (H : Type) (enc : TypeId × Value → H) (W : World) (bs : Nat) (args : Array Value) (ds gs : List (DataW H)) (before : List MemPlace)
    (hval : ∀ (j : Nat) t v, Tryd.f5.params[j]? = some t → args[j]? = some v → Value.okWide Tryd.prog W .any bs t v)
    (hW : DataW.Whole enc Tryd.prog Tryd.f5.params.toList Rows.accessSetsSpec.vars false W args.toList ds gs before) (hL : laidMetH Tryd.prog Rows.accessSetsRow.laid W) :
    Calls Tryd.prog 5 args W fun e W' => ∃ v, e = .returned v ∧ Rows.accessSetsSpec.post enc Tryd.prog Tryd.f5 false true false false W args v W' := by
  have hW' := hW
  obtain ⟨p, q, hA0, hV, rfl, _, _⟩ := hW
  have hA : DataW.TrodAll enc Tryd.prog W 0 (fun _ => true) true Tryd.f5.params.toList args.toList ds p := hA0
  rw [Tryd.params5] at hA hval
  obtain ⟨v0, vs0, d0, ds0, p0, q0, hargs, rfl, rfl, h0, r0⟩ := trodAll_cons hA
  obtain ⟨v1, vs1, d1, ds1, p1, q1, rfl, rfl, rfl, h1, r1⟩ := trodAll_cons r0
  obtain ⟨v2, vs2, d2, ds2, p2, q2, rfl, rfl, rfl, h2, r2⟩ := trodAll_cons r1
  obtain ⟨rfl, rfl, rfl⟩ := trodAll_nil r2
  obtain rfl : args = #[v0, v1, v2] := by cases args; simp_all
  obtain ⟨rfl, rfl⟩ := trodVars_none hV
  obtain ⟨o0, A0, ca0, la0, B0, cb0, lb0, C0, cc0, lc0, rfl, w0, wa0, wb0, wc0⟩ := base.open_house Tryd.underlying24 Tryd.underlying3 ⟨rfl, rfl⟩ Tryd.underlying22 Tryd.underlying3 (by kernel_rfl) (by kernel_rfl) (by kernel_rfl) (hval 0 24 v0 rfl rfl) h0
  obtain ⟨a1, rfl, rfl, rfl, w1⟩ := open_int Tryd.underlying3 (hval 1 3 v1 rfl rfl) h1
  obtain ⟨a2, rfl, rfl, rfl, w2⟩ := open_int Tryd.underlying3 (hval 2 3 v2 rfl rfl) h2
  clear hA0
  refine (walk W (tableOf hL) o0 A0 ca0 la0 B0 cb0 lb0 C0 cc0 lc0 w0 wa0 wb0 wc0 a1 w1 a2 w2).mono fun e W' ⟨he, hb⟩ => ?_
  subst he
  exact ⟨_, rfl, base.law_post base.laid (by kernel_rfl) rfl rfl Tryd.underlying4 hW' rfl rfl rfl hb⟩

noncomputable def laidWorld (os : Os) : World :=
  { World.holding Tryd.prog os ⟨#[], #[], []⟩ with heap := (World.holding Tryd.prog os ⟨#[], #[], []⟩).heap.modify 0 fun
      | .cells _ t frozen => .cells #[.int .i64 1, .int .i64 2, .int .i64 3, .int .i64 3, .int .i64 3, .int .i64 4, .int .i64 4, .int .i64 4, .int .i64 4, .int .i64 4, .int .i64 4] t frozen
      | o => o }
theorem laid_met (os : Os) : laidMet Tryd.prog Rows.accessSetsRow.laid ((laidWorld os).forCall (fun _ _ => 0) ⟨#[], #[.agg #[.int .i64 0, .slice none 0 0, .slice none 0 0, .slice none 0 0], .int .i64 0, .int .i64 0], []⟩).memory :=
  laidMet_of_run' 8 (by kernel_rfl) (by kernel_rfl)
theorem reads (os : Os) {H : Type} (enc : TypeId × Value → H) : ∃ places, DataW.whole enc Tryd.prog ((laidWorld os).forCall (fun _ _ => 0) ⟨#[], #[.agg #[.int .i64 0, .slice none 0 0, .slice none 0 0, .slice none 0 0], .int .i64 0, .int .i64 0], []⟩).memory Tryd.f5.params.toList Rows.accessSetsSpec.vars false (#[.agg #[.int .i64 0, .slice none 0 0, .slice none 0 0, .slice none 0 0], .int .i64 0, .int .i64 0] : Array Value).toList 8 = some ([.agg [.lit (.int .i64 0), .nil, .nil, .nil], .lit (.int .i64 0), .lit (.int .i64 0)], [], places) :=
  ⟨[], by kernel_rfl⟩

set_option maxRecDepth 100000 in
theorem lifted (os : Os) (started : os.Started) (H : Type) (enc : TypeId × Value → H) (F : Stop.Interp) :
    ReturnsInHanded {} Tryd.checked os 5 .any ((OpenSpec.ofChange Rows.accessSetsSpec).preRow enc Tryd.prog Tryd.f5 Rows.accessSetsRow.domain false Rows.accessSetsRow.laid) (((OpenSpec.ofChange Rows.accessSetsSpec).at F).post enc Tryd.prog Tryd.f5 false true false false) := by
  obtain ⟨places, hx⟩ := reads os enc
  refine returnsInHanded_of_row (C := Tryd.checked) (s := OpenSpec.ofChange Rows.accessSetsSpec) base.own started (by kernel_rfl) Tryd.func5
    (witness_row_at (enc := enc) (C := Tryd.checked) false (laidWorld os) #[.agg #[.int .i64 0, .slice none 0 0, .slice none 0 0, .slice none 0 0], .int .i64 0, .int .i64 0] rfl (by kernel_rfl) (by kernel_rfl) (by kernel_rfl)
      (OpenSpec.preRow_of_cond 8 hx (by kernel_rfl) (fun k hk => by cases hk) (by kernel_rfl) (laid_met os))) ?_
  intro W bs args ds gs before hval hW _ _ _ hL _ _
  exact contract H enc W bs args ds gs before hval hW hL

theorem said : Rows.AccessSetsSaid :=
  OpenClaim.holds_of_cond 5 Tryd.f5 rfl rfl rfl rfl rfl rfl rfl ⟨rfl, rfl, rfl, rfl, rfl⟩ rfl rfl rfl rfl rfl (by kernel_rfl) Tryd.func5 (by kernel_rfl)
    (of_decide_eq_true (by kernel_rfl)) (by unfold Func.isWrapper; first | (rw [if_pos (by decide +kernel)]; kernel_rfl) | (rw [if_neg (by decide +kernel)]; exact ⟨rfl, rfl⟩))
    (fun os started H enc _ F => by rw [OpenClaim.pre_eq_preRow]; exact lifted os started H enc F)

theorem plain (f : FuncId) (fn : Func) (hf : Tryd.pinned.checked.prog.funcNamed "deedhold/deedholdlaw18.AccessSets" = some f) (hfn : Tryd.pinned.checked.prog.funcs[f]? = some fn) :
    false = Tryd.pinned.checked.prog.looks [] ∧ ∀ (j : Nat) t, fn.params[j]? = some t → Tryd.pinned.checked.prog.wantsStandIn t = false := by
  obtain rfl : f = 5 := Option.some.inj ((show Tryd.prog.funcNamed "deedhold/deedholdlaw18.AccessSets" = some 5 by kernel_rfl).symm.trans hf) |>.symm
  obtain rfl : fn = Tryd.f5 := (Option.some.inj (Tryd.func5.symm.trans hfn)).symm
  refine ⟨by kernel_rfl, fun j t ht => ?_⟩
  rw [Tryd.params5] at ht
  have ht2 : t = 24 ∨ t = 3 ∨ t = 3 := by simpa using Array.mem_of_getElem? ht
  rcases ht2 with rfl | rfl | rfl
  all_goals first | exact (show Tryd.prog.wantsStandIn _ = false by kernel_rfl)

theorem card : Rows.AccessSetsCardSaid :=
  Claim7.holds_tied_plain_at .later [] _ _ _ _ said (fun _ h => by cases h) (by kernel_rfl) (fun _ h => by cases h) accessSets_row_tie rfl ⟨rfl, rfl⟩ (by kernel_rfl) rfl plain (by kernel_rfl)
#print axioms card
end Go.Proofs.YtemkhblogmdleaaDoor.accessSets
