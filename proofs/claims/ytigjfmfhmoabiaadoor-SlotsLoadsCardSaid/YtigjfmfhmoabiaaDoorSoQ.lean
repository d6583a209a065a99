/-
  SlotsLoads: lists that are too long.
-/
import Derived.Test.YtigjfmfhmoabiaaDoorSoP
namespace Go.Proofs.YtigjfmfhmoabiaaDoor.slotsLoads
open Go.ChangeShapes Go.WideShapes Go.ChangeAt Go.RowKit Go.Deep Go.Lib
open base (ret_bool ret_int made up Blk Only Nums)
open bytes (str Small small_nil small_app Lay Own conv_any)
open so vnum
open dk (DD DU DAt Gd Chg D0 new_any NewP)
set_option linter.unusedVariables false
set_option linter.unusedSimpArgs false
set_option maxRecDepth 100000 in
set_option maxHeartbeats 4000000 in
theorem walk_long_true (w : World) (hT : sl.Tab w) (E : Int) (A : Option Addr) (ca : Nat) (ta : List Int) (hA : Nums .i64 w A ta) (F : Int) (B : Option Addr) (cb : Nat) (tb : List Int) (hB : Nums .i64 w B tb) (KK : Option Addr) (kc : Nat) (L : List Int) (hK : Nums .i64 w KK L) (h : 80 < ta.length ∨ 80 < tb.length ∨ 10 < L.length) : Calls Tryd.prog 5 #[.agg #[.int .i64 E, .slice A ta.length ca], .agg #[.int .i64 F, .slice B tb.length cb], .agg #[.bool true, .slice KK L.length kc]] w (BoolP true w) := by
  have M1 := Lib.hid (show Below w.heap.size w (((w.alloc (.cells #[.int .i64 E, .slice A ta.length ca] 24)).alloc (.cells #[.int .i64 F, .slice B tb.length cb] 24)).alloc (.cells #[.bool true, .slice KK L.length kc] 39)) from up (up (made w (.cells #[.int .i64 E, .slice A ta.length ca] 24)) (made _ (.cells #[.int .i64 F, .slice B tb.length cb] 24)) (made w _).size) (made _ (.cells #[.bool true, .slice KK L.length kc] 39)) (up (made w (.cells #[.int .i64 E, .slice A ta.length ca] 24)) (made _ (.cells #[.int .i64 F, .slice B tb.length cb] 24)) (made w _).size).size)
  have XA := Lib.hid (show Blk (((w.alloc (.cells #[.int .i64 E, .slice A ta.length ca] 24)).alloc (.cells #[.int .i64 F, .slice B tb.length cb] 24)).alloc (.cells #[.bool true, .slice KK L.length kc] 39)) w.heap.size 24 #[.int .i64 E, .slice A ta.length ca] from ((Blk.new w _ _).alloc _).alloc _)
  have XB := Lib.hid (show Blk (((w.alloc (.cells #[.int .i64 E, .slice A ta.length ca] 24)).alloc (.cells #[.int .i64 F, .slice B tb.length cb] 24)).alloc (.cells #[.bool true, .slice KK L.length kc] 39)) (w.heap.size + 1) 24 #[.int .i64 F, .slice B tb.length cb] from by
    have h := (Blk.new (w.alloc (.cells #[.int .i64 E, .slice A ta.length ca] 24)) 24 #[.int .i64 F, .slice B tb.length cb]).alloc (.cells #[.bool true, .slice KK L.length kc] 39)
    rw [asz] at h
    exact h)
  have XC := Lib.hid (show Blk (((w.alloc (.cells #[.int .i64 E, .slice A ta.length ca] 24)).alloc (.cells #[.int .i64 F, .slice B tb.length cb] 24)).alloc (.cells #[.bool true, .slice KK L.length kc] 39)) (w.heap.size + 1 + 1) 39 #[.bool true, .slice KK L.length kc] from by
    have h := Blk.new ((w.alloc (.cells #[.int .i64 E, .slice A ta.length ca] 24)).alloc (.cells #[.int .i64 F, .slice B tb.length cb] 24)) 39 #[.bool true, .slice KK L.length kc]
    rw [asz, asz] at h
    exact h)
  have TW := Lib.hid hT
  have NA := Lib.hid hA
  have NB := Lib.hid hB
  have NK := Lib.hid hK
  clear hT hA hB hK
  generalize hw : (((w.alloc (.cells #[.int .i64 E, .slice A ta.length ca] 24)).alloc (.cells #[.int .i64 F, .slice B tb.length cb] 24)).alloc (.cells #[.bool true, .slice KK L.length kc] 39)) = w1 at *
  go_enter Tryd.func5, Tryd.ntmps5
  go_wp2_with (rw [hw])
  go_upto_region 1 with fail
  clear hw
  have B2 := Lib.hid (show Below w.heap.size w w1.drew from M1.out.drew)
  have X2 := Lib.hid (XA.out.below (Below.refl _ w1).drew XA.out.lt)
  have Y2 := Lib.hid (XB.out.below (Below.refl _ w1).drew XB.out.lt)
  have Z2 := Lib.hid (XC.out.below (Below.refl _ w1).drew XC.out.lt)
  refine wp_region_held_drew (S := fun ws => ws.cell? ⟨w.heap.size + 1 + 1, 0, none⟩ = some (.bool true) ∧ ws.cell? ⟨w.heap.size + 1 + 1, 1, none⟩ = some (.slice KK L.length kc)) (by kernel_rfl) ⟨Z2.out.cell 0, Z2.out.cell 1⟩ (fun hHeld => ?_)
  generalize w1.drew = w2 at *
  refine wpAnyH_take (i := 0) (v := ?_) rfl (by kernel_rfl) (by kernel_rfl) (by kernel_rfl) (fun _ _ _ h => h) (Or.inl ⟨by rfl, ?_⟩) (by assumption) ?_
  rotate_left
  · (intro w hSw; (try dsimp only at hSw); first | (go_simp; done) | (go_simp; with_reducible rfl))
  simp only [Act.put, List.getElem_toArray, List.getElem_cons_zero, List.getElem_cons_succ, List.setIfInBounds_toArray, List.set_cons_zero, List.set_cons_succ]
  refine wpAnyH_take (i := 1) (v := ?_) rfl (by kernel_rfl) (by kernel_rfl) (by kernel_rfl) (fun _ _ _ h => h) (Or.inl ⟨by rfl, ?_⟩) (by assumption) ?_
  rotate_left
  · (intro w hSw; (try dsimp only at hSw); first | (go_simp; done) | (go_simp; with_reducible rfl))
  simp only [Act.put, List.getElem_toArray, List.getElem_cons_zero, List.getElem_cons_succ, List.setIfInBounds_toArray, List.set_cons_zero, List.set_cons_succ]
  refine wpAnyH_take (i := 2) (v := ?_) rfl (by kernel_rfl) (by kernel_rfl) (by kernel_rfl) (fun _ _ _ h => h) (Or.inl ⟨by rfl, ?_⟩) (by assumption) ?_
  rotate_left
  · (intro w hSw; (try dsimp only at hSw); first | (go_simp; done) | (go_simp; with_reducible rfl))
  simp only [Act.put, List.getElem_toArray, List.getElem_cons_zero, List.getElem_cons_succ, List.setIfInBounds_toArray, List.set_cons_zero, List.set_cons_succ]
  refine wpAnyH_take (i := 3) (v := ?_) rfl (by kernel_rfl) (by kernel_rfl) (by kernel_rfl) (fun _ _ _ h => h) (Or.inl ⟨by rfl, ?_⟩) (by assumption) ?_
  rotate_left
  · (intro w hSw; (try dsimp only at hSw); first | (go_simp; done) | (go_simp; with_reducible rfl))
  simp only [Act.put, List.getElem_toArray, List.getElem_cons_zero, List.getElem_cons_succ, List.setIfInBounds_toArray, List.set_cons_zero, List.set_cons_succ]
  refine wpAnyH_take (i := 4) (v := ?_) rfl (by kernel_rfl) (by kernel_rfl) (by kernel_rfl) (fun _ _ _ h => h) (Or.inl ⟨by rfl, ?_⟩) (by assumption) ?_
  rotate_left
  · (intro w hSw; (try dsimp only at hSw); first | (go_simp; done) | (go_simp; with_reducible rfl))
  simp only [Act.put, List.getElem_toArray, List.getElem_cons_zero, List.getElem_cons_succ, List.setIfInBounds_toArray, List.set_cons_zero, List.set_cons_succ]
  refine wpAnyH_take (i := 5) (v := ?_) rfl (by kernel_rfl) (by kernel_rfl) (by kernel_rfl) (fun _ _ _ h => h) (Or.inl ⟨by rfl, ?_⟩) (by assumption) ?_
  rotate_left
  · (intro w hSw; (try dsimp only at hSw); first | (go_simp; done) | (go_simp; with_reducible rfl))
  simp only [Act.put, List.getElem_toArray, List.getElem_cons_zero, List.getElem_cons_succ, List.setIfInBounds_toArray, List.set_cons_zero, List.set_cons_succ]
  refine wpAnyH_done (by kernel_rfl) ?_ _
  clear hHeld M1 XA XB XC Z2
  have T2 := Lib.hid (TW.out.keep B2.out TW.out.1)
  have x0 := X2.out.cell 0
  have x1 := X2.out.cell 1
  have y0 := Y2.out.cell 0
  have y1 := Y2.out.cell 1
  have AW := Lib.hid (awake_any w2 T2.out)
  unfold AwakeP at AW
  by_cases h1 : 80 < ta.length
  · have k1 : decide ((ta.length : Int) > 80) = true := decide_eq_true (by omega)
    clear h h1
    go_wp2_with fail
    refine AW.out.mono ?_
    rintro e wZ ⟨rfl, hb⟩
    have BZ := Lib.hid (up B2.out hb B2.out.size)
    clear hb AW
    go_wp2_with fail
    go_ret
    exact ⟨rfl, BZ.out⟩
  have k1 : decide ((ta.length : Int) > 80) = false := decide_eq_false (by omega)
  by_cases h2 : 80 < tb.length
  · have k2 : decide ((tb.length : Int) > 80) = true := decide_eq_true (by omega)
    clear h h1 h2
    go_wp2_with fail
    refine AW.out.mono ?_
    rintro e wZ ⟨rfl, hb⟩
    have BZ := Lib.hid (up B2.out hb B2.out.size)
    clear hb AW
    go_wp2_with fail
    go_ret
    exact ⟨rfl, BZ.out⟩
  have k2 : decide ((tb.length : Int) > 80) = false := decide_eq_false (by omega)
  have k3 : decide ((L.length : Int) > 10) = true := decide_eq_true (by omega)
  clear h h1 h2
  go_wp2_with fail
  refine AW.out.mono ?_
  rintro e wZ ⟨rfl, hb⟩
  have BZ := Lib.hid (up B2.out hb B2.out.size)
  clear hb AW
  go_wp2_with fail
  go_ret
  exact ⟨rfl, BZ.out⟩
set_option maxRecDepth 100000 in
set_option maxHeartbeats 4000000 in
theorem walk_long_false (w : World) (hT : sl.Tab w) (E : Int) (A : Option Addr) (ca : Nat) (ta : List Int) (hA : Nums .i64 w A ta) (F : Int) (B : Option Addr) (cb : Nat) (tb : List Int) (hB : Nums .i64 w B tb) (KK : Option Addr) (kc : Nat) (L : List Int) (hK : Nums .i64 w KK L) (h : 80 < ta.length ∨ 80 < tb.length ∨ 10 < L.length) : Calls Tryd.prog 5 #[.agg #[.int .i64 E, .slice A ta.length ca], .agg #[.int .i64 F, .slice B tb.length cb], .agg #[.bool false, .slice KK L.length kc]] w (BoolP true w) := by
  have M1 := Lib.hid (show Below w.heap.size w (((w.alloc (.cells #[.int .i64 E, .slice A ta.length ca] 24)).alloc (.cells #[.int .i64 F, .slice B tb.length cb] 24)).alloc (.cells #[.bool false, .slice KK L.length kc] 39)) from up (up (made w (.cells #[.int .i64 E, .slice A ta.length ca] 24)) (made _ (.cells #[.int .i64 F, .slice B tb.length cb] 24)) (made w _).size) (made _ (.cells #[.bool false, .slice KK L.length kc] 39)) (up (made w (.cells #[.int .i64 E, .slice A ta.length ca] 24)) (made _ (.cells #[.int .i64 F, .slice B tb.length cb] 24)) (made w _).size).size)
  have XA := Lib.hid (show Blk (((w.alloc (.cells #[.int .i64 E, .slice A ta.length ca] 24)).alloc (.cells #[.int .i64 F, .slice B tb.length cb] 24)).alloc (.cells #[.bool false, .slice KK L.length kc] 39)) w.heap.size 24 #[.int .i64 E, .slice A ta.length ca] from ((Blk.new w _ _).alloc _).alloc _)
  have XB := Lib.hid (show Blk (((w.alloc (.cells #[.int .i64 E, .slice A ta.length ca] 24)).alloc (.cells #[.int .i64 F, .slice B tb.length cb] 24)).alloc (.cells #[.bool false, .slice KK L.length kc] 39)) (w.heap.size + 1) 24 #[.int .i64 F, .slice B tb.length cb] from by
    have h := (Blk.new (w.alloc (.cells #[.int .i64 E, .slice A ta.length ca] 24)) 24 #[.int .i64 F, .slice B tb.length cb]).alloc (.cells #[.bool false, .slice KK L.length kc] 39)
    rw [asz] at h
    exact h)
  have XC := Lib.hid (show Blk (((w.alloc (.cells #[.int .i64 E, .slice A ta.length ca] 24)).alloc (.cells #[.int .i64 F, .slice B tb.length cb] 24)).alloc (.cells #[.bool false, .slice KK L.length kc] 39)) (w.heap.size + 1 + 1) 39 #[.bool false, .slice KK L.length kc] from by
    have h := Blk.new ((w.alloc (.cells #[.int .i64 E, .slice A ta.length ca] 24)).alloc (.cells #[.int .i64 F, .slice B tb.length cb] 24)) 39 #[.bool false, .slice KK L.length kc]
    rw [asz, asz] at h
    exact h)
  have TW := Lib.hid hT
  have NA := Lib.hid hA
  have NB := Lib.hid hB
  have NK := Lib.hid hK
  clear hT hA hB hK
  generalize hw : (((w.alloc (.cells #[.int .i64 E, .slice A ta.length ca] 24)).alloc (.cells #[.int .i64 F, .slice B tb.length cb] 24)).alloc (.cells #[.bool false, .slice KK L.length kc] 39)) = w1 at *
  go_enter Tryd.func5, Tryd.ntmps5
  go_wp2_with (rw [hw])
  go_upto_region 1 with fail
  clear hw
  have B2 := Lib.hid (show Below w.heap.size w w1.drew from M1.out.drew)
  have X2 := Lib.hid (XA.out.below (Below.refl _ w1).drew XA.out.lt)
  have Y2 := Lib.hid (XB.out.below (Below.refl _ w1).drew XB.out.lt)
  have Z2 := Lib.hid (XC.out.below (Below.refl _ w1).drew XC.out.lt)
  refine wp_region_held_drew (S := fun ws => ws.cell? ⟨w.heap.size + 1 + 1, 0, none⟩ = some (.bool false) ∧ ws.cell? ⟨w.heap.size + 1 + 1, 1, none⟩ = some (.slice KK L.length kc)) (by kernel_rfl) ⟨Z2.out.cell 0, Z2.out.cell 1⟩ (fun hHeld => ?_)
  generalize w1.drew = w2 at *
  refine wpAnyH_take (i := 0) (v := ?_) rfl (by kernel_rfl) (by kernel_rfl) (by kernel_rfl) (fun _ _ _ h => h) (Or.inl ⟨by rfl, ?_⟩) (by assumption) ?_
  rotate_left
  · (intro w hSw; (try dsimp only at hSw); first | (go_simp; done) | (go_simp; with_reducible rfl))
  simp only [Act.put, List.getElem_toArray, List.getElem_cons_zero, List.getElem_cons_succ, List.setIfInBounds_toArray, List.set_cons_zero, List.set_cons_succ]
  refine wpAnyH_take (i := 1) (v := ?_) rfl (by kernel_rfl) (by kernel_rfl) (by kernel_rfl) (fun _ _ _ h => h) (Or.inl ⟨by rfl, ?_⟩) (by assumption) ?_
  rotate_left
  · (intro w hSw; (try dsimp only at hSw); first | (go_simp; done) | (go_simp; with_reducible rfl))
  simp only [Act.put, List.getElem_toArray, List.getElem_cons_zero, List.getElem_cons_succ, List.setIfInBounds_toArray, List.set_cons_zero, List.set_cons_succ]
  refine wpAnyH_take (i := 2) (v := ?_) rfl (by kernel_rfl) (by kernel_rfl) (by kernel_rfl) (fun _ _ _ h => h) (Or.inl ⟨by rfl, ?_⟩) (by assumption) ?_
  rotate_left
  · (intro w hSw; (try dsimp only at hSw); first | (go_simp; done) | (go_simp; with_reducible rfl))
  simp only [Act.put, List.getElem_toArray, List.getElem_cons_zero, List.getElem_cons_succ, List.setIfInBounds_toArray, List.set_cons_zero, List.set_cons_succ]
  refine wpAnyH_take (i := 3) (v := ?_) rfl (by kernel_rfl) (by kernel_rfl) (by kernel_rfl) (fun _ _ _ h => h) (Or.inl ⟨by rfl, ?_⟩) (by assumption) ?_
  rotate_left
  · (intro w hSw; (try dsimp only at hSw); first | (go_simp; done) | (go_simp; with_reducible rfl))
  simp only [Act.put, List.getElem_toArray, List.getElem_cons_zero, List.getElem_cons_succ, List.setIfInBounds_toArray, List.set_cons_zero, List.set_cons_succ]
  refine wpAnyH_take (i := 4) (v := ?_) rfl (by kernel_rfl) (by kernel_rfl) (by kernel_rfl) (fun _ _ _ h => h) (Or.inl ⟨by rfl, ?_⟩) (by assumption) ?_
  rotate_left
  · (intro w hSw; (try dsimp only at hSw); first | (go_simp; done) | (go_simp; with_reducible rfl))
  simp only [Act.put, List.getElem_toArray, List.getElem_cons_zero, List.getElem_cons_succ, List.setIfInBounds_toArray, List.set_cons_zero, List.set_cons_succ]
  refine wpAnyH_take (i := 5) (v := ?_) rfl (by kernel_rfl) (by kernel_rfl) (by kernel_rfl) (fun _ _ _ h => h) (Or.inl ⟨by rfl, ?_⟩) (by assumption) ?_
  rotate_left
  · (intro w hSw; (try dsimp only at hSw); first | (go_simp; done) | (go_simp; with_reducible rfl))
  simp only [Act.put, List.getElem_toArray, List.getElem_cons_zero, List.getElem_cons_succ, List.setIfInBounds_toArray, List.set_cons_zero, List.set_cons_succ]
  refine wpAnyH_done (by kernel_rfl) ?_ _
  clear hHeld M1 XA XB XC Z2
  have T2 := Lib.hid (TW.out.keep B2.out TW.out.1)
  have x0 := X2.out.cell 0
  have x1 := X2.out.cell 1
  have y0 := Y2.out.cell 0
  have y1 := Y2.out.cell 1
  have AW := Lib.hid (awake_any w2 T2.out)
  unfold AwakeP at AW
  by_cases h1 : 80 < ta.length
  · have k1 : decide ((ta.length : Int) > 80) = true := decide_eq_true (by omega)
    clear h h1
    go_wp2_with fail
    refine AW.out.mono ?_
    rintro e wZ ⟨rfl, hb⟩
    have BZ := Lib.hid (up B2.out hb B2.out.size)
    clear hb AW
    go_wp2_with fail
    go_ret
    exact ⟨rfl, BZ.out⟩
  have k1 : decide ((ta.length : Int) > 80) = false := decide_eq_false (by omega)
  by_cases h2 : 80 < tb.length
  · have k2 : decide ((tb.length : Int) > 80) = true := decide_eq_true (by omega)
    clear h h1 h2
    go_wp2_with fail
    refine AW.out.mono ?_
    rintro e wZ ⟨rfl, hb⟩
    have BZ := Lib.hid (up B2.out hb B2.out.size)
    clear hb AW
    go_wp2_with fail
    go_ret
    exact ⟨rfl, BZ.out⟩
  have k2 : decide ((tb.length : Int) > 80) = false := decide_eq_false (by omega)
  have k3 : decide ((L.length : Int) > 10) = true := decide_eq_true (by omega)
  clear h h1 h2
  go_wp2_with fail
  refine AW.out.mono ?_
  rintro e wZ ⟨rfl, hb⟩
  have BZ := Lib.hid (up B2.out hb B2.out.size)
  clear hb AW
  go_wp2_with fail
  go_ret
  exact ⟨rfl, BZ.out⟩
end Go.Proofs.YtigjfmfhmoabiaaDoor.slotsLoads
