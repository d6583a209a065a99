/-
  SlotsCrashes (P6.2, P6.3), for the tied reading: for every input the law answers true, whatever the memory, if the table of the sum stands as the program lays it.
  Conditions: none beyond the card's own.
-/
import Derived.Test.YtigjfmfhmoabiaaDoorSoH
namespace Go.Proofs.YtigjfmfhmoabiaaDoor.slotsCrashes
open Go.ChangeShapes Go.WideShapes Go.ChangeAt Go.RowKit Go.Deep Go.Lib
open base (ret_bool ret_int made up Blk Only Nums)
open bytes (str Small small_nil small_app Lay Own conv_any)
open so vnum
open dk (DD DU DAt Gd Chg D0 new_any NewP arm_any crash_any CrashP E1)
set_option linter.unusedVariables false
set_option linter.unusedSimpArgs false
theorem tableOf {W : World} (h : laidMetH Tryd.prog Rows.slotsCrashesRow.laid W) : sl.Tab W := so.tableOf h
section
variable {H : Type} {en : TypeId × Value → H}
theorem c_loss : Tryd.prog.cellsOf 49 = 3 := by kernel_rfl
theorem c_sl : Tryd.prog.cellsOf 22 = 1 := by kernel_rfl
theorem c_cr : Tryd.prog.cellsOf 51 = 4 := by kernel_rfl
theorem to_lay {W : World} {A : Option Addr} {zs : List Int} (h : Nums .i64 W A zs) : rk.Lay E1 W A zs := fun h0 => by
  obtain ⟨b, off, e, hb, hc⟩ := h h0
  refine ⟨b, off, e, hb, fun i hi j hj => ?_⟩
  have hj1 : j < 1 := hj
  obtain rfl : j = 0 := by omega
  have := hc i hi
  rw [show off + i * E1.k + 0 = off + i by show off + i * 1 + 0 = _; omega, this]
  simp [E1, List.getD, hi]
theorem loss_cells {sp : Nat → Bool} {held : Bool} {bs n0 : Nat} {W : World} {cs : List Value} {yy : DataW H × List MemPlace}
    (hf : DataW.trod en Tryd.prog W bs sp held n0 49 cs = some yy) : ∃ (K : Option Addr) (kc : Nat) (L : List Int) (t z : Int), cs = [.slice K L.length kc, .int .i64 t, .int .i64 z] ∧
      Nums .i64 W K L ∧ (∀ x ∈ L, (Lit.int .i64 x).wf = true) ∧ L.length ≤ kc ∧ kc ≤ maxLen ∧ (Lit.int .i64 t).wf = true ∧ (Lit.int .i64 z).wf = true := by
  obtain ⟨ys, n', hn', hy, hlen, hyl, hf2⟩ := DataW.trod_struct Tryd.underlying49 hf
  have hC : cs.length = 3 := hlen.trans c_loss
  match cs, hC, ys, hyl with
  | [c0, c1, c2], _, [y0, y1, y2], _ =>
    have f0 := hf2 0 _ rfl
    have f1 := hf2 1 _ rfl
    have f2 := hf2 2 _ rfl
    simp only [List.getElem_toArray, List.getElem_cons_zero, List.getElem_cons_succ, c_int, c_sl, List.drop_zero, List.drop_succ_cons, List.take_succ_cons, List.take_zero, List.getElem?_cons_zero, List.getElem?_cons_succ] at f0 f1 f2
    obtain ⟨K, kc, L, rfl, d1, d2, d3, d4⟩ := nums_trod Tryd.underlying22 Tryd.underlying3 c_int f0
    obtain ⟨t, rfl, h1⟩ := one_int Tryd.underlying3 f1
    obtain ⟨z, rfl, h2⟩ := one_int Tryd.underlying3 f2
    exact ⟨K, kc, L, t, z, rfl, d3, d4, d1, d2, h1, h2⟩
theorem open_crash {sp : Nat → Bool} {held : Bool} {bs b0 : Nat} {r : Reach} {W : World} {v : Value} {d : DataW H} {ps : List MemPlace}
    (hval : Value.okWide Tryd.prog W r b0 51 v) (h : DataW.Trod en Tryd.prog W bs sp held 51 v d ps) :
    ∃ (a : Int) (K : Option Addr) (kc : Nat) (L : List Int) (t z : Int), v = .agg #[.int .i64 a, .slice K L.length kc, .int .i64 t, .int .i64 z] ∧ (Lit.int .i64 a).wf = true ∧
      Nums .i64 W K L ∧ (∀ x ∈ L, (Lit.int .i64 x).wf = true) ∧ L.length ≤ kc ∧ kc ≤ maxLen ∧ (Lit.int .i64 t).wf = true ∧ (Lit.int .i64 z).wf = true := by
  obtain ⟨cs, rfl, hsz⟩ := okWide_struct Tryd.underlying51 hval
  obtain ⟨fuel, hf⟩ := h
  obtain ⟨ys, n', hn', hy, hlen, hyl, hf2⟩ := DataW.trod_struct Tryd.underlying51 hf
  have hC : cs.toList.length = 4 := by rw [Array.length_toList]; exact hsz.trans c_cr
  obtain ⟨cl⟩ := cs
  simp only [Value.cells] at hf2
  simp only at hC
  match cl, hC, ys, hyl with
  | [c0, c1, c2, c3], _, [y0, y1], _ =>
    have f0 := hf2 0 _ rfl
    have f1 := hf2 1 _ rfl
    simp only [List.getElem_toArray, List.getElem_cons_zero, List.getElem_cons_succ, c_int, c_loss, List.drop_zero, List.drop_succ_cons, List.take_succ_cons, List.take_zero, List.getElem?_cons_zero, List.getElem?_cons_succ] at f0 f1
    obtain ⟨a, rfl, h0⟩ := one_int Tryd.underlying3 f0
    obtain ⟨K, kc, L, t, z, he, h1, h2, h3, h4, h5, h6⟩ := loss_cells f1
    simp only [List.cons.injEq, and_true] at he
    obtain ⟨rfl, rfl, rfl⟩ := he
    exact ⟨a, K, kc, L, t, z, rfl, h0, h1, h2, h3, h4, h5, h6⟩
end
theorem blk3 {w : World} {r : Nat} {t : TypeId} {a0 a1 a2 : Value} (h : Blk w r t #[a0, a1, a2]) (v0 v1 v2 : Value) : Blk (((w.setCell ⟨r, 0, none⟩ v0).setCell ⟨r, 1, none⟩ v1).setCell ⟨r, 2, none⟩ v2) r t #[v0, v1, v2] := by
  have h7 := ((h.put 0 v0).put 1 v1).put 2 v2
  simp only [List.setIfInBounds_toArray, List.set_cons_zero, List.set_cons_succ] at h7
  exact h7
theorem below3 {B : Nat} {w w' : World} {r : Nat} (h : Below B w w') (hB : B ≤ r) (v0 v1 v2 : Value) : Below B w (((w'.setCell ⟨r, 0, none⟩ v0).setCell ⟨r, 1, none⟩ v1).setCell ⟨r, 2, none⟩ v2) :=
  ((h.setCell (p := ⟨r, 0, none⟩) hB _).setCell (p := ⟨r, 1, none⟩) hB _).setCell (p := ⟨r, 2, none⟩) hB _
set_option maxRecDepth 100000 in
set_option maxHeartbeats 4000000 in
theorem walk_long (w : World) (hT : sl.Tab w) (A : Option Addr) (ca : Nat) (ta : List Int) (hA : Nums .i64 w A ta) (B : Option Addr) (cb : Nat) (ne : List Int) (hB : Nums .i64 w B ne) (a : Int) (KK : Option Addr) (kc : Nat) (L : List Int) (t z : Int) (h : 20 < ta.length ∨ 20 < ne.length ∨ 20 < L.length ∨ 20 < a) : Calls Tryd.prog 6 #[.slice A ta.length ca, .slice B ne.length cb, .agg #[.int .i64 a, .slice KK L.length kc, .int .i64 t, .int .i64 z]] w (BoolP true w) := by
  have M1 := Lib.hid (made w (.cells #[.int .i64 a, .slice KK L.length kc, .int .i64 t, .int .i64 z] 51))
  have BX := Lib.hid (Blk.new w 51 #[.int .i64 a, .slice KK L.length kc, .int .i64 t, .int .i64 z])
  have TW := Lib.hid hT
  have NA := Lib.hid hA
  have NB := Lib.hid hB
  clear hT hA hB
  generalize hw : w.alloc (.cells #[.int .i64 a, .slice KK L.length kc, .int .i64 t, .int .i64 z] 51) = w1 at *
  go_enter Tryd.func6, Tryd.ntmps6
  go_wp2_with (rw [hw])
  go_upto_region 1 with fail
  have X2 := Lib.hid (BX.out.below (Below.refl _ w1).drew BX.out.lt)
  have B2 := Lib.hid (show Below w.heap.size w w1.drew from M1.out.drew)
  clear hw
  refine wp_region_held_drew (S := fun ws => ws.cell? ⟨w.heap.size, 0, none⟩ = some (.int .i64 a) ∧ ws.cell? ⟨w.heap.size, 1, none⟩ = some (.slice KK L.length kc) ∧ ws.cell? ⟨w.heap.size, 2, none⟩ = some (.int .i64 t) ∧ ws.cell? ⟨w.heap.size, 3, none⟩ = some (.int .i64 z)) (by kernel_rfl) ⟨X2.out.cell 0, X2.out.cell 1, X2.out.cell 2, X2.out.cell 3⟩ (fun hHeld => ?_)
  generalize w1.drew = w2 at *
  refine wpAnyH_take (i := 0) (v := ?_) rfl (by kernel_rfl) (by kernel_rfl) (by kernel_rfl) (fun _ _ _ h => h) (Or.inl ⟨by rfl, ?_⟩) (by assumption) ?_
  rotate_left
  · (intro w hSw; (try dsimp only at hSw); first | (go_simp; done) | (go_simp; with_reducible rfl))
  simp only [Act.put, List.getElem_toArray, List.getElem_cons_zero, List.getElem_cons_succ, List.setIfInBounds_toArray, List.set_cons_zero, List.set_cons_succ]
  refine wpAnyH_take (i := 1) (v := ?_) rfl (by kernel_rfl) (by kernel_rfl) (by kernel_rfl) (fun _ _ _ h => h) (Or.inl ⟨by rfl, ?_⟩) (by assumption) ?_
  rotate_left
  · (intro w hSw; (try dsimp only at hSw); first | (go_simp; done) | (go_simp; with_reducible rfl))
  simp only [Act.put, List.getElem_toArray, List.getElem_cons_zero, List.getElem_cons_succ, List.setIfInBounds_toArray, List.set_cons_zero, List.set_cons_succ]
  refine wpAnyH_take (i := 2) (v := ?_) rfl (by kernel_rfl) (by kernel_rfl) (by kernel_rfl) (fun _ _ _ h => h) (Or.inl ⟨by rfl, ?_⟩) (by assumption) ?_
  rotate_left
  · (intro w hSw; (try dsimp only at hSw); first | (go_simp; done) | (go_simp; with_reducible rfl))
  simp only [Act.put, List.getElem_toArray, List.getElem_cons_zero, List.getElem_cons_succ, List.setIfInBounds_toArray, List.set_cons_zero, List.set_cons_succ]
  refine wpAnyH_take (i := 3) (v := ?_) rfl (by kernel_rfl) (by kernel_rfl) (by kernel_rfl) (fun _ _ _ h => h) (Or.inl ⟨by rfl, ?_⟩) (by assumption) ?_
  rotate_left
  · (intro w hSw; (try dsimp only at hSw); first | (go_simp; done) | (go_simp; with_reducible rfl))
  simp only [Act.put, List.getElem_toArray, List.getElem_cons_zero, List.getElem_cons_succ, List.setIfInBounds_toArray, List.set_cons_zero, List.set_cons_succ]
  refine wpAnyH_ready (rs := [4]) (by kernel_rfl) (by simp) ?_
  refine AllReadyH.cons rfl (fun K hK => ?_) AllReadyH.nil
  go_simp
  go_wp2_with fail
  have X4 := Lib.hid (X2.out.alloc (.cells #[.slice none 0 0, .int .i64 0, .int .i64 0] 49))
  have B4 := Lib.hid (show Below w.heap.size w (w2.alloc (.cells #[.slice none 0 0, .int .i64 0, .int .i64 0] 49)) from up B2.out (made w2 _) B2.out.size)
  have Y4 := Lib.hid (Blk.new w2 49 #[.slice none 0 0, .int .i64 0, .int .i64 0])
  refine hK.out _ _ ⟨X4.out.cell 0, X4.out.cell 1, X4.out.cell 2, X4.out.cell 3⟩ (fun hH1 => ?_)
  clear hK hHeld
  refine wpAnyH_take (i := 5) (v := ?_) rfl (by kernel_rfl) (by kernel_rfl) (by kernel_rfl) (fun _ _ _ h => h) (Or.inl ⟨by rfl, ?_⟩) (by assumption) ?_
  rotate_left
  · (intro w hSw; (try dsimp only at hSw); first | (go_simp; done) | (go_simp; with_reducible rfl))
  simp only [Act.put, List.getElem_toArray, List.getElem_cons_zero, List.getElem_cons_succ, List.setIfInBounds_toArray, List.set_cons_zero, List.set_cons_succ]
  have y0 := Y4.out.cell 0
  have y1 := Y4.out.cell 1
  have y2 := Y4.out.cell 2
  have f0 := Y4.out.free 0
  have f1 := Y4.out.free 1
  have f2 := Y4.out.free 2
  refine wpAnyH_ready (rs := [6]) (by kernel_rfl) (by simp) ?_
  refine AllReadyH.cons rfl (fun K hK => ?_) AllReadyH.nil
  go_simp
  go_wp2_with fail
  have B5 := Lib.hid (show Below w.heap.size w (w2.alloc (.cells #[.slice KK L.length kc, .int .i64 t, .int .i64 z] 49)) from up B2.out (made w2 _) B2.out.size)
  have Y5 := Lib.hid (Blk.new w2 49 #[.slice KK L.length kc, .int .i64 t, .int .i64 z])
  have X5 := Lib.hid (X2.out.alloc (.cells #[.slice KK L.length kc, .int .i64 t, .int .i64 z] 49))
  refine hK.out _ _ ⟨X5.out.cell 0, X5.out.cell 1, X5.out.cell 2, X5.out.cell 3⟩ (fun hH2 => ?_)
  clear hK hH1 y0 y1 y2 f0 f1 f2
  refine wpAnyH_done (by kernel_rfl) ?_ _
  clear hH2 X4 Y4 X5
  have T5 := Lib.hid (TW.out.keep B5.out TW.out.1)
  generalize (w2.alloc (.cells #[.slice KK L.length kc, .int .i64 t, .int .i64 z] 49)) = w5 at *
  have y0 := Y5.out.cell 0
  have y1 := Y5.out.cell 1
  have y2 := Y5.out.cell 2
  have AW := Lib.hid (awake_any w5 T5.out)
  unfold AwakeP at AW
  by_cases h1 : 20 < ta.length
  · have k1 : decide ((ta.length : Int) > 20) = true := decide_eq_true (by omega)
    clear h h1
    go_wp2_with fail
    refine AW.out.mono ?_
    rintro e wZ ⟨rfl, hb⟩
    have BZ := Lib.hid (up B5.out hb B5.out.size)
    clear hb AW
    go_wp2_with fail
    go_ret
    exact ⟨rfl, BZ.out⟩
  have k1 : decide ((ta.length : Int) > 20) = false := decide_eq_false (by omega)
  by_cases h2 : 20 < ne.length
  · have k2 : decide ((ne.length : Int) > 20) = true := decide_eq_true (by omega)
    clear h h1 h2
    go_wp2_with fail
    refine AW.out.mono ?_
    rintro e wZ ⟨rfl, hb⟩
    have BZ := Lib.hid (up B5.out hb B5.out.size)
    clear hb AW
    go_wp2_with fail
    go_ret
    exact ⟨rfl, BZ.out⟩
  have k2 : decide ((ne.length : Int) > 20) = false := decide_eq_false (by omega)
  by_cases h3 : 20 < L.length
  · have k3 : decide ((L.length : Int) > 20) = true := decide_eq_true (by omega)
    clear h h1 h2 h3
    go_wp2_with fail
    refine AW.out.mono ?_
    rintro e wZ ⟨rfl, hb⟩
    have BZ := Lib.hid (up B5.out hb B5.out.size)
    clear hb AW
    go_wp2_with fail
    go_ret
    exact ⟨rfl, BZ.out⟩
  have k3 : decide ((L.length : Int) > 20) = false := decide_eq_false (by omega)
  have k4 : decide (a > 20) = true := decide_eq_true (by omega)
  clear h h1 h2 h3
  go_wp2_with fail
  refine AW.out.mono ?_
  rintro e wZ ⟨rfl, hb⟩
  have BZ := Lib.hid (up B5.out hb B5.out.size)
  clear hb AW
  go_wp2_with fail
  go_ret
  exact ⟨rfl, BZ.out⟩
set_option maxRecDepth 100000 in
set_option maxHeartbeats 8000000 in
theorem walk_no6 (w : World) (hT : sl.Tab w) (A : Option Addr) (ca : Nat) (ta : List Int) (hA : Nums .i64 w A ta) (B : Option Addr) (cb : Nat) (ne : List Int) (hB : Nums .i64 w B ne) (a : Int) (KK : Option Addr) (kc : Nat) (L : List Int) (t z : Int) (h1 : ta.length ≤ 20) (h2 : ne.length ≤ 20) (h3 : L.length ≤ 20) (h4 : a ≤ 20) (h6 : rok 6 ta = false) : Calls Tryd.prog 6 #[.slice A ta.length ca, .slice B ne.length cb, .agg #[.int .i64 a, .slice KK L.length kc, .int .i64 t, .int .i64 z]] w (BoolP true w) := by
  have M1 := Lib.hid (made w (.cells #[.int .i64 a, .slice KK L.length kc, .int .i64 t, .int .i64 z] 51))
  have BX := Lib.hid (Blk.new w 51 #[.int .i64 a, .slice KK L.length kc, .int .i64 t, .int .i64 z])
  have TW := Lib.hid hT
  have NA := Lib.hid hA
  have NB := Lib.hid hB
  clear hT hA hB
  generalize hw : w.alloc (.cells #[.int .i64 a, .slice KK L.length kc, .int .i64 t, .int .i64 z] 51) = w1 at *
  go_enter Tryd.func6, Tryd.ntmps6
  go_wp2_with (rw [hw])
  go_upto_region 1 with fail
  have X2 := Lib.hid (BX.out.below (Below.refl _ w1).drew BX.out.lt)
  have B2 := Lib.hid (show Below w.heap.size w w1.drew from M1.out.drew)
  clear hw
  refine wp_region_held_drew (S := fun ws => ws.cell? ⟨w.heap.size, 0, none⟩ = some (.int .i64 a) ∧ ws.cell? ⟨w.heap.size, 1, none⟩ = some (.slice KK L.length kc) ∧ ws.cell? ⟨w.heap.size, 2, none⟩ = some (.int .i64 t) ∧ ws.cell? ⟨w.heap.size, 3, none⟩ = some (.int .i64 z)) (by kernel_rfl) ⟨X2.out.cell 0, X2.out.cell 1, X2.out.cell 2, X2.out.cell 3⟩ (fun hHeld => ?_)
  generalize w1.drew = w2 at *
  refine wpAnyH_take (i := 0) (v := ?_) rfl (by kernel_rfl) (by kernel_rfl) (by kernel_rfl) (fun _ _ _ h => h) (Or.inl ⟨by rfl, ?_⟩) (by assumption) ?_
  rotate_left
  · (intro w hSw; (try dsimp only at hSw); first | (go_simp; done) | (go_simp; with_reducible rfl))
  simp only [Act.put, List.getElem_toArray, List.getElem_cons_zero, List.getElem_cons_succ, List.setIfInBounds_toArray, List.set_cons_zero, List.set_cons_succ]
  refine wpAnyH_take (i := 1) (v := ?_) rfl (by kernel_rfl) (by kernel_rfl) (by kernel_rfl) (fun _ _ _ h => h) (Or.inl ⟨by rfl, ?_⟩) (by assumption) ?_
  rotate_left
  · (intro w hSw; (try dsimp only at hSw); first | (go_simp; done) | (go_simp; with_reducible rfl))
  simp only [Act.put, List.getElem_toArray, List.getElem_cons_zero, List.getElem_cons_succ, List.setIfInBounds_toArray, List.set_cons_zero, List.set_cons_succ]
  refine wpAnyH_take (i := 2) (v := ?_) rfl (by kernel_rfl) (by kernel_rfl) (by kernel_rfl) (fun _ _ _ h => h) (Or.inl ⟨by rfl, ?_⟩) (by assumption) ?_
  rotate_left
  · (intro w hSw; (try dsimp only at hSw); first | (go_simp; done) | (go_simp; with_reducible rfl))
  simp only [Act.put, List.getElem_toArray, List.getElem_cons_zero, List.getElem_cons_succ, List.setIfInBounds_toArray, List.set_cons_zero, List.set_cons_succ]
  refine wpAnyH_take (i := 3) (v := ?_) rfl (by kernel_rfl) (by kernel_rfl) (by kernel_rfl) (fun _ _ _ h => h) (Or.inl ⟨by rfl, ?_⟩) (by assumption) ?_
  rotate_left
  · (intro w hSw; (try dsimp only at hSw); first | (go_simp; done) | (go_simp; with_reducible rfl))
  simp only [Act.put, List.getElem_toArray, List.getElem_cons_zero, List.getElem_cons_succ, List.setIfInBounds_toArray, List.set_cons_zero, List.set_cons_succ]
  refine wpAnyH_ready (rs := [4]) (by kernel_rfl) (by simp) ?_
  refine AllReadyH.cons rfl (fun K hK => ?_) AllReadyH.nil
  go_simp
  go_wp2_with fail
  have X4 := Lib.hid (X2.out.alloc (.cells #[.slice none 0 0, .int .i64 0, .int .i64 0] 49))
  have B4 := Lib.hid (show Below w.heap.size w (w2.alloc (.cells #[.slice none 0 0, .int .i64 0, .int .i64 0] 49)) from up B2.out (made w2 _) B2.out.size)
  have Y4 := Lib.hid (Blk.new w2 49 #[.slice none 0 0, .int .i64 0, .int .i64 0])
  refine hK.out _ _ ⟨X4.out.cell 0, X4.out.cell 1, X4.out.cell 2, X4.out.cell 3⟩ (fun hH1 => ?_)
  clear hK hHeld
  refine wpAnyH_take (i := 5) (v := ?_) rfl (by kernel_rfl) (by kernel_rfl) (by kernel_rfl) (fun _ _ _ h => h) (Or.inl ⟨by rfl, ?_⟩) (by assumption) ?_
  rotate_left
  · (intro w hSw; (try dsimp only at hSw); first | (go_simp; done) | (go_simp; with_reducible rfl))
  simp only [Act.put, List.getElem_toArray, List.getElem_cons_zero, List.getElem_cons_succ, List.setIfInBounds_toArray, List.set_cons_zero, List.set_cons_succ]
  have y0 := Y4.out.cell 0
  have y1 := Y4.out.cell 1
  have y2 := Y4.out.cell 2
  have f0 := Y4.out.free 0
  have f1 := Y4.out.free 1
  have f2 := Y4.out.free 2
  refine wpAnyH_ready (rs := [6]) (by kernel_rfl) (by simp) ?_
  refine AllReadyH.cons rfl (fun K hK => ?_) AllReadyH.nil
  go_simp
  go_wp2_with fail
  have B5 := Lib.hid (show Below w.heap.size w (w2.alloc (.cells #[.slice KK L.length kc, .int .i64 t, .int .i64 z] 49)) from up B2.out (made w2 _) B2.out.size)
  have Y5 := Lib.hid (Blk.new w2 49 #[.slice KK L.length kc, .int .i64 t, .int .i64 z])
  have X5 := Lib.hid (X2.out.alloc (.cells #[.slice KK L.length kc, .int .i64 t, .int .i64 z] 49))
  refine hK.out _ _ ⟨X5.out.cell 0, X5.out.cell 1, X5.out.cell 2, X5.out.cell 3⟩ (fun hH2 => ?_)
  clear hK hH1 y0 y1 y2 f0 f1 f2
  refine wpAnyH_done (by kernel_rfl) ?_ _
  clear hH2 X4 Y4 X5
  have T5 := Lib.hid (TW.out.keep B5.out TW.out.1)
  generalize (w2.alloc (.cells #[.slice KK L.length kc, .int .i64 t, .int .i64 z] 49)) = w5 at *
  have y0 := Y5.out.cell 0
  have y1 := Y5.out.cell 1
  have y2 := Y5.out.cell 2
  have k1 : decide ((ta.length : Int) > 20) = false := decide_eq_false (by omega)
  have k2 : decide ((ne.length : Int) > 20) = false := decide_eq_false (by omega)
  have k3 : decide ((L.length : Int) > 20) = false := decide_eq_false (by omega)
  have k4 : decide (a > 20) = false := decide_eq_false (by omega)
  have NW := Lib.hid (new_any 3 128 w5 (by decide) (by decide) (by decide) (by decide))
  have LA := Lib.hid (And.intro h1 (And.intro h2 (And.intro h3 h4)))
  have N5 := Lib.hid (base.Nums.keep NA.out B5.out)
  have P5 := Lib.hid (base.Nums.keep NB.out B5.out)
  clear h1 h2 h3 h4
  go_wp2_with fail
  refine NW.out.mono ?_
  rintro e w6 ⟨g, s, m, rfl, hd6, hb⟩
  have H6 := Lib.hid hd6
  have B6 := Lib.hid (up B5.out hb B5.out.size)
  have D6 := Lib.hid hb
  have T6 := Lib.hid (T5.out.keep hb T5.out.1)
  have N6 := Lib.hid (base.Nums.keep N5.out hb)
  have P6 := Lib.hid (base.Nums.keep P5.out hb)
  have Y6 := Lib.hid (Y5.out.below hb Y5.out.lt)
  clear hd6 hb NW y0 y1 y2
  have X6 := Lib.hid (Blk.new w6 24 #[.int .i64 6, .slice A ta.length ca])
  have M7 := Lib.hid (made w6 (.cells #[.int .i64 6, .slice A ta.length ca] 24))
  have M8 := Lib.hid (show Below w6.heap.size w6 ((w6.alloc (.cells #[.int .i64 6, .slice A ta.length ca] 24)).alloc (.cells #[.int .i64 7, .slice B ne.length cb] 24)) from up M7.out (made _ _) M7.out.size)
  have XA8 := Lib.hid (X6.out.alloc (.cells #[.int .i64 7, .slice B ne.length cb] 24))
  have XB8 := Lib.hid (show Blk ((w6.alloc (.cells #[.int .i64 6, .slice A ta.length ca] 24)).alloc (.cells #[.int .i64 7, .slice B ne.length cb] 24)) (w6.heap.size + 1) 24 #[.int .i64 7, .slice B ne.length cb] from by
    have h := Blk.new (w6.alloc (.cells #[.int .i64 6, .slice A ta.length ca] 24)) 24 #[.int .i64 7, .slice B ne.length cb]
    rw [asz] at h
    exact h)
  have D8 := Lib.hid (show Below w5.heap.size w5 ((w6.alloc (.cells #[.int .i64 6, .slice A ta.length ca] 24)).alloc (.cells #[.int .i64 7, .slice B ne.length cb] 24)) from up D6.out M8.out D6.out.size)
  have B8 := Lib.hid (up B5.out D8.out B5.out.size)
  have H8 := Lib.hid (H6.out.below M8.out)
  have Y8 := Lib.hid (Y6.out.below M8.out Y6.out.lt)
  have T8 := Lib.hid (TW.out.keep B8.out TW.out.1)
  have xa0 := XA8.out.cell 0
  have xa1 := XA8.out.cell 1
  have xb0 := XB8.out.cell 0
  have xb1 := XB8.out.cell 1
  have y0 := Y8.out.cell 0
  have y1 := Y8.out.cell 1
  have y2 := Y8.out.cell 2
  clear X6 M7 M8
  generalize hw8 : ((w6.alloc (.cells #[.int .i64 6, .slice A ta.length ca] 24)).alloc (.cells #[.int .i64 7, .slice B ne.length cb] 24)) = w8 at *
  have RR := Lib.hid (rright_any 6 A ca ta w8 (base.Nums.keep NA.out B8.out))
  rw [h6] at RR
  clear h6
  go_wp2_with (rw [hw8])
  refine RR.out.mono ?_
  rintro e wq ⟨rfl, eq⟩
  subst eq
  clear RR
  have SN := Lib.hid (save_no H8.out (-1) none 0 [] (nums_nil _) (by decide))
  go_wp2_with fail
  refine SN.out.mono ?_
  rintro e w9 ⟨rfl, hb⟩
  have B9 := Lib.hid (up B8.out hb B8.out.size)
  have T9 := Lib.hid (TW.out.keep B9.out TW.out.1)
  have AW := Lib.hid (awake_any w9 T9.out)
  unfold AwakeP at AW
  clear SN hb
  go_wp2_with fail
  refine AW.out.mono ?_
  rintro e wZ ⟨rfl, hb⟩
  have BZ := Lib.hid (up B9.out hb B9.out.size)
  clear hb AW
  go_wp2_with fail
  go_ret
  exact ⟨rfl, BZ.out⟩
set_option maxRecDepth 100000 in
set_option maxHeartbeats 8000000 in
theorem walk_no7 (w : World) (hT : sl.Tab w) (A : Option Addr) (ca : Nat) (ta : List Int) (hA : Nums .i64 w A ta) (B : Option Addr) (cb : Nat) (ne : List Int) (hB : Nums .i64 w B ne) (a : Int) (KK : Option Addr) (kc : Nat) (L : List Int) (t z : Int) (h1 : ta.length ≤ 20) (h2 : ne.length ≤ 20) (h3 : L.length ≤ 20) (h4 : a ≤ 20) (h6 : rok 6 ta = true) (h7 : rok 7 ne = false) : Calls Tryd.prog 6 #[.slice A ta.length ca, .slice B ne.length cb, .agg #[.int .i64 a, .slice KK L.length kc, .int .i64 t, .int .i64 z]] w (BoolP true w) := by
  have M1 := Lib.hid (made w (.cells #[.int .i64 a, .slice KK L.length kc, .int .i64 t, .int .i64 z] 51))
  have BX := Lib.hid (Blk.new w 51 #[.int .i64 a, .slice KK L.length kc, .int .i64 t, .int .i64 z])
  have TW := Lib.hid hT
  have NA := Lib.hid hA
  have NB := Lib.hid hB
  clear hT hA hB
  generalize hw : w.alloc (.cells #[.int .i64 a, .slice KK L.length kc, .int .i64 t, .int .i64 z] 51) = w1 at *
  go_enter Tryd.func6, Tryd.ntmps6
  go_wp2_with (rw [hw])
  go_upto_region 1 with fail
  have X2 := Lib.hid (BX.out.below (Below.refl _ w1).drew BX.out.lt)
  have B2 := Lib.hid (show Below w.heap.size w w1.drew from M1.out.drew)
  clear hw
  refine wp_region_held_drew (S := fun ws => ws.cell? ⟨w.heap.size, 0, none⟩ = some (.int .i64 a) ∧ ws.cell? ⟨w.heap.size, 1, none⟩ = some (.slice KK L.length kc) ∧ ws.cell? ⟨w.heap.size, 2, none⟩ = some (.int .i64 t) ∧ ws.cell? ⟨w.heap.size, 3, none⟩ = some (.int .i64 z)) (by kernel_rfl) ⟨X2.out.cell 0, X2.out.cell 1, X2.out.cell 2, X2.out.cell 3⟩ (fun hHeld => ?_)
  generalize w1.drew = w2 at *
  refine wpAnyH_take (i := 0) (v := ?_) rfl (by kernel_rfl) (by kernel_rfl) (by kernel_rfl) (fun _ _ _ h => h) (Or.inl ⟨by rfl, ?_⟩) (by assumption) ?_
  rotate_left
  · (intro w hSw; (try dsimp only at hSw); first | (go_simp; done) | (go_simp; with_reducible rfl))
  simp only [Act.put, List.getElem_toArray, List.getElem_cons_zero, List.getElem_cons_succ, List.setIfInBounds_toArray, List.set_cons_zero, List.set_cons_succ]
  refine wpAnyH_take (i := 1) (v := ?_) rfl (by kernel_rfl) (by kernel_rfl) (by kernel_rfl) (fun _ _ _ h => h) (Or.inl ⟨by rfl, ?_⟩) (by assumption) ?_
  rotate_left
  · (intro w hSw; (try dsimp only at hSw); first | (go_simp; done) | (go_simp; with_reducible rfl))
  simp only [Act.put, List.getElem_toArray, List.getElem_cons_zero, List.getElem_cons_succ, List.setIfInBounds_toArray, List.set_cons_zero, List.set_cons_succ]
  refine wpAnyH_take (i := 2) (v := ?_) rfl (by kernel_rfl) (by kernel_rfl) (by kernel_rfl) (fun _ _ _ h => h) (Or.inl ⟨by rfl, ?_⟩) (by assumption) ?_
  rotate_left
  · (intro w hSw; (try dsimp only at hSw); first | (go_simp; done) | (go_simp; with_reducible rfl))
  simp only [Act.put, List.getElem_toArray, List.getElem_cons_zero, List.getElem_cons_succ, List.setIfInBounds_toArray, List.set_cons_zero, List.set_cons_succ]
  refine wpAnyH_take (i := 3) (v := ?_) rfl (by kernel_rfl) (by kernel_rfl) (by kernel_rfl) (fun _ _ _ h => h) (Or.inl ⟨by rfl, ?_⟩) (by assumption) ?_
  rotate_left
  · (intro w hSw; (try dsimp only at hSw); first | (go_simp; done) | (go_simp; with_reducible rfl))
  simp only [Act.put, List.getElem_toArray, List.getElem_cons_zero, List.getElem_cons_succ, List.setIfInBounds_toArray, List.set_cons_zero, List.set_cons_succ]
  refine wpAnyH_ready (rs := [4]) (by kernel_rfl) (by simp) ?_
  refine AllReadyH.cons rfl (fun K hK => ?_) AllReadyH.nil
  go_simp
  go_wp2_with fail
  have X4 := Lib.hid (X2.out.alloc (.cells #[.slice none 0 0, .int .i64 0, .int .i64 0] 49))
  have B4 := Lib.hid (show Below w.heap.size w (w2.alloc (.cells #[.slice none 0 0, .int .i64 0, .int .i64 0] 49)) from up B2.out (made w2 _) B2.out.size)
  have Y4 := Lib.hid (Blk.new w2 49 #[.slice none 0 0, .int .i64 0, .int .i64 0])
  refine hK.out _ _ ⟨X4.out.cell 0, X4.out.cell 1, X4.out.cell 2, X4.out.cell 3⟩ (fun hH1 => ?_)
  clear hK hHeld
  refine wpAnyH_take (i := 5) (v := ?_) rfl (by kernel_rfl) (by kernel_rfl) (by kernel_rfl) (fun _ _ _ h => h) (Or.inl ⟨by rfl, ?_⟩) (by assumption) ?_
  rotate_left
  · (intro w hSw; (try dsimp only at hSw); first | (go_simp; done) | (go_simp; with_reducible rfl))
  simp only [Act.put, List.getElem_toArray, List.getElem_cons_zero, List.getElem_cons_succ, List.setIfInBounds_toArray, List.set_cons_zero, List.set_cons_succ]
  have y0 := Y4.out.cell 0
  have y1 := Y4.out.cell 1
  have y2 := Y4.out.cell 2
  have f0 := Y4.out.free 0
  have f1 := Y4.out.free 1
  have f2 := Y4.out.free 2
  refine wpAnyH_ready (rs := [6]) (by kernel_rfl) (by simp) ?_
  refine AllReadyH.cons rfl (fun K hK => ?_) AllReadyH.nil
  go_simp
  go_wp2_with fail
  have B5 := Lib.hid (show Below w.heap.size w (w2.alloc (.cells #[.slice KK L.length kc, .int .i64 t, .int .i64 z] 49)) from up B2.out (made w2 _) B2.out.size)
  have Y5 := Lib.hid (Blk.new w2 49 #[.slice KK L.length kc, .int .i64 t, .int .i64 z])
  have X5 := Lib.hid (X2.out.alloc (.cells #[.slice KK L.length kc, .int .i64 t, .int .i64 z] 49))
  refine hK.out _ _ ⟨X5.out.cell 0, X5.out.cell 1, X5.out.cell 2, X5.out.cell 3⟩ (fun hH2 => ?_)
  clear hK hH1 y0 y1 y2 f0 f1 f2
  refine wpAnyH_done (by kernel_rfl) ?_ _
  clear hH2 X4 Y4 X5
  have T5 := Lib.hid (TW.out.keep B5.out TW.out.1)
  generalize (w2.alloc (.cells #[.slice KK L.length kc, .int .i64 t, .int .i64 z] 49)) = w5 at *
  have y0 := Y5.out.cell 0
  have y1 := Y5.out.cell 1
  have y2 := Y5.out.cell 2
  have k1 : decide ((ta.length : Int) > 20) = false := decide_eq_false (by omega)
  have k2 : decide ((ne.length : Int) > 20) = false := decide_eq_false (by omega)
  have k3 : decide ((L.length : Int) > 20) = false := decide_eq_false (by omega)
  have k4 : decide (a > 20) = false := decide_eq_false (by omega)
  have NW := Lib.hid (new_any 3 128 w5 (by decide) (by decide) (by decide) (by decide))
  have LA := Lib.hid (And.intro h1 (And.intro h2 (And.intro h3 h4)))
  have N5 := Lib.hid (base.Nums.keep NA.out B5.out)
  have P5 := Lib.hid (base.Nums.keep NB.out B5.out)
  clear h1 h2 h3 h4
  go_wp2_with fail
  refine NW.out.mono ?_
  rintro e w6 ⟨g, s, m, rfl, hd6, hb⟩
  have H6 := Lib.hid hd6
  have B6 := Lib.hid (up B5.out hb B5.out.size)
  have D6 := Lib.hid hb
  have T6 := Lib.hid (T5.out.keep hb T5.out.1)
  have N6 := Lib.hid (base.Nums.keep N5.out hb)
  have P6 := Lib.hid (base.Nums.keep P5.out hb)
  have Y6 := Lib.hid (Y5.out.below hb Y5.out.lt)
  clear hd6 hb NW y0 y1 y2
  have X6 := Lib.hid (Blk.new w6 24 #[.int .i64 6, .slice A ta.length ca])
  have M7 := Lib.hid (made w6 (.cells #[.int .i64 6, .slice A ta.length ca] 24))
  have M8 := Lib.hid (show Below w6.heap.size w6 ((w6.alloc (.cells #[.int .i64 6, .slice A ta.length ca] 24)).alloc (.cells #[.int .i64 7, .slice B ne.length cb] 24)) from up M7.out (made _ _) M7.out.size)
  have XA8 := Lib.hid (X6.out.alloc (.cells #[.int .i64 7, .slice B ne.length cb] 24))
  have XB8 := Lib.hid (show Blk ((w6.alloc (.cells #[.int .i64 6, .slice A ta.length ca] 24)).alloc (.cells #[.int .i64 7, .slice B ne.length cb] 24)) (w6.heap.size + 1) 24 #[.int .i64 7, .slice B ne.length cb] from by
    have h := Blk.new (w6.alloc (.cells #[.int .i64 6, .slice A ta.length ca] 24)) 24 #[.int .i64 7, .slice B ne.length cb]
    rw [asz] at h
    exact h)
  have D8 := Lib.hid (show Below w5.heap.size w5 ((w6.alloc (.cells #[.int .i64 6, .slice A ta.length ca] 24)).alloc (.cells #[.int .i64 7, .slice B ne.length cb] 24)) from up D6.out M8.out D6.out.size)
  have B8 := Lib.hid (up B5.out D8.out B5.out.size)
  have H8 := Lib.hid (H6.out.below M8.out)
  have Y8 := Lib.hid (Y6.out.below M8.out Y6.out.lt)
  have T8 := Lib.hid (TW.out.keep B8.out TW.out.1)
  have xa0 := XA8.out.cell 0
  have xa1 := XA8.out.cell 1
  have xb0 := XB8.out.cell 0
  have xb1 := XB8.out.cell 1
  have y0 := Y8.out.cell 0
  have y1 := Y8.out.cell 1
  have y2 := Y8.out.cell 2
  clear X6 M7 M8
  generalize hw8 : ((w6.alloc (.cells #[.int .i64 6, .slice A ta.length ca] 24)).alloc (.cells #[.int .i64 7, .slice B ne.length cb] 24)) = w8 at *
  have RR := Lib.hid (rright_any 6 A ca ta w8 (base.Nums.keep NA.out B8.out))
  rw [h6] at RR
  have RS := Lib.hid (rright_any 7 B cb ne w8 (base.Nums.keep NB.out B8.out))
  rw [h7] at RS
  clear h6 h7
  go_wp2_with (rw [hw8])
  refine RR.out.mono ?_
  rintro e wq ⟨rfl, eq⟩
  subst eq
  clear RR
  go_wp2_with fail
  refine RS.out.mono ?_
  rintro e wq ⟨rfl, eq⟩
  subst eq
  clear RS
  have SN := Lib.hid (save_no H8.out (-1) none 0 [] (nums_nil _) (by decide))
  go_wp2_with fail
  refine SN.out.mono ?_
  rintro e w9 ⟨rfl, hb⟩
  have B9 := Lib.hid (up B8.out hb B8.out.size)
  have T9 := Lib.hid (TW.out.keep B9.out TW.out.1)
  have AW := Lib.hid (awake_any w9 T9.out)
  unfold AwakeP at AW
  clear SN hb
  go_wp2_with fail
  refine AW.out.mono ?_
  rintro e wZ ⟨rfl, hb⟩
  have BZ := Lib.hid (up B9.out hb B9.out.size)
  clear hb AW
  go_wp2_with fail
  go_ret
  exact ⟨rfl, BZ.out⟩
set_option maxRecDepth 100000 in
set_option maxHeartbeats 16000000 in
theorem walk_main (w : World) (hT : sl.Tab w) (A : Option Addr) (ca : Nat) (ta : List Int) (hA : Nums .i64 w A ta) (B : Option Addr) (cb : Nat) (ne : List Int) (hB : Nums .i64 w B ne) (a : Int) (KK : Option Addr) (kc : Nat) (L : List Int) (t z : Int) (h1 : ta.length ≤ 20) (h2 : ne.length ≤ 20) (h3 : L.length ≤ 20) (h4 : a ≤ 20) (hw1 : (Lit.int .i64 a).wf = true) (hwL : ∀ x ∈ L, (Lit.int .i64 x).wf = true) (hwt : (Lit.int .i64 t).wf = true) (hK : Nums .i64 w KK L) (h6 : rok 6 ta = true) (h7 : rok 7 ne = true) : Calls Tryd.prog 6 #[.slice A ta.length ca, .slice B ne.length cb, .agg #[.int .i64 a, .slice KK L.length kc, .int .i64 t, .int .i64 z]] w (BoolP true w) := by
  have NK := Lib.hid hK
  have WL := Lib.hid (And.intro hwL hwt)
  have Z6 := Lib.hid (q2 h6 h1)
  have RO := Lib.hid (And.intro h6 h7)
  have CL := Lib.hid (crash_load (Two5.arm (q2 h6 h1).2.2 a) h6 h7 h1 h2 L t z)
  have F6 := Lib.hid (x_fit (E := 6) (by decide) (by decide) h6 h1)
  have F7 := Lib.hid (x_fit (E := 7) (by decide) (by decide) h7 h2)
  have HA := Lib.hid (show a ≤ 9223372036854775807 from by omega)
  clear hw1 hwL hwt hK
  have M1 := Lib.hid (made w (.cells #[.int .i64 a, .slice KK L.length kc, .int .i64 t, .int .i64 z] 51))
  have BX := Lib.hid (Blk.new w 51 #[.int .i64 a, .slice KK L.length kc, .int .i64 t, .int .i64 z])
  have TW := Lib.hid hT
  have NA := Lib.hid hA
  have NB := Lib.hid hB
  clear hT hA hB
  generalize hw : w.alloc (.cells #[.int .i64 a, .slice KK L.length kc, .int .i64 t, .int .i64 z] 51) = w1 at *
  go_enter Tryd.func6, Tryd.ntmps6
  go_wp2_with (rw [hw])
  go_upto_region 1 with fail
  have X2 := Lib.hid (BX.out.below (Below.refl _ w1).drew BX.out.lt)
  have B2 := Lib.hid (show Below w.heap.size w w1.drew from M1.out.drew)
  clear hw
  refine wp_region_held_drew (S := fun ws => ws.cell? ⟨w.heap.size, 0, none⟩ = some (.int .i64 a) ∧ ws.cell? ⟨w.heap.size, 1, none⟩ = some (.slice KK L.length kc) ∧ ws.cell? ⟨w.heap.size, 2, none⟩ = some (.int .i64 t) ∧ ws.cell? ⟨w.heap.size, 3, none⟩ = some (.int .i64 z)) (by kernel_rfl) ⟨X2.out.cell 0, X2.out.cell 1, X2.out.cell 2, X2.out.cell 3⟩ (fun hHeld => ?_)
  generalize w1.drew = w2 at *
  refine wpAnyH_take (i := 0) (v := ?_) rfl (by kernel_rfl) (by kernel_rfl) (by kernel_rfl) (fun _ _ _ h => h) (Or.inl ⟨by rfl, ?_⟩) (by assumption) ?_
  rotate_left
  · (intro w hSw; (try dsimp only at hSw); first | (go_simp; done) | (go_simp; with_reducible rfl))
  simp only [Act.put, List.getElem_toArray, List.getElem_cons_zero, List.getElem_cons_succ, List.setIfInBounds_toArray, List.set_cons_zero, List.set_cons_succ]
  refine wpAnyH_take (i := 1) (v := ?_) rfl (by kernel_rfl) (by kernel_rfl) (by kernel_rfl) (fun _ _ _ h => h) (Or.inl ⟨by rfl, ?_⟩) (by assumption) ?_
  rotate_left
  · (intro w hSw; (try dsimp only at hSw); first | (go_simp; done) | (go_simp; with_reducible rfl))
  simp only [Act.put, List.getElem_toArray, List.getElem_cons_zero, List.getElem_cons_succ, List.setIfInBounds_toArray, List.set_cons_zero, List.set_cons_succ]
  refine wpAnyH_take (i := 2) (v := ?_) rfl (by kernel_rfl) (by kernel_rfl) (by kernel_rfl) (fun _ _ _ h => h) (Or.inl ⟨by rfl, ?_⟩) (by assumption) ?_
  rotate_left
  · (intro w hSw; (try dsimp only at hSw); first | (go_simp; done) | (go_simp; with_reducible rfl))
  simp only [Act.put, List.getElem_toArray, List.getElem_cons_zero, List.getElem_cons_succ, List.setIfInBounds_toArray, List.set_cons_zero, List.set_cons_succ]
  refine wpAnyH_take (i := 3) (v := ?_) rfl (by kernel_rfl) (by kernel_rfl) (by kernel_rfl) (fun _ _ _ h => h) (Or.inl ⟨by rfl, ?_⟩) (by assumption) ?_
  rotate_left
  · (intro w hSw; (try dsimp only at hSw); first | (go_simp; done) | (go_simp; with_reducible rfl))
  simp only [Act.put, List.getElem_toArray, List.getElem_cons_zero, List.getElem_cons_succ, List.setIfInBounds_toArray, List.set_cons_zero, List.set_cons_succ]
  refine wpAnyH_ready (rs := [4]) (by kernel_rfl) (by simp) ?_
  refine AllReadyH.cons rfl (fun K hK => ?_) AllReadyH.nil
  go_simp
  go_wp2_with fail
  have X4 := Lib.hid (X2.out.alloc (.cells #[.slice none 0 0, .int .i64 0, .int .i64 0] 49))
  have B4 := Lib.hid (show Below w.heap.size w (w2.alloc (.cells #[.slice none 0 0, .int .i64 0, .int .i64 0] 49)) from up B2.out (made w2 _) B2.out.size)
  have Y4 := Lib.hid (Blk.new w2 49 #[.slice none 0 0, .int .i64 0, .int .i64 0])
  refine hK.out _ _ ⟨X4.out.cell 0, X4.out.cell 1, X4.out.cell 2, X4.out.cell 3⟩ (fun hH1 => ?_)
  clear hK hHeld
  refine wpAnyH_take (i := 5) (v := ?_) rfl (by kernel_rfl) (by kernel_rfl) (by kernel_rfl) (fun _ _ _ h => h) (Or.inl ⟨by rfl, ?_⟩) (by assumption) ?_
  rotate_left
  · (intro w hSw; (try dsimp only at hSw); first | (go_simp; done) | (go_simp; with_reducible rfl))
  simp only [Act.put, List.getElem_toArray, List.getElem_cons_zero, List.getElem_cons_succ, List.setIfInBounds_toArray, List.set_cons_zero, List.set_cons_succ]
  have y0 := Y4.out.cell 0
  have y1 := Y4.out.cell 1
  have y2 := Y4.out.cell 2
  have f0 := Y4.out.free 0
  have f1 := Y4.out.free 1
  have f2 := Y4.out.free 2
  refine wpAnyH_ready (rs := [6]) (by kernel_rfl) (by simp) ?_
  refine AllReadyH.cons rfl (fun K hK => ?_) AllReadyH.nil
  go_simp
  go_wp2_with fail
  have B5 := Lib.hid (show Below w.heap.size w (w2.alloc (.cells #[.slice KK L.length kc, .int .i64 t, .int .i64 z] 49)) from up B2.out (made w2 _) B2.out.size)
  have Y5 := Lib.hid (Blk.new w2 49 #[.slice KK L.length kc, .int .i64 t, .int .i64 z])
  have X5 := Lib.hid (X2.out.alloc (.cells #[.slice KK L.length kc, .int .i64 t, .int .i64 z] 49))
  refine hK.out _ _ ⟨X5.out.cell 0, X5.out.cell 1, X5.out.cell 2, X5.out.cell 3⟩ (fun hH2 => ?_)
  clear hK hH1 y0 y1 y2 f0 f1 f2
  refine wpAnyH_done (by kernel_rfl) ?_ _
  clear hH2 X4 Y4 X5
  have T5 := Lib.hid (TW.out.keep B5.out TW.out.1)
  generalize (w2.alloc (.cells #[.slice KK L.length kc, .int .i64 t, .int .i64 z] 49)) = w5 at *
  have y0 := Y5.out.cell 0
  have y1 := Y5.out.cell 1
  have y2 := Y5.out.cell 2
  have k1 : decide ((ta.length : Int) > 20) = false := decide_eq_false (by omega)
  have k2 : decide ((ne.length : Int) > 20) = false := decide_eq_false (by omega)
  have k3 : decide ((L.length : Int) > 20) = false := decide_eq_false (by omega)
  have k4 : decide (a > 20) = false := decide_eq_false (by omega)
  have NW := Lib.hid (new_any 3 128 w5 (by decide) (by decide) (by decide) (by decide))
  have LA := Lib.hid (And.intro h1 (And.intro h2 (And.intro h3 h4)))
  have N5 := Lib.hid (base.Nums.keep NA.out B5.out)
  have P5 := Lib.hid (base.Nums.keep NB.out B5.out)
  clear h1 h2 h3 h4
  go_wp2_with fail
  refine NW.out.mono ?_
  rintro e w6 ⟨g, s, m, rfl, hd6, hb⟩
  have H6 := Lib.hid hd6
  have B6 := Lib.hid (up B5.out hb B5.out.size)
  have D6 := Lib.hid hb
  have T6 := Lib.hid (T5.out.keep hb T5.out.1)
  have N6 := Lib.hid (base.Nums.keep N5.out hb)
  have P6 := Lib.hid (base.Nums.keep P5.out hb)
  have Y6 := Lib.hid (Y5.out.below hb Y5.out.lt)
  clear hd6 hb NW y0 y1 y2
  have X6 := Lib.hid (Blk.new w6 24 #[.int .i64 6, .slice A ta.length ca])
  have M7 := Lib.hid (made w6 (.cells #[.int .i64 6, .slice A ta.length ca] 24))
  have M8 := Lib.hid (show Below w6.heap.size w6 ((w6.alloc (.cells #[.int .i64 6, .slice A ta.length ca] 24)).alloc (.cells #[.int .i64 7, .slice B ne.length cb] 24)) from up M7.out (made _ _) M7.out.size)
  have XA8 := Lib.hid (X6.out.alloc (.cells #[.int .i64 7, .slice B ne.length cb] 24))
  have XB8 := Lib.hid (show Blk ((w6.alloc (.cells #[.int .i64 6, .slice A ta.length ca] 24)).alloc (.cells #[.int .i64 7, .slice B ne.length cb] 24)) (w6.heap.size + 1) 24 #[.int .i64 7, .slice B ne.length cb] from by
    have h := Blk.new (w6.alloc (.cells #[.int .i64 6, .slice A ta.length ca] 24)) 24 #[.int .i64 7, .slice B ne.length cb]
    rw [asz] at h
    exact h)
  have D8 := Lib.hid (show Below w5.heap.size w5 ((w6.alloc (.cells #[.int .i64 6, .slice A ta.length ca] 24)).alloc (.cells #[.int .i64 7, .slice B ne.length cb] 24)) from up D6.out M8.out D6.out.size)
  have B8 := Lib.hid (up B5.out D8.out B5.out.size)
  have H8 := Lib.hid (H6.out.below M8.out)
  have Y8 := Lib.hid (Y6.out.below M8.out Y6.out.lt)
  have T8 := Lib.hid (TW.out.keep B8.out TW.out.1)
  have xa0 := XA8.out.cell 0
  have xa1 := XA8.out.cell 1
  have xb0 := XB8.out.cell 0
  have xb1 := XB8.out.cell 1
  have y0 := Y8.out.cell 0
  have y1 := Y8.out.cell 1
  have y2 := Y8.out.cell 2
  clear X6 M7 M8
  generalize hw8 : ((w6.alloc (.cells #[.int .i64 6, .slice A ta.length ca] 24)).alloc (.cells #[.int .i64 7, .slice B ne.length cb] 24)) = w8 at *
  have RR := Lib.hid (rright_any 6 A ca ta w8 (base.Nums.keep NA.out B8.out))
  rw [RO.out.1] at RR
  have RS := Lib.hid (rright_any 7 B cb ne w8 (base.Nums.keep NB.out B8.out))
  rw [RO.out.2] at RS
  have HK := Lib.hid (show ∀ ad, KK = some ad → 0 < L.length → ad.block < w5.heap.size from fun ad e h0 => by
    obtain ⟨b, off, e2, hlt, -⟩ := NK.out h0
    rw [e2] at e
    injection e with e
    subst e
    exact Nat.lt_of_lt_of_le hlt B5.out.size)
  clear h6 h7
  go_wp2_with (rw [hw8])
  refine RR.out.mono ?_
  rintro e wq ⟨rfl, eq⟩
  subst eq
  clear RR
  go_wp2_with fail
  refine RS.out.mono ?_
  rintro e wq ⟨rfl, eq⟩
  subst eq
  clear RS
  have V1 := Lib.hid (save_yes H8.out (by decide) (by decide) (by decide) 5 none 0 [] (nums_nil _) (by decide) fit5 (by decide) T8.out)
  unfold SaveP at V1
  rw [q1.1] at V1
  go_wp2_with fail
  refine V1.out.mono ?_
  rintro e w9 ⟨rfl, ⟨c9, hd, hc9⟩, hg⟩
  have D9 := Lib.hid (D8.out.trans (hg.to H8.out.gb H8.out.sb H8.out.mb D8.out.size))
  have B9 := Lib.hid (up B5.out D9.out B5.out.size)
  have XA9 := Lib.hid (chg_blk hg H8.out XA8.out (by decide) (by decide))
  have XB9 := Lib.hid (chg_blk hg H8.out XB8.out (by decide) (by decide))
  have Y9 := Lib.hid (chg_blk hg H8.out Y8.out (by decide) (by decide))
  have T9 := Lib.hid (TW.out.keep B9.out TW.out.1)
  have H9 := Lib.hid (show DAt w9 w5.heap.size g s m Q1 c9 from hd)
  clear xa0 xa1 xb0 xb1 y0 y1 y2 hg hd
  have xa0 := XA9.out.cell 0
  have xa1 := XA9.out.cell 1
  have xb0 := XB9.out.cell 0
  have xb1 := XB9.out.cell 1
  have y0 := Y9.out.cell 0
  have y1 := Y9.out.cell 1
  have y2 := Y9.out.cell 2
  clear V1
  have V2 := Lib.hid (save_yes H9.out (by omega) (by rw [q1.2.2.2.2.1]; decide) (by rw [q1.2.2.2.2.1]; decide) 6 A ca ta (base.Nums.keep NA.out B9.out) RO.out.1 (by rw [q1.2.2.2.1]; exact F6.out) (by rw [q1.2.2.1]; decide) T9.out)
  unfold SaveP at V2
  rw [Z6.out.1] at V2
  go_wp2_with fail
  refine V2.out.mono ?_
  rintro e w10 ⟨rfl, ⟨c10, hd, hc10⟩, hg⟩
  have D10 := Lib.hid (D9.out.trans (hg.to H9.out.gb H9.out.sb H9.out.mb D9.out.size))
  have B10 := Lib.hid (up B5.out D10.out B5.out.size)
  have XA10 := Lib.hid (chg_blk hg H9.out XA9.out (by decide) (by decide))
  have XB10 := Lib.hid (chg_blk hg H9.out XB9.out (by decide) (by decide))
  have Y10 := Lib.hid (chg_blk hg H9.out Y9.out (by decide) (by decide))
  have T10 := Lib.hid (TW.out.keep B10.out TW.out.1)
  have H10 := Lib.hid (show DAt w10 w5.heap.size g s m (Q2 ta) c10 from hd)
  clear xa0 xa1 xb0 xb1 y0 y1 y2 hg hd
  have xa0 := XA10.out.cell 0
  have xa1 := XA10.out.cell 1
  have xb0 := XB10.out.cell 0
  have xb1 := XB10.out.cell 1
  have y0 := Y10.out.cell 0
  have y1 := Y10.out.cell 1
  have y2 := Y10.out.cell 2
  clear V2
  have AR := Lib.hid (arm_any H10.out HA.out)
  go_wp2_with fail
  refine AR.out.mono ?_
  rintro e w11 ⟨rfl, hd, hg⟩
  have D11 := Lib.hid (D10.out.trans (hg.to H10.out.gb H10.out.sb H10.out.mb D10.out.size))
  have B11 := Lib.hid (up B5.out D11.out B5.out.size)
  have XA11 := Lib.hid (chg_blk hg H10.out XA10.out (by decide) (by decide))
  have XB11 := Lib.hid (chg_blk hg H10.out XB10.out (by decide) (by decide))
  have Y11 := Lib.hid (chg_blk hg H10.out Y10.out (by decide) (by decide))
  have T11 := Lib.hid (TW.out.keep B11.out TW.out.1)
  have H11 := Lib.hid (show DAt w11 w5.heap.size g s m ((Q2 ta).arm a) c10 from hd)
  clear xa0 xa1 xb0 xb1 y0 y1 y2 hg hd
  have xa0 := XA11.out.cell 0
  have xa1 := XA11.out.cell 1
  have xb0 := XB11.out.cell 0
  have xb1 := XB11.out.cell 1
  have y0 := Y11.out.cell 0
  have y1 := Y11.out.cell 1
  have y2 := Y11.out.cell 2
  clear AR
  have V3 := Lib.hid (save_yes H11.out (by omega) (by show 0 ≤ (Q2 ta).done; rw [Z6.out.2.1]; decide) (by show (Q2 ta).done ≤ 10000; rw [Z6.out.2.1]; decide) 7 B cb ne (base.Nums.keep NB.out B11.out) RO.out.2 (by rw [(Two5.arm Z6.out.2.2 a).size]; exact F7.out) (by rw [(Two5.arm Z6.out.2.2 a).n]; decide) T11.out)
  have LD := Lib.hid (fun W cc (H : DAt W w5.heap.size g s m ((saveD ((Q2 ta).arm a) 7 ne).crash L t z) cc) (hT : sl.Tab W) => load_any H (by rw [CL.out.1]; decide) CL.out.2.1 hT)
  rcases CL.out.2.2 with ⟨hee, hld⟩ | ⟨hee, hld | hld⟩
  · clear CL
    unfold LoadP at LD
    rw [hld] at LD
    unfold SaveP at V3
    rw [hee] at V3
    clear hld hee
    go_wp2_with fail
    refine V3.out.mono ?_
    rintro e w12 ⟨rfl, ⟨c12, hd, hc12⟩, hg⟩
    have CR := Lib.hid (crash_any (show DAt w12 w5.heap.size g s m _ c12 from hd) KK kc L t z (to_lay (base.Nums.keep NK.out (up B5.out (D11.out.trans (hg.to H11.out.gb H11.out.sb H11.out.mb D11.out.size)) B5.out.size))) HK.out (by have := LA.out; omega) WL.out.1 WL.out.2)
    unfold CrashP at CR
    have D12 := Lib.hid (D11.out.trans (hg.to H11.out.gb H11.out.sb H11.out.mb D11.out.size))
    have B12 := Lib.hid (up B5.out D12.out B5.out.size)
    have XA12 := Lib.hid (chg_blk hg H11.out XA11.out (by decide) (by decide))
    have XB12 := Lib.hid (chg_blk hg H11.out XB11.out (by decide) (by decide))
    have Y12 := Lib.hid (chg_blk hg H11.out Y11.out (by decide) (by decide))
    have T12 := Lib.hid (TW.out.keep B12.out TW.out.1)
    have H12 := Lib.hid (show DAt w12 w5.heap.size g s m _ c12 from hd)
    clear xa0 xa1 xb0 xb1 y0 y1 y2 hg hd
    have xa0 := XA12.out.cell 0
    have xa1 := XA12.out.cell 1
    have xb0 := XB12.out.cell 0
    have xb1 := XB12.out.cell 1
    have y0 := Y12.out.cell 0
    have y1 := Y12.out.cell 1
    have y2 := Y12.out.cell 2
    clear V3
    go_wp2_with fail
    refine CR.out.mono ?_
    rintro e w13 ⟨rfl, ⟨c13, hd, hc13⟩, hg⟩
    have D13 := Lib.hid (D12.out.trans (hg.to H12.out.gb H12.out.sb H12.out.mb D12.out.size))
    have B13 := Lib.hid (up B5.out D13.out B5.out.size)
    have XA13 := Lib.hid (chg_blk hg H12.out XA12.out (by decide) (by decide))
    have XB13 := Lib.hid (chg_blk hg H12.out XB12.out (by decide) (by decide))
    have Y13 := Lib.hid (chg_blk hg H12.out Y12.out (by decide) (by decide))
    have T13 := Lib.hid (TW.out.keep B13.out TW.out.1)
    have H13 := Lib.hid (show DAt w13 w5.heap.size g s m _ c13 from hd)
    clear xa0 xa1 xb0 xb1 y0 y1 y2 hg hd
    have xa0 := XA13.out.cell 0
    have xa1 := XA13.out.cell 1
    have xb0 := XB13.out.cell 0
    have xb1 := XB13.out.cell 1
    have y0 := Y13.out.cell 0
    have y1 := Y13.out.cell 1
    have y2 := Y13.out.cell 2
    clear CR
    have LE := Lib.hid (LD.out w13 c13 H13.out T13.out)
    clear LD
    go_wp2_with fail
    refine LE.out.mono ?_
    rintro e w14 ⟨hb, ⟨h0, -⟩ | ⟨-, Ar, cr, rfl, hn⟩⟩
    · exact absurd h0 (by decide)
    have XA14 := Lib.hid ((XA13.out.below hb XA13.out.lt).alloc (.cells #[.int .i64 7, .slice Ar ne.length cr] 24))
    have XB14 := Lib.hid ((XB13.out.below hb XB13.out.lt).alloc (.cells #[.int .i64 7, .slice Ar ne.length cr] 24))
    have R14 := Lib.hid (Blk.new w14 24 #[.int .i64 7, .slice Ar ne.length cr])
    have B14 := Lib.hid (show Below w.heap.size w (w14.alloc (.cells #[.int .i64 7, .slice Ar ne.length cr] 24)) from up (up B13.out hb B13.out.size) (made w14 _) (up B13.out hb B13.out.size).size)
    have N14 := Lib.hid (base.Nums.keep hn (made w14 (.cells #[.int .i64 7, .slice Ar ne.length cr] 24)))
    clear hb hn LE xa0 xa1 xb0 xb1 y0 y1 y2
    have xa0 := XA14.out.cell 0
    have xa1 := XA14.out.cell 1
    have xb0 := XB14.out.cell 0
    have xb1 := XB14.out.cell 1
    have r0 := R14.out.cell 0
    have r1 := R14.out.cell 1
    generalize hw15 : w14.alloc (.cells #[.int .i64 7, .slice Ar ne.length cr] 24) = w15 at *
    have EQ := Lib.hid (requal_no 7 Ar cr ne 6 A ca ta (by decide) w15 N14.out (base.Nums.keep NA.out B14.out) (by have := LA.out; omega))
    unfold BoolP at EQ
    go_wp2_with (rw [hw15])
    refine EQ.out.mono ?_
    rintro e w16 ⟨rfl, hb⟩
    have B16 := Lib.hid (up B14.out hb B14.out.size)
    have XB16 := Lib.hid (XB14.out.below hb XB14.out.lt)
    have R16 := Lib.hid (R14.out.below hb R14.out.lt)
    have EP := Lib.hid (requal_yes 7 Ar cr ne B cb w16 (base.Nums.keep N14.out hb) (base.Nums.keep NB.out B16.out) (by have := LA.out; omega))
    have N16 := Lib.hid (base.Nums.keep N14.out hb)
    unfold BoolP at EP
    clear EQ hb xa0 xa1 xb0 xb1 r0 r1
    have xb0 := XB16.out.cell 0
    have xb1 := XB16.out.cell 1
    have r0 := R16.out.cell 0
    have r1 := R16.out.cell 1
    go_wp2_with fail
    refine EP.out.mono ?_
    rintro e w17 ⟨rfl, hb⟩
    have B17 := Lib.hid (up B16.out hb B16.out.size)
    have T17 := Lib.hid (TW.out.keep B17.out TW.out.1)
    have XB17 := Lib.hid (XB16.out.below hb XB16.out.lt)
    have R17 := Lib.hid (R16.out.below hb R16.out.lt)
    have N17 := Lib.hid (base.Nums.keep N16.out hb)
    clear EP hb xb0 xb1 r0 r1
    have xb0 := XB17.out.cell 0
    have xb1 := XB17.out.cell 1
    have r0 := R17.out.cell 0
    have r1 := R17.out.cell 1
    have EP := Lib.hid (requal_yes 7 Ar cr ne B cb w17 N17.out (base.Nums.keep NB.out B17.out) (by have := LA.out; omega))
    unfold BoolP at EP
    go_wp2_with fail
    refine EP.out.mono ?_
    rintro e w18 ⟨rfl, hb⟩
    have B18 := Lib.hid (up B17.out hb B17.out.size)
    have T18 := Lib.hid (TW.out.keep B18.out TW.out.1)
    clear EP hb xb0 xb1 r0 r1
    have AW := Lib.hid (awake_any w18 T18.out)
    unfold AwakeP at AW
    go_wp2_with fail
    refine AW.out.mono ?_
    rintro e wZ ⟨rfl, hb⟩
    have BZ := Lib.hid (up B18.out hb B18.out.size)
    clear hb AW
    go_wp2_with fail
    go_ret
    exact ⟨rfl, BZ.out⟩
  · clear CL
    unfold LoadP at LD
    rw [hld] at LD
    unfold SaveP at V3
    rw [hee] at V3
    clear hld hee
    go_wp2_with fail
    refine V3.out.mono ?_
    rintro e w12 ⟨rfl, ⟨c12, hd, hc12⟩, hg⟩
    have CR := Lib.hid (crash_any (show DAt w12 w5.heap.size g s m _ c12 from hd) KK kc L t z (to_lay (base.Nums.keep NK.out (up B5.out (D11.out.trans (hg.to H11.out.gb H11.out.sb H11.out.mb D11.out.size)) B5.out.size))) HK.out (by have := LA.out; omega) WL.out.1 WL.out.2)
    unfold CrashP at CR
    have D12 := Lib.hid (D11.out.trans (hg.to H11.out.gb H11.out.sb H11.out.mb D11.out.size))
    have B12 := Lib.hid (up B5.out D12.out B5.out.size)
    have XA12 := Lib.hid (chg_blk hg H11.out XA11.out (by decide) (by decide))
    have XB12 := Lib.hid (chg_blk hg H11.out XB11.out (by decide) (by decide))
    have Y12 := Lib.hid (chg_blk hg H11.out Y11.out (by decide) (by decide))
    have T12 := Lib.hid (TW.out.keep B12.out TW.out.1)
    have H12 := Lib.hid (show DAt w12 w5.heap.size g s m _ c12 from hd)
    clear xa0 xa1 xb0 xb1 y0 y1 y2 hg hd
    have xa0 := XA12.out.cell 0
    have xa1 := XA12.out.cell 1
    have xb0 := XB12.out.cell 0
    have xb1 := XB12.out.cell 1
    have y0 := Y12.out.cell 0
    have y1 := Y12.out.cell 1
    have y2 := Y12.out.cell 2
    clear V3
    go_wp2_with fail
    refine CR.out.mono ?_
    rintro e w13 ⟨rfl, ⟨c13, hd, hc13⟩, hg⟩
    have D13 := Lib.hid (D12.out.trans (hg.to H12.out.gb H12.out.sb H12.out.mb D12.out.size))
    have B13 := Lib.hid (up B5.out D13.out B5.out.size)
    have XA13 := Lib.hid (chg_blk hg H12.out XA12.out (by decide) (by decide))
    have XB13 := Lib.hid (chg_blk hg H12.out XB12.out (by decide) (by decide))
    have Y13 := Lib.hid (chg_blk hg H12.out Y12.out (by decide) (by decide))
    have T13 := Lib.hid (TW.out.keep B13.out TW.out.1)
    have H13 := Lib.hid (show DAt w13 w5.heap.size g s m _ c13 from hd)
    clear xa0 xa1 xb0 xb1 y0 y1 y2 hg hd
    have xa0 := XA13.out.cell 0
    have xa1 := XA13.out.cell 1
    have xb0 := XB13.out.cell 0
    have xb1 := XB13.out.cell 1
    have y0 := Y13.out.cell 0
    have y1 := Y13.out.cell 1
    have y2 := Y13.out.cell 2
    clear CR
    have LE := Lib.hid (LD.out w13 c13 H13.out T13.out)
    clear LD
    go_wp2_with fail
    refine LE.out.mono ?_
    rintro e w14 ⟨hb, ⟨h0, -⟩ | ⟨-, Ar, cr, rfl, hn⟩⟩
    · exact absurd h0 (by decide)
    have XA14 := Lib.hid ((XA13.out.below hb XA13.out.lt).alloc (.cells #[.int .i64 7, .slice Ar ne.length cr] 24))
    have XB14 := Lib.hid ((XB13.out.below hb XB13.out.lt).alloc (.cells #[.int .i64 7, .slice Ar ne.length cr] 24))
    have R14 := Lib.hid (Blk.new w14 24 #[.int .i64 7, .slice Ar ne.length cr])
    have B14 := Lib.hid (show Below w.heap.size w (w14.alloc (.cells #[.int .i64 7, .slice Ar ne.length cr] 24)) from up (up B13.out hb B13.out.size) (made w14 _) (up B13.out hb B13.out.size).size)
    have N14 := Lib.hid (base.Nums.keep hn (made w14 (.cells #[.int .i64 7, .slice Ar ne.length cr] 24)))
    clear hb hn LE xa0 xa1 xb0 xb1 y0 y1 y2
    have xa0 := XA14.out.cell 0
    have xa1 := XA14.out.cell 1
    have xb0 := XB14.out.cell 0
    have xb1 := XB14.out.cell 1
    have r0 := R14.out.cell 0
    have r1 := R14.out.cell 1
    generalize hw15 : w14.alloc (.cells #[.int .i64 7, .slice Ar ne.length cr] 24) = w15 at *
    have EQ := Lib.hid (requal_no 7 Ar cr ne 6 A ca ta (by decide) w15 N14.out (base.Nums.keep NA.out B14.out) (by have := LA.out; omega))
    unfold BoolP at EQ
    go_wp2_with (rw [hw15])
    refine EQ.out.mono ?_
    rintro e w16 ⟨rfl, hb⟩
    have B16 := Lib.hid (up B14.out hb B14.out.size)
    have XB16 := Lib.hid (XB14.out.below hb XB14.out.lt)
    have R16 := Lib.hid (R14.out.below hb R14.out.lt)
    have EP := Lib.hid (requal_yes 7 Ar cr ne B cb w16 (base.Nums.keep N14.out hb) (base.Nums.keep NB.out B16.out) (by have := LA.out; omega))
    have N16 := Lib.hid (base.Nums.keep N14.out hb)
    unfold BoolP at EP
    clear EQ hb xa0 xa1 xb0 xb1 r0 r1
    have xb0 := XB16.out.cell 0
    have xb1 := XB16.out.cell 1
    have r0 := R16.out.cell 0
    have r1 := R16.out.cell 1
    go_wp2_with fail
    refine EP.out.mono ?_
    rintro e w17 ⟨rfl, hb⟩
    have B17 := Lib.hid (up B16.out hb B16.out.size)
    have T17 := Lib.hid (TW.out.keep B17.out TW.out.1)
    have XB17 := Lib.hid (XB16.out.below hb XB16.out.lt)
    have R17 := Lib.hid (R16.out.below hb R16.out.lt)
    have N17 := Lib.hid (base.Nums.keep N16.out hb)
    clear EP hb xb0 xb1 r0 r1
    have AW := Lib.hid (awake_any w17 T17.out)
    unfold AwakeP at AW
    go_wp2_with fail
    refine AW.out.mono ?_
    rintro e wZ ⟨rfl, hb⟩
    have BZ := Lib.hid (up B17.out hb B17.out.size)
    clear hb AW
    go_wp2_with fail
    go_ret
    exact ⟨rfl, BZ.out⟩
  · clear CL
    unfold LoadP at LD
    rw [hld] at LD
    unfold SaveP at V3
    rw [hee] at V3
    clear hld hee
    go_wp2_with fail
    refine V3.out.mono ?_
    rintro e w12 ⟨rfl, ⟨c12, hd, hc12⟩, hg⟩
    have CR := Lib.hid (crash_any (show DAt w12 w5.heap.size g s m _ c12 from hd) KK kc L t z (to_lay (base.Nums.keep NK.out (up B5.out (D11.out.trans (hg.to H11.out.gb H11.out.sb H11.out.mb D11.out.size)) B5.out.size))) HK.out (by have := LA.out; omega) WL.out.1 WL.out.2)
    unfold CrashP at CR
    have D12 := Lib.hid (D11.out.trans (hg.to H11.out.gb H11.out.sb H11.out.mb D11.out.size))
    have B12 := Lib.hid (up B5.out D12.out B5.out.size)
    have XA12 := Lib.hid (chg_blk hg H11.out XA11.out (by decide) (by decide))
    have XB12 := Lib.hid (chg_blk hg H11.out XB11.out (by decide) (by decide))
    have Y12 := Lib.hid (chg_blk hg H11.out Y11.out (by decide) (by decide))
    have T12 := Lib.hid (TW.out.keep B12.out TW.out.1)
    have H12 := Lib.hid (show DAt w12 w5.heap.size g s m _ c12 from hd)
    clear xa0 xa1 xb0 xb1 y0 y1 y2 hg hd
    have xa0 := XA12.out.cell 0
    have xa1 := XA12.out.cell 1
    have xb0 := XB12.out.cell 0
    have xb1 := XB12.out.cell 1
    have y0 := Y12.out.cell 0
    have y1 := Y12.out.cell 1
    have y2 := Y12.out.cell 2
    clear V3
    go_wp2_with fail
    refine CR.out.mono ?_
    rintro e w13 ⟨rfl, ⟨c13, hd, hc13⟩, hg⟩
    have D13 := Lib.hid (D12.out.trans (hg.to H12.out.gb H12.out.sb H12.out.mb D12.out.size))
    have B13 := Lib.hid (up B5.out D13.out B5.out.size)
    have XA13 := Lib.hid (chg_blk hg H12.out XA12.out (by decide) (by decide))
    have XB13 := Lib.hid (chg_blk hg H12.out XB12.out (by decide) (by decide))
    have Y13 := Lib.hid (chg_blk hg H12.out Y12.out (by decide) (by decide))
    have T13 := Lib.hid (TW.out.keep B13.out TW.out.1)
    have H13 := Lib.hid (show DAt w13 w5.heap.size g s m _ c13 from hd)
    clear xa0 xa1 xb0 xb1 y0 y1 y2 hg hd
    have xa0 := XA13.out.cell 0
    have xa1 := XA13.out.cell 1
    have xb0 := XB13.out.cell 0
    have xb1 := XB13.out.cell 1
    have y0 := Y13.out.cell 0
    have y1 := Y13.out.cell 1
    have y2 := Y13.out.cell 2
    clear CR
    have LE := Lib.hid (LD.out w13 c13 H13.out T13.out)
    clear LD
    go_wp2_with fail
    refine LE.out.mono ?_
    rintro e w14 ⟨hb, ⟨h0, -⟩ | ⟨-, Ar, cr, rfl, hn⟩⟩
    · exact absurd h0 (by decide)
    have XA14 := Lib.hid ((XA13.out.below hb XA13.out.lt).alloc (.cells #[.int .i64 6, .slice Ar ta.length cr] 24))
    have XB14 := Lib.hid ((XB13.out.below hb XB13.out.lt).alloc (.cells #[.int .i64 6, .slice Ar ta.length cr] 24))
    have R14 := Lib.hid (Blk.new w14 24 #[.int .i64 6, .slice Ar ta.length cr])
    have B14 := Lib.hid (show Below w.heap.size w (w14.alloc (.cells #[.int .i64 6, .slice Ar ta.length cr] 24)) from up (up B13.out hb B13.out.size) (made w14 _) (up B13.out hb B13.out.size).size)
    have N14 := Lib.hid (base.Nums.keep hn (made w14 (.cells #[.int .i64 6, .slice Ar ta.length cr] 24)))
    clear hb hn LE xa0 xa1 xb0 xb1 y0 y1 y2
    have xa0 := XA14.out.cell 0
    have xa1 := XA14.out.cell 1
    have xb0 := XB14.out.cell 0
    have xb1 := XB14.out.cell 1
    have r0 := R14.out.cell 0
    have r1 := R14.out.cell 1
    generalize hw15 : w14.alloc (.cells #[.int .i64 6, .slice Ar ta.length cr] 24) = w15 at *
    have EQ := Lib.hid (requal_yes 6 Ar cr ta A ca w15 N14.out (base.Nums.keep NA.out B14.out) (by have := LA.out; omega))
    unfold BoolP at EQ
    go_wp2_with (rw [hw15])
    refine EQ.out.mono ?_
    rintro e w16 ⟨rfl, hb⟩
    have B16 := Lib.hid (up B14.out hb B14.out.size)
    have T16 := Lib.hid (TW.out.keep B16.out TW.out.1)
    clear EQ hb xa0 xa1 xb0 xb1 r0 r1
    have AW := Lib.hid (awake_any w16 T16.out)
    unfold AwakeP at AW
    go_wp2_with fail
    refine AW.out.mono ?_
    rintro e wZ ⟨rfl, hb⟩
    have BZ := Lib.hid (up B16.out hb B16.out.size)
    clear hb AW
    go_wp2_with fail
    go_ret
    exact ⟨rfl, BZ.out⟩
theorem walk (w : World) (hT : sl.Tab w) (A : Option Addr) (ca : Nat) (ta : List Int) (hA : Nums .i64 w A ta) (hca : ta.length ≤ ca) (hcm : ca ≤ maxLen) (hwa : ∀ n ∈ ta, (Lit.int .i64 n).wf = true) (B : Option Addr) (cb : Nat) (ne : List Int) (hB : Nums .i64 w B ne) (hcb : ne.length ≤ cb) (hbm : cb ≤ maxLen) (hwb : ∀ n ∈ ne, (Lit.int .i64 n).wf = true) (a : Int) (KK : Option Addr) (kc : Nat) (L : List Int) (t z : Int) (hw1 : (Lit.int .i64 a).wf = true) (hK : Nums .i64 w KK L) (hwL : ∀ x ∈ L, (Lit.int .i64 x).wf = true) (hkc : L.length ≤ kc) (hkm : kc ≤ maxLen) (hwt : (Lit.int .i64 t).wf = true) (hwz : (Lit.int .i64 z).wf = true) :
    Calls Tryd.prog 6 #[.slice A ta.length ca, .slice B ne.length cb, .agg #[.int .i64 a, .slice KK L.length kc, .int .i64 t, .int .i64 z]] w fun e w' => e = .returned (.bool true) ∧ Below w.heap.size w w' := by
  by_cases h : 20 < ta.length ∨ 20 < ne.length ∨ 20 < L.length ∨ 20 < a
  · exact walk_long w hT A ca ta hA B cb ne hB a KK kc L t z h
  cases h6 : rok 6 ta with
  | false => exact walk_no6 w hT A ca ta hA B cb ne hB a KK kc L t z (by omega) (by omega) (by omega) (by omega) h6
  | true =>
    cases h7 : rok 7 ne with
    | false => exact walk_no7 w hT A ca ta hA B cb ne hB a KK kc L t z (by omega) (by omega) (by omega) (by omega) h6 h7
    | true => exact walk_main w hT A ca ta hA B cb ne hB a KK kc L t z (by omega) (by omega) (by omega) (by omega) hw1 hwL hwt hK h6 h7
theorem contract (H : Type) (enc : TypeId × Value → H) (W : World) (bs : Nat) (args : Array Value) (ds gs : List (DataW H)) (before : List MemPlace)
    (hval : ∀ (j : Nat) t v, Tryd.f6.params[j]? = some t → args[j]? = some v → Value.okWide Tryd.prog W .any bs t v)
    (hW : DataW.Whole enc Tryd.prog Tryd.f6.params.toList Rows.slotsCrashesSpec.vars false W args.toList ds gs before) (hL : laidMetH Tryd.prog Rows.slotsCrashesRow.laid W) :
    Calls Tryd.prog 6 args W fun e W' => ∃ v, e = .returned v ∧ Rows.slotsCrashesSpec.post enc Tryd.prog Tryd.f6 false true false false W args v W' := by
  have hW' := hW
  obtain ⟨p, q, hA0, hV, rfl, _, _⟩ := hW
  have hA : DataW.TrodAll enc Tryd.prog W 0 (fun _ => true) true Tryd.f6.params.toList args.toList ds p := hA0
  rw [Tryd.params6] at hA hval
  obtain ⟨v0, vs0, d0, ds0, p0, q0, hargs, rfl, rfl, h0, r0⟩ := trodAll_cons hA
  obtain ⟨v1, vs1, d1, ds1, p1, q1, rfl, rfl, rfl, h1, r1⟩ := trodAll_cons r0
  obtain ⟨v2, vs2, d2, ds2, p2, q2, rfl, rfl, rfl, h2, r2⟩ := trodAll_cons r1
  obtain ⟨rfl, rfl, rfl⟩ := trodAll_nil r2
  obtain rfl : args = #[v0, v1, v2] := by cases args; simp_all
  obtain ⟨rfl, rfl⟩ := trodVars_none hV
  obtain ⟨A0, c0, l0, rfl, b0, m0, n0, w0⟩ := base.open_nums Tryd.underlying22 Tryd.underlying3 (by kernel_rfl) (hval 0 22 v0 rfl rfl) h0
  obtain ⟨A1, c1, l1, rfl, b1, m1, n1, w1⟩ := base.open_nums Tryd.underlying22 Tryd.underlying3 (by kernel_rfl) (hval 1 22 v1 rfl rfl) h1
  obtain ⟨a2, K2, k2, L2, t2, z2, rfl, ha2, hK2, hL2, hc2, hm2, ht2, hz2⟩ := open_crash (hval 2 51 v2 rfl rfl) h2
  clear hA0
  refine (walk W (tableOf hL) A0 c0 l0 n0 b0 m0 w0 A1 c1 l1 n1 b1 m1 w1 a2 K2 k2 L2 t2 z2 ha2 hK2 hL2 hc2 hm2 ht2 hz2).mono fun e W' ⟨he, hb⟩ => ?_
  subst he
  exact ⟨_, rfl, base.law_post base.laid (by kernel_rfl) rfl rfl Tryd.underlying4 hW' rfl rfl rfl hb⟩

noncomputable def laidWorld (os : Os) : World :=
  { World.holding Tryd.prog os ⟨#[], #[], []⟩ with heap := (World.holding Tryd.prog os ⟨#[], #[], []⟩).heap.modify 0 fun
      | .cells _ t frozen => .cells #[.int .u32 0, .int .u32 498536548, .int .u32 997073096, .int .u32 651767980, .int .u32 1994146192, .int .u32 1802195444, .int .u32 1303535960, .int .u32 1342533948, .int .u32 3988292384, .int .u32 4027552580, .int .u32 3604390888, .int .u32 3412177804, .int .u32 2607071920, .int .u32 2262029012, .int .u32 2685067896, .int .u32 3183342108] t frozen
      | o => o }
theorem laid_met (os : Os) : laidMet Tryd.prog Rows.slotsCrashesRow.laid ((laidWorld os).forCall (fun _ _ => 0) ⟨#[], #[.slice none 0 0, .slice none 0 0, .agg #[.int .i64 0, .slice none 0 0, .int .i64 0, .int .i64 0]], []⟩).memory :=
  laidMet_of_run' 8 (by kernel_rfl) (by kernel_rfl)
theorem reads (os : Os) {H : Type} (enc : TypeId × Value → H) : ∃ places, DataW.whole enc Tryd.prog ((laidWorld os).forCall (fun _ _ => 0) ⟨#[], #[.slice none 0 0, .slice none 0 0, .agg #[.int .i64 0, .slice none 0 0, .int .i64 0, .int .i64 0]], []⟩).memory Tryd.f6.params.toList Rows.slotsCrashesSpec.vars false (#[.slice none 0 0, .slice none 0 0, .agg #[.int .i64 0, .slice none 0 0, .int .i64 0, .int .i64 0]] : Array Value).toList 8 = some ([.nil, .nil, .agg [.lit (.int .i64 0), .agg [.nil, .lit (.int .i64 0), .lit (.int .i64 0)]]], [], places) :=
  ⟨[], by kernel_rfl⟩

set_option maxRecDepth 100000 in
theorem lifted (os : Os) (started : os.Started) (H : Type) (enc : TypeId × Value → H) (F : Stop.Interp) :
    ReturnsInHanded {} Tryd.checked os 6 .any ((OpenSpec.ofChange Rows.slotsCrashesSpec).preRow enc Tryd.prog Tryd.f6 Rows.slotsCrashesRow.domain false Rows.slotsCrashesRow.laid) (((OpenSpec.ofChange Rows.slotsCrashesSpec).at F).post enc Tryd.prog Tryd.f6 false true false false) := by
  obtain ⟨places, hx⟩ := reads os enc
  refine returnsInHanded_of_row (C := Tryd.checked) (s := OpenSpec.ofChange Rows.slotsCrashesSpec) base.own started (by kernel_rfl) Tryd.func6
    (witness_row_at (enc := enc) (C := Tryd.checked) false (laidWorld os) #[.slice none 0 0, .slice none 0 0, .agg #[.int .i64 0, .slice none 0 0, .int .i64 0, .int .i64 0]] rfl (by kernel_rfl) (by kernel_rfl) (by kernel_rfl)
      (OpenSpec.preRow_of_cond 8 hx (by kernel_rfl) (fun k hk => by cases hk) (by kernel_rfl) (laid_met os))) ?_
  intro W bs args ds gs before hval hW _ _ _ hL _ _
  exact contract H enc W bs args ds gs before hval hW hL

theorem said : Rows.SlotsCrashesSaid :=
  OpenClaim.holds_of_cond 6 Tryd.f6 rfl rfl rfl rfl rfl rfl rfl ⟨rfl, rfl, rfl, rfl, rfl⟩ rfl rfl rfl rfl rfl (by kernel_rfl) Tryd.func6 (by kernel_rfl)
    (of_decide_eq_true (by kernel_rfl)) (by unfold Func.isWrapper; first | (rw [if_pos (by decide +kernel)]; kernel_rfl) | (rw [if_neg (by decide +kernel)]; exact ⟨rfl, rfl⟩))
    (fun os started H enc _ F => by rw [OpenClaim.pre_eq_preRow]; exact lifted os started H enc F)

theorem plain (f : FuncId) (fn : Func) (hf : Tryd.pinned.checked.prog.funcNamed "deedhold/deedholdlaw06.SlotsCrashes" = some f) (hfn : Tryd.pinned.checked.prog.funcs[f]? = some fn) :
    false = Tryd.pinned.checked.prog.looks [] ∧ ∀ (j : Nat) t, fn.params[j]? = some t → Tryd.pinned.checked.prog.wantsStandIn t = false := by
  obtain rfl : f = 6 := Option.some.inj ((show Tryd.prog.funcNamed "deedhold/deedholdlaw06.SlotsCrashes" = some 6 by kernel_rfl).symm.trans hf) |>.symm
  obtain rfl : fn = Tryd.f6 := (Option.some.inj (Tryd.func6.symm.trans hfn)).symm
  refine ⟨by kernel_rfl, fun j t ht => ?_⟩
  rw [Tryd.params6] at ht
  have ht2 : t = 22 ∨ t = 22 ∨ t = 51 := by simpa using Array.mem_of_getElem? ht
  rcases ht2 with rfl | rfl | rfl
  all_goals first | exact (show Tryd.prog.wantsStandIn _ = false by kernel_rfl)

theorem card : Rows.SlotsCrashesCardSaid :=
  Claim7.holds_tied_plain_at .later [] _ _ _ _ said (fun _ h => by cases h) (by kernel_rfl) (fun _ h => by cases h) slotsCrashes_row_tie rfl ⟨rfl, rfl⟩ (by kernel_rfl) rfl plain (by kernel_rfl)
#print axioms card
end Go.Proofs.YtigjfmfhmoabiaaDoor.slotsCrashes
