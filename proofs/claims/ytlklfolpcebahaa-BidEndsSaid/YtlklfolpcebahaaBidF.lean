/-
  Contracts of package bid: Bid, refused or not.
-/
import Derived.Test.YtlklfolpcebahaaBidE
namespace Go.Proofs.Ytlklfolpcebahaa.bd
open Go.RowKit
open base (ret_bool ret_int made up Blk Only Nums)
set_option linter.unusedVariables false
set_option linter.unusedSimpArgs false

set_option maxRecDepth 100000 in
set_option maxHeartbeats 2000000 in
theorem bid_yes (g gl cap : Nat) (d l b p n who z : Int) (w : World) (h : One w g gl cap d l b p n) (hw : 1 < who) (hz : 0 ≤ z ∧ z ≤ 1099511627776) (hb : 0 ≤ b ∧ b ≤ 1099511627776) (hp : 0 ≤ p) (hlo : askOf l b p ≤ z) (B : Nat) (hB : B ≤ gl ∧ B ≤ w.heap.size) :
    Calls Try.prog 17 #[.pointer (some ⟨g, 0, none⟩), .int .i64 1, .int .i64 who, .int .i64 z] w fun e w' => e = .returned (.tuple #[(.agg #[.int .i64 1, .int .i64 d, .int .i64 1, .int .i64 l, .int .i64 b, .int .i64 p, .int .i64 n]), .int .i64 0]) ∧ Below B w w' ∧ One w' g gl cap d l z who n ∧ Only (fun i => i = gl) w w' := by
  have hm1 : Below w.heap.size w (w.alloc (.cells #[.int .i64 0, .int .i64 0, .int .i64 0, .int .i64 0, .int .i64 0, .int .i64 0, .int .i64 0] 35)) := made w _
  have NO := Lib.hid (numbered_one g gl cap d l b p n (w.alloc (.cells #[.int .i64 0, .int .i64 0, .int .i64 0, .int .i64 0, .int .i64 0, .int .i64 0, .int .i64 0] 35)) (h.below hm1))
  have H1 := Lib.hid (h.below hm1)
  have M1 := Lib.hid hm1
  have BR := Lib.hid (Blk.new w 35 #[.int .i64 0, .int .i64 0, .int .i64 0, .int .i64 0, .int .i64 0, .int .i64 0, .int .i64 0])
  have RI := Lib.hid (fun ws => right_any z ws)
  rw [right_mk hz.1 hz.2] at RI
  have q1 : (who == 1) = false := by simp; omega
  have AK := Lib.hid (fun ws => asks_any d l b p n ws hb hp)
  generalize askOf l b p = ak at *
  have HBB := Lib.hid hB
  have GW := Lib.hid (show g < w.heap.size ∧ gl < w.heap.size from ⟨h.blk.lt, h.row.lt⟩)
  clear hz hb hp hB
  clear h hm1
  go_enter Try.func17, Try.ntmps17
  go_wp2_with fail
  refine NO.out.mono ?_
  rintro e w2 ⟨rfl, hb2⟩
  have H2 := Lib.hid (H1.out.below hb2)
  have B2 := Lib.hid (up M1.out hb2 M1.out.size)
  have BR2 := Lib.hid (BR.out.below hb2 BR.out.lt)
  have hm3 := made w2 (.cells #[.int .i64 1, .int .i64 d, .int .i64 1, .int .i64 l, .int .i64 b, .int .i64 p, .int .i64 n] 35)
  have B3 := Lib.hid (up B2.out hm3 B2.out.size)
  have BR3 := Lib.hid (BR2.out.alloc (.cells #[.int .i64 1, .int .i64 d, .int .i64 1, .int .i64 l, .int .i64 b, .int .i64 p, .int .i64 n] 35))
  have H3 := Lib.hid (H2.out.below hm3)
  have BT := Lib.hid (Blk.new w2 35 #[.int .i64 1, .int .i64 d, .int .i64 1, .int .i64 l, .int .i64 b, .int .i64 p, .int .i64 n])
  have r := H2.out.row
  have c0 := H2.out.blk.cell 0
  have d0 := r.cell (j := 0) (by omega)
  have d1 := r.cell (j := 1) (by omega)
  have d2 := r.cell (j := 2) (by omega)
  have d3 := r.cell (j := 3) (by omega)
  have d4 := r.cell (j := 4) (by omega)
  have d5 := r.cell (j := 5) (by omega)
  have d6 := r.cell (j := 6) (by omega)
  simp only [List.getD_cons_zero, List.getD_cons_succ] at d0 d1 d2 d3 d4 d5 d6
  have r0 := BR3.out.cell 0
  have r1 := BR3.out.cell 1
  have r2 := BR3.out.cell 2
  have r3 := BR3.out.cell 3
  have r4 := BR3.out.cell 4
  have r5 := BR3.out.cell 5
  have r6 := BR3.out.cell 6
  have f0 := BR3.out.free 0
  have f1 := BR3.out.free 1
  have f2 := BR3.out.free 2
  have f3 := BR3.out.free 3
  have f4 := BR3.out.free 4
  have f5 := BR3.out.free 5
  have f6 := BR3.out.free 6
  have t2 := BT.out.cell 2
  have cap1 := H2.out.le
  clear hb2 NO hm3 r
  go_wp2_with fail
  refine (RI.out _).mono ?_
  rintro e w3 ⟨rfl, rfl⟩
  go_wp2_with fail
  refine (AK.out _).mono ?_
  rintro e w4 ⟨rfl, hb4⟩
  have B4 := Lib.hid (up B3.out hb4 B3.out.size)
  have BR4 := Lib.hid (BR3.out.below hb4 BR3.out.lt)
  have H4 := Lib.hid (H3.out.below hb4)
  have BT4 := Lib.hid (BT.out.below hb4 BT.out.lt)
  have GX := Lib.hid (show w.heap.size ≤ w2.heap.size from B2.out.size)
  clear BR3 B3 BT r0 r1 r2 r3 r4 r5 r6 f0 f1 f2 f3 f4 f5 f6 d0 d1 d2 d3 d4 d5 d6 t2 hb4 c0
  have c0 := H4.out.blk.cell 0
  have d4 := H4.out.row.cell (j := 4) (by omega)
  have d5 := H4.out.row.cell (j := 5) (by omega)
  have f4 := H4.out.row.free 4
  have f5 := H4.out.row.free 5
  simp only [List.getD_cons_zero, List.getD_cons_succ] at d4 d5
  have gne := H4.out.ne
  have gne2 : gl ≠ g := fun e => gne e.symm
  go_wp2_with fail
  refine wp_region_held_drew (S := (fun ws => ws.cell? ⟨g, 0, none⟩ = some (.slice (some ⟨gl, 0, none⟩) 1 cap))) (by kernel_rfl) c0 (fun hHeld => ?_)
  refine wpAnyH_take (i := 0) (v := ?_) rfl (by kernel_rfl) (by kernel_rfl) (by kernel_rfl) (fun _ _ _ h => h) (Or.inl ⟨by rfl, ?_⟩) (by assumption) ?_
  rotate_left
  · (intro w hSw; (try dsimp only at hSw); first | (go_simp; done) | (go_simp; with_reducible rfl))
  simp only [Act.put, List.getElem_toArray, List.getElem_cons_zero, List.getElem_cons_succ, List.setIfInBounds_toArray, List.set_cons_zero, List.set_cons_succ]
  refine wpAnyH_take (i := 1) (v := ?_) rfl (by kernel_rfl) (by kernel_rfl) (by kernel_rfl) (fun _ _ _ h => h) (Or.inl ⟨by rfl, ?_⟩) (by assumption) ?_
  rotate_left
  · (intro w hSw; (try dsimp only at hSw); first | (go_simp; done) | (go_simp; with_reducible rfl))
  simp only [Act.put, List.getElem_toArray, List.getElem_cons_zero, List.getElem_cons_succ, List.setIfInBounds_toArray, List.set_cons_zero, List.set_cons_succ]
  refine wpAnyH_take (i := 2) (v := ?_) rfl (by kernel_rfl) (by kernel_rfl) (by kernel_rfl) (fun _ _ _ h => h) (Or.inl ⟨by rfl, ?_⟩) (by assumption) ?_
  rotate_left
  · (intro w hSw; (try dsimp only at hSw); first | (go_simp; done) | (go_simp; with_reducible rfl))
  simp only [Act.put, List.getElem_toArray, List.getElem_cons_zero, List.getElem_cons_succ, List.setIfInBounds_toArray, List.set_cons_zero, List.set_cons_succ]
  refine wpAnyH_take (i := 3) (v := ?_) rfl (by kernel_rfl) (by kernel_rfl) (by kernel_rfl) (fun _ _ _ h => h) (Or.inl ⟨by rfl, ?_⟩) (by assumption) ?_
  rotate_left
  · (intro w hSw; (try dsimp only at hSw); first | (go_simp; done) | (go_simp; with_reducible rfl))
  simp only [Act.put, List.getElem_toArray, List.getElem_cons_zero, List.getElem_cons_succ, List.setIfInBounds_toArray, List.set_cons_zero, List.set_cons_succ]
  refine wpAnyH_take (i := 4) (v := ?_) rfl (by kernel_rfl) (by kernel_rfl) (by kernel_rfl) (fun _ _ _ h => h) (Or.inl ⟨by rfl, ?_⟩) (by assumption) ?_
  rotate_left
  · (intro w hSw; (try dsimp only at hSw); first | (go_simp; done) | (go_simp; with_reducible rfl))
  simp only [Act.put, List.getElem_toArray, List.getElem_cons_zero, List.getElem_cons_succ, List.setIfInBounds_toArray, List.set_cons_zero, List.set_cons_succ]
  refine wpAnyH_take (i := 5) (v := ?_) rfl (by kernel_rfl) (by kernel_rfl) (by kernel_rfl) (fun _ _ _ h => h) (Or.inl ⟨by rfl, ?_⟩) (by assumption) ?_
  rotate_left
  · (intro w hSw; (try dsimp only at hSw); first | (go_simp; done) | (go_simp; with_reducible rfl))
  simp only [Act.put, List.getElem_toArray, List.getElem_cons_zero, List.getElem_cons_succ, List.setIfInBounds_toArray, List.set_cons_zero, List.set_cons_succ]
  refine wpAnyH_take (i := 6) (v := ?_) rfl (by kernel_rfl) (by kernel_rfl) (by kernel_rfl) (fun _ _ _ h => h) (Or.inl ⟨by rfl, ?_⟩) (by assumption) ?_
  rotate_left
  · (intro w hSw; (try dsimp only at hSw); first | (go_simp; done) | (go_simp; with_reducible rfl))
  simp only [Act.put, List.getElem_toArray, List.getElem_cons_zero, List.getElem_cons_succ, List.setIfInBounds_toArray, List.set_cons_zero, List.set_cons_succ]
  refine wpAnyH_take (i := 7) (v := ?_) rfl (by kernel_rfl) (by kernel_rfl) (by kernel_rfl) (fun _ _ _ h => h) (Or.inl ⟨by rfl, ?_⟩) (by assumption) ?_
  rotate_left
  · (intro w hSw; (try dsimp only at hSw); first | (go_simp; done) | (go_simp; with_reducible rfl))
  simp only [Act.put, List.getElem_toArray, List.getElem_cons_zero, List.getElem_cons_succ, List.setIfInBounds_toArray, List.set_cons_zero, List.set_cons_succ]
  refine wpAnyH_take (i := 8) (v := ?_) rfl (by kernel_rfl) (by kernel_rfl) (by kernel_rfl) (fun _ _ _ h => h) (Or.inl ⟨by rfl, ?_⟩) (by assumption) ?_
  rotate_left
  · (intro w hSw; (try dsimp only at hSw); first | (go_simp; done) | (go_simp; with_reducible rfl))
  simp only [Act.put, List.getElem_toArray, List.getElem_cons_zero, List.getElem_cons_succ, List.setIfInBounds_toArray, List.set_cons_zero, List.set_cons_succ]
  refine wpAnyH_take (i := 9) (v := ?_) rfl (by kernel_rfl) (by kernel_rfl) (by kernel_rfl) (fun _ _ _ h => h) (Or.inl ⟨by rfl, ?_⟩) (by assumption) ?_
  rotate_left
  · (intro w hSw; (try dsimp only at hSw); first | (go_simp; done) | (go_simp; with_reducible rfl))
  simp only [Act.put, List.getElem_toArray, List.getElem_cons_zero, List.getElem_cons_succ, List.setIfInBounds_toArray, List.set_cons_zero, List.set_cons_succ]
  refine wpAnyH_take (i := 10) (v := ?_) rfl (by kernel_rfl) (by kernel_rfl) (by kernel_rfl) (fun _ _ _ h => h) (Or.inl ⟨by rfl, ?_⟩) (by assumption) ?_
  rotate_left
  · (intro w hSw; (try dsimp only at hSw); first | (go_simp; done) | (go_simp; with_reducible rfl))
  simp only [Act.put, List.getElem_toArray, List.getElem_cons_zero, List.getElem_cons_succ, List.setIfInBounds_toArray, List.set_cons_zero, List.set_cons_succ]
  refine wpAnyH_take (i := 11) (v := ?_) rfl (by kernel_rfl) (by kernel_rfl) (by kernel_rfl) (fun _ _ _ h => h) (Or.inl ⟨by rfl, ?_⟩) (by assumption) ?_
  rotate_left
  · (intro w hSw; (try dsimp only at hSw); first | (go_simp; done) | (go_simp; with_reducible rfl))
  simp only [Act.put, List.getElem_toArray, List.getElem_cons_zero, List.getElem_cons_succ, List.setIfInBounds_toArray, List.set_cons_zero, List.set_cons_succ]
  refine wpAnyH_take (i := 12) (v := ?_) rfl (by kernel_rfl) (by kernel_rfl) (by kernel_rfl) (fun _ _ _ h => h) (Or.inl ⟨by rfl, ?_⟩) (by assumption) ?_
  rotate_left
  · (intro w hSw; (try dsimp only at hSw); first | (go_simp; done) | (go_simp; with_reducible rfl))
  simp only [Act.put, List.getElem_toArray, List.getElem_cons_zero, List.getElem_cons_succ, List.setIfInBounds_toArray, List.set_cons_zero, List.set_cons_succ]
  refine wpAnyH_take (i := 13) (v := ?_) rfl (by kernel_rfl) (by kernel_rfl) (by kernel_rfl) (fun _ _ _ h => h) (Or.inl ⟨by rfl, ?_⟩) (by assumption) ?_
  rotate_left
  · (intro w hSw; (try dsimp only at hSw); first | (go_simp; done) | (go_simp; with_reducible rfl))
  simp only [Act.put, List.getElem_toArray, List.getElem_cons_zero, List.getElem_cons_succ, List.setIfInBounds_toArray, List.set_cons_zero, List.set_cons_succ]
  have c1 := (H4.out.blk.far (p := ⟨gl, 4, none⟩) gne (.int .i64 z)).cell 0
  have e5 := ((H4.out.row.put (i := 4) (by omega) rfl z)).cell (j := 5) (by omega)
  have h5 := ((H4.out.row.put (i := 4) (by omega) rfl z)).free 5
  simp only [List.set_cons_zero, List.set_cons_succ, List.getD_cons_zero, List.getD_cons_succ] at e5
  have O5 := Lib.hid (show One (((w4.setCell ⟨gl, 4, none⟩ (.int .i64 z)).setCell ⟨gl, 5, none⟩ (.int .i64 who)).drew) g gl cap d l z who n from
    ⟨((H4.out.blk.far (p := ⟨gl, 4, none⟩) gne (.int .i64 z)).far (p := ⟨gl, 5, none⟩) gne (.int .i64 who)).drewN 1, (H4.out.row.put (i := 4) (by omega) rfl z).put (i := 5) (by omega) rfl who, H4.out.le⟩)
  have c2 := O5.out.blk.cell 0
  have BR5 := Lib.hid (show Blk (((w4.setCell ⟨gl, 4, none⟩ (.int .i64 z)).setCell ⟨gl, 5, none⟩ (.int .i64 who)).drew) w.heap.size 35 #[.int .i64 0, .int .i64 0, .int .i64 0, .int .i64 0, .int .i64 0, .int .i64 0, .int .i64 0] from
    ((BR4.out.far (p := ⟨gl, 4, none⟩) (show w.heap.size ≠ gl by have := GW.out; omega) _).far (p := ⟨gl, 5, none⟩) (show w.heap.size ≠ gl by have := GW.out; omega) _).drewN 1)
  have BT5 := Lib.hid (show Blk (((w4.setCell ⟨gl, 4, none⟩ (.int .i64 z)).setCell ⟨gl, 5, none⟩ (.int .i64 who)).drew) w2.heap.size 35 #[.int .i64 1, .int .i64 d, .int .i64 1, .int .i64 l, .int .i64 b, .int .i64 p, .int .i64 n] from
    ((BT4.out.far (p := ⟨gl, 4, none⟩) (show w2.heap.size ≠ gl by have := GW.out; have := GX.out; omega) _).far (p := ⟨gl, 5, none⟩) (show w2.heap.size ≠ gl by have := GW.out; have := GX.out; omega) _).drewN 1)
  have B5 := Lib.hid (show Below B w (((w4.setCell ⟨gl, 4, none⟩ (.int .i64 z)).setCell ⟨gl, 5, none⟩ (.int .i64 who)).drew) from
    (((B4.out.mono HBB.out.2).setCell (p := ⟨gl, 4, none⟩) HBB.out.1 _).setCell (p := ⟨gl, 5, none⟩) HBB.out.1 _).drew)
  refine wpAnyH_ready (rs := [14]) (by kernel_rfl) (by simp) ?_
  refine AllReadyH.cons rfl (fun K hK => ?_) AllReadyH.nil
  go_simp
  refine hK.out _ _ c1 (fun hHeld2 => ?_)
  clear hK K hHeld
  refine wpAnyH_take (i := 15) (v := ?_) rfl (by kernel_rfl) (by kernel_rfl) (by kernel_rfl) (fun _ _ _ h => h) (Or.inl ⟨by rfl, ?_⟩) (by assumption) ?_
  rotate_left
  · (intro w hSw; (try dsimp only at hSw); first | (go_simp; done) | (go_simp; with_reducible rfl))
  simp only [Act.put, List.getElem_toArray, List.getElem_cons_zero, List.getElem_cons_succ, List.setIfInBounds_toArray, List.set_cons_zero, List.set_cons_succ]
  refine wpAnyH_take (i := 16) (v := ?_) rfl (by kernel_rfl) (by kernel_rfl) (by kernel_rfl) (fun _ _ _ h => h) (Or.inl ⟨by rfl, ?_⟩) (by assumption) ?_
  rotate_left
  · (intro w hSw; (try dsimp only at hSw); first | (go_simp; done) | (go_simp; with_reducible rfl))
  simp only [Act.put, List.getElem_toArray, List.getElem_cons_zero, List.getElem_cons_succ, List.setIfInBounds_toArray, List.set_cons_zero, List.set_cons_succ]
  refine wpAnyH_ready (rs := [17]) (by kernel_rfl) (by simp) ?_
  refine AllReadyH.cons rfl (fun K hK => ?_) AllReadyH.nil
  go_simp
  refine hK.out _ _ c2 (fun hHeld => ?_)
  clear hK K hHeld2
  refine wpAnyH_done (by kernel_rfl) ?_ _
  clear hHeld
  clear c0 c1 c2 d4 d5 f4 f5 e5 h5 BR4 BT4 H4
  have K5 := Lib.hid (blk7 BR5.out (.int .i64 1) (.int .i64 d) (.int .i64 1) (.int .i64 l) (.int .i64 b) (.int .i64 p) (.int .i64 n))
  have hwl := O5.out.blk.lt
  have R0 := Lib.hid BR5.out
  have B7 := Lib.hid (below7 B5.out (r := w.heap.size) HBB.out.2 (.int .i64 1) (.int .i64 d) (.int .i64 1) (.int .i64 l) (.int .i64 b) (.int .i64 p) (.int .i64 n))
  have gw := GW.out
  have O7 := Lib.hid (show One (((((((((((w4.setCell ⟨gl, 4, none⟩ (.int .i64 z)).setCell ⟨gl, 5, none⟩ (.int .i64 who)).drew).setCell ⟨w.heap.size, 0, none⟩ (.int .i64 1)).setCell ⟨w.heap.size, 1, none⟩ (.int .i64 d)).setCell ⟨w.heap.size, 2, none⟩ (.int .i64 1)).setCell ⟨w.heap.size, 3, none⟩ (.int .i64 l)).setCell ⟨w.heap.size, 4, none⟩ (.int .i64 b)).setCell ⟨w.heap.size, 5, none⟩ (.int .i64 p)).setCell ⟨w.heap.size, 6, none⟩ (.int .i64 n))) g gl cap d l z who n from
    ⟨far7 O5.out.blk (by omega) _ _ _ _ _ _ _, (by obtain ⟨cs, h1, h2⟩ := O5.out.row; exact ⟨cs, far7 h1 (by omega) _ _ _ _ _ _ _, h2⟩), O5.out.le⟩)
  have Q7 := Lib.hid (only7 (show Only (fun i => i = gl) w (((w4.setCell ⟨gl, 4, none⟩ (.int .i64 z)).setCell ⟨gl, 5, none⟩ (.int .i64 who)).drew) from
    ((((Only.refl (fun i => i = gl) w).below B4.out (fun i h1 h2 => by omega)).setCell (p := ⟨gl, 4, none⟩) (Or.inl rfl) _).setCell (p := ⟨gl, 5, none⟩) (Or.inl rfl) _).drewN 1) (r := w.heap.size) (Nat.le_refl _) (.int .i64 1) (.int .i64 d) (.int .i64 1) (.int .i64 l) (.int .i64 b) (.int .i64 p) (.int .i64 n))
  generalize ((w4.setCell ⟨gl, 4, none⟩ (.int .i64 z)).setCell ⟨gl, 5, none⟩ (.int .i64 who)).drew = w5 at *
  have r0 := BR5.out.cell 0
  have r1 := BR5.out.cell 1
  have r2 := BR5.out.cell 2
  have r3 := BR5.out.cell 3
  have r4 := BR5.out.cell 4
  have r5 := BR5.out.cell 5
  have r6 := BR5.out.cell 6
  have f0 := BR5.out.free 0
  have f1 := BR5.out.free 1
  have f2 := BR5.out.free 2
  have f3 := BR5.out.free 3
  have f4 := BR5.out.free 4
  have f5 := BR5.out.free 5
  have f6 := BR5.out.free 6
  have t0 := BT5.out.cell 0
  have t1 := BT5.out.cell 1
  have t2 := BT5.out.cell 2
  have t3 := BT5.out.cell 3
  have t4 := BT5.out.cell 4
  have t5 := BT5.out.cell 5
  have t6 := BT5.out.cell 6
  go_wp2_with fail
  have g0 := K5.out.cell 0
  have g1 := K5.out.cell 1
  have g2 := K5.out.cell 2
  have g3 := K5.out.cell 3
  have g4 := K5.out.cell 4
  have g5 := K5.out.cell 5
  have g6 := K5.out.cell 6
  refine bodyPost_ret (v := .tuple #[(.agg #[.int .i64 1, .int .i64 d, .int .i64 1, .int .i64 l, .int .i64 b, .int .i64 p, .int .i64 n]), .int .i64 0]) (by simp [results, Try.results17, go_sem, g0, g1, g2, g3, g4, g5, g6]) rfl ⟨rfl, B7.out, O7.out, Q7.out⟩
end Go.Proofs.Ytlklfolpcebahaa.bd
