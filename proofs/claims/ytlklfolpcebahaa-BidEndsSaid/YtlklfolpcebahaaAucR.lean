/-
  Contracts of package bid: Bid, where it is taken.
-/
import Derived.Test.YtlklfolpcebahaaAucQ
import Derived.Deep.RegionHeld
namespace Go.Proofs.Ytlklfolpcebahaa.bb
open Go.RowKit
open base (ret_bool ret_int made up Blk Only Nums)
open rk
set_option linter.unusedVariables false
set_option linter.unusedSimpArgs false

set_option maxRecDepth 100000 in
set_option maxHeartbeats 4000000 in
theorem bid_yes (B g i : Nat) (L : List D) (nx n who z : Int) (w : World) (hd : DAt w B g L nx) (hl : L.length ≤ 100000) (hB : B ≤ w.heap.size) (ho : fi (isId n) L = some i) (d : D) (hdd : d = L.getD i (0, 0, 0, 0, 0, 0, 0)) (hw : 1 ≤ who) (hs : who ≠ d.2.2.1) (hz : amt z) (hb : 0 ≤ best d ∧ best d ≤ 1099511627776) (hlo : bd.askOf d.2.2.2.1 (best d) d.2.2.2.2.2.1 ≤ z) :
    Calls Try.prog 17 #[.pointer (some ⟨g, 0, none⟩), .int .i64 n, .int .i64 who, .int .i64 z] w (CloseP B g (L.set i (d.1, d.2.1, d.2.2.1, d.2.2.2.1, z, who, d.2.2.2.2.2.2), nx) d 0 w) := by
  have hm1 := made w (.cells #[.int .i64 0, .int .i64 0, .int .i64 0, .int .i64 0, .int .i64 0, .int .i64 0, .int .i64 0] 35)
  have NB := Lib.hid (numbered_any B g L nx n _ (hd.below hm1) hl)
  have hil := fi_lt ho
  rw [ho] at NB
  dsimp only [ix, Option.isSome_some] at NB
  have M1 := Lib.hid hm1
  have HD := Lib.hid hd
  have HB := Lib.hid hB
  have BR := Lib.hid (Blk.new w 35 #[.int .i64 0, .int .i64 0, .int .i64 0, .int .i64 0, .int .i64 0, .int .i64 0, .int .i64 0])
  have DV := Lib.hid (show L[i] = d by rw [hdd]; simp [List.getD, hil])
  have RA := Lib.hid (fun ws => bd.right_any z ws)
  rw [isR hz] at RA
  obtain ⟨v, hbk, hown⟩ := hd.ex
  obtain ⟨gl, c, cs, rfl, _, _, hle, hmx, _, _⟩ := hown.full (by omega)
  have HBK := Lib.hid hbk
  have HOW := Lib.hid hown
  have NE := own_ne hown hbk gl rfl
  obtain ⟨hgl, hBg, hty⟩ := own_block hown
  have TY := Lib.hid hty
  have hgw := hbk.lt
  clear hd hB hm1 ho hdd hbk hown hty
  obtain ⟨d0, d1, d2, d3, d4, d5, d6⟩ := d
  dsimp only [best] at hs hb hlo
  have X5 := Lib.hid (fun ws (h : Own E7 ws B 35 (.slice (some ⟨gl, 0, none⟩) L.length c) L) => (h.put (i := i) (j := 4) hil (by decide) (u := .int .i64 z) (x := (d0, d1, d2, d3, z, d5, d6)) (by rw [DV.out]; rfl)))
  have X6 := Lib.hid (fun ws (h : Own E7 ws B 35 (.slice (some ⟨gl, 0, none⟩) L.length c) (L.set i (d0, d1, d2, d3, z, d5, d6))) => (h.put (i := i) (j := 5) (by rw [List.length_set]; exact hil) (by decide) (u := .int .i64 who) (x := (d0, d1, d2, d3, z, who, d6)) (by rw [List.getElem_set_self]; rfl)))
  go_enter Try.func17, Try.ntmps17
  go_wp2_with fail
  generalize w.alloc (.cells #[.int .i64 0, .int .i64 0, .int .i64 0, .int .i64 0, .int .i64 0, .int .i64 0, .int .i64 0] 35) = w1 at *
  refine NB.out.mono ?_
  rintro e w2 ⟨rfl, hb2⟩
  have B2 := Lib.hid (up M1.out hb2 M1.out.size)
  have BR2 := Lib.hid (BR.out.below hb2 BR.out.lt)
  have c0 := (HBK.out.below B2.out HBK.out.lt).cell 0
  obtain ⟨e0, e1, e2, e3, e4, e5, e6, -, -⟩ := own7 (HOW.out.below B2.out) hil
  rw [DV.out] at e0 e1 e2 e3 e4 e5 e6
  dsimp only at e0 e1 e2 e3 e4 e5 e6
  have hm3 := made w2 (.cells #[.int .i64 d0, .int .i64 d1, .int .i64 d2, .int .i64 d3, .int .i64 d4, .int .i64 d5, .int .i64 d6] 35)
  have B3 := Lib.hid (up B2.out hm3 B2.out.size)
  have BR3 := Lib.hid (BR2.out.below hm3 BR2.out.lt)
  have BX3 := Lib.hid (Blk.new w2 35 #[.int .i64 d0, .int .i64 d1, .int .i64 d2, .int .i64 d3, .int .i64 d4, .int .i64 d5, .int .i64 d6])
  have ZW := Lib.hid (show w.heap.size ≤ w2.heap.size from B2.out.size)
  clear hb2 NB BR hm3
  go_upto_region 5 with fail
  generalize w2.alloc (.cells #[.int .i64 d0, .int .i64 d1, .int .i64 d2, .int .i64 d3, .int .i64 d4, .int .i64 d5, .int .i64 d6] 35) = w3 at *
  clear c0 e0 e1 e2 e3 e4 e5 e6 BR2
  have AK := Lib.hid (fun ws => asks_any d0 d1 d2 d3 d4 d5 d6 ws hb)
  generalize bd.askOf d3 d4 d5 = ak at *
  have x0 := BX3.out.cell 0
  have x1 := BX3.out.cell 1
  have x2 := BX3.out.cell 2
  have x3 := BX3.out.cell 3
  have x4 := BX3.out.cell 4
  have x5 := BX3.out.cell 5
  have x6 := BX3.out.cell 6
  have q2 : (who == d2) = false := by simpa using hs
  clear hs hz hb
  go_wp2_with fail
  refine (RA.out _).mono ?_
  rintro e w4 ⟨rfl, rfl⟩
  go_wp2_with fail
  refine (AK.out _).mono ?_
  rintro e w5 ⟨rfl, hb5⟩
  have B5 := Lib.hid (up B3.out hb5 B3.out.size)
  have BR5 := Lib.hid (BR3.out.below hb5 BR3.out.lt)
  have BX5 := Lib.hid (BX3.out.below hb5 BX3.out.lt)
  have H5 := Lib.hid (HBK.out.below B5.out HBK.out.lt)
  have O5 := Lib.hid (HOW.out.below B5.out)
  have O6 := Lib.hid (X5.out _ O5.out)
  have O7 := Lib.hid (X6.out _ O6.out)
  clear hb5 BR3 BX3 x0 x1 x2 x3 x4 x5 x6 X5 X6
  have c0 := H5.out.cell 0
  obtain ⟨-, -, -, -, e4, e5, -, -, ff⟩ := own7 O5.out hil
  have f4 := ff (i * 7 + 4)
  clear ff
  have gne : g ≠ gl := fun e => NE e.symm
  have c1 := (H5.out.far (p := ⟨gl, i * 7 + 4, none⟩) gne (.int .i64 z)).cell 0
  have D8 := Lib.hid (show DAt ((w5.setCell ⟨gl, i * 7 + 4, none⟩ (.int .i64 z)).setCell ⟨gl, i * 7 + 5, none⟩ (.int .i64 who)).drew B g (L.set i (d0, d1, d2, d3, z, who, d6)) nx from ⟨⟨_, ((H5.out.far (p := ⟨gl, i * 7 + 4, none⟩) gne (.int .i64 z)).far (p := ⟨gl, i * 7 + 5, none⟩) gne (.int .i64 who)).drewN 1, by have q := O7.out; rw [List.set_set] at q; exact q⟩, HD.out.ge⟩)
  have c2 : ((w5.setCell ⟨gl, i * 7 + 4, none⟩ (.int .i64 z)).setCell ⟨gl, i * 7 + 5, none⟩ (.int .i64 who)).drew.cell? ⟨g, 0, none⟩ = some (.slice (some ⟨gl, 0, none⟩) L.length c) := (((H5.out.far (p := ⟨gl, i * 7 + 4, none⟩) gne (.int .i64 z)).far (p := ⟨gl, i * 7 + 5, none⟩) gne (.int .i64 who)).drewN 1).cell 0
  obtain ⟨-, -, -, -, -, e5, -, -, ff⟩ := own7 O6.out (i := i) (by rw [List.length_set]; exact hil)
  rw [List.getElem_set_self] at e5
  have e5 : (w5.setCell ⟨gl, i * 7 + 4, none⟩ (.int .i64 z)).cell? ⟨gl, i * 7 + 5, none⟩ = some (.int .i64 d5) := e5
  have f5 : (w5.setCell ⟨gl, i * 7 + 4, none⟩ (.int .i64 z)).frozen? ⟨gl, i * 7 + 5, none⟩ = false := ff (i * 7 + 5)
  clear ff
  have BR8 := Lib.hid (show Blk ((w5.setCell ⟨gl, i * 7 + 4, none⟩ (.int .i64 z)).setCell ⟨gl, i * 7 + 5, none⟩ (.int .i64 who)).drew w.heap.size 35 #[.int .i64 0, .int .i64 0, .int .i64 0, .int .i64 0, .int .i64 0, .int .i64 0, .int .i64 0] from ((BR5.out.far (p := ⟨gl, i * 7 + 4, none⟩) (show w.heap.size ≠ gl by omega) _).far (p := ⟨gl, i * 7 + 5, none⟩) (show w.heap.size ≠ gl by omega) _).drewN 1)
  have BX8 := Lib.hid (show Blk ((w5.setCell ⟨gl, i * 7 + 4, none⟩ (.int .i64 z)).setCell ⟨gl, i * 7 + 5, none⟩ (.int .i64 who)).drew w2.heap.size 35 #[.int .i64 d0, .int .i64 d1, .int .i64 d2, .int .i64 d3, .int .i64 d4, .int .i64 d5, .int .i64 d6] from ((BX5.out.far (p := ⟨gl, i * 7 + 4, none⟩) (show w2.heap.size ≠ gl by have := ZW.out; omega) _).far (p := ⟨gl, i * 7 + 5, none⟩) (show w2.heap.size ≠ gl by have := ZW.out; omega) _).drewN 1)
  have B8 := Lib.hid (show Below B w ((w5.setCell ⟨gl, i * 7 + 4, none⟩ (.int .i64 z)).setCell ⟨gl, i * 7 + 5, none⟩ (.int .i64 who)).drew from (((B5.out.mono HB.out).setCell (p := ⟨gl, i * 7 + 4, none⟩) hBg _).setCell (p := ⟨gl, i * 7 + 5, none⟩) hBg _).drew)
  have T8 := Lib.hid (show Tch g w ((w5.setCell ⟨gl, i * 7 + 4, none⟩ (.int .i64 z)).setCell ⟨gl, i * 7 + 5, none⟩ (.int .i64 who)).drew from (((Tch.of_below (g := g) B5.out).setCell (p := ⟨gl, i * 7 + 4, none⟩) (.inl (.inr TY.out)) _).setCell (p := ⟨gl, i * 7 + 5, none⟩) (.inl (.inr TY.out)) _).drewN 1)
  have NS8 := Lib.hid (show ¬ TakeS g ((w5.setCell ⟨gl, i * 7 + 4, none⟩ (.int .i64 z)).setCell ⟨gl, i * 7 + 5, none⟩ (.int .i64 who)).drew w.heap.size from fun hs => by
    rcases hs with e | ⟨u, hu, hk⟩
    · have e : w.heap.size = g := e
      omega
    · rw [c2] at hu
      simp at hu
      subst hu
      have hk : gl = w.heap.size := by simpa [Value.ownBlock] using hk
      omega)
  clear H5 O5 O6 O7
  go_wp2_with fail
  refine wp_region_held_drew (S := (fun ws => ws.cell? ⟨g, 0, none⟩ = some (.slice (some ⟨gl, 0, none⟩) L.length c))) (by kernel_rfl) c0 (fun hHeld => ?_)
  refine wpAnyH_take (i := 0) (v := ?_) rfl (by kernel_rfl) (by kernel_rfl) (by kernel_rfl) (fun _ _ _ h => h) (Or.inl ⟨by rfl, ?_⟩) (by assumption) ?_
  rotate_left
  · (intro w hSw; (try dsimp only at hSw); first | (go_simp; done) | (go_simp; with_reducible rfl))
  simp only [Act.put, List.getElem_toArray, List.getElem_cons_zero, List.getElem_cons_succ, List.setIfInBounds_toArray, List.set_cons_zero, List.set_cons_succ]
  refine wpAnyH_take (i := 1) (v := ?_) rfl (by kernel_rfl) (by kernel_rfl) (by kernel_rfl) (fun _ _ _ h => h) (Or.inl ⟨by rfl, ?_⟩) (by assumption) ?_
  rotate_left
  · (intro w hSw; (try dsimp only at hSw); first | (go_simp; done) | (go_simp; with_reducible rfl))
  simp only [Act.put, List.getElem_toArray, List.getElem_cons_zero, List.getElem_cons_succ, List.setIfInBounds_toArray, List.set_cons_zero, List.set_cons_succ]
  refine wpAnyH_take (i := 2) (v := ?_) rfl (by kernel_rfl) (by kernel_rfl) (by kernel_rfl) (fun _ _ _ h => h) (Or.inl ⟨by rfl, ?_⟩) (by assumption) ?_
  rotate_left
  · (intro w hSw; (try dsimp only at hSw); first | (go_simp; done) | (go_simp; with_reducible rfl))
  simp only [Act.put, List.getElem_toArray, List.getElem_cons_zero, List.getElem_cons_succ, List.setIfInBounds_toArray, List.set_cons_zero, List.set_cons_succ]
  refine wpAnyH_take (i := 3) (v := ?_) rfl (by kernel_rfl) (by kernel_rfl) (by kernel_rfl) (fun _ _ _ h => h) (Or.inl ⟨by rfl, ?_⟩) (by assumption) ?_
  rotate_left
  · (intro w hSw; (try dsimp only at hSw); first | (go_simp; done) | (go_simp; with_reducible rfl))
  simp only [Act.put, List.getElem_toArray, List.getElem_cons_zero, List.getElem_cons_succ, List.setIfInBounds_toArray, List.set_cons_zero, List.set_cons_succ]
  refine wpAnyH_take (i := 4) (v := ?_) rfl (by kernel_rfl) (by kernel_rfl) (by kernel_rfl) (fun _ _ _ h => h) (Or.inl ⟨by rfl, ?_⟩) (by assumption) ?_
  rotate_left
  · (intro w hSw; (try dsimp only at hSw); first | (go_simp; done) | (go_simp; with_reducible rfl))
  simp only [Act.put, List.getElem_toArray, List.getElem_cons_zero, List.getElem_cons_succ, List.setIfInBounds_toArray, List.set_cons_zero, List.set_cons_succ]
  refine wpAnyH_take (i := 5) (v := ?_) rfl (by kernel_rfl) (by kernel_rfl) (by kernel_rfl) (fun _ _ _ h => h) (Or.inl ⟨by rfl, ?_⟩) (by assumption) ?_
  rotate_left
  · (intro w hSw; (try dsimp only at hSw); first | (go_simp; done) | (go_simp; with_reducible rfl))
  simp only [Act.put, List.getElem_toArray, List.getElem_cons_zero, List.getElem_cons_succ, List.setIfInBounds_toArray, List.set_cons_zero, List.set_cons_succ]
  refine wpAnyH_take (i := 6) (v := ?_) rfl (by kernel_rfl) (by kernel_rfl) (by kernel_rfl) (fun _ _ _ h => h) (Or.inl ⟨by rfl, ?_⟩) (by assumption) ?_
  rotate_left
  · (intro w hSw; (try dsimp only at hSw); first | (go_simp; done) | (go_simp; with_reducible rfl))
  simp only [Act.put, List.getElem_toArray, List.getElem_cons_zero, List.getElem_cons_succ, List.setIfInBounds_toArray, List.set_cons_zero, List.set_cons_succ]
  refine wpAnyH_take (i := 7) (v := ?_) rfl (by kernel_rfl) (by kernel_rfl) (by kernel_rfl) (fun _ _ _ h => h) (Or.inl ⟨by rfl, ?_⟩) (by assumption) ?_
  rotate_left
  · (intro w hSw; (try dsimp only at hSw); first | (go_simp; done) | (go_simp; with_reducible rfl))
  simp only [Act.put, List.getElem_toArray, List.getElem_cons_zero, List.getElem_cons_succ, List.setIfInBounds_toArray, List.set_cons_zero, List.set_cons_succ]
  refine wpAnyH_take (i := 8) (v := ?_) rfl (by kernel_rfl) (by kernel_rfl) (by kernel_rfl) (fun _ _ _ h => h) (Or.inl ⟨by rfl, ?_⟩) (by assumption) ?_
  rotate_left
  · (intro w hSw; (try dsimp only at hSw); first | (go_simp; done) | (go_simp; with_reducible rfl))
  simp only [Act.put, List.getElem_toArray, List.getElem_cons_zero, List.getElem_cons_succ, List.setIfInBounds_toArray, List.set_cons_zero, List.set_cons_succ]
  refine wpAnyH_take (i := 9) (v := ?_) rfl (by kernel_rfl) (by kernel_rfl) (by kernel_rfl) (fun _ _ _ h => h) (Or.inl ⟨by rfl, ?_⟩) (by assumption) ?_
  rotate_left
  · (intro w hSw; (try dsimp only at hSw); first | (go_simp; done) | (go_simp; with_reducible rfl))
  simp only [Act.put, List.getElem_toArray, List.getElem_cons_zero, List.getElem_cons_succ, List.setIfInBounds_toArray, List.set_cons_zero, List.set_cons_succ]
  refine wpAnyH_take (i := 10) (v := ?_) rfl (by kernel_rfl) (by kernel_rfl) (by kernel_rfl) (fun _ _ _ h => h) (Or.inl ⟨by rfl, ?_⟩) (by assumption) ?_
  rotate_left
  · (intro w hSw; (try dsimp only at hSw); first | (go_simp; done) | (go_simp; with_reducible rfl))
  simp only [Act.put, List.getElem_toArray, List.getElem_cons_zero, List.getElem_cons_succ, List.setIfInBounds_toArray, List.set_cons_zero, List.set_cons_succ]
  refine wpAnyH_take (i := 11) (v := ?_) rfl (by kernel_rfl) (by kernel_rfl) (by kernel_rfl) (fun _ _ _ h => h) (Or.inl ⟨by rfl, ?_⟩) (by assumption) ?_
  rotate_left
  · (intro w hSw; (try dsimp only at hSw); first | (go_simp; done) | (go_simp; with_reducible rfl))
  simp only [Act.put, List.getElem_toArray, List.getElem_cons_zero, List.getElem_cons_succ, List.setIfInBounds_toArray, List.set_cons_zero, List.set_cons_succ]
  refine wpAnyH_take (i := 12) (v := ?_) rfl (by kernel_rfl) (by kernel_rfl) (by kernel_rfl) (fun _ _ _ h => h) (Or.inl ⟨by rfl, ?_⟩) (by assumption) ?_
  rotate_left
  · (intro w hSw; (try dsimp only at hSw); first | (go_simp; done) | (go_simp; with_reducible rfl))
  simp only [Act.put, List.getElem_toArray, List.getElem_cons_zero, List.getElem_cons_succ, List.setIfInBounds_toArray, List.set_cons_zero, List.set_cons_succ]
  refine wpAnyH_take (i := 13) (v := ?_) rfl (by kernel_rfl) (by kernel_rfl) (by kernel_rfl) (fun _ _ _ h => h) (Or.inl ⟨by rfl, ?_⟩) (by assumption) ?_
  rotate_left
  · (intro w hSw; (try dsimp only at hSw); first | (go_simp; done) | (go_simp; with_reducible rfl))
  simp only [Act.put, List.getElem_toArray, List.getElem_cons_zero, List.getElem_cons_succ, List.setIfInBounds_toArray, List.set_cons_zero, List.set_cons_succ]
  refine wpAnyH_ready (rs := [14]) (by kernel_rfl) (by simp) ?_
  refine AllReadyH.cons rfl (fun K hK => ?_) AllReadyH.nil
  go_simp
  refine hK.out _ _ c1 (fun hHeld2 => ?_)
  clear hK K hHeld
  refine wpAnyH_take (i := 15) (v := ?_) rfl (by kernel_rfl) (by kernel_rfl) (by kernel_rfl) (fun _ _ _ h => h) (Or.inl ⟨by rfl, ?_⟩) (by assumption) ?_
  rotate_left
  · (intro w hSw; (try dsimp only at hSw); first | (go_simp; done) | (go_simp; with_reducible rfl))
  simp only [Act.put, List.getElem_toArray, List.getElem_cons_zero, List.getElem_cons_succ, List.setIfInBounds_toArray, List.set_cons_zero, List.set_cons_succ]
  refine wpAnyH_take (i := 16) (v := ?_) rfl (by kernel_rfl) (by kernel_rfl) (by kernel_rfl) (fun _ _ _ h => h) (Or.inl ⟨by rfl, ?_⟩) (by assumption) ?_
  rotate_left
  · (intro w hSw; (try dsimp only at hSw); first | (go_simp; done) | (go_simp; with_reducible rfl))
  simp only [Act.put, List.getElem_toArray, List.getElem_cons_zero, List.getElem_cons_succ, List.setIfInBounds_toArray, List.set_cons_zero, List.set_cons_succ]
  refine wpAnyH_ready (rs := [17]) (by kernel_rfl) (by simp) ?_
  refine AllReadyH.cons rfl (fun K hK => ?_) AllReadyH.nil
  go_simp
  refine hK.out _ _ c2 (fun hHeld => ?_)
  clear hK K hHeld2
  refine wpAnyH_done (by kernel_rfl) ?_ _
  clear hHeld c0 c1 e4 e5 f4 f5 BR5 BX5 c2
  generalize ((w5.setCell ⟨gl, i * 7 + 4, none⟩ (.int .i64 z)).setCell ⟨gl, i * 7 + 5, none⟩ (.int .i64 who)).drew = w6 at *
  have r0 := BR8.out.cell 0
  have f0 := BR8.out.free 0
  have x0 := BX8.out.cell 0
  have r1 := BR8.out.cell 1
  have f1 := BR8.out.free 1
  have x1 := BX8.out.cell 1
  have r2 := BR8.out.cell 2
  have f2 := BR8.out.free 2
  have x2 := BX8.out.cell 2
  have r3 := BR8.out.cell 3
  have f3 := BR8.out.free 3
  have x3 := BX8.out.cell 3
  have r4 := BR8.out.cell 4
  have f4 := BR8.out.free 4
  have x4 := BX8.out.cell 4
  have r5 := BR8.out.cell 5
  have f5 := BR8.out.free 5
  have x5 := BX8.out.cell 5
  have r6 := BR8.out.cell 6
  have f6 := BR8.out.free 6
  have x6 := BX8.out.cell 6
  go_wp2_with fail
  have K := blk7 BR8.out (.int .i64 d0) (.int .i64 d1) (.int .i64 d2) (.int .i64 d3) (.int .i64 d4) (.int .i64 d5) (.int .i64 d6)
  have k0 := K.cell 0
  have k1 := K.cell 1
  have k2 := K.cell 2
  have k3 := K.cell 3
  have k4 := K.cell 4
  have k5 := K.cell 5
  have k6 := K.cell 6
  refine bodyPost_ret (v := .tuple #[(.agg #[.int .i64 d0, .int .i64 d1, .int .i64 d2, .int .i64 d3, .int .i64 d4, .int .i64 d5, .int .i64 d6]), .int .i64 0]) (by simp [results, Try.results17, go_sem, k0, k1, k2, k3, k4, k5, k6]) rfl ⟨rfl, D8.out.far7 NS8.out _ _ _ _ _ _ _, below7 (r := w.heap.size) B8.out HB.out _ _ _ _ _ _ _, only7 T8.out (Nat.le_refl _) _ _ _ _ _ _ _⟩
end Go.Proofs.Ytlklfolpcebahaa.bb
