/-
  RectTiles: the ways in which no tiles are gone through.
-/
import Derived.Test.YtognbljpmhhbkaaTilesC
import Derived.Deep.RegionHeld
namespace Go.Proofs.Ytognbljpmhhbkaa.rectTiles
open Go.RowKit Go.Shelf
open rect tiles
open base (Blk Only up made)
set_option linter.unusedVariables false
set_option linter.unusedSimpArgs false
attribute [local go_sem] Oper.semAt_some calm_ret calm_normal
attribute [local irreducible] wpStill

set_option maxRecDepth 100000 in
set_option maxHeartbeats 4000000 in
theorem walk_not (x y u z i k : Int) (hx : -9223372036854775808 ≤ x) (hi : -9223372036854775808 ≤ i ∧ i ≤ 9223372036854775807) (hk : -9223372036854775808 ≤ k ∧ k ≤ 9223372036854775807) (w : World) (hr : rightB x y u z = false) : Calls Try.prog 3 #[(.agg #[.int .i64 x, .int .i64 y, .int .i64 u, .int .i64 z]), .int .i64 i, .int .i64 k] w fun e w' => e = .returned (.bool true) ∧ Below w.heap.size w w' := by
  have hm : Below w.heap.size w (w.alloc (.cells #[.int .i64 x, .int .i64 y, .int .i64 u, .int .i64 z] 23)) := made w _
  have hm2 : Below w.heap.size w ((w.alloc (.cells #[.int .i64 x, .int .i64 y, .int .i64 u, .int .i64 z] 23)).alloc (.cells #[.bool false] 4)) := hm.alloc (by rw [asz]; omega) _
  have bx : Blk ((w.alloc (.cells #[.int .i64 x, .int .i64 y, .int .i64 u, .int .i64 z] 23)).alloc (.cells #[.bool false] 4)) w.heap.size 23 #[.int .i64 x, .int .i64 y, .int .i64 u, .int .i64 z] := (Blk.new _ _ _).alloc _
  have by_ : Blk ((w.alloc (.cells #[.int .i64 x, .int .i64 y, .int .i64 u, .int .i64 z] 23)).alloc (.cells #[.bool false] 4)) (w.heap.size + 1) 4 #[.bool false] := by
    have := Blk.new (w.alloc (.cells #[.int .i64 x, .int .i64 y, .int .i64 u, .int .i64 z] 23)) 4 #[.bool false]
    rw [asz] at this
    exact this
  have hs2 : ((w.alloc (.cells #[.int .i64 x, .int .i64 y, .int .i64 u, .int .i64 z] 23)).alloc (.cells #[.bool false] 4)).heap.size = w.heap.size + 2 := by rw [asz, asz]
  have b0 := bx.cell 0
  have b1 := bx.cell 1
  have b2 := bx.cell 2
  have b3 := bx.cell 3
  have BX := Lib.hid bx
  have BY := Lib.hid by_
  have H2 := Lib.hid hm2
  have Z2 := Lib.hid hs2
  have RF := Lib.hid (fun ws => ref_any x y u z ws)
  have RI := Lib.hid (fun ws => right_any x y u z ws)
  have RR := Lib.hid (fun ws => rright_any x y u z hx ws)
  rw [hr] at RI RR
  have HO := Lib.hid (fun ws => holds_any x y u z i k ws)
  have RH := Lib.hid (fun ws => rholds_any x y u z i k hx hi hk ws)
  generalize holdsB x y u z i k = hb at *
  have AW := Lib.hid (fun ws => awake_any ws)
  clear hm hm2 bx by_ hs2 hx hi hk
  have AR := Lib.hid (fun ws => area_no x y u z ws hr)
  have CN := Lib.hid (fun ws => count_none x y u z ws hr)
  clear hr
  go_enter Try.func3, Try.ntmps3
  go_wp2_with fail
  generalize ((w.alloc (.cells #[.int .i64 x, .int .i64 y, .int .i64 u, .int .i64 z] 23)).alloc (.cells #[.bool false] 4)) = w2 at *
  refine (RF.out _).mono ?_
  rintro e w3 ⟨rfl, hb3⟩
  have B3 := Lib.hid hb3
  clear hb3 b0 b1 b2 b3
  go_wp2_with fail
  refine (RR.out _).mono ?_
  rintro e w4 ⟨rfl, hb4⟩
  have B4 := Lib.hid (up B3.out hb4 B3.out.size)
  clear hb4 B3
  have KX := Lib.hid (fun ws (h : Below w2.heap.size w2 ws) => BX.out.below h BX.out.lt)
  have KY := Lib.hid (fun ws (h : Below w2.heap.size w2 ws) => BY.out.below h BY.out.lt)
  have KS : Hid (∀ ws, Below w2.heap.size w2 ws → ws.cell? ⟨w.heap.size, 0, none⟩ = some (.int .i64 x) ∧ ws.cell? ⟨w.heap.size, 1, none⟩ = some (.int .i64 y) ∧ ws.cell? ⟨w.heap.size, 2, none⟩ = some (.int .i64 u) ∧ ws.cell? ⟨w.heap.size, 3, none⟩ = some (.int .i64 z)) := Lib.hid (fun ws h => ⟨(KX.out _ h).cell 0, (KX.out _ h).cell 1, (KX.out _ h).cell 2, (KX.out _ h).cell 3⟩)
  clear BX BY
  go_wp2_with fail
  refine wp_region_held_drew (S := (fun ws => ws.cell? ⟨w.heap.size, 0, none⟩ = some (.int .i64 x) ∧ ws.cell? ⟨w.heap.size, 1, none⟩ = some (.int .i64 y) ∧ ws.cell? ⟨w.heap.size, 2, none⟩ = some (.int .i64 u) ∧ ws.cell? ⟨w.heap.size, 3, none⟩ = some (.int .i64 z))) (by kernel_rfl) (KS.out _ B4.out.drew) (fun hHeld => ?_)
  refine wpAnyH_take (i := 0) (v := ?_) rfl (by kernel_rfl) (by kernel_rfl) (by kernel_rfl) (fun _ _ _ h => h) (Or.inl ⟨by rfl, ?_⟩) (by assumption) ?_
  rotate_left
  · (intro w hSw; (try dsimp only at hSw); first | (go_simp; done) | (go_simp; with_reducible rfl))
  simp only [Act.put, List.getElem_toArray, List.getElem_cons_zero, List.getElem_cons_succ, List.setIfInBounds_toArray, List.set_cons_zero, List.set_cons_succ]
  refine wpAnyH_take (i := 2) (v := ?_) rfl (by kernel_rfl) (by kernel_rfl) (by kernel_rfl) (fun _ _ _ h => h) (Or.inl ⟨by rfl, ?_⟩) (by assumption) ?_
  rotate_left
  · (intro w hSw; (try dsimp only at hSw); first | (go_simp; done) | (go_simp; with_reducible rfl))
  simp only [Act.put, List.getElem_toArray, List.getElem_cons_zero, List.getElem_cons_succ, List.setIfInBounds_toArray, List.set_cons_zero, List.set_cons_succ]
  refine wpAnyH_ready (rs := [1]) (by kernel_rfl) (by simp) ?_
  refine AllReadyH.cons rfl (fun K hK => ?_) AllReadyH.nil
  go_simp
  go_wp2_with (go_at_call 9; refine (RI.out _).mono ?_; rintro e w5 ⟨rfl, hb5⟩)
  have B5 := Lib.hid (up B4.out.drew hb5 B4.out.drew.size)
  refine hK.out _ _ (KS.out _ B5.out) (fun hH1 => ?_)
  clear hK K hHeld hb5 B4
  refine wpAnyH_take (i := 3) (v := ?_) rfl (by kernel_rfl) (by kernel_rfl) (by kernel_rfl) (fun _ _ _ h => h) (Or.inl ⟨by rfl, ?_⟩) (by assumption) ?_
  rotate_left
  · (intro w hSw; (try dsimp only at hSw); first | (go_simp; done) | (go_simp; with_reducible rfl))
  simp only [Act.put, List.getElem_toArray, List.getElem_cons_zero, List.getElem_cons_succ, List.setIfInBounds_toArray, List.set_cons_zero, List.set_cons_succ]
  refine wpAnyH_take (i := 4) (v := ?_) rfl (by kernel_rfl) (by kernel_rfl) (by kernel_rfl) (fun _ _ _ h => h) (Or.inl ⟨by rfl, ?_⟩) (by assumption) ?_
  rotate_left
  · (intro w hSw; (try dsimp only at hSw); first | (go_simp; done) | (go_simp; with_reducible rfl))
  simp only [Act.put, List.getElem_toArray, List.getElem_cons_zero, List.getElem_cons_succ, List.setIfInBounds_toArray, List.set_cons_zero, List.set_cons_succ]
  refine wpAnyH_take (i := 5) (v := ?_) rfl (by kernel_rfl) (by kernel_rfl) (by kernel_rfl) (fun _ _ _ h => h) (Or.inl ⟨by rfl, ?_⟩) (by assumption) ?_
  rotate_left
  · (intro w hSw; (try dsimp only at hSw); first | (go_simp; done) | (go_simp; with_reducible rfl))
  simp only [Act.put, List.getElem_toArray, List.getElem_cons_zero, List.getElem_cons_succ, List.setIfInBounds_toArray, List.set_cons_zero, List.set_cons_succ]
  refine wpAnyH_take (i := 6) (v := ?_) rfl (by kernel_rfl) (by kernel_rfl) (by kernel_rfl) (fun _ _ _ h => h) (Or.inl ⟨by rfl, ?_⟩) (by assumption) ?_
  rotate_left
  · (intro w hSw; (try dsimp only at hSw); first | (go_simp; done) | (go_simp; with_reducible rfl))
  simp only [Act.put, List.getElem_toArray, List.getElem_cons_zero, List.getElem_cons_succ, List.setIfInBounds_toArray, List.set_cons_zero, List.set_cons_succ]
  refine wpAnyH_take (i := 7) (v := ?_) rfl (by kernel_rfl) (by kernel_rfl) (by kernel_rfl) (fun _ _ _ h => h) (Or.inl ⟨by rfl, ?_⟩) (by assumption) ?_
  rotate_left
  · (intro w hSw; (try dsimp only at hSw); first | (go_simp; done) | (go_simp; with_reducible rfl))
  simp only [Act.put, List.getElem_toArray, List.getElem_cons_zero, List.getElem_cons_succ, List.setIfInBounds_toArray, List.set_cons_zero, List.set_cons_succ]
  refine wpAnyH_take (i := 9) (v := ?_) rfl (by kernel_rfl) (by kernel_rfl) (by kernel_rfl) (fun _ _ _ h => h) (Or.inl ⟨by rfl, ?_⟩) (by assumption) ?_
  rotate_left
  · (intro w hSw; (try dsimp only at hSw); first | (go_simp; done) | (go_simp; with_reducible rfl))
  simp only [Act.put, List.getElem_toArray, List.getElem_cons_zero, List.getElem_cons_succ, List.setIfInBounds_toArray, List.set_cons_zero, List.set_cons_succ]
  refine wpAnyH_take (i := 11) (v := ?_) rfl (by kernel_rfl) (by kernel_rfl) (by kernel_rfl) (fun _ _ _ h => h) (Or.inl ⟨by rfl, ?_⟩) (by assumption) ?_
  rotate_left
  · (intro w hSw; (try dsimp only at hSw); first | (go_simp; done) | (go_simp; with_reducible rfl))
  simp only [Act.put, List.getElem_toArray, List.getElem_cons_zero, List.getElem_cons_succ, List.setIfInBounds_toArray, List.set_cons_zero, List.set_cons_succ]
  refine wpAnyH_take (i := 12) (v := ?_) rfl (by kernel_rfl) (by kernel_rfl) (by kernel_rfl) (fun _ _ _ h => h) (Or.inl ⟨by rfl, ?_⟩) (by assumption) ?_
  rotate_left
  · (intro w hSw; (try dsimp only at hSw); first | (go_simp; done) | (go_simp; with_reducible rfl))
  simp only [Act.put, List.getElem_toArray, List.getElem_cons_zero, List.getElem_cons_succ, List.setIfInBounds_toArray, List.set_cons_zero, List.set_cons_succ]
  refine wpAnyH_ready (rs := [8]) (by kernel_rfl) (by simp) ?_
  refine AllReadyH.cons rfl (fun K hK => ?_) AllReadyH.nil
  go_simp
  go_wp2_with (go_at_call 10; refine (HO.out _).mono ?_; rintro e w6 ⟨rfl, hb6⟩)
  have B6 := Lib.hid (up B5.out hb6 B5.out.size)
  refine hK.out _ _ (KS.out _ B6.out) (fun hH2 => ?_)
  clear hK K hH1 hb6 B5
  refine wpAnyH_ready (rs := [10]) (by kernel_rfl) (by simp) ?_
  refine AllReadyH.cons rfl (fun K hK => ?_) AllReadyH.nil
  go_simp
  go_wp2_with (go_at_call 8; refine (RF.out _).mono ?_; rintro e w7 ⟨rfl, hb7⟩)
  have B7 := Lib.hid (up B6.out hb7 B6.out.size)
  refine hK.out _ _ (KS.out _ B7.out) (fun hH3 => ?_)
  clear hK K hH2 hb7 B6
  refine wpAnyH_ready (rs := [13]) (by kernel_rfl) (by simp) ?_
  refine AllReadyH.cons rfl (fun K hK => ?_) AllReadyH.nil
  go_simp
  go_wp2_with (go_at_call 11; refine (RH.out _).mono ?_; rintro e w8 ⟨rfl, hb8⟩)
  have B8 := Lib.hid (up B7.out hb8 B7.out.size)
  refine hK.out _ _ (KS.out _ B8.out) (fun hH4 => ?_)
  clear hK K hH3 hb8 B7
  refine wpAnyH_take (i := 14) (v := ?_) rfl (by kernel_rfl) (by kernel_rfl) (by kernel_rfl) (fun _ _ _ h => h) (Or.inl ⟨by rfl, ?_⟩) (by assumption) ?_
  rotate_left
  · (intro w hSw; (try dsimp only at hSw); first | (go_simp; done) | (go_simp; with_reducible rfl))
  simp only [Act.put, List.getElem_toArray, List.getElem_cons_zero, List.getElem_cons_succ, List.setIfInBounds_toArray, List.set_cons_zero, List.set_cons_succ]
  refine wpAnyH_take (i := 15) (v := ?_) rfl (by kernel_rfl) (by kernel_rfl) (by kernel_rfl) (fun _ _ _ h => h) (Or.inl ⟨by rfl, ?_⟩) (by assumption) ?_
  rotate_left
  · (intro w hSw; (try dsimp only at hSw); first | (go_simp; done) | (go_simp; with_reducible rfl))
  simp only [Act.put, List.getElem_toArray, List.getElem_cons_zero, List.getElem_cons_succ, List.setIfInBounds_toArray, List.set_cons_zero, List.set_cons_succ]
  refine wpAnyH_done (by kernel_rfl) ?_ _
  clear hH4 RF RI RR HO RH
  have y8 := KX.out _ B8.out
  have c0 := y8.cell 0
  have c1 := y8.cell 1
  have c2 := y8.cell 2
  have c3 := y8.cell 3
  have z8 := KY.out _ B8.out
  clear y8 z8
  go_wp2_with fail
  refine (AR.out _).mono ?_
  rintro e w9 ⟨rfl, hb9⟩
  have B9 := Lib.hid (up B8.out hb9 B8.out.size)
  have y9 := KX.out _ B9.out
  clear c0 c1 c2 c3 hb9 B8
  have c0 := y9.cell 0
  have c1 := y9.cell 1
  have c2 := y9.cell 2
  have c3 := y9.cell 3
  clear y9
  go_wp2_with fail
  refine (CN.out _).mono ?_
  rintro e w10 ⟨rfl, hb10⟩
  have B10 := Lib.hid (up B9.out hb10 B9.out.size)
  clear c0 c1 c2 c3 hb10 B9
  go_wp2_with fail
  refine (AW.out _).mono ?_
  rintro e w11 ⟨rfl, hb11⟩
  have B11 := Lib.hid (up B10.out hb11 B10.out.size)
  have B0 := Lib.hid (up H2.out B11.out H2.out.size)
  have z9 := KY.out _ B11.out
  have d0 := z9.cell 0
  have f0 := z9.free 0
  have HP := Lib.hid (z9.put 0 (.bool true))
  have HQ := Lib.hid (B0.out.setCell (p := ⟨w.heap.size + 1, 0, none⟩) (by show w.heap.size ≤ w.heap.size + 1; omega) (.bool true))
  have g0 := HP.out.cell 0
  clear z9 hb11 KX KY KS AW AR CN
  go_wp2_with fail
  refine bodyPost_ret (v := .bool true) (by simp [results, Try.results3, go_sem, g0]) rfl ⟨rfl, HQ.out⟩

set_option maxRecDepth 100000 in
set_option maxHeartbeats 4000000 in
theorem walk_big (x y u z i k : Int) (hx : -9223372036854775808 ≤ x) (hi : -9223372036854775808 ≤ i ∧ i ≤ 9223372036854775807) (hk : -9223372036854775808 ≤ k ∧ k ≤ 9223372036854775807) (w : World) (hr : rightB x y u z = true) (hs : ¬ (u ≤ 24 ∧ z ≤ 24)) (N : Int) (hN : u * z = N) (hN2 : N ≤ 65536) (hN1 : 1 ≤ N) : Calls Try.prog 3 #[(.agg #[.int .i64 x, .int .i64 y, .int .i64 u, .int .i64 z]), .int .i64 i, .int .i64 k] w fun e w' => e = .returned (.bool true) ∧ Below w.heap.size w w' := by
  have hm : Below w.heap.size w (w.alloc (.cells #[.int .i64 x, .int .i64 y, .int .i64 u, .int .i64 z] 23)) := made w _
  have hm2 : Below w.heap.size w ((w.alloc (.cells #[.int .i64 x, .int .i64 y, .int .i64 u, .int .i64 z] 23)).alloc (.cells #[.bool false] 4)) := hm.alloc (by rw [asz]; omega) _
  have bx : Blk ((w.alloc (.cells #[.int .i64 x, .int .i64 y, .int .i64 u, .int .i64 z] 23)).alloc (.cells #[.bool false] 4)) w.heap.size 23 #[.int .i64 x, .int .i64 y, .int .i64 u, .int .i64 z] := (Blk.new _ _ _).alloc _
  have by_ : Blk ((w.alloc (.cells #[.int .i64 x, .int .i64 y, .int .i64 u, .int .i64 z] 23)).alloc (.cells #[.bool false] 4)) (w.heap.size + 1) 4 #[.bool false] := by
    have := Blk.new (w.alloc (.cells #[.int .i64 x, .int .i64 y, .int .i64 u, .int .i64 z] 23)) 4 #[.bool false]
    rw [asz] at this
    exact this
  have hs2 : ((w.alloc (.cells #[.int .i64 x, .int .i64 y, .int .i64 u, .int .i64 z] 23)).alloc (.cells #[.bool false] 4)).heap.size = w.heap.size + 2 := by rw [asz, asz]
  have b0 := bx.cell 0
  have b1 := bx.cell 1
  have b2 := bx.cell 2
  have b3 := bx.cell 3
  have BX := Lib.hid bx
  have BY := Lib.hid by_
  have H2 := Lib.hid hm2
  have Z2 := Lib.hid hs2
  have RF := Lib.hid (fun ws => ref_any x y u z ws)
  have RI := Lib.hid (fun ws => right_any x y u z ws)
  have RR := Lib.hid (fun ws => rright_any x y u z hx ws)
  have SM := Lib.hid (fun ws => small_any x y u z hx ws hr false (decide_eq_false hs).symm)
  rw [hr] at RI RR
  have HO := Lib.hid (fun ws => holds_any x y u z i k ws)
  have RH := Lib.hid (fun ws => rholds_any x y u z i k hx hi hk ws)
  generalize holdsB x y u z i k = hb at *
  have AW := Lib.hid (fun ws => awake_any ws)
  clear hm hm2 bx by_ hs2 hx hi hk
  have AR := Lib.hid (fun ws => area_yes x y u z ws hr)
  rw [hN] at AR
  have hw : IntKind.i64.wrap (u * z) = N := by rw [hN]; exact IntWalk.i64_in _ (by omega)
  have HW := Lib.hid hw
  clear hr hs hN hw
  go_enter Try.func3, Try.ntmps3
  go_wp2_with fail
  generalize ((w.alloc (.cells #[.int .i64 x, .int .i64 y, .int .i64 u, .int .i64 z] 23)).alloc (.cells #[.bool false] 4)) = w2 at *
  refine (RF.out _).mono ?_
  rintro e w3 ⟨rfl, hb3⟩
  have B3 := Lib.hid hb3
  clear hb3 b0 b1 b2 b3
  go_wp2_with fail
  refine (RR.out _).mono ?_
  rintro e w4 ⟨rfl, hb4⟩
  have B4 := Lib.hid (up B3.out hb4 B3.out.size)
  clear hb4 B3
  have KX := Lib.hid (fun ws (h : Below w2.heap.size w2 ws) => BX.out.below h BX.out.lt)
  have KY := Lib.hid (fun ws (h : Below w2.heap.size w2 ws) => BY.out.below h BY.out.lt)
  have KS : Hid (∀ ws, Below w2.heap.size w2 ws → ws.cell? ⟨w.heap.size, 0, none⟩ = some (.int .i64 x) ∧ ws.cell? ⟨w.heap.size, 1, none⟩ = some (.int .i64 y) ∧ ws.cell? ⟨w.heap.size, 2, none⟩ = some (.int .i64 u) ∧ ws.cell? ⟨w.heap.size, 3, none⟩ = some (.int .i64 z)) := Lib.hid (fun ws h => ⟨(KX.out _ h).cell 0, (KX.out _ h).cell 1, (KX.out _ h).cell 2, (KX.out _ h).cell 3⟩)
  clear BX BY
  go_wp2_with fail
  refine wp_region_held_drew (S := (fun ws => ws.cell? ⟨w.heap.size, 0, none⟩ = some (.int .i64 x) ∧ ws.cell? ⟨w.heap.size, 1, none⟩ = some (.int .i64 y) ∧ ws.cell? ⟨w.heap.size, 2, none⟩ = some (.int .i64 u) ∧ ws.cell? ⟨w.heap.size, 3, none⟩ = some (.int .i64 z))) (by kernel_rfl) (KS.out _ B4.out.drew) (fun hHeld => ?_)
  refine wpAnyH_take (i := 0) (v := ?_) rfl (by kernel_rfl) (by kernel_rfl) (by kernel_rfl) (fun _ _ _ h => h) (Or.inl ⟨by rfl, ?_⟩) (by assumption) ?_
  rotate_left
  · (intro w hSw; (try dsimp only at hSw); first | (go_simp; done) | (go_simp; with_reducible rfl))
  simp only [Act.put, List.getElem_toArray, List.getElem_cons_zero, List.getElem_cons_succ, List.setIfInBounds_toArray, List.set_cons_zero, List.set_cons_succ]
  refine wpAnyH_take (i := 2) (v := ?_) rfl (by kernel_rfl) (by kernel_rfl) (by kernel_rfl) (fun _ _ _ h => h) (Or.inl ⟨by rfl, ?_⟩) (by assumption) ?_
  rotate_left
  · (intro w hSw; (try dsimp only at hSw); first | (go_simp; done) | (go_simp; with_reducible rfl))
  simp only [Act.put, List.getElem_toArray, List.getElem_cons_zero, List.getElem_cons_succ, List.setIfInBounds_toArray, List.set_cons_zero, List.set_cons_succ]
  refine wpAnyH_ready (rs := [1]) (by kernel_rfl) (by simp) ?_
  refine AllReadyH.cons rfl (fun K hK => ?_) AllReadyH.nil
  go_simp
  go_wp2_with (go_at_call 9; refine (RI.out _).mono ?_; rintro e w5 ⟨rfl, hb5⟩)
  have B5 := Lib.hid (up B4.out.drew hb5 B4.out.drew.size)
  refine hK.out _ _ (KS.out _ B5.out) (fun hH1 => ?_)
  clear hK K hHeld hb5 B4
  refine wpAnyH_take (i := 3) (v := ?_) rfl (by kernel_rfl) (by kernel_rfl) (by kernel_rfl) (fun _ _ _ h => h) (Or.inl ⟨by rfl, ?_⟩) (by assumption) ?_
  rotate_left
  · (intro w hSw; (try dsimp only at hSw); first | (go_simp; done) | (go_simp; with_reducible rfl))
  simp only [Act.put, List.getElem_toArray, List.getElem_cons_zero, List.getElem_cons_succ, List.setIfInBounds_toArray, List.set_cons_zero, List.set_cons_succ]
  refine wpAnyH_take (i := 4) (v := ?_) rfl (by kernel_rfl) (by kernel_rfl) (by kernel_rfl) (fun _ _ _ h => h) (Or.inl ⟨by rfl, ?_⟩) (by assumption) ?_
  rotate_left
  · (intro w hSw; (try dsimp only at hSw); first | (go_simp; done) | (go_simp; with_reducible rfl))
  simp only [Act.put, List.getElem_toArray, List.getElem_cons_zero, List.getElem_cons_succ, List.setIfInBounds_toArray, List.set_cons_zero, List.set_cons_succ]
  refine wpAnyH_take (i := 5) (v := ?_) rfl (by kernel_rfl) (by kernel_rfl) (by kernel_rfl) (fun _ _ _ h => h) (Or.inl ⟨by rfl, ?_⟩) (by assumption) ?_
  rotate_left
  · (intro w hSw; (try dsimp only at hSw); first | (go_simp; done) | (go_simp; with_reducible rfl))
  simp only [Act.put, List.getElem_toArray, List.getElem_cons_zero, List.getElem_cons_succ, List.setIfInBounds_toArray, List.set_cons_zero, List.set_cons_succ]
  refine wpAnyH_take (i := 6) (v := ?_) rfl (by kernel_rfl) (by kernel_rfl) (by kernel_rfl) (fun _ _ _ h => h) (Or.inl ⟨by rfl, ?_⟩) (by assumption) ?_
  rotate_left
  · (intro w hSw; (try dsimp only at hSw); first | (go_simp; done) | (go_simp; with_reducible rfl))
  simp only [Act.put, List.getElem_toArray, List.getElem_cons_zero, List.getElem_cons_succ, List.setIfInBounds_toArray, List.set_cons_zero, List.set_cons_succ]
  refine wpAnyH_take (i := 7) (v := ?_) rfl (by kernel_rfl) (by kernel_rfl) (by kernel_rfl) (fun _ _ _ h => h) (Or.inl ⟨by rfl, ?_⟩) (by assumption) ?_
  rotate_left
  · (intro w hSw; (try dsimp only at hSw); first | (go_simp; done) | (go_simp; with_reducible rfl))
  simp only [Act.put, List.getElem_toArray, List.getElem_cons_zero, List.getElem_cons_succ, List.setIfInBounds_toArray, List.set_cons_zero, List.set_cons_succ]
  refine wpAnyH_take (i := 9) (v := ?_) rfl (by kernel_rfl) (by kernel_rfl) (by kernel_rfl) (fun _ _ _ h => h) (Or.inl ⟨by rfl, ?_⟩) (by assumption) ?_
  rotate_left
  · (intro w hSw; (try dsimp only at hSw); first | (go_simp; done) | (go_simp; with_reducible rfl))
  simp only [Act.put, List.getElem_toArray, List.getElem_cons_zero, List.getElem_cons_succ, List.setIfInBounds_toArray, List.set_cons_zero, List.set_cons_succ]
  refine wpAnyH_take (i := 11) (v := ?_) rfl (by kernel_rfl) (by kernel_rfl) (by kernel_rfl) (fun _ _ _ h => h) (Or.inl ⟨by rfl, ?_⟩) (by assumption) ?_
  rotate_left
  · (intro w hSw; (try dsimp only at hSw); first | (go_simp; done) | (go_simp; with_reducible rfl))
  simp only [Act.put, List.getElem_toArray, List.getElem_cons_zero, List.getElem_cons_succ, List.setIfInBounds_toArray, List.set_cons_zero, List.set_cons_succ]
  refine wpAnyH_take (i := 12) (v := ?_) rfl (by kernel_rfl) (by kernel_rfl) (by kernel_rfl) (fun _ _ _ h => h) (Or.inl ⟨by rfl, ?_⟩) (by assumption) ?_
  rotate_left
  · (intro w hSw; (try dsimp only at hSw); first | (go_simp; done) | (go_simp; with_reducible rfl))
  simp only [Act.put, List.getElem_toArray, List.getElem_cons_zero, List.getElem_cons_succ, List.setIfInBounds_toArray, List.set_cons_zero, List.set_cons_succ]
  refine wpAnyH_ready (rs := [8]) (by kernel_rfl) (by simp) ?_
  refine AllReadyH.cons rfl (fun K hK => ?_) AllReadyH.nil
  go_simp
  go_wp2_with (go_at_call 10; refine (HO.out _).mono ?_; rintro e w6 ⟨rfl, hb6⟩)
  have B6 := Lib.hid (up B5.out hb6 B5.out.size)
  refine hK.out _ _ (KS.out _ B6.out) (fun hH2 => ?_)
  clear hK K hH1 hb6 B5
  refine wpAnyH_ready (rs := [10]) (by kernel_rfl) (by simp) ?_
  refine AllReadyH.cons rfl (fun K hK => ?_) AllReadyH.nil
  go_simp
  go_wp2_with (go_at_call 8; refine (RF.out _).mono ?_; rintro e w7 ⟨rfl, hb7⟩)
  have B7 := Lib.hid (up B6.out hb7 B6.out.size)
  refine hK.out _ _ (KS.out _ B7.out) (fun hH3 => ?_)
  clear hK K hH2 hb7 B6
  refine wpAnyH_ready (rs := [13]) (by kernel_rfl) (by simp) ?_
  refine AllReadyH.cons rfl (fun K hK => ?_) AllReadyH.nil
  go_simp
  go_wp2_with (go_at_call 11; refine (RH.out _).mono ?_; rintro e w8 ⟨rfl, hb8⟩)
  have B8 := Lib.hid (up B7.out hb8 B7.out.size)
  refine hK.out _ _ (KS.out _ B8.out) (fun hH4 => ?_)
  clear hK K hH3 hb8 B7
  refine wpAnyH_take (i := 14) (v := ?_) rfl (by kernel_rfl) (by kernel_rfl) (by kernel_rfl) (fun _ _ _ h => h) (Or.inl ⟨by rfl, ?_⟩) (by assumption) ?_
  rotate_left
  · (intro w hSw; (try dsimp only at hSw); first | (go_simp; done) | (go_simp; with_reducible rfl))
  simp only [Act.put, List.getElem_toArray, List.getElem_cons_zero, List.getElem_cons_succ, List.setIfInBounds_toArray, List.set_cons_zero, List.set_cons_succ]
  refine wpAnyH_take (i := 15) (v := ?_) rfl (by kernel_rfl) (by kernel_rfl) (by kernel_rfl) (fun _ _ _ h => h) (Or.inl ⟨by rfl, ?_⟩) (by assumption) ?_
  rotate_left
  · (intro w hSw; (try dsimp only at hSw); first | (go_simp; done) | (go_simp; with_reducible rfl))
  simp only [Act.put, List.getElem_toArray, List.getElem_cons_zero, List.getElem_cons_succ, List.setIfInBounds_toArray, List.set_cons_zero, List.set_cons_succ]
  refine wpAnyH_done (by kernel_rfl) ?_ _
  clear hH4 RF RI RR HO RH
  have y8 := KX.out _ B8.out
  have c0 := y8.cell 0
  have c1 := y8.cell 1
  have c2 := y8.cell 2
  have c3 := y8.cell 3
  have z8 := KY.out _ B8.out
  clear y8 z8
  go_wp2_with fail
  refine (SM.out _).mono ?_
  rintro e w9 ⟨rfl, hb9⟩
  have B9 := Lib.hid (up B8.out hb9 B8.out.size)
  clear c0 c1 c2 c3 hb9 B8
  have KS2 : Hid (∀ ws, Below w2.heap.size w2 ws → ws.cell? ⟨w.heap.size, 0, none⟩ = some (.int .i64 x) ∧ ws.cell? ⟨w.heap.size, 1, none⟩ = some (.int .i64 y) ∧ ws.cell? ⟨w.heap.size, 2, none⟩ = some (.int .i64 u) ∧ ws.cell? ⟨w.heap.size, 3, none⟩ = some (.int .i64 z) ∧ ws.cell? ⟨w.heap.size + 1, 0, none⟩ = some (.bool false) ∧ ws.frozen? ⟨w.heap.size + 1, 0, none⟩ = false) := Lib.hid (fun ws h => ⟨(KX.out _ h).cell 0, (KX.out _ h).cell 1, (KX.out _ h).cell 2, (KX.out _ h).cell 3, (KY.out _ h).cell 0, (KY.out _ h).free 0⟩)
  have hw := HW.out
  go_wp2_with fail
  refine wp_region_held_drew (S := (fun ws => ws.cell? ⟨w.heap.size, 0, none⟩ = some (.int .i64 x) ∧ ws.cell? ⟨w.heap.size, 1, none⟩ = some (.int .i64 y) ∧ ws.cell? ⟨w.heap.size, 2, none⟩ = some (.int .i64 u) ∧ ws.cell? ⟨w.heap.size, 3, none⟩ = some (.int .i64 z))) (by kernel_rfl) (KS.out _ B9.out.drew) (fun hHeld => ?_)
  refine wpAnyH_take (i := 0) (v := ?_) rfl (by kernel_rfl) (by kernel_rfl) (by kernel_rfl) (fun _ _ _ h => h) (Or.inl ⟨by rfl, ?_⟩) (by assumption) ?_
  rotate_left
  · (intro w hSw; (try dsimp only at hSw); first | (go_simp; done) | (go_simp; with_reducible rfl))
  simp only [Act.put, List.getElem_toArray, List.getElem_cons_zero, List.getElem_cons_succ, List.setIfInBounds_toArray, List.set_cons_zero, List.set_cons_succ]
  refine wpAnyH_take (i := 2) (v := ?_) rfl (by kernel_rfl) (by kernel_rfl) (by kernel_rfl) (fun _ _ _ h => h) (Or.inl ⟨by rfl, ?_⟩) (by assumption) ?_
  rotate_left
  · (intro w hSw; (try dsimp only at hSw); first | (go_simp; done) | (go_simp; with_reducible rfl))
  simp only [Act.put, List.getElem_toArray, List.getElem_cons_zero, List.getElem_cons_succ, List.setIfInBounds_toArray, List.set_cons_zero, List.set_cons_succ]
  refine wpAnyH_take (i := 3) (v := ?_) rfl (by kernel_rfl) (by kernel_rfl) (by kernel_rfl) (fun _ _ _ h => h) (Or.inl ⟨by rfl, ?_⟩) (by assumption) ?_
  rotate_left
  · (intro w hSw; (try dsimp only at hSw); first | (go_simp; done) | (go_simp; with_reducible rfl))
  simp only [Act.put, List.getElem_toArray, List.getElem_cons_zero, List.getElem_cons_succ, List.setIfInBounds_toArray, List.set_cons_zero, List.set_cons_succ]
  refine wpAnyH_take (i := 4) (v := ?_) rfl (by kernel_rfl) (by kernel_rfl) (by kernel_rfl) (fun _ _ _ h => h) (Or.inl ⟨by rfl, ?_⟩) (by assumption) ?_
  rotate_left
  · (intro w hSw; (try dsimp only at hSw); first | (go_simp; done) | (go_simp; with_reducible rfl))
  simp only [Act.put, List.getElem_toArray, List.getElem_cons_zero, List.getElem_cons_succ, List.setIfInBounds_toArray, List.set_cons_zero, List.set_cons_succ]
  refine wpAnyH_take (i := 5) (v := ?_) rfl (by kernel_rfl) (by kernel_rfl) (by kernel_rfl) (fun _ _ _ h => h) (Or.inl ⟨by rfl, ?_⟩) (by assumption) ?_
  rotate_left
  · (intro w hSw; (try dsimp only at hSw); first | (go_simp; done) | (go_simp; with_reducible rfl))
  simp only [Act.put, List.getElem_toArray, List.getElem_cons_zero, List.getElem_cons_succ, List.setIfInBounds_toArray, List.set_cons_zero, List.set_cons_succ]
  refine wpAnyH_take (i := 6) (v := ?_) rfl (by kernel_rfl) (by kernel_rfl) (by kernel_rfl) (fun _ _ _ h => h) (Or.inl ⟨by rfl, ?_⟩) (by assumption) ?_
  rotate_left
  · (intro w hSw; (try dsimp only at hSw); first | (go_simp; done) | (go_simp; with_reducible rfl))
  simp only [Act.put, List.getElem_toArray, List.getElem_cons_zero, List.getElem_cons_succ, List.setIfInBounds_toArray, List.set_cons_zero, List.set_cons_succ]
  refine wpAnyH_ready (rs := [1]) (by kernel_rfl) (by simp) ?_
  refine AllReadyH.cons rfl (fun K hK => ?_) AllReadyH.nil
  go_simp
  go_wp2_with (go_at_call 12; refine (AR.out _).mono ?_; rintro e w10 ⟨rfl, hb10⟩)
  have B10 := Lib.hid (up B9.out.drew hb10 B9.out.drew.size)
  refine hK.out _ _ (KS.out _ B10.out) (fun hH1 => ?_)
  clear hK K hHeld hb10 B9
  refine wpAnyH_take (i := 7) (v := ?_) rfl (by kernel_rfl) (by kernel_rfl) (by kernel_rfl) (fun _ _ _ h => h) (Or.inl ⟨by rfl, ?_⟩) (by assumption) ?_
  rotate_left
  · (intro w hSw; (try dsimp only at hSw); first | (go_simp; done) | (go_simp; with_reducible rfl))
  simp only [Act.put, List.getElem_toArray, List.getElem_cons_zero, List.getElem_cons_succ, List.setIfInBounds_toArray, List.set_cons_zero, List.set_cons_succ]
  refine wpAnyH_take (i := 8) (v := ?_) rfl (by kernel_rfl) (by kernel_rfl) (by kernel_rfl) (fun _ _ _ h => h) (Or.inl ⟨by rfl, ?_⟩) (by assumption) ?_
  rotate_left
  · (intro w hSw; (try dsimp only at hSw); first | (go_simp; done) | (go_simp; with_reducible rfl))
  simp only [Act.put, List.getElem_toArray, List.getElem_cons_zero, List.getElem_cons_succ, List.setIfInBounds_toArray, List.set_cons_zero, List.set_cons_succ]
  refine wpAnyH_ready (rs := [9]) (by kernel_rfl) (by simp) ?_
  refine AllReadyH.cons rfl (fun K hK => ?_) AllReadyH.nil
  go_simp
  go_wp2_with (go_at_call 14; refine (AW.out _).mono ?_; rintro e w11 ⟨rfl, hb11⟩)
  have B11 := Lib.hid (up B10.out hb11 B10.out.size)
  refine hK.out _ _ (KS.out _ B11.out) (fun hH2 => ?_)
  clear hK K hH1 hb11 B10
  refine wpAnyH_take (i := 10) (v := ?_) rfl (by kernel_rfl) (by kernel_rfl) (by kernel_rfl) (fun _ _ _ h => h) (Or.inl ⟨by rfl, ?_⟩) (by assumption) ?_
  rotate_left
  · (intro w hSw; (try dsimp only at hSw); first | (go_simp; done) | (go_simp; with_reducible rfl))
  simp only [Act.put, List.getElem_toArray, List.getElem_cons_zero, List.getElem_cons_succ, List.setIfInBounds_toArray, List.set_cons_zero, List.set_cons_succ]
  have B0 := Lib.hid (up H2.out B11.out H2.out.size)
  have z9 := KY.out _ B11.out
  have d0 := z9.cell 0
  have f0 := z9.free 0
  have HP := Lib.hid (z9.put 0 (.bool true))
  have HQ := Lib.hid (B0.out.setCell (p := ⟨w.heap.size + 1, 0, none⟩) (by show w.heap.size ≤ w.heap.size + 1; omega) (.bool true))
  have g0 := HP.out.cell 0
  clear z9
  have x9 := (KX.out _ B11.out).far (p := ⟨w.heap.size + 1, 0, none⟩) (show w.heap.size ≠ w.heap.size + 1 by omega) (.bool true)
  have X9 := Lib.hid x9
  clear x9
  refine wpAnyH_ready (rs := [11]) (by kernel_rfl) (by simp) ?_
  refine AllReadyH.cons rfl (fun K hK => ?_) AllReadyH.nil
  go_simp
  refine hK.out _ _ ⟨X9.out.cell 0, X9.out.cell 1, X9.out.cell 2, X9.out.cell 3⟩ (fun hH3 => ?_)
  clear hK K hH2
  refine wpAnyH_done (by kernel_rfl) ?_ _
  clear hH3 d0 f0
  go_wp2_with fail
  refine bodyPost_ret (v := .bool true) (by simp [results, Try.results3, go_sem, g0]) rfl ⟨rfl, HQ.out⟩
end Go.Proofs.Ytognbljpmhhbkaa.rectTiles
