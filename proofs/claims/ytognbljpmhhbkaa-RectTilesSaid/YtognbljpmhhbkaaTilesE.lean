/-
  RectTiles: the way in which the tiles are gone through.
-/
import Derived.Test.YtognbljpmhhbkaaTilesC
import Derived.Deep.RegionHeld
namespace Go.Proofs.Ytognbljpmhhbkaa.rectTiles
open Go.RowKit Go.Shelf
open rect tiles
open base (Blk Only up made)
set_option linter.unusedVariables false
set_option linter.unusedSimpArgs false
attribute [local go_sem] Oper.semAt_some calm_ret calm_normal
attribute [local irreducible] wpStill

set_option maxRecDepth 100000 in
set_option maxHeartbeats 4000000 in
theorem walk_small (x y u z i k : Int) (hx : -9223372036854775808 ≤ x) (hi : -9223372036854775808 ≤ i ∧ i ≤ 9223372036854775807) (hk : -9223372036854775808 ≤ k ∧ k ≤ 9223372036854775807) (w : World) (hr : rightB x y u z = true) (hs : u ≤ 24 ∧ z ≤ 24) (N : Nat) (hN : u * z = N) (hN2 : N ≤ 65536) (hN1 : 1 ≤ N) : Calls Try.prog 3 #[(.agg #[.int .i64 x, .int .i64 y, .int .i64 u, .int .i64 z]), .int .i64 i, .int .i64 k] w fun e w' => e = .returned (.bool true) ∧ Below w.heap.size w w' := by
  have hm : Below w.heap.size w (w.alloc (.cells #[.int .i64 x, .int .i64 y, .int .i64 u, .int .i64 z] 23)) := made w _
  have hm2 : Below w.heap.size w ((w.alloc (.cells #[.int .i64 x, .int .i64 y, .int .i64 u, .int .i64 z] 23)).alloc (.cells #[.bool false] 4)) := hm.alloc (by rw [asz]; omega) _
  have bx : Blk ((w.alloc (.cells #[.int .i64 x, .int .i64 y, .int .i64 u, .int .i64 z] 23)).alloc (.cells #[.bool false] 4)) w.heap.size 23 #[.int .i64 x, .int .i64 y, .int .i64 u, .int .i64 z] := (Blk.new _ _ _).alloc _
  have by_ : Blk ((w.alloc (.cells #[.int .i64 x, .int .i64 y, .int .i64 u, .int .i64 z] 23)).alloc (.cells #[.bool false] 4)) (w.heap.size + 1) 4 #[.bool false] := by
    have := Blk.new (w.alloc (.cells #[.int .i64 x, .int .i64 y, .int .i64 u, .int .i64 z] 23)) 4 #[.bool false]
    rw [asz] at this
    exact this
  have hs2 : ((w.alloc (.cells #[.int .i64 x, .int .i64 y, .int .i64 u, .int .i64 z] 23)).alloc (.cells #[.bool false] 4)).heap.size = w.heap.size + 2 := by rw [asz, asz]
  have b0 := bx.cell 0
  have b1 := bx.cell 1
  have b2 := bx.cell 2
  have b3 := bx.cell 3
  have BX := Lib.hid bx
  have BY := Lib.hid by_
  have H2 := Lib.hid hm2
  have Z2 := Lib.hid hs2
  have RF := Lib.hid (fun ws => ref_any x y u z ws)
  have RI := Lib.hid (fun ws => right_any x y u z ws)
  have RR := Lib.hid (fun ws => rright_any x y u z hx ws)
  have SM := Lib.hid (fun ws => small_any x y u z hx ws hr true (decide_eq_true hs).symm)
  rw [hr] at RI RR
  have HO := Lib.hid (fun ws => holds_any x y u z i k ws)
  have RH := Lib.hid (fun ws => rholds_any x y u z i k hx hi hk ws)
  generalize holdsB x y u z i k = hb at *
  have AW := Lib.hid (fun ws => awake_any ws)
  clear hm hm2 bx by_ hs2 hx hi hk
  have AR := Lib.hid (fun ws => area_yes x y u z ws hr)
  rw [hN] at AR
  have FI := Lib.hid (fun ws => first_yes x y u z ws hr N hN1 hN2 hN.symm)
  have MK := Lib.hid (fun ws => make_any x y u z ws)
  have hw : IntKind.i64.wrap (u * z) = N := by rw [hN]; exact IntWalk.i64_in _ (by omega)
  have HW := Lib.hid hw
  have HR := Lib.hid (show ∀ k, k < N → (0 ≤ x ∧ x ≤ 256 ∧ 0 ≤ y ∧ y ≤ 256 ∧ 1 ≤ u ∧ u ≤ 256) from fun _ _ => by have := right_yes hr; omega)
  clear hr hs hN hw
  refine (callsIn_wide (n := 3)).1 ?_
  refine callsIn_of_wp_marks Try.func3 rfl trivial ?_ rfl
  simp only [Try.ntmps3, List.size_toArray, List.length_cons, List.length_nil, Nat.reduceAdd, Nat.reduceSub, Array.replicate_succ, Array.replicate_zero, List.push_toArray, List.append_toArray, List.nil_append, List.cons_append]
  refine wpIn_wide.2 (calm_wp ?_)
  go_wp2_with fail
  generalize ((w.alloc (.cells #[.int .i64 x, .int .i64 y, .int .i64 u, .int .i64 z] 23)).alloc (.cells #[.bool false] 4)) = w2 at *
  refine (RF.out _).mono ?_
  rintro e w3 ⟨rfl, hb3⟩
  have B3 := Lib.hid hb3
  clear hb3 b0 b1 b2 b3
  go_wp2_with fail
  refine (RR.out _).mono ?_
  rintro e w4 ⟨rfl, hb4⟩
  have B4 := Lib.hid (up B3.out hb4 B3.out.size)
  clear hb4 B3
  have KX := Lib.hid (fun ws (h : Below w2.heap.size w2 ws) => BX.out.below h BX.out.lt)
  have KY := Lib.hid (fun ws (h : Below w2.heap.size w2 ws) => BY.out.below h BY.out.lt)
  have KS : Hid (∀ ws, Below w2.heap.size w2 ws → ws.cell? ⟨w.heap.size, 0, none⟩ = some (.int .i64 x) ∧ ws.cell? ⟨w.heap.size, 1, none⟩ = some (.int .i64 y) ∧ ws.cell? ⟨w.heap.size, 2, none⟩ = some (.int .i64 u) ∧ ws.cell? ⟨w.heap.size, 3, none⟩ = some (.int .i64 z)) := Lib.hid (fun ws h => ⟨(KX.out _ h).cell 0, (KX.out _ h).cell 1, (KX.out _ h).cell 2, (KX.out _ h).cell 3⟩)
  clear BX BY
  go_wp2_with fail
  refine wp_region_held_drew (S := (fun ws => ws.cell? ⟨w.heap.size, 0, none⟩ = some (.int .i64 x) ∧ ws.cell? ⟨w.heap.size, 1, none⟩ = some (.int .i64 y) ∧ ws.cell? ⟨w.heap.size, 2, none⟩ = some (.int .i64 u) ∧ ws.cell? ⟨w.heap.size, 3, none⟩ = some (.int .i64 z))) (by kernel_rfl) (KS.out _ B4.out.drew) (fun hHeld => ?_)
  refine wpAnyH_take (i := 0) (v := ?_) rfl (by kernel_rfl) (by kernel_rfl) (by kernel_rfl) (fun _ _ _ h => h) (Or.inl ⟨by rfl, ?_⟩) (by assumption) ?_
  rotate_left
  · (intro w hSw; (try dsimp only at hSw); first | (go_simp; done) | (go_simp; with_reducible rfl))
  simp only [Act.put, List.getElem_toArray, List.getElem_cons_zero, List.getElem_cons_succ, List.setIfInBounds_toArray, List.set_cons_zero, List.set_cons_succ]
  refine wpAnyH_take (i := 2) (v := ?_) rfl (by kernel_rfl) (by kernel_rfl) (by kernel_rfl) (fun _ _ _ h => h) (Or.inl ⟨by rfl, ?_⟩) (by assumption) ?_
  rotate_left
  · (intro w hSw; (try dsimp only at hSw); first | (go_simp; done) | (go_simp; with_reducible rfl))
  simp only [Act.put, List.getElem_toArray, List.getElem_cons_zero, List.getElem_cons_succ, List.setIfInBounds_toArray, List.set_cons_zero, List.set_cons_succ]
  refine wpAnyH_ready (rs := [1]) (by kernel_rfl) (by simp) ?_
  refine AllReadyH.cons rfl (fun K hK => ?_) AllReadyH.nil
  go_simp
  go_wp2_with (go_at_call 9; refine (RI.out _).mono ?_; rintro e w5 ⟨rfl, hb5⟩)
  have B5 := Lib.hid (up B4.out.drew hb5 B4.out.drew.size)
  refine hK.out _ _ (KS.out _ B5.out) (fun hH1 => ?_)
  clear hK K hHeld hb5 B4
  refine wpAnyH_take (i := 3) (v := ?_) rfl (by kernel_rfl) (by kernel_rfl) (by kernel_rfl) (fun _ _ _ h => h) (Or.inl ⟨by rfl, ?_⟩) (by assumption) ?_
  rotate_left
  · (intro w hSw; (try dsimp only at hSw); first | (go_simp; done) | (go_simp; with_reducible rfl))
  simp only [Act.put, List.getElem_toArray, List.getElem_cons_zero, List.getElem_cons_succ, List.setIfInBounds_toArray, List.set_cons_zero, List.set_cons_succ]
  refine wpAnyH_take (i := 4) (v := ?_) rfl (by kernel_rfl) (by kernel_rfl) (by kernel_rfl) (fun _ _ _ h => h) (Or.inl ⟨by rfl, ?_⟩) (by assumption) ?_
  rotate_left
  · (intro w hSw; (try dsimp only at hSw); first | (go_simp; done) | (go_simp; with_reducible rfl))
  simp only [Act.put, List.getElem_toArray, List.getElem_cons_zero, List.getElem_cons_succ, List.setIfInBounds_toArray, List.set_cons_zero, List.set_cons_succ]
  refine wpAnyH_take (i := 5) (v := ?_) rfl (by kernel_rfl) (by kernel_rfl) (by kernel_rfl) (fun _ _ _ h => h) (Or.inl ⟨by rfl, ?_⟩) (by assumption) ?_
  rotate_left
  · (intro w hSw; (try dsimp only at hSw); first | (go_simp; done) | (go_simp; with_reducible rfl))
  simp only [Act.put, List.getElem_toArray, List.getElem_cons_zero, List.getElem_cons_succ, List.setIfInBounds_toArray, List.set_cons_zero, List.set_cons_succ]
  refine wpAnyH_take (i := 6) (v := ?_) rfl (by kernel_rfl) (by kernel_rfl) (by kernel_rfl) (fun _ _ _ h => h) (Or.inl ⟨by rfl, ?_⟩) (by assumption) ?_
  rotate_left
  · (intro w hSw; (try dsimp only at hSw); first | (go_simp; done) | (go_simp; with_reducible rfl))
  simp only [Act.put, List.getElem_toArray, List.getElem_cons_zero, List.getElem_cons_succ, List.setIfInBounds_toArray, List.set_cons_zero, List.set_cons_succ]
  refine wpAnyH_take (i := 7) (v := ?_) rfl (by kernel_rfl) (by kernel_rfl) (by kernel_rfl) (fun _ _ _ h => h) (Or.inl ⟨by rfl, ?_⟩) (by assumption) ?_
  rotate_left
  · (intro w hSw; (try dsimp only at hSw); first | (go_simp; done) | (go_simp; with_reducible rfl))
  simp only [Act.put, List.getElem_toArray, List.getElem_cons_zero, List.getElem_cons_succ, List.setIfInBounds_toArray, List.set_cons_zero, List.set_cons_succ]
  refine wpAnyH_take (i := 9) (v := ?_) rfl (by kernel_rfl) (by kernel_rfl) (by kernel_rfl) (fun _ _ _ h => h) (Or.inl ⟨by rfl, ?_⟩) (by assumption) ?_
  rotate_left
  · (intro w hSw; (try dsimp only at hSw); first | (go_simp; done) | (go_simp; with_reducible rfl))
  simp only [Act.put, List.getElem_toArray, List.getElem_cons_zero, List.getElem_cons_succ, List.setIfInBounds_toArray, List.set_cons_zero, List.set_cons_succ]
  refine wpAnyH_take (i := 11) (v := ?_) rfl (by kernel_rfl) (by kernel_rfl) (by kernel_rfl) (fun _ _ _ h => h) (Or.inl ⟨by rfl, ?_⟩) (by assumption) ?_
  rotate_left
  · (intro w hSw; (try dsimp only at hSw); first | (go_simp; done) | (go_simp; with_reducible rfl))
  simp only [Act.put, List.getElem_toArray, List.getElem_cons_zero, List.getElem_cons_succ, List.setIfInBounds_toArray, List.set_cons_zero, List.set_cons_succ]
  refine wpAnyH_take (i := 12) (v := ?_) rfl (by kernel_rfl) (by kernel_rfl) (by kernel_rfl) (fun _ _ _ h => h) (Or.inl ⟨by rfl, ?_⟩) (by assumption) ?_
  rotate_left
  · (intro w hSw; (try dsimp only at hSw); first | (go_simp; done) | (go_simp; with_reducible rfl))
  simp only [Act.put, List.getElem_toArray, List.getElem_cons_zero, List.getElem_cons_succ, List.setIfInBounds_toArray, List.set_cons_zero, List.set_cons_succ]
  refine wpAnyH_ready (rs := [8]) (by kernel_rfl) (by simp) ?_
  refine AllReadyH.cons rfl (fun K hK => ?_) AllReadyH.nil
  go_simp
  go_wp2_with (go_at_call 10; refine (HO.out _).mono ?_; rintro e w6 ⟨rfl, hb6⟩)
  have B6 := Lib.hid (up B5.out hb6 B5.out.size)
  refine hK.out _ _ (KS.out _ B6.out) (fun hH2 => ?_)
  clear hK K hH1 hb6 B5
  refine wpAnyH_ready (rs := [10]) (by kernel_rfl) (by simp) ?_
  refine AllReadyH.cons rfl (fun K hK => ?_) AllReadyH.nil
  go_simp
  go_wp2_with (go_at_call 8; refine (RF.out _).mono ?_; rintro e w7 ⟨rfl, hb7⟩)
  have B7 := Lib.hid (up B6.out hb7 B6.out.size)
  refine hK.out _ _ (KS.out _ B7.out) (fun hH3 => ?_)
  clear hK K hH2 hb7 B6
  refine wpAnyH_ready (rs := [13]) (by kernel_rfl) (by simp) ?_
  refine AllReadyH.cons rfl (fun K hK => ?_) AllReadyH.nil
  go_simp
  go_wp2_with (go_at_call 11; refine (RH.out _).mono ?_; rintro e w8 ⟨rfl, hb8⟩)
  have B8 := Lib.hid (up B7.out hb8 B7.out.size)
  refine hK.out _ _ (KS.out _ B8.out) (fun hH4 => ?_)
  clear hK K hH3 hb8 B7
  refine wpAnyH_take (i := 14) (v := ?_) rfl (by kernel_rfl) (by kernel_rfl) (by kernel_rfl) (fun _ _ _ h => h) (Or.inl ⟨by rfl, ?_⟩) (by assumption) ?_
  rotate_left
  · (intro w hSw; (try dsimp only at hSw); first | (go_simp; done) | (go_simp; with_reducible rfl))
  simp only [Act.put, List.getElem_toArray, List.getElem_cons_zero, List.getElem_cons_succ, List.setIfInBounds_toArray, List.set_cons_zero, List.set_cons_succ]
  refine wpAnyH_take (i := 15) (v := ?_) rfl (by kernel_rfl) (by kernel_rfl) (by kernel_rfl) (fun _ _ _ h => h) (Or.inl ⟨by rfl, ?_⟩) (by assumption) ?_
  rotate_left
  · (intro w hSw; (try dsimp only at hSw); first | (go_simp; done) | (go_simp; with_reducible rfl))
  simp only [Act.put, List.getElem_toArray, List.getElem_cons_zero, List.getElem_cons_succ, List.setIfInBounds_toArray, List.set_cons_zero, List.set_cons_succ]
  refine wpAnyH_done (by kernel_rfl) ?_ _
  clear hH4 RF RI RR HO RH
  have y8 := KX.out _ B8.out
  have c0 := y8.cell 0
  have c1 := y8.cell 1
  have c2 := y8.cell 2
  have c3 := y8.cell 3
  have z8 := KY.out _ B8.out
  clear y8 z8
  go_wp2_with fail
  refine (SM.out _).mono ?_
  rintro e w9 ⟨rfl, hb9⟩
  have B9 := Lib.hid (up B8.out hb9 B8.out.size)
  have Z9 := Lib.hid (show w.heap.size + 2 ≤ w9.heap.size by have := B9.out.size; have := Z2.out; omega)
  have hm9 := made w9 (.cells #[.int .i64 0] 3)
  have ba : Blk (w9.alloc (.cells #[.int .i64 0] 3)) w9.heap.size 3 #[.int .i64 0] := Blk.new _ _ _
  have B10 := Lib.hid (up B9.out hm9 B9.out.size)
  have ZA := Lib.hid (asz w9 (.cells #[.int .i64 0] 3))
  have x9 := KX.out _ B10.out
  clear c0 c1 c2 c3 hb9 B8
  have c0 := x9.cell 0
  have c1 := x9.cell 1
  have c2 := x9.cell 2
  have c3 := x9.cell 3
  have BA := Lib.hid ba
  have M9 := Lib.hid hm9
  clear x9 ba hm9
  go_wp2_with fail
  generalize (w9.alloc (.cells #[.int .i64 0] 3)) = wA at *
  refine (MK.out _).mono ?_
  rintro e w11 ⟨rfl, hbl, hb11⟩
  have BL := Lib.hid hbl
  have B11 := Lib.hid (up B10.out hb11 B10.out.size)
  have BA11 := Lib.hid (BA.out.below hb11 BA.out.lt)
  have M11 := Lib.hid (up M9.out hb11 M9.out.size)
  have Z11 := Lib.hid hb11.size
  clear hbl hb11 c0 c1 c2 c3 BA B10
  have hnn := fun ws => neq_nil wA.heap.size ws
  go_wp2_with fail
  have ZW := Z2.out
  have ZX := ZA.out
  have ZY := Z11.out
  have ZZ := Z9.out
  refine (wpIn_wide (n := 3)).1 ?_
  refine wpIn_rangeFunc_ownF rfl (by omega) (gf := 27) (lb := #[.pointer (some ⟨wA.heap.size, 0, none⟩)]) rfl trivial (enters_of Try.func27 (by kernel_rfl) rfl)
    (stops (3 - 1) (by omega) x y u z N AR.out HR.out hN2 wA.heap.size w11 BL.out) kb_t (kb_b BL.out.lt) (Below.refl _ _) (fun _ => rfl)
    (fun pre W => (pre = upto x y u pre.length ∧ Blk W w9.heap.size 3 #[.int .i64 pre.length]) ∧ Below w9.heap.size w9 W)
    (fun c pre W => pre ≠ upto x y u pre.length)
    (OwnFrom.and (Own.from (fun s A B row hs hg hr => ⟨hs.1, own_blk hs.2 hg hr⟩) _) (ownFrom_below (Nat.le_refl _) (by omega)))
    (fun c s A B row hs _ _ => hs)
    ⟨⟨rfl, BA11.out⟩, M11.out⟩
    (fun p => { tmps := #[Value.agg #[Value.int IntKind.i64 x, Value.int IntKind.i64 y, Value.int IntKind.i64 u, Value.int IntKind.i64 z], Value.int IntKind.i64 i, Value.int IntKind.i64 k, Value.pointer (some { block := w.heap.size, off := 0 }), undef, undef, Value.pointer (some { block := w.heap.size + 1, off := 0 }), Value.bool true, Value.pointer (some { block := w9.heap.size, off := 0 }), Value.func (Fn.func 27) #[] #[Value.pointer (some { block := wA.heap.size, off := 0 })], .int .i64 p.1, .int .i64 p.2, Value.agg #[Value.int IntKind.i64 x, Value.int IntKind.i64 y, Value.int IntKind.i64 u, Value.int IntKind.i64 z], Value.agg #[Value.int IntKind.i64 x, Value.int IntKind.i64 y, Value.int IntKind.i64 u, Value.int IntKind.i64 z], Value.bool true, Value.agg #[Value.int IntKind.i64 x, Value.int IntKind.i64 y, Value.int IntKind.i64 u, Value.int IntKind.i64 z], Value.bool true, Value.bool true, Value.bool false, Value.bool false, Value.agg #[Value.int IntKind.i64 x, Value.int IntKind.i64 y, Value.int IntKind.i64 u, Value.int IntKind.i64 z], Value.int IntKind.i64 i, Value.int IntKind.i64 k, Value.bool hb, Value.agg #[Value.int IntKind.i64 x, Value.int IntKind.i64 y, Value.int IntKind.i64 u, Value.int IntKind.i64 z], Value.agg #[Value.int IntKind.i64 x, Value.int IntKind.i64 y, Value.int IntKind.i64 u, Value.int IntKind.i64 z], Value.int IntKind.i64 i, Value.int IntKind.i64 k, Value.bool hb, Value.bool false, Value.bool false, Value.bool true, Value.bool false, undef, undef, undef, undef, undef, undef, undef, undef, undef, undef, undef, Value.agg #[Value.int IntKind.i64 x, Value.int IntKind.i64 y, Value.int IntKind.i64 u, Value.int IntKind.i64 z], Value.bool true, Value.bool false, undef, undef, undef, undef, undef, undef, undef, undef, undef, undef, undef, Value.agg #[Value.int IntKind.i64 x, Value.int IntKind.i64 y, Value.int IntKind.i64 u, Value.int IntKind.i64 z], Value.func (Fn.func 27) #[] #[Value.pointer (some { block := wA.heap.size, off := 0 })], Value.func (Fn.func 27) #[] #[Value.pointer (some { block := wA.heap.size, off := 0 })], Value.bool true, Value.func (Fn.func 27) #[] #[Value.pointer (some { block := wA.heap.size, off := 0 })], .int .i64 p.1, .int .i64 p.2, undef, undef, undef, undef, undef, undef, undef, undef, undef, undef, undef, undef, undef, undef, undef, undef, undef, undef, undef, undef, undef, undef, undef, undef, undef, undef, undef, undef, undef, undef, undef, undef, undef, undef, undef, undef, undef, undef, undef, undef, undef, undef], defers := [] }) ?assign ?body ?done ?stop
  case assign =>
    rintro l ⟨p1, p2⟩ W K hK
    clear ZW ZX ZY ZZ
    simp only [encs, List.zip_toArray, List.zip_cons_cons, List.zip_nil_right, List.foldl_toArray, List.foldl_cons, List.foldl_nil, List.setIfInBounds_toArray, List.set_cons_succ, List.set_cons_zero]
    gi_wp2
    exact hK
  case body =>
    rintro l pre ⟨p1, p2⟩ W ⟨⟨hp, hba⟩, hb⟩ hlt
    obtain ⟨L, hL⟩ : ∃ L, L = pre.length := ⟨_, rfl⟩
    rw [← hL] at hba hlt hp
    have HL := Lib.hid hL
    clear hL
    have hr := HR.out L hlt
    obtain ⟨E1, e2, E3⟩ := plain hr.1 hr.2.1 hr.2.2.1 hr.2.2.2.1 hr.2.2.2.2.1 hr.2.2.2.2.2 (k := L) (by omega)
    have hb2 := up B9.out hb B9.out.size
    have bx := KX.out _ hb2
    have b0 := bx.cell 0
    have b1 := bx.cell 1
    have b2 := bx.cell 2
    have d0 := hba.cell 0
    have f0 := hba.free 0
    have r0 := (KY.out _ hb2).cell 0
    have r1 := (KY.out _ hb2).free 0
    have HBA := Lib.hid hba
    have HB := Lib.hid hb
    have HP := Lib.hid hp
    have hu1 : ¬ u = 0 := by omega
    clear hr hb hb2 bx hba hp ZW ZX ZY ZZ
    obtain ⟨m1, hm1⟩ : ∃ m1, m1 = x + (L : Int).tmod u := ⟨_, rfl⟩
    obtain ⟨m2, hm2⟩ : ∃ m2, m2 = y + (L : Int) / u := ⟨_, rfl⟩
    have e1 : IntKind.i64.wrap (x + (L : Int).tmod u) = m1 := by rw [hm1]; exact E1
    have e3 : IntKind.i64.wrap (y + (L : Int) / u) = m2 := by rw [hm2]; exact E3
    clear E1 E3
    have T1 : Hid (tile x y u L = (m1, m2)) := Lib.hid (by rw [hm1, hm2]; rfl)
    clear hm1 hm2
    dsimp only
    gi_wp2
    by_cases q1 : p1 = m1
    · have g1 : (p1 == m1) = true := by simpa using q1
      have g1' : (p1 != m1) = false := by simpa using q1
      by_cases q2 : p2 = m2
      · have g2 : (p2 == m2) = true := by simpa using q2
        have g2' : (p2 != m2) = false := by simpa using q2
        have hwl : IntKind.i64.wrap ((L : Int) + 1) = ((L + 1 : Nat) : Int) := by rw [show ((L + 1 : Nat) : Int) = (L : Int) + 1 by omega]; exact IntWalk.i64_in _ (by omega)
        have hlen : (pre ++ [(p1, p2)]).length = L + 1 := by rw [List.length_append, ← HL.out]; rfl
        have OK := Lib.hid (show pre ++ [(p1, p2)] = upto x y u (pre ++ [(p1, p2)]).length by rw [hlen, upto_succ, ← HP.out, T1.out, q1, q2])
        have WB := Lib.hid (show Blk ((W.setCell ⟨w9.heap.size, 0, none⟩ (.int .i64 ((L : Int) + 1))).drew) w9.heap.size 3 #[.int .i64 ((pre ++ [(p1, p2)]).length : Nat)] by rw [hlen]; exact (HBA.out.put 0 (.int .i64 ((L : Int) + 1))))
        have KBF := Lib.hid (show Kb wA.heap.size W ((W.setCell ⟨w9.heap.size, 0, none⟩ (.int .i64 ((L : Int) + 1))).drew) from Below.heap_setCell W ⟨w9.heap.size, 0, none⟩ (.int .i64 ((L : Int) + 1)) wA.heap.size (by show wA.heap.size ≠ w9.heap.size; have := ZA.out; omega))
        have BB := Lib.hid ((HB.out.setCell (p := ⟨w9.heap.size, 0, none⟩) (Nat.le_refl _) (.int .i64 ((L : Int) + 1))).drew)
        clear hlen
        clear q1 q2
        refine still.region_in (still.round l) 19 (by kernel_rfl) (by kernel_rfl) ?_
        simp only [List.take_succ_cons, List.take_zero, List.drop_succ_cons, List.drop_zero]
        repeat still_step
        refine wpStill_nil ?_
        change wpListIn _ _ _ _ _ _ _ W.drew
        gi_wp2
        exact ⟨(KeepsOthers.setCell _ _ _).trans (KeepsOthers.drew _), KBF.out, ⟨OK.out, WB.out⟩, BB.out⟩
      · have g2 : (p2 == m2) = false := by simpa using q2
        have g2' : (p2 != m2) = true := by simpa using q2
        have NO := Lib.hid (show ¬ pre ++ [(p1, p2)] = upto x y u (L + 1) by
          rw [upto_succ, ← HP.out, T1.out]
          intro h
          have := List.append_cancel_left h
          simp at this
          exact q2 this.2)
        have NO2 := Lib.hid (show pre ++ [(p1, p2)] ≠ upto x y u (pre ++ [(p1, p2)]).length by rw [show (pre ++ [(p1, p2)]).length = L + 1 by rw [List.length_append, ← HL.out]; rfl]; exact NO.out)
        clear q1 q2
        refine still.region_in (still.round l) 19 (by kernel_rfl) (by kernel_rfl) ?_
        simp only [List.take_succ_cons, List.take_zero, List.drop_succ_cons, List.drop_zero]
        repeat still_step
        refine wpStill_nil ?_
        change wpListIn _ _ _ _ _ _ _ W.drew
        gi_wp2
        exact ⟨(KeepsOthers.setCell _ _ _).trans (KeepsOthers.drew _), NO2.out⟩
    · have g1 : (p1 == m1) = false := by simpa using q1
      have g1' : (p1 != m1) = true := by simpa using q1
      have NO := Lib.hid (show ¬ pre ++ [(p1, p2)] = upto x y u (L + 1) by
        rw [upto_succ, ← HP.out, T1.out]
        intro h
        have := List.append_cancel_left h
        simp at this
        exact q1 this.1)
      have NO2 := Lib.hid (show pre ++ [(p1, p2)] ≠ upto x y u (pre ++ [(p1, p2)]).length by rw [show (pre ++ [(p1, p2)]).length = L + 1 by rw [List.length_append, ← HL.out]; rfl]; exact NO.out)
      clear q1
      refine still.region_in (still.round l) 19 (by kernel_rfl) (by kernel_rfl) ?_
      simp only [List.take_succ_cons, List.take_zero, List.drop_succ_cons, List.drop_zero]
      iterate 9 still_step
      refine wpStill_step (fun K hK => ?_)
      have HK := Lib.hid hK
      clear hK
      go_simp
      refine HK.out _ ?_
      clear HK K
      iterate 9 (refine still.skip (by rfl) ?_; simp only [Act.put, List.getElem_toArray, List.getElem_cons_zero, List.getElem_cons_succ, List.setIfInBounds_toArray, List.set_cons_zero, List.set_cons_succ])
      have hun : undef = Value.tuple #[] := rfl
      refine wpStill_nil ?_
      change wpListIn _ _ _ _ _ _ _ W.drew
      gi_wp2
      exact ⟨(KeepsOthers.setCell _ _ _).trans (KeepsOthers.drew _), NO2.out⟩
  case done =>
    rintro D xs W hD hS ⟨⟨hp, hba⟩, hb⟩ hK
    rw [hS, upto_length] at hba
    have B12 := Lib.hid (up B9.out hb B9.out.size)
    have KT : Hid (∀ ws, Below W.heap.size W ws → ws.cell? ⟨w.heap.size, 0, none⟩ = some (.int .i64 x) ∧ ws.cell? ⟨w.heap.size, 1, none⟩ = some (.int .i64 y) ∧ ws.cell? ⟨w.heap.size, 2, none⟩ = some (.int .i64 u) ∧ ws.cell? ⟨w.heap.size, 3, none⟩ = some (.int .i64 z) ∧ ws.cell? ⟨w9.heap.size, 0, none⟩ = some (.int .i64 N)) := Lib.hid (fun ws h => by
      have h2 := up B12.out h B12.out.size
      exact ⟨(KX.out _ h2).cell 0, (KX.out _ h2).cell 1, (KX.out _ h2).cell 2, (KX.out _ h2).cell 3, (hba.below h hba.lt).cell 0⟩)
    have KK := Lib.hid hK
    have hw := HW.out
    clear hp hba hb hK hS KS ZW ZX ZY ZZ
    go_wp2
    refine wp_region_held_drew (S := (fun ws => ws.cell? ⟨w.heap.size, 0, none⟩ = some (.int .i64 x) ∧ ws.cell? ⟨w.heap.size, 1, none⟩ = some (.int .i64 y) ∧ ws.cell? ⟨w.heap.size, 2, none⟩ = some (.int .i64 u) ∧ ws.cell? ⟨w.heap.size, 3, none⟩ = some (.int .i64 z) ∧ ws.cell? ⟨w9.heap.size, 0, none⟩ = some (.int .i64 N))) (by kernel_rfl) (KT.out _ (Below.refl _ _).drew) (fun hHeld => ?_)
    refine wpAnyH_take (i := 0) (v := ?_) rfl (by kernel_rfl) (by kernel_rfl) (by kernel_rfl) (fun _ _ _ h => h) (Or.inl ⟨by rfl, ?_⟩) (by assumption) ?_
    rotate_left
    · (intro w hSw; (try dsimp only at hSw); first | (go_simp; done) | (go_simp; with_reducible rfl))
    simp only [Act.put, List.getElem_toArray, List.getElem_cons_zero, List.getElem_cons_succ, List.setIfInBounds_toArray, List.set_cons_zero, List.set_cons_succ]
    refine wpAnyH_take (i := 1) (v := ?_) rfl (by kernel_rfl) (by kernel_rfl) (by kernel_rfl) (fun _ _ _ h => h) (Or.inl ⟨by rfl, ?_⟩) (by assumption) ?_
    rotate_left
    · (intro w hSw; (try dsimp only at hSw); first | (go_simp; done) | (go_simp; with_reducible rfl))
    simp only [Act.put, List.getElem_toArray, List.getElem_cons_zero, List.getElem_cons_succ, List.setIfInBounds_toArray, List.set_cons_zero, List.set_cons_succ]
    refine wpAnyH_take (i := 2) (v := ?_) rfl (by kernel_rfl) (by kernel_rfl) (by kernel_rfl) (fun _ _ _ h => h) (Or.inl ⟨by rfl, ?_⟩) (by assumption) ?_
    rotate_left
    · (intro w hSw; (try dsimp only at hSw); first | (go_simp; done) | (go_simp; with_reducible rfl))
    simp only [Act.put, List.getElem_toArray, List.getElem_cons_zero, List.getElem_cons_succ, List.setIfInBounds_toArray, List.set_cons_zero, List.set_cons_succ]
    refine wpAnyH_take (i := 3) (v := ?_) rfl (by kernel_rfl) (by kernel_rfl) (by kernel_rfl) (fun _ _ _ h => h) (Or.inl ⟨by rfl, ?_⟩) (by assumption) ?_
    rotate_left
    · (intro w hSw; (try dsimp only at hSw); first | (go_simp; done) | (go_simp; with_reducible rfl))
    simp only [Act.put, List.getElem_toArray, List.getElem_cons_zero, List.getElem_cons_succ, List.setIfInBounds_toArray, List.set_cons_zero, List.set_cons_succ]
    refine wpAnyH_take (i := 4) (v := ?_) rfl (by kernel_rfl) (by kernel_rfl) (by kernel_rfl) (fun _ _ _ h => h) (Or.inl ⟨by rfl, ?_⟩) (by assumption) ?_
    rotate_left
    · (intro w hSw; (try dsimp only at hSw); first | (go_simp; done) | (go_simp; with_reducible rfl))
    simp only [Act.put, List.getElem_toArray, List.getElem_cons_zero, List.getElem_cons_succ, List.setIfInBounds_toArray, List.set_cons_zero, List.set_cons_succ]
    refine wpAnyH_take (i := 5) (v := ?_) rfl (by kernel_rfl) (by kernel_rfl) (by kernel_rfl) (fun _ _ _ h => h) (Or.inl ⟨by rfl, ?_⟩) (by assumption) ?_
    rotate_left
    · (intro w hSw; (try dsimp only at hSw); first | (go_simp; done) | (go_simp; with_reducible rfl))
    simp only [Act.put, List.getElem_toArray, List.getElem_cons_zero, List.getElem_cons_succ, List.setIfInBounds_toArray, List.set_cons_zero, List.set_cons_succ]
    refine wpAnyH_take (i := 6) (v := ?_) rfl (by kernel_rfl) (by kernel_rfl) (by kernel_rfl) (fun _ _ _ h => h) (Or.inl ⟨by rfl, ?_⟩) (by assumption) ?_
    rotate_left
    · (intro w hSw; (try dsimp only at hSw); first | (go_simp; done) | (go_simp; with_reducible rfl))
    simp only [Act.put, List.getElem_toArray, List.getElem_cons_zero, List.getElem_cons_succ, List.setIfInBounds_toArray, List.set_cons_zero, List.set_cons_succ]
    refine wpAnyH_take (i := 7) (v := ?_) rfl (by kernel_rfl) (by kernel_rfl) (by kernel_rfl) (fun _ _ _ h => h) (Or.inl ⟨by rfl, ?_⟩) (by assumption) ?_
    rotate_left
    · (intro w hSw; (try dsimp only at hSw); first | (go_simp; done) | (go_simp; with_reducible rfl))
    simp only [Act.put, List.getElem_toArray, List.getElem_cons_zero, List.getElem_cons_succ, List.setIfInBounds_toArray, List.set_cons_zero, List.set_cons_succ]
    refine wpAnyH_take (i := 8) (v := ?_) rfl (by kernel_rfl) (by kernel_rfl) (by kernel_rfl) (fun _ _ _ h => h) (Or.inl ⟨by rfl, ?_⟩) (by assumption) ?_
    rotate_left
    · (intro w hSw; (try dsimp only at hSw); first | (go_simp; done) | (go_simp; with_reducible rfl))
    simp only [Act.put, List.getElem_toArray, List.getElem_cons_zero, List.getElem_cons_succ, List.setIfInBounds_toArray, List.set_cons_zero, List.set_cons_succ]
    refine wpAnyH_take (i := 10) (v := ?_) rfl (by kernel_rfl) (by kernel_rfl) (by kernel_rfl) (fun _ _ _ h => h) (Or.inl ⟨by rfl, ?_⟩) (by assumption) ?_
    rotate_left
    · (intro w hSw; (try dsimp only at hSw); first | (go_simp; done) | (go_simp; with_reducible rfl))
    simp only [Act.put, List.getElem_toArray, List.getElem_cons_zero, List.getElem_cons_succ, List.setIfInBounds_toArray, List.set_cons_zero, List.set_cons_succ]
    refine wpAnyH_ready (rs := [9]) (by kernel_rfl) (by simp) ?_
    refine AllReadyH.cons rfl (fun K hK => ?_) AllReadyH.nil
    go_simp
    go_wp2_with (go_at_call 12; refine (AR.out _).mono ?_; rintro e w13 ⟨rfl, hb13⟩)
    have B13 := Lib.hid (up (Below.refl W.heap.size W).drew hb13 (Below.refl W.heap.size W).drew.size)
    refine hK.out _ _ (KT.out _ B13.out) (fun hH1 => ?_)
    clear hK K hHeld hb13
    refine wpAnyH_take (i := 11) (v := ?_) rfl (by kernel_rfl) (by kernel_rfl) (by kernel_rfl) (fun _ _ _ h => h) (Or.inl ⟨by rfl, ?_⟩) (by assumption) ?_
    rotate_left
    · (intro w hSw; (try dsimp only at hSw); first | (go_simp; done) | (go_simp; with_reducible rfl))
    simp only [Act.put, List.getElem_toArray, List.getElem_cons_zero, List.getElem_cons_succ, List.setIfInBounds_toArray, List.set_cons_zero, List.set_cons_succ]
    refine wpAnyH_take (i := 12) (v := ?_) rfl (by kernel_rfl) (by kernel_rfl) (by kernel_rfl) (fun _ _ _ h => h) (Or.inl ⟨by rfl, ?_⟩) (by assumption) ?_
    rotate_left
    · (intro w hSw; (try dsimp only at hSw); first | (go_simp; done) | (go_simp; with_reducible rfl))
    simp only [Act.put, List.getElem_toArray, List.getElem_cons_zero, List.getElem_cons_succ, List.setIfInBounds_toArray, List.set_cons_zero, List.set_cons_succ]
    refine wpAnyH_take (i := 13) (v := ?_) rfl (by kernel_rfl) (by kernel_rfl) (by kernel_rfl) (fun _ _ _ h => h) (Or.inl ⟨by rfl, ?_⟩) (by assumption) ?_
    rotate_left
    · (intro w hSw; (try dsimp only at hSw); first | (go_simp; done) | (go_simp; with_reducible rfl))
    simp only [Act.put, List.getElem_toArray, List.getElem_cons_zero, List.getElem_cons_succ, List.setIfInBounds_toArray, List.set_cons_zero, List.set_cons_succ]
    refine wpAnyH_take (i := 14) (v := ?_) rfl (by kernel_rfl) (by kernel_rfl) (by kernel_rfl) (fun _ _ _ h => h) (Or.inl ⟨by rfl, ?_⟩) (by assumption) ?_
    rotate_left
    · (intro w hSw; (try dsimp only at hSw); first | (go_simp; done) | (go_simp; with_reducible rfl))
    simp only [Act.put, List.getElem_toArray, List.getElem_cons_zero, List.getElem_cons_succ, List.setIfInBounds_toArray, List.set_cons_zero, List.set_cons_succ]
    refine wpAnyH_ready (rs := [15]) (by kernel_rfl) (by simp) ?_
    refine AllReadyH.cons rfl (fun K hK => ?_) AllReadyH.nil
    go_simp
    go_wp2_with (go_at_call 17; refine (FI.out _).mono ?_; rintro e w14 ⟨rfl, hb14⟩)
    have B14 := Lib.hid (up B13.out hb14 B13.out.size)
    refine hK.out _ _ (KT.out _ B14.out) (fun hH2 => ?_)
    clear hK K hH1 hb14
    refine wpAnyH_take (i := 16) (v := ?_) rfl (by kernel_rfl) (by kernel_rfl) (by kernel_rfl) (fun _ _ _ h => h) (Or.inl ⟨by rfl, ?_⟩) (by assumption) ?_
    rotate_left
    · (intro w hSw; (try dsimp only at hSw); first | (go_simp; done) | (go_simp; with_reducible rfl))
    simp only [Act.put, List.getElem_toArray, List.getElem_cons_zero, List.getElem_cons_succ, List.setIfInBounds_toArray, List.set_cons_zero, List.set_cons_succ]
    refine wpAnyH_take (i := 17) (v := ?_) rfl (by kernel_rfl) (by kernel_rfl) (by kernel_rfl) (fun _ _ _ h => h) (Or.inl ⟨by rfl, ?_⟩) (by assumption) ?_
    rotate_left
    · (intro w hSw; (try dsimp only at hSw); first | (go_simp; done) | (go_simp; with_reducible rfl))
    simp only [Act.put, List.getElem_toArray, List.getElem_cons_zero, List.getElem_cons_succ, List.setIfInBounds_toArray, List.set_cons_zero, List.set_cons_succ]
    refine wpAnyH_ready (rs := [18]) (by kernel_rfl) (by simp) ?_
    refine AllReadyH.cons rfl (fun K hK => ?_) AllReadyH.nil
    go_simp
    go_wp2_with (go_at_call 14; refine (AW.out _).mono ?_; rintro e w15 ⟨rfl, hb15⟩)
    have B15 := Lib.hid (up B14.out hb15 B14.out.size)
    refine hK.out _ _ (KT.out _ B15.out) (fun hH3 => ?_)
    clear hK K hH2 hb15
    refine wpAnyH_take (i := 19) (v := ?_) rfl (by kernel_rfl) (by kernel_rfl) (by kernel_rfl) (fun _ _ _ h => h) (Or.inl ⟨by rfl, ?_⟩) (by assumption) ?_
    rotate_left
    · (intro w hSw; (try dsimp only at hSw); first | (go_simp; done) | (go_simp; with_reducible rfl))
    simp only [Act.put, List.getElem_toArray, List.getElem_cons_zero, List.getElem_cons_succ, List.setIfInBounds_toArray, List.set_cons_zero, List.set_cons_succ]
    have BZ := Lib.hid (up B12.out B15.out B12.out.size)
    have z9 := KY.out _ BZ.out
    have d0 := z9.cell 0
    have f0 := z9.free 0
    have HP := Lib.hid (z9.put 0 (.bool true))
    have HQ := Lib.hid ((up H2.out BZ.out H2.out.size).setCell (p := ⟨w.heap.size + 1, 0, none⟩) (by show w.heap.size ≤ w.heap.size + 1; omega) (.bool true))
    have g0 := HP.out.cell 0
    have X9 := Lib.hid ((KX.out _ BZ.out).far (p := ⟨w.heap.size + 1, 0, none⟩) (show w.heap.size ≠ w.heap.size + 1 by omega) (.bool true))
    have hDlt : D < W.heap.size := (Array.getElem?_eq_some_iff.1 KK.out).1
    have KD := Lib.hid ((KeepsOthers.setCell w15 ⟨w.heap.size + 1, 0, none⟩ (.bool true)).same D _ ((B15.out.block D hDlt).trans KK.out) rfl)
    have A9 := Lib.hid ((KT.out _ B15.out).2.2.2.2)
    have Y9 := Lib.hid ((World.cell?_setCell_far w15 ⟨w.heap.size + 1, 0, none⟩ ⟨w9.heap.size, 0, none⟩ (.bool true) (by show w.heap.size + 1 ≠ w9.heap.size; have := Z9.out; omega)).trans A9.out)
    clear z9
    refine wpAnyH_ready (rs := [20]) (by kernel_rfl) (by simp) ?_
    refine AllReadyH.cons rfl (fun K hK => ?_) AllReadyH.nil
    go_simp
    refine hK.out _ _ ⟨X9.out.cell 0, X9.out.cell 1, X9.out.cell 2, X9.out.cell 3, Y9.out⟩ (fun hH4 => ?_)
    clear hK K hH3
    refine wpAnyH_done (by kernel_rfl) ?_ _
    clear hH4 d0 f0
    go_wp2_with fail
    refine ⟨by simp, .inl ⟨_, _, rfl, run_takeDeferred KD.out, ?_⟩⟩
    have hc5 := cell_kept g0 (grownBy_putObj' _ D (.deferred none)) (fun r e => by cases e; exact ⟨_, KD.out, rfl⟩)
    refine ⟨.bool true, ?_, rfl, HQ.out.trans (belowK_b (w := w) (Nat.le_refl _) _ D _ _ (by have := B11.out.size; have := Z2.out; have := H2.out.size; omega) KD.out rfl rfl)⟩
    simp [results, Try.f3, go_sem, hc5]
  case stop =>
    rintro D c pre W hD ⟨k2, hk2, rfl⟩ h hK
    rw [upto_length] at h
    exact absurd rfl h
end Go.Proofs.Ytognbljpmhhbkaa.rectTiles
