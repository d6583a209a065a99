/-
  ThingPlays (P21.1, P21.2): whatever calls are handed in, the law answers true: things answer as the document's list does, each is at its place, once.
  Conditions: none.
-/
import Derived.Test.YtckdfdnhoionnaaTgS
namespace Go.Proofs.Ytckdfdnhoionnaa.thingPlays
open Go.ChangeShapes Go.WideShapes Go.ChangeAt Go.RowKit
open base (ret_bool ret_int made up Blk Only)
open rk mk il nm tg
set_option linter.unusedVariables false
set_option linter.unusedSimpArgs false

set_option maxHeartbeats 2000000 in
theorem walk_no (w : World) (A : Option Addr) (c : Nat) (D : List OpR) (hA : Lay EO w A D) (hD : ∀ o ∈ D, o.Ok) (hl : D.length ≤ 9223372036854775807) (hs : smallB D 80 = false) :
    Calls Try.prog 3 #[.slice A D.length c] w (ClP true w) := by
  have N := Lib.hid (new_any w)
  have SM := Lib.hid (fun ws (h : Below w.heap.size w ws) => small_any A c D 80 ws (hA.below h) hD hl)
  rw [hs] at SM
  have AW := Lib.hid (fun ws => awake_any ws)
  clear hA hD
  go_enter Try.func3, Try.ntmps3
  go_wp2_with fail
  refine N.out.mono ?_
  rintro e w1 ⟨rfl, -, hb1⟩
  have B1 := Lib.hid hb1
  clear hb1
  go_wp2_with fail
  refine (SM.out _ B1.out).mono ?_
  rintro e w2 ⟨rfl, hb2⟩
  have B2 := Lib.hid (up B1.out hb2 B1.out.size)
  clear hb2
  go_wp2_with fail
  refine (AW.out _).mono ?_
  rintro e w3 ⟨rfl, hb3⟩
  have B3 := Lib.hid (up B2.out hb3 B2.out.size)
  clear hb3
  go_wp2_with fail
  go_ret
  exact ⟨rfl, B3.out⟩

set_option maxRecDepth 100000 in
set_option maxHeartbeats 8000000 in
theorem walk_yes (w : World) (A : Option Addr) (c : Nat) (D : List OpR) (hA : Lay EO w A D) (hD : ∀ o ∈ D, o.Ok) (hs : smallB D 80 = true) :
    Calls Try.prog 3 #[.slice A D.length c] w (ClP true w) := by
  have hl := small_len hs
  have N := Lib.hid (new_any w)
  have SM := Lib.hid (fun ws (h : Below w.heap.size w ws) => small_any A c D 80 ws (hA.below h) hD (by omega))
  rw [hs] at SM
  have AW := Lib.hid (fun ws => awake_any ws)
  have HA := Lib.hid hA
  have HD := Lib.hid hD
  clear hA hD hs
  go_enter Try.func3, Try.ntmps3
  go_wp2_with fail
  refine N.out.mono ?_
  rintro e w1 ⟨rfl, ht1, hb1⟩
  have B1 := Lib.hid hb1
  have T1 := Lib.hid ht1
  clear hb1 ht1 N
  go_wp2_with fail
  refine (SM.out _ B1.out).mono ?_
  rintro e w2 ⟨rfl, hb2⟩
  have hmx := made w2 (.cells #[.slice none 0 0, .int .i64 1] 29)
  have B2 := up B1.out hb2 B1.out.size
  have BX3 := Lib.hid (Blk.new w2 29 #[.slice none 0 0, .int .i64 1])
  have B3 := Lib.hid (up B2 hmx B2.size)
  have T3 := Lib.hid ((T1.out.below hb2).below hmx)
  have LX := Lib.hid (show w.heap.size + 2 ≤ w2.heap.size from by have := hb2.size; have := T1.out.lt; omega)
  obtain ⟨xb, hxb⟩ : ∃ xb, xb = w2.heap.size := ⟨_, rfl⟩
  clear hb2 hmx B2 SM B1 T1
  go_wp2_with fail
  generalize w2.alloc (.cells #[.slice none 0 0, .int .i64 1] 29) = w3 at *
  rw [← hxb] at BX3 LX
  rw [← hxb]
  clear hxb
  go_loopw [30] (fun i wr => ∃ (k : Nat) (W : World) (L : List Th) (nx : Int) (Ax : Option Addr) (cx : Nat), W = wr ∧ k ≤ D.length ∧ i = .int .i64 k ∧ Blk wr xb 29 #[.slice Ax L.length cx, .int .i64 nx] ∧ TAt wr w.heap.size (w.heap.size + 1) w.heap.size L nx (2 * k) ∧ rk.Own E6 wr w.heap.size 43 (.slice Ax L.length cx) L ∧ Below w.heap.size w wr ∧ L.length ≤ k ∧ nx ≤ k + 1 ∧ Gd (L, nx)) (fun i _ => D.length - (intOf i).toNat)
  case atStart => exact ⟨0, _, [], 1, none, 0, rfl, by omega, rfl, BX3.out, T3.out, rk.Own.nil _ _ _, B3.out, by simp, by omega, Gd.nil⟩
  case round =>
  obtain ⟨k, w4, L, nx, Ax, cx, rfl, hk, rfl, hbx, ht, ho, hb, hll, hnx, hgd⟩ := hrel
  have BX4 := Lib.hid hbx
  have T4 := Lib.hid ht
  have O4 := Lib.hid ho
  have B4 := Lib.hid hb
  have G4 := Lib.hid hgd
  have x0 := hbx.cell 0
  have x1 := hbx.cell 1
  clear BX3 T3 B3
  by_cases hkl : k < D.length
  · obtain ⟨bb, off, rfl, e0, e1, e2, e3, e4, e5, e6⟩ := lay7 (HA.out.below hb) hkl
    have OK := Lib.hid (HD.out _ (List.getElem_mem hkl))
    generalize D[k] = d at *
    have SZ := Lib.hid (step_size (L, nx) d)
    have GS := Lib.hid (G4.out.step d OK.out (by omega))
    have ST := Lib.hid (fun ws (h1 : TAt ws w.heap.size (w.heap.size + 1) w.heap.size L nx (2 * k)) (h2 : rk.Own E6 ws w.heap.size 43 (.slice Ax L.length cx) L) (h3 : w.heap.size ≤ ws.heap.size) => step_any Ax cx d OK.out ws h1 h2 G4.out (by omega) (by omega) h3)
    have WP := Lib.hid OK.out.wp
    generalize stepS (L, nx) d = r at *
    obtain ⟨L2, n2⟩ := r
    clear hbx ht ho hb hgd
    obtain ⟨d0, d1, d2, d3, d4, d5, d6⟩ := d
    dsimp only [OpR.pc] at e0 e1 e2 e3 e4 e5 e6 SZ GS ST WP
    have hm5 := made w4 (.cells #[.int .i64 d0, .int .i64 d1, .int .i64 d2, .string d3, .int .i64 d4, .int .i64 d5, .int .i64 d6] 33)
    have bo5 : Blk (w4.alloc (.cells #[.int .i64 d0, .int .i64 d1, .int .i64 d2, .string d3, .int .i64 d4, .int .i64 d5, .int .i64 d6] 33)) w4.heap.size 33 #[.int .i64 d0, .int .i64 d1, .int .i64 d2, .string d3, .int .i64 d4, .int .i64 d5, .int .i64 d6] := Blk.new _ _ _
    have BO5 := Lib.hid bo5
    have BX5 := Lib.hid (BX4.out.below hm5 BX4.out.lt)
    have T5 := Lib.hid (T4.out.below hm5)
    have O5 := Lib.hid (O4.out.below hm5)
    have B5 := Lib.hid (up B4.out hm5 B4.out.size)
    have LT := Lib.hid BX4.out.lt
    have o0 := bo5.cell 0
    have o1 := bo5.cell 1
    have o2 := bo5.cell 2
    have o3 := bo5.cell 3
    have o4 := bo5.cell 4
    have o5 := bo5.cell 5
    have o6 := bo5.cell 6
    have x0 := BX5.out.cell 0
    have x1 := BX5.out.cell 1
    clear hm5 bo5
    go_wp2_with fail
    generalize w4.alloc (.cells #[.int .i64 d0, .int .i64 d1, .int .i64 d2, .string d3, .int .i64 d4, .int .i64 d5, .int .i64 d6] 33) = w5 at *
    refine (ST.out _ T5.out O5.out B5.out.size).mono ?_
    rintro e w6 ⟨v6, rfl, ho6, ht6, hc6⟩
    obtain ⟨A6, c6, rfl, -⟩ := ho6.open_
    have hsz := SZ.out
    try dsimp only at hsz
    have BO6 := hc6.blk BO5.out (by rfl)
    have BX6 := hc6.blk BX5.out (by rfl)
    have B6 := B5.out.trans (hc6.to B5.out.size)
    have S7 : Only (fun j => j = xb) w6 ((w6.setCell ⟨xb, 0, none⟩ (.slice A6 L2.length c6)).setCell ⟨xb, 1, none⟩ (.int .i64 n2)) := ((Only.refl (fun j => j = xb) w6).setCell (p := ⟨xb, 0, none⟩) (.inl rfl) _).setCell (p := ⟨xb, 1, none⟩) (.inl rfl) _
    have BO7 := Lib.hid (BO6.only S7 (by have := LT.out; omega))
    have BX7 := Lib.hid (blk2 BX6 (.slice A6 L2.length c6) (.int .i64 n2))
    have O7 := Lib.hid (own2 ho6 BX6 (by decide) (.slice A6 L2.length c6) (.int .i64 n2))
    have T7 := Lib.hid (ht6.ch BX6 (by decide) (by decide) (by decide) (.slice A6 L2.length c6) (.int .i64 n2))
    have B7 := Lib.hid (below2 B6 (r := xb) (by have := LX.out; omega) (.slice A6 L2.length c6) (.int .i64 n2))
    have r0 := BX6.cell 0
    have r1 := BX6.cell 1
    have f0 := BX6.free 0
    have f1 := BX6.free 1
    clear ho6 ht6 hc6 BO6 BX6 B6 S7 e0 e1 e2 e3 e4 e5 e6 o0 o1 o2 o3 o4 o5 o6 x0 x1 ST BX4 T4 O4 B4 BX5 T5 O5 B5 BO5
    go_wp2_with fail
    generalize (w6.setCell ⟨xb, 0, none⟩ (.slice A6 L2.length c6)).setCell ⟨xb, 1, none⟩ (.int .i64 n2) = w7 at *
    clear r0 r1 f0 f1
    have KX := Lib.hid (fun ws (h : Below w7.heap.size w7 ws) => (show ws.cell? ⟨xb, 0, none⟩ = some (.slice A6 L2.length c6) ∧ ws.cell? ⟨xb, 1, none⟩ = some (.int .i64 n2) ∧ ws.cell? ⟨w4.heap.size, 4, none⟩ = some (.int .i64 d4) ∧ ws.cell? ⟨w4.heap.size, 5, none⟩ = some (.int .i64 d5) ∧ ws.cell? ⟨w4.heap.size, 6, none⟩ = some (.int .i64 d6) from
      ⟨(BX7.out.below h BX7.out.lt).cell 0, (BX7.out.below h BX7.out.lt).cell 1, (BO7.out.below h BO7.out.lt).cell 4, (BO7.out.below h BO7.out.lt).cell 5, (BO7.out.below h BO7.out.lt).cell 6⟩))
    have SA := Lib.hid (fun ws (h : Below w7.heap.size w7 ws) => same_any A6 c6 (T7.out.below h) (own_lay (O7.out.below h)) (by omega))
    have IA := Lib.hid (fun ws (h : Below w7.heap.size w7 ws) => in_any (T7.out.below h) WP.out (by omega))
    have RA := Lib.hid (fun ws (h : Below w7.heap.size w7 ws) => rin_any A6 c6 L2 n2 ⟨d4, d5, d6⟩ ws (own_lay (O7.out.below h)) (by omega))
    have JL := Lib.hid (Nat.le_trans (ids_len L2 ⟨d4, d5, d6⟩) (show L2.length ≤ 100000 by omega))
    generalize ids L2 ⟨d4, d5, d6⟩ = js at *
    have BV := Lib.hid (Below.refl w7.heap.size w7).drew
    try dsimp only [pv] at IA RA
    refine wp_region_held_drew (S := fun ws => ws.cell? ⟨xb, 0, none⟩ = some (.slice A6 L2.length c6) ∧ ws.cell? ⟨xb, 1, none⟩ = some (.int .i64 n2) ∧ ws.cell? ⟨w4.heap.size, 4, none⟩ = some (.int .i64 d4) ∧ ws.cell? ⟨w4.heap.size, 5, none⟩ = some (.int .i64 d5) ∧ ws.cell? ⟨w4.heap.size, 6, none⟩ = some (.int .i64 d6)) (by kernel_rfl) (KX.out _ BV.out) (fun hHeld => ?_)
    refine wpAnyH_take (i := 0) (v := ?_) rfl (by kernel_rfl) (by kernel_rfl) (by kernel_rfl) (fun _ _ _ h => h) (Or.inl ⟨by rfl, ?_⟩) (by assumption) ?_
    rotate_left
    · (intro w hSw; (try dsimp only at hSw); first | (go_simp; done) | (go_simp; with_reducible rfl))
    simp only [Act.put, List.getElem_toArray, List.getElem_cons_zero, List.getElem_cons_succ, List.setIfInBounds_toArray, List.set_cons_zero, List.set_cons_succ]
    refine wpAnyH_take (i := 1) (v := ?_) rfl (by kernel_rfl) (by kernel_rfl) (by kernel_rfl) (fun _ _ _ h => h) (Or.inl ⟨by rfl, ?_⟩) (by assumption) ?_
    rotate_left
    · (intro w hSw; (try dsimp only at hSw); first | (go_simp; done) | (go_simp; with_reducible rfl))
    simp only [Act.put, List.getElem_toArray, List.getElem_cons_zero, List.getElem_cons_succ, List.setIfInBounds_toArray, List.set_cons_zero, List.set_cons_succ]
    refine wpAnyH_take (i := 2) (v := ?_) rfl (by kernel_rfl) (by kernel_rfl) (by kernel_rfl) (fun _ _ _ h => h) (Or.inl ⟨by rfl, ?_⟩) (by assumption) ?_
    rotate_left
    · (intro w hSw; (try dsimp only at hSw); first | (go_simp; done) | (go_simp; with_reducible rfl))
    simp only [Act.put, List.getElem_toArray, List.getElem_cons_zero, List.getElem_cons_succ, List.setIfInBounds_toArray, List.set_cons_zero, List.set_cons_succ]
    refine wpAnyH_take (i := 3) (v := ?_) rfl (by kernel_rfl) (by kernel_rfl) (by kernel_rfl) (fun _ _ _ h => h) (Or.inl ⟨by rfl, ?_⟩) (by assumption) ?_
    rotate_left
    · (intro w hSw; (try dsimp only at hSw); first | (go_simp; done) | (go_simp; with_reducible rfl))
    simp only [Act.put, List.getElem_toArray, List.getElem_cons_zero, List.getElem_cons_succ, List.setIfInBounds_toArray, List.set_cons_zero, List.set_cons_succ]
    refine wpAnyH_take (i := 4) (v := ?_) rfl (by kernel_rfl) (by kernel_rfl) (by kernel_rfl) (fun _ _ _ h => h) (Or.inl ⟨by rfl, ?_⟩) (by assumption) ?_
    rotate_left
    · (intro w hSw; (try dsimp only at hSw); first | (go_simp; done) | (go_simp; with_reducible rfl))
    simp only [Act.put, List.getElem_toArray, List.getElem_cons_zero, List.getElem_cons_succ, List.setIfInBounds_toArray, List.set_cons_zero, List.set_cons_succ]
    refine wpAnyH_ready (rs := [5]) (by kernel_rfl) (by simp) ?_
    refine AllReadyH.cons rfl (fun K hK => ?_) AllReadyH.nil
    go_simp
    go_wp2_with (go_at_call 12; refine (SA.out _ BV.out).mono ?_; rintro e w8 ⟨rfl, hb8⟩)
    have B8 := Lib.hid (up BV.out hb8 BV.out.size)
    refine hK.out _ _ (KX.out _ B8.out) (fun hH1 => ?_)
    clear hK K hHeld hb8
    refine wpAnyH_take (i := 6) (v := ?_) rfl (by kernel_rfl) (by kernel_rfl) (by kernel_rfl) (fun _ _ _ h => h) (Or.inl ⟨by rfl, ?_⟩) (by assumption) ?_
    rotate_left
    · (intro w hSw; (try dsimp only at hSw); first | (go_simp; done) | (go_simp; with_reducible rfl))
    simp only [Act.put, List.getElem_toArray, List.getElem_cons_zero, List.getElem_cons_succ, List.setIfInBounds_toArray, List.set_cons_zero, List.set_cons_succ]
    refine wpAnyH_take (i := 7) (v := ?_) rfl (by kernel_rfl) (by kernel_rfl) (by kernel_rfl) (fun _ _ _ h => h) (Or.inl ⟨by rfl, ?_⟩) (by assumption) ?_
    rotate_left
    · (intro w hSw; (try dsimp only at hSw); first | (go_simp; done) | (go_simp; with_reducible rfl))
    simp only [Act.put, List.getElem_toArray, List.getElem_cons_zero, List.getElem_cons_succ, List.setIfInBounds_toArray, List.set_cons_zero, List.set_cons_succ]
    refine wpAnyH_take (i := 8) (v := ?_) rfl (by kernel_rfl) (by kernel_rfl) (by kernel_rfl) (fun _ _ _ h => h) (Or.inl ⟨by rfl, ?_⟩) (by assumption) ?_
    rotate_left
    · (intro w hSw; (try dsimp only at hSw); first | (go_simp; done) | (go_simp; with_reducible rfl))
    simp only [Act.put, List.getElem_toArray, List.getElem_cons_zero, List.getElem_cons_succ, List.setIfInBounds_toArray, List.set_cons_zero, List.set_cons_succ]
    refine wpAnyH_take (i := 9) (v := ?_) rfl (by kernel_rfl) (by kernel_rfl) (by kernel_rfl) (fun _ _ _ h => h) (Or.inl ⟨by rfl, ?_⟩) (by assumption) ?_
    rotate_left
    · (intro w hSw; (try dsimp only at hSw); first | (go_simp; done) | (go_simp; with_reducible rfl))
    simp only [Act.put, List.getElem_toArray, List.getElem_cons_zero, List.getElem_cons_succ, List.setIfInBounds_toArray, List.set_cons_zero, List.set_cons_succ]
    refine wpAnyH_take (i := 10) (v := ?_) rfl (by kernel_rfl) (by kernel_rfl) (by kernel_rfl) (fun _ _ _ h => h) (Or.inl ⟨by rfl, ?_⟩) (by assumption) ?_
    rotate_left
    · (intro w hSw; (try dsimp only at hSw); first | (go_simp; done) | (go_simp; with_reducible rfl))
    simp only [Act.put, List.getElem_toArray, List.getElem_cons_zero, List.getElem_cons_succ, List.setIfInBounds_toArray, List.set_cons_zero, List.set_cons_succ]
    refine wpAnyH_take (i := 11) (v := ?_) rfl (by kernel_rfl) (by kernel_rfl) (by kernel_rfl) (fun _ _ _ h => h) (Or.inl ⟨by rfl, ?_⟩) (by assumption) ?_
    rotate_left
    · (intro w hSw; (try dsimp only at hSw); first | (go_simp; done) | (go_simp; with_reducible rfl))
    simp only [Act.put, List.getElem_toArray, List.getElem_cons_zero, List.getElem_cons_succ, List.setIfInBounds_toArray, List.set_cons_zero, List.set_cons_succ]
    refine wpAnyH_take (i := 13) (v := ?_) rfl (by kernel_rfl) (by kernel_rfl) (by kernel_rfl) (fun _ _ _ h => h) (Or.inl ⟨by rfl, ?_⟩) (by assumption) ?_
    rotate_left
    · (intro w hSw; (try dsimp only at hSw); first | (go_simp; done) | (go_simp; with_reducible rfl))
    simp only [Act.put, List.getElem_toArray, List.getElem_cons_zero, List.getElem_cons_succ, List.setIfInBounds_toArray, List.set_cons_zero, List.set_cons_succ]
    refine wpAnyH_take (i := 14) (v := ?_) rfl (by kernel_rfl) (by kernel_rfl) (by kernel_rfl) (fun _ _ _ h => h) (Or.inl ⟨by rfl, ?_⟩) (by assumption) ?_
    rotate_left
    · (intro w hSw; (try dsimp only at hSw); first | (go_simp; done) | (go_simp; with_reducible rfl))
    simp only [Act.put, List.getElem_toArray, List.getElem_cons_zero, List.getElem_cons_succ, List.setIfInBounds_toArray, List.set_cons_zero, List.set_cons_succ]
    refine wpAnyH_take (i := 15) (v := ?_) rfl (by kernel_rfl) (by kernel_rfl) (by kernel_rfl) (fun _ _ _ h => h) (Or.inl ⟨by rfl, ?_⟩) (by assumption) ?_
    rotate_left
    · (intro w hSw; (try dsimp only at hSw); first | (go_simp; done) | (go_simp; with_reducible rfl))
    simp only [Act.put, List.getElem_toArray, List.getElem_cons_zero, List.getElem_cons_succ, List.setIfInBounds_toArray, List.set_cons_zero, List.set_cons_succ]
    refine wpAnyH_ready (rs := [12]) (by kernel_rfl) (by simp) ?_
    refine AllReadyH.cons rfl (fun K hK => ?_) AllReadyH.nil
    go_simp
    go_wp2_with (go_at_call 14; refine (IA.out _ B8.out).mono ?_; rintro e w9 ⟨v9, rfl, ho9, hb9⟩)
    have B9 := Lib.hid (up B8.out hb9 B8.out.size)
    obtain ⟨A9, c9, rfl, l9, -⟩ := ho9.open_
    have L9 := Lib.hid l9
    refine hK.out _ _ (KX.out _ B9.out) (fun hH2 => ?_)
    clear hK K hH1 hb9 ho9 l9
    refine wpAnyH_ready (rs := [16]) (by kernel_rfl) (by simp) ?_
    refine AllReadyH.cons rfl (fun K hK => ?_) AllReadyH.nil
    go_simp
    go_wp2_with (go_at_call 15; refine (RA.out _ B9.out).mono ?_; rintro e w10 ⟨v10, rfl, ho10, hb10⟩)
    have B10 := Lib.hid (up B9.out hb10 B9.out.size)
    obtain ⟨A10, c10, rfl, l10, -⟩ := ho10.open_
    have EQ := Lib.hid (equal_any A9 A10 c9 c10 js w10 (L9.out.below hb10) l10 JL.out)
    refine hK.out _ _ (KX.out _ B10.out) (fun hH3 => ?_)
    clear hK K hH2 hb10 ho10 l10
    refine wpAnyH_ready (rs := [17]) (by kernel_rfl) (by simp) ?_
    refine AllReadyH.cons rfl (fun K hK => ?_) AllReadyH.nil
    go_simp
    go_wp2_with (go_at_call 13; refine EQ.out.mono ?_; rintro e w11 ⟨rfl, hb11⟩)
    have B11 := Lib.hid (up B10.out hb11 B10.out.size)
    refine hK.out _ _ (KX.out _ B11.out) (fun hH4 => ?_)
    clear hK K hH3 hb11
    refine wpAnyH_take (i := 18) (v := ?_) rfl (by kernel_rfl) (by kernel_rfl) (by kernel_rfl) (fun _ _ _ h => h) (Or.inl ⟨by rfl, ?_⟩) (by assumption) ?_
    rotate_left
    · (intro w hSw; (try dsimp only at hSw); first | (go_simp; done) | (go_simp; with_reducible rfl))
    simp only [Act.put, List.getElem_toArray, List.getElem_cons_zero, List.getElem_cons_succ, List.setIfInBounds_toArray, List.set_cons_zero, List.set_cons_succ]
    refine wpAnyH_take (i := 19) (v := ?_) rfl (by kernel_rfl) (by kernel_rfl) (by kernel_rfl) (fun _ _ _ h => h) (Or.inl ⟨by rfl, ?_⟩) (by assumption) ?_
    rotate_left
    · (intro w hSw; (try dsimp only at hSw); first | (go_simp; done) | (go_simp; with_reducible rfl))
    simp only [Act.put, List.getElem_toArray, List.getElem_cons_zero, List.getElem_cons_succ, List.setIfInBounds_toArray, List.set_cons_zero, List.set_cons_succ]
    refine wpAnyH_done (by kernel_rfl) ?_ _
    clear hH4 SA IA RA EQ
    go_wp2_with fail
    refine ⟨⟨k + 1, _, L2, n2, A6, c6, rfl, by omega, by go_num, BX7.out.below B11.out BX7.out.lt, (T7.out.below B11.out).mono (by omega), O7.out.below B11.out, up B7.out B11.out B7.out.size, by omega, by omega, GS.out⟩, by simp [intOf]; omega⟩
  · obtain rfl : k = D.length := by omega
    clear hbx ht ho hb hgd
    have hll' : L.length ≤ 80 := by omega
    have LW := Lib.hid (fun ws (h : Below w4.heap.size w4 ws) => (own_lay O4.out).below h)
    have IA := Lib.hid (fun ws (p : Pc) (h : Below w4.heap.size w4 ws) (hp : wp p) => in_any (T4.out.below h) hp (by omega))
    have GP := Lib.hid (fun j (hj : j < L.length) => G4.out.pl _ (List.getElem_mem hj))
    have ON := Lib.hid (fun j (hj : j < L.length) => once (G4.out.ris.ids (pc L[j])) (ids_has hj))
    have IL := Lib.hid (fun p => Nat.le_trans (ids_len L p) hll')
    go_wp2_with fail
    clear x0 x1
    go_loopw [65] (fun i wr => ∃ (j : Nat) (W : World), W = wr ∧ j ≤ L.length ∧ i = .int .i64 j ∧ Below w4.heap.size w4 wr) (fun i _ => L.length - (intOf i).toNat)
    case atStart => exact ⟨0, _, rfl, by omega, rfl, Below.refl _ _⟩
    case round =>
    obtain ⟨j, w5, rfl, hj, rfl, hb5⟩ := hrel
    have B5 := Lib.hid hb5
    by_cases hjl : j < L.length
    · obtain ⟨bb, off, rfl, e0, e1, e2, e3, e4, e5⟩ := lay6 (LW.out _ hb5) hjl
      have hm6 := made w5 (.cells #[.int .i64 L[j].id, .string L[j].nm, .int .i64 L[j].ow, .int .i64 L[j].kd, .int .i64 L[j].hs, .int .i64 L[j].sl] 43)
      have B6 := Lib.hid (up B5.out hm6 B5.out.size)
      have BY := Lib.hid (Blk.new w5 43 #[.int .i64 L[j].id, .string L[j].nm, .int .i64 L[j].ow, .int .i64 L[j].kd, .int .i64 L[j].hs, .int .i64 L[j].sl])
      have y3 := BY.out.cell 3
      have y4 := BY.out.cell 4
      have y5 := BY.out.cell 5
      have IN := Lib.hid (IA.out _ (pc L[j]) B6.out (GP.out j hjl))
      have OC := Lib.hid (ON.out j hjl)
      have JL := Lib.hid (IL.out (pc L[j]))
      generalize ids L (pc L[j]) = js at *
      clear hb5 hm6
      generalize L[j] = d at *
      obtain ⟨d0, d1, d2, d3, d4, d5⟩ := d
      dsimp only [pv, pc] at e0 e1 e2 e3 e4 e5 y3 y4 y5 IN OC BY
      go_wp2_with fail
      generalize w5.alloc (.cells #[.int .i64 d0, .string d1, .int .i64 d2, .int .i64 d3, .int .i64 d4, .int .i64 d5] 43) = w6 at *
      refine IN.out.mono ?_
      rintro e w7 ⟨v7, rfl, ho7, hb7⟩
      obtain ⟨A7, c7, rfl, l7, -⟩ := ho7.open_
      have L7 := Lib.hid l7
      have B7 := Lib.hid (up B6.out hb7 B6.out.size)
      have yy := (BY.out.below hb7 BY.out.lt).cell 0
      have hjs := JL.out
      clear ho7 hb7 l7 y3 y4 y5 e0 e1 e2 e3 e4 e5 IN
      go_wp2_with fail
      go_loop [11, 75] (fun n i => ∃ (q : Nat), q ≤ js.length ∧ i = .int .i64 q ∧ n = .int .i64 ((js.take q).countP (fun x => x == d0) : Nat)) (fun _ i => js.length - (intOf i).toNat)
      case atStart => exact ⟨0, by omega, rfl, rfl⟩
      case round =>
      obtain ⟨q, hq, rfl, rfl⟩ := hrel
      by_cases hql : q < js.length
      · obtain ⟨b3, off3, rfl, -, z0⟩ := layI L7.out hql
        have CS := Lib.hid (count_snoc js d0 hql)
        have CB := Lib.hid (show (js.take q).countP (fun x => x == d0) ≤ 100 from by have := List.countP_le_length (p := fun x => x == d0) (l := js.take q); rw [List.length_take] at this; omega)
        generalize (js.take q).countP (fun x => x == d0) = cq at *
        generalize js[q] = z at *
        have hcq := CB.out
        have wk : IntKind.i64.wrap ((cq : Int) + 1) = (cq : Int) + 1 := IntWalk.i64_in _ (by omega)
        by_cases e : z = d0
        · have eb : (z == d0) = true := by simpa using e
          rw [if_pos e] at CS
          clear e
          go_wp2_with fail
          refine ⟨⟨q + 1, by omega, by go_num, by rw [CS.out]; go_num⟩, by simp [intOf]; omega⟩
        · have eb : (z == d0) = false := by simpa using e
          rw [if_neg e] at CS
          clear e
          go_wp2_with fail
          refine ⟨⟨q + 1, by omega, by go_num, by rw [CS.out]; rfl⟩, by simp [intOf]; omega⟩
      · obtain rfl : q = js.length := by omega
        rw [List.take_length] at *
        rw [OC.out]
        go_wp2_with fail
        refine ⟨⟨j + 1, _, rfl, by omega, by go_num, B7.out⟩, by simp [intOf]; omega⟩
    · have BE := Lib.hid (up B4.out hb5 B4.out.size)
      clear hb5
      go_wp2_with fail
      refine (AW.out _).mono ?_
      rintro e w9 ⟨rfl, hb9⟩
      have BF := Lib.hid (up BE.out hb9 BE.out.size)
      clear hb9
      go_wp2_with fail
      go_ret
      exact ⟨rfl, BF.out⟩
theorem walk (w : World) (A : Option Addr) (c : Nat) (D : List OpR) (hA : Lay EO w A D) (hc : D.length ≤ c) (hm : c ≤ maxLen) (hD : ∀ o ∈ D, o.Ok) :
    Calls Try.prog 3 #[.slice A D.length c] w fun e w' => e = .returned (.bool true) ∧ Below w.heap.size w w' := by
  unfold maxLen at hm
  cases h : smallB D 80 with
  | true => exact walk_yes w A c D hA hD h
  | false => exact walk_no w A c D hA hD (by omega) h
set_option maxRecDepth 100000 in
theorem lifted (os : Os) (started : os.Started) (H : Type) (enc : TypeId × Value → H) :
    ReturnsInHanded {} Try.checked os 3 .any (Rows.thingPlaysSpec.pre6 enc Try.prog Try.f3 Rows.thingPlaysRow.domain false) (Rows.thingPlaysSpec.post enc Try.prog Try.f3 false true false false) := by
  refine returnsInHanded_of_change (C := Try.checked) base.own started (by kernel_rfl) Try.func3
    (ChangeSpec.witness6 (enc := enc) (C := Try.checked) false ⟨#[], #[.slice none 0 0], []⟩ 8 (by kernel_rfl) (by kernel_rfl) (by kernel_rfl) (by kernel_rfl)) ?_
  intro W bs args ds gs before hval0 hW _ _
  have hval : ∀ (j : Nat) t v, Try.f3.params[j]? = some t → args[j]? = some v → Value.okWide Try.prog W .any bs t v := hval0
  have hW' : DataW.Whole enc Try.prog Try.f3.params.toList Rows.thingPlaysSpec.vars false W args.toList ds gs before := hW
  obtain ⟨p, q, hA0, hV, rfl, _, _⟩ := hW
  have hA : DataW.TrodAll enc Try.prog W 0 (fun _ => true) true Try.f3.params.toList args.toList ds p := hA0
  rw [Try.params3] at hA hval
  obtain ⟨v0, vs0, d0, ds0, p0, q0, hargs, rfl, rfl, h0, r0⟩ := trodAll_cons hA
  obtain ⟨rfl, rfl, rfl⟩ := trodAll_nil r0
  obtain rfl : args = #[v0] := by cases args; simp_all
  obtain ⟨rfl, rfl⟩ := trodVars_none hV
  obtain ⟨A0, c0, D0, rfl, b0, m0, n0, o0⟩ := tg.open_ops (hval 0 22 v0 rfl rfl) h0
  clear hA0 hval0
  refine (walk W A0 c0 D0 n0 b0 m0 o0).mono fun e W' ⟨he, hb⟩ => ?_
  subst he
  exact ⟨_, rfl, base.law_post base.laid (by kernel_rfl) rfl rfl Try.underlying4 hW' rfl rfl rfl hb⟩

theorem over : Rows.thingPlaysRow.holds Try.pinned (OpenSpec.ofChange Rows.thingPlaysSpec) :=
  OpenClaim.holds_of_wide 3 Try.f3 rfl rfl rfl rfl rfl rfl rfl ⟨rfl, rfl, rfl, rfl, rfl⟩ rfl rfl rfl rfl rfl (by kernel_rfl) Try.func3 (by kernel_rfl)
    (of_decide_eq_true (by kernel_rfl)) (by unfold Func.isWrapper; first | (rw [if_pos (by decide +kernel)]; kernel_rfl) | (rw [if_neg (by decide +kernel)]; exact ⟨rfl, rfl⟩))
    (fun os started H enc _ => lifted os started H enc)

theorem proved : Rows.ThingPlaysSaid := over
#print axioms proved
end Go.Proofs.Ytckdfdnhoionnaa.thingPlays
