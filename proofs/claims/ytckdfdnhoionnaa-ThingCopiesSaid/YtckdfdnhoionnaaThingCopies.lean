/-
  ThingCopies (P21.3): whatever calls are handed in, the law answers true: what a copy is told stays the copy's own.
  Conditions: none.
-/
import Derived.Test.YtckdfdnhoionnaaTgX
namespace Go.Proofs.Ytckdfdnhoionnaa.thingCopies
open Go.ChangeShapes Go.WideShapes Go.ChangeAt Go.RowKit
open base (ret_bool ret_int made up Blk Only)
open rk mk il nm tg
set_option linter.unusedVariables false
set_option linter.unusedSimpArgs false

def iv : Value → Int | .int _ q => q | _ => 0
set_option maxHeartbeats 2000000 in
theorem walk_no (w : World) (A : Option Addr) (c : Nat) (D : List OpR) (hA : Lay EO w A D) (hD : ∀ o ∈ D, o.Ok) (A' : Option Addr) (c' : Nat) (D' : List OpR) (hA' : Lay EO w A' D') (hD' : ∀ o ∈ D', o.Ok) (hl : D.length ≤ 9223372036854775807) (hl' : D'.length ≤ 9223372036854775807) (hs : smallB D 50 = false ∨ smallB D 50 = true ∧ smallB D' 50 = false) :
    Calls Try.prog 7 #[.slice A D.length c, .slice A' D'.length c'] w (ClP true w) := by
  have N := Lib.hid (new_any w)
  have SM := Lib.hid (fun ws (h : Below w.heap.size w ws) => small_any A c D 50 ws (hA.below h) hD hl)
  have SM2 := Lib.hid (fun ws (h : Below w.heap.size w ws) => small_any A' c' D' 50 ws (hA'.below h) hD' hl')
  have AW := Lib.hid (fun ws => awake_any ws)
  clear hA hD hA' hD'
  rcases hs with hs | ⟨hs, hs'⟩
  · rw [hs] at SM
    clear hs
    go_enter Try.func7, Try.ntmps7
    go_wp2_with fail
    refine N.out.mono ?_
    rintro e w1 ⟨rfl, -, hb1⟩
    have B1 := Lib.hid hb1
    clear hb1
    go_wp2_with fail
    refine (SM.out _ B1.out).mono ?_
    rintro e w2 ⟨rfl, hb2⟩
    have B2 := Lib.hid (up B1.out hb2 B1.out.size)
    clear hb2
    go_wp2_with fail
    refine (AW.out _).mono ?_
    rintro e w3 ⟨rfl, hb3⟩
    have B3 := Lib.hid (up B2.out hb3 B2.out.size)
    clear hb3
    go_wp2_with fail
    go_ret
    exact ⟨rfl, B3.out⟩
  · rw [hs] at SM
    rw [hs'] at SM2
    clear hs hs'
    go_enter Try.func7, Try.ntmps7
    go_wp2_with fail
    refine N.out.mono ?_
    rintro e w1 ⟨rfl, -, hb1⟩
    have B1 := Lib.hid hb1
    clear hb1
    go_wp2_with fail
    refine (SM.out _ B1.out).mono ?_
    rintro e wq ⟨rfl, hbq⟩
    have BQ := Lib.hid (up B1.out hbq B1.out.size)
    clear hbq
    go_wp2_with fail
    refine (SM2.out _ BQ.out).mono ?_
    rintro e w2 ⟨rfl, hb2⟩
    have B2 := Lib.hid (up BQ.out hb2 BQ.out.size)
    clear hb2
    go_wp2_with fail
    refine (AW.out _).mono ?_
    rintro e w3 ⟨rfl, hb3⟩
    have B3 := Lib.hid (up B2.out hb3 B2.out.size)
    clear hb3
    go_wp2_with fail
    go_ret
    exact ⟨rfl, B3.out⟩
set_option maxRecDepth 100000 in
set_option maxHeartbeats 8000000 in
theorem walk_yes (w : World) (A : Option Addr) (c : Nat) (D : List OpR) (hA : Lay EO w A D) (hD : ∀ o ∈ D, o.Ok) (A' : Option Addr) (c' : Nat) (D' : List OpR) (hA' : Lay EO w A' D') (hD' : ∀ o ∈ D', o.Ok) (hs : smallB D 50 = true) (hs' : smallB D' 50 = true) :
    Calls Try.prog 7 #[.slice A D.length c, .slice A' D'.length c'] w (ClP true w) := by
  have hl := small_len hs
  have hl' := small_len hs'
  have SM2 := Lib.hid (fun ws (h : Below w.heap.size w ws) => small_any A' c' D' 50 ws (hA'.below h) hD' (by omega))
  rw [hs'] at SM2
  have HA' := Lib.hid hA'
  have HD' := Lib.hid hD'
  have N := Lib.hid (new_any w)
  have SM := Lib.hid (fun ws (h : Below w.heap.size w ws) => small_any A c D 50 ws (hA.below h) hD (by omega))
  rw [hs] at SM
  have AW := Lib.hid (fun ws => awake_any ws)
  have HA := Lib.hid hA
  have HD := Lib.hid hD
  clear hA hD hs hA' hD' hs'
  go_enter Try.func7, Try.ntmps7
  go_wp2_with fail
  refine N.out.mono ?_
  rintro e w1 ⟨rfl, ht1, hb1⟩
  have B1 := Lib.hid hb1
  have T1 := Lib.hid ht1
  clear hb1 ht1 N
  go_wp2_with fail
  refine (SM.out _ B1.out).mono ?_
  rintro e wq ⟨rfl, hbq⟩
  have BQ := Lib.hid (up B1.out hbq B1.out.size)
  have TQ := Lib.hid (T1.out.below hbq)
  clear hbq
  go_wp2_with fail
  refine (SM2.out _ BQ.out).mono ?_
  rintro e w2 ⟨rfl, hb2⟩
  have hmx := made w2 (.cells #[.slice none 0 0, .int .i64 1] 29)
  have B2 := up BQ.out hb2 BQ.out.size
  have BX3 := Lib.hid (Blk.new w2 29 #[.slice none 0 0, .int .i64 1])
  have B3 := Lib.hid (up B2 hmx B2.size)
  have T3 := Lib.hid ((TQ.out.below hb2).below hmx)
  have LX := Lib.hid (show w.heap.size + 2 ≤ w2.heap.size from by have := hb2.size; have := TQ.out.lt; omega)
  obtain ⟨xb, hxb⟩ : ∃ xb, xb = w2.heap.size := ⟨_, rfl⟩
  clear hb2 hmx B2 SM SM2 B1 T1 BQ TQ
  go_wp2_with fail
  generalize w2.alloc (.cells #[.slice none 0 0, .int .i64 1] 29) = w3 at *
  rw [← hxb] at BX3 LX
  rw [← hxb]
  clear hxb
  go_loopw [35] (fun i wr => ∃ (k : Nat) (W : World) (L : List Th) (nx : Int) (Ax : Option Addr) (cx : Nat), W = wr ∧ k ≤ D.length ∧ i = .int .i64 k ∧ Blk wr xb 29 #[.slice Ax L.length cx, .int .i64 nx] ∧ TAt wr w.heap.size (w.heap.size + 1) w.heap.size L nx (2 * k) ∧ rk.Own E6 wr w.heap.size 43 (.slice Ax L.length cx) L ∧ Below w.heap.size w wr ∧ L.length ≤ k ∧ nx ≤ k + 1 ∧ Gd (L, nx)) (fun i _ => D.length - (iv i).toNat)
  case atStart => exact ⟨0, _, [], 1, none, 0, rfl, by omega, rfl, BX3.out, T3.out, rk.Own.nil _ _ _, B3.out, by simp, by omega, Gd.nil⟩
  case round =>
  obtain ⟨k, w4, L, nx, Ax, cx, rfl, hk, rfl, hbx, ht, ho, hb, hll, hnx, hgd⟩ := hrel
  have BX4 := Lib.hid hbx
  have T4 := Lib.hid ht
  have O4 := Lib.hid ho
  have B4 := Lib.hid hb
  have G4 := Lib.hid hgd
  have x0 := hbx.cell 0
  have x1 := hbx.cell 1
  clear BX3 T3 B3
  by_cases hkl : k < D.length
  · obtain ⟨bb, off, rfl, e0, e1, e2, e3, e4, e5, e6⟩ := lay7 (HA.out.below hb) hkl
    have OK := Lib.hid (HD.out _ (List.getElem_mem hkl))
    generalize D[k] = d at *
    have SZ := Lib.hid (step_size (L, nx) d)
    have GS := Lib.hid (G4.out.step d OK.out (by omega))
    have ST := Lib.hid (fun ws (h1 : TAt ws w.heap.size (w.heap.size + 1) w.heap.size L nx (2 * k)) (h2 : rk.Own E6 ws w.heap.size 43 (.slice Ax L.length cx) L) (h3 : w.heap.size ≤ ws.heap.size) => step_any Ax cx d OK.out ws h1 h2 G4.out (by omega) (by omega) h3)
    have WP := Lib.hid OK.out.wp
    generalize stepS (L, nx) d = r at *
    obtain ⟨L2, n2⟩ := r
    clear hbx ht ho hb hgd
    obtain ⟨d0, d1, d2, d3, d4, d5, d6⟩ := d
    dsimp only [OpR.pc] at e0 e1 e2 e3 e4 e5 e6 SZ GS ST WP
    have hm5 := made w4 (.cells #[.int .i64 d0, .int .i64 d1, .int .i64 d2, .string d3, .int .i64 d4, .int .i64 d5, .int .i64 d6] 33)
    have bo5 : Blk (w4.alloc (.cells #[.int .i64 d0, .int .i64 d1, .int .i64 d2, .string d3, .int .i64 d4, .int .i64 d5, .int .i64 d6] 33)) w4.heap.size 33 #[.int .i64 d0, .int .i64 d1, .int .i64 d2, .string d3, .int .i64 d4, .int .i64 d5, .int .i64 d6] := Blk.new _ _ _
    have BO5 := Lib.hid bo5
    have BX5 := Lib.hid (BX4.out.below hm5 BX4.out.lt)
    have T5 := Lib.hid (T4.out.below hm5)
    have O5 := Lib.hid (O4.out.below hm5)
    have B5 := Lib.hid (up B4.out hm5 B4.out.size)
    have LT := Lib.hid BX4.out.lt
    have o0 := bo5.cell 0
    have o1 := bo5.cell 1
    have o2 := bo5.cell 2
    have o3 := bo5.cell 3
    have o4 := bo5.cell 4
    have o5 := bo5.cell 5
    have o6 := bo5.cell 6
    have x0 := BX5.out.cell 0
    have x1 := BX5.out.cell 1
    clear hm5 bo5
    go_wp2_with fail
    generalize w4.alloc (.cells #[.int .i64 d0, .int .i64 d1, .int .i64 d2, .string d3, .int .i64 d4, .int .i64 d5, .int .i64 d6] 33) = w5 at *
    refine (ST.out _ T5.out O5.out B5.out.size).mono ?_
    rintro e w6 ⟨v6, rfl, ho6, ht6, hc6⟩
    obtain ⟨A6, c6, rfl, -⟩ := ho6.open_
    have hsz := SZ.out
    try dsimp only at hsz
    have BO6 := hc6.blk BO5.out (by rfl)
    have BX6 := hc6.blk BX5.out (by rfl)
    have B6 := B5.out.trans (hc6.to B5.out.size)
    have S7 : Only (fun j => j = xb) w6 ((w6.setCell ⟨xb, 0, none⟩ (.slice A6 L2.length c6)).setCell ⟨xb, 1, none⟩ (.int .i64 n2)) := ((Only.refl (fun j => j = xb) w6).setCell (p := ⟨xb, 0, none⟩) (.inl rfl) _).setCell (p := ⟨xb, 1, none⟩) (.inl rfl) _
    have BO7 := Lib.hid (BO6.only S7 (by have := LT.out; omega))
    have BX7 := Lib.hid (blk2 BX6 (.slice A6 L2.length c6) (.int .i64 n2))
    have O7 := Lib.hid (own2 ho6 BX6 (by decide) (.slice A6 L2.length c6) (.int .i64 n2))
    have T7 := Lib.hid (ht6.ch BX6 (by decide) (by decide) (by decide) (.slice A6 L2.length c6) (.int .i64 n2))
    have B7 := Lib.hid (below2 B6 (r := xb) (by have := LX.out; omega) (.slice A6 L2.length c6) (.int .i64 n2))
    have r0 := BX6.cell 0
    have r1 := BX6.cell 1
    have f0 := BX6.free 0
    have f1 := BX6.free 1
    clear ho6 ht6 hc6 BO6 BX6 B6 S7 e0 e1 e2 e3 e4 e5 e6 o0 o1 o2 o3 o4 o5 o6 x0 x1 ST BX4 T4 O4 B4 BX5 T5 O5 B5 BO5
    go_wp2_with fail
    generalize (w6.setCell ⟨xb, 0, none⟩ (.slice A6 L2.length c6)).setCell ⟨xb, 1, none⟩ (.int .i64 n2) = w7 at *
    clear r0 r1 f0 f1
    refine ⟨⟨k + 1, _, L2, n2, A6, c6, rfl, by omega, by go_num, BX7.out, T7.out.mono (by omega), O7.out, B7.out, by omega, by omega, GS.out⟩, by simp [iv]; omega⟩
  · obtain rfl : k = D.length := by omega
    clear hbx ht ho hb hgd x0 x1
    have hll' : L.length ≤ 50 := by omega
    have hnx' : nx ≤ 51 := by omega
    have CP := Lib.hid (copy_any T4.out (by omega) G4.out)
    have LXB := Lib.hid BX4.out.lt
    go_wp2_with fail
    refine CP.out.mono ?_
    rintro e w5 ⟨g1, m1, rfl, ht5, hb5⟩
    have hm6 := made w5 (.cells #[.slice Ax L.length cx, .int .i64 nx] 29)
    have T6 := Lib.hid ((ht5.mono (show L.length ≤ 50 + 2 * 0 by omega)).below hm6)
    have O6 := Lib.hid ((O4.out.below hb5).below hm6)
    have BY6 := Lib.hid (Blk.new w5 29 #[.slice Ax L.length cx, .int .i64 nx])
    have B6 := Lib.hid (up hb5 hm6 hb5.size)
    have YG := Lib.hid (show w4.heap.size ≤ w5.heap.size from hb5.size)
    have x0 := (BX4.out.below hb5 BX4.out.lt).cell 0
    have x1 := (BX4.out.below hb5 BX4.out.lt).cell 1
    clear ht5 hb5 hm6 CP
    go_wp2_with fail
    clear x0 x1
    generalize w5.alloc (.cells #[.slice Ax L.length cx, .int .i64 nx] 29) = w6 at *
    generalize w5.heap.size = yb at *
    go_loopw [54] (fun i wr => ∃ (k : Nat) (W : World) (L2 : List Th) (n2 : Int) (Ay : Option Addr) (cy : Nat), W = wr ∧ k ≤ D'.length ∧ i = .int .i64 k ∧ Blk wr yb 29 #[.slice Ay L2.length cy, .int .i64 n2] ∧ TAt wr w4.heap.size g1 m1 L2 n2 (50 + 2 * k) ∧ rk.Own E6 wr w.heap.size 43 (.slice Ay L2.length cy) L2 ∧ Below w4.heap.size w4 wr ∧ L2.length ≤ 50 + k ∧ n2 ≤ 51 + k ∧ Gd (L2, n2)) (fun i _ => D'.length - (iv i).toNat)
    case atStart => exact ⟨0, _, L, nx, Ax, cx, rfl, by omega, rfl, BY6.out, T6.out, O6.out, B6.out, by omega, by omega, G4.out⟩
    case round =>
    obtain ⟨k, w7, L2, n2, Ay, cy, rfl, hk2, rfl, hby, ht7, ho7, hb7, hll2, hnx2, hg7⟩ := hrel
    have BY7 := Lib.hid hby
    have T7 := Lib.hid ht7
    have O7 := Lib.hid ho7
    have B7 := Lib.hid hb7
    have G7 := Lib.hid hg7
    have x0 := hby.cell 0
    have x1 := hby.cell 1
    clear T6 O6 BY6 B6
    by_cases hkl2 : k < D'.length
    · obtain ⟨bb, off, rfl, e0, e1, e2, e3, e4, e5, e6⟩ := lay7 (HA'.out.below (up B4.out hb7 B4.out.size)) hkl2
      have OK := Lib.hid (HD'.out _ (List.getElem_mem hkl2))
      generalize D'[k] = d at *
      have SZ := Lib.hid (step_size (L2, n2) d)
      have GS := Lib.hid (G7.out.step d OK.out (by omega))
      have ST := Lib.hid (fun ws (h1 : TAt ws w4.heap.size g1 m1 L2 n2 (50 + 2 * k)) (h2 : rk.Own E6 ws w.heap.size 43 (.slice Ay L2.length cy) L2) (h3 : w4.heap.size ≤ ws.heap.size) => stepq_any Ay cy d OK.out ws h1 h2 G7.out (by omega) (by omega) h3 (Nat.le_trans B4.out.size h3))
      have WP := Lib.hid OK.out.wp
      generalize stepS (L2, n2) d = r at *
      obtain ⟨L3, n3⟩ := r
      clear hby ht7 ho7 hb7 hg7
      obtain ⟨d0, d1, d2, d3, d4, d5, d6⟩ := d
      dsimp only [OpR.pc] at e0 e1 e2 e3 e4 e5 e6 SZ GS ST WP
      have hm8 := made w7 (.cells #[.int .i64 d0, .int .i64 d1, .int .i64 d2, .string d3, .int .i64 d4, .int .i64 d5, .int .i64 d6] 33)
      have bo8 : Blk (w7.alloc (.cells #[.int .i64 d0, .int .i64 d1, .int .i64 d2, .string d3, .int .i64 d4, .int .i64 d5, .int .i64 d6] 33)) w7.heap.size 33 #[.int .i64 d0, .int .i64 d1, .int .i64 d2, .string d3, .int .i64 d4, .int .i64 d5, .int .i64 d6] := Blk.new _ _ _
      have BO8 := Lib.hid bo8
      have BY8 := Lib.hid (BY7.out.below hm8 BY7.out.lt)
      have T8 := Lib.hid (T7.out.below hm8)
      have O8 := Lib.hid (O7.out.below hm8)
      have B8 := Lib.hid (up B7.out hm8 B7.out.size)
      have LT := Lib.hid BY7.out.lt
      have o0 := bo8.cell 0
      have o1 := bo8.cell 1
      have o2 := bo8.cell 2
      have o3 := bo8.cell 3
      have o4 := bo8.cell 4
      have o5 := bo8.cell 5
      have o6 := bo8.cell 6
      have x0 := BY8.out.cell 0
      have x1 := BY8.out.cell 1
      clear hm8 bo8
      go_wp2_with fail
      generalize w7.alloc (.cells #[.int .i64 d0, .int .i64 d1, .int .i64 d2, .string d3, .int .i64 d4, .int .i64 d5, .int .i64 d6] 33) = w8 at *
      refine (ST.out _ T8.out O8.out B8.out.size).mono ?_
      rintro e w9 ⟨v9, rfl, ho9, ht9, hc9⟩
      obtain ⟨A9, c9, rfl, -⟩ := ho9.open_
      have hsz := SZ.out
      try dsimp only at hsz
      have BO9 := hc9.blk BO8.out (by rfl)
      have BY9 := hc9.blk BY8.out (by rfl)
      have B9 := B8.out.trans (hc9.to B8.out.size)
      have S10 : Only (fun j => j = yb) w9 ((w9.setCell ⟨yb, 0, none⟩ (.slice A9 L3.length c9)).setCell ⟨yb, 1, none⟩ (.int .i64 n3)) := ((Only.refl (fun j => j = yb) w9).setCell (p := ⟨yb, 0, none⟩) (.inl rfl) _).setCell (p := ⟨yb, 1, none⟩) (.inl rfl) _
      have BOA := Lib.hid (BO9.only S10 (by have := LT.out; omega))
      have BYA := Lib.hid (blk2 BY9 (.slice A9 L3.length c9) (.int .i64 n3))
      have OA := Lib.hid (own2 ho9 BY9 (by decide) (.slice A9 L3.length c9) (.int .i64 n3))
      have TA := Lib.hid (ht9.ch BY9 (by decide) (by decide) (by decide) (.slice A9 L3.length c9) (.int .i64 n3))
      have BA := Lib.hid (below2 B9 (r := yb) YG.out (.slice A9 L3.length c9) (.int .i64 n3))
      have r0 := BY9.cell 0
      have r1 := BY9.cell 1
      have f0 := BY9.free 0
      have f1 := BY9.free 1
      clear ho9 ht9 hc9 BO9 BY9 B9 S10 e0 e1 e2 e3 e4 e5 e6 o0 o1 o2 o3 o4 o5 o6 x0 x1 ST BY7 T7 O7 B7 BY8 T8 O8 B8 BO8
      go_wp2_with fail
      generalize (w9.setCell ⟨yb, 0, none⟩ (.slice A9 L3.length c9)).setCell ⟨yb, 1, none⟩ (.int .i64 n3) = wa at *
      clear r0 r1 f0 f1
      have UP := Lib.hid (fun ws (h : Below wa.heap.size wa ws) => up BA.out h BA.out.size)
      have KX := Lib.hid (fun ws (h : Below wa.heap.size wa ws) => (show ws.cell? ⟨xb, 0, none⟩ = some (.slice Ax L.length cx) ∧ ws.cell? ⟨xb, 1, none⟩ = some (.int .i64 nx) ∧ ws.cell? ⟨w7.heap.size, 4, none⟩ = some (.int .i64 d4) ∧ ws.cell? ⟨w7.heap.size, 5, none⟩ = some (.int .i64 d5) ∧ ws.cell? ⟨w7.heap.size, 6, none⟩ = some (.int .i64 d6) from
        ⟨(BX4.out.below (UP.out ws h) BX4.out.lt).cell 0, (BX4.out.below (UP.out ws h) BX4.out.lt).cell 1, (BOA.out.below h BOA.out.lt).cell 4, (BOA.out.below h BOA.out.lt).cell 5, (BOA.out.below h BOA.out.lt).cell 6⟩))
      have IA := Lib.hid (fun ws (h : Below wa.heap.size wa ws) => in_any (T4.out.below (UP.out ws h)) WP.out (by omega))
      have RA := Lib.hid (fun ws (h : Below wa.heap.size wa ws) => rin_any Ax cx L nx ⟨d4, d5, d6⟩ ws ((own_lay O4.out).below (UP.out ws h)) (by omega))
      have JL := Lib.hid (Nat.le_trans (ids_len L ⟨d4, d5, d6⟩) (show L.length ≤ 100000 by omega))
      generalize ids L ⟨d4, d5, d6⟩ = js at *
      have BV := Lib.hid (Below.refl wa.heap.size wa).drew
      try dsimp only [pv] at IA RA
      refine wp_region_held_drew (S := fun ws => ws.cell? ⟨xb, 0, none⟩ = some (.slice Ax L.length cx) ∧ ws.cell? ⟨xb, 1, none⟩ = some (.int .i64 nx) ∧ ws.cell? ⟨w7.heap.size, 4, none⟩ = some (.int .i64 d4) ∧ ws.cell? ⟨w7.heap.size, 5, none⟩ = some (.int .i64 d5) ∧ ws.cell? ⟨w7.heap.size, 6, none⟩ = some (.int .i64 d6)) (by kernel_rfl) (KX.out _ BV.out) (fun hHeld => ?_)
      refine wpAnyH_take (i := 0) (v := ?_) rfl (by kernel_rfl) (by kernel_rfl) (by kernel_rfl) (fun _ _ _ h => h) (Or.inl ⟨by rfl, ?_⟩) (by assumption) ?_
      rotate_left
      · (intro w hSw; (try dsimp only at hSw); first | (go_simp; done) | (go_simp; with_reducible rfl))
      simp only [Act.put, List.getElem_toArray, List.getElem_cons_zero, List.getElem_cons_succ, List.setIfInBounds_toArray, List.set_cons_zero, List.set_cons_succ]
      refine wpAnyH_take (i := 1) (v := ?_) rfl (by kernel_rfl) (by kernel_rfl) (by kernel_rfl) (fun _ _ _ h => h) (Or.inl ⟨by rfl, ?_⟩) (by assumption) ?_
      rotate_left
      · (intro w hSw; (try dsimp only at hSw); first | (go_simp; done) | (go_simp; with_reducible rfl))
      simp only [Act.put, List.getElem_toArray, List.getElem_cons_zero, List.getElem_cons_succ, List.setIfInBounds_toArray, List.set_cons_zero, List.set_cons_succ]
      refine wpAnyH_take (i := 2) (v := ?_) rfl (by kernel_rfl) (by kernel_rfl) (by kernel_rfl) (fun _ _ _ h => h) (Or.inl ⟨by rfl, ?_⟩) (by assumption) ?_
      rotate_left
      · (intro w hSw; (try dsimp only at hSw); first | (go_simp; done) | (go_simp; with_reducible rfl))
      simp only [Act.put, List.getElem_toArray, List.getElem_cons_zero, List.getElem_cons_succ, List.setIfInBounds_toArray, List.set_cons_zero, List.set_cons_succ]
      refine wpAnyH_take (i := 3) (v := ?_) rfl (by kernel_rfl) (by kernel_rfl) (by kernel_rfl) (fun _ _ _ h => h) (Or.inl ⟨by rfl, ?_⟩) (by assumption) ?_
      rotate_left
      · (intro w hSw; (try dsimp only at hSw); first | (go_simp; done) | (go_simp; with_reducible rfl))
      simp only [Act.put, List.getElem_toArray, List.getElem_cons_zero, List.getElem_cons_succ, List.setIfInBounds_toArray, List.set_cons_zero, List.set_cons_succ]
      refine wpAnyH_take (i := 4) (v := ?_) rfl (by kernel_rfl) (by kernel_rfl) (by kernel_rfl) (fun _ _ _ h => h) (Or.inl ⟨by rfl, ?_⟩) (by assumption) ?_
      rotate_left
      · (intro w hSw; (try dsimp only at hSw); first | (go_simp; done) | (go_simp; with_reducible rfl))
      simp only [Act.put, List.getElem_toArray, List.getElem_cons_zero, List.getElem_cons_succ, List.setIfInBounds_toArray, List.set_cons_zero, List.set_cons_succ]
      refine wpAnyH_take (i := 5) (v := ?_) rfl (by kernel_rfl) (by kernel_rfl) (by kernel_rfl) (fun _ _ _ h => h) (Or.inl ⟨by rfl, ?_⟩) (by assumption) ?_
      rotate_left
      · (intro w hSw; (try dsimp only at hSw); first | (go_simp; done) | (go_simp; with_reducible rfl))
      simp only [Act.put, List.getElem_toArray, List.getElem_cons_zero, List.getElem_cons_succ, List.setIfInBounds_toArray, List.set_cons_zero, List.set_cons_succ]
      refine wpAnyH_take (i := 7) (v := ?_) rfl (by kernel_rfl) (by kernel_rfl) (by kernel_rfl) (fun _ _ _ h => h) (Or.inl ⟨by rfl, ?_⟩) (by assumption) ?_
      rotate_left
      · (intro w hSw; (try dsimp only at hSw); first | (go_simp; done) | (go_simp; with_reducible rfl))
      simp only [Act.put, List.getElem_toArray, List.getElem_cons_zero, List.getElem_cons_succ, List.setIfInBounds_toArray, List.set_cons_zero, List.set_cons_succ]
      refine wpAnyH_take (i := 8) (v := ?_) rfl (by kernel_rfl) (by kernel_rfl) (by kernel_rfl) (fun _ _ _ h => h) (Or.inl ⟨by rfl, ?_⟩) (by assumption) ?_
      rotate_left
      · (intro w hSw; (try dsimp only at hSw); first | (go_simp; done) | (go_simp; with_reducible rfl))
      simp only [Act.put, List.getElem_toArray, List.getElem_cons_zero, List.getElem_cons_succ, List.setIfInBounds_toArray, List.set_cons_zero, List.set_cons_succ]
      refine wpAnyH_take (i := 9) (v := ?_) rfl (by kernel_rfl) (by kernel_rfl) (by kernel_rfl) (fun _ _ _ h => h) (Or.inl ⟨by rfl, ?_⟩) (by assumption) ?_
      rotate_left
      · (intro w hSw; (try dsimp only at hSw); first | (go_simp; done) | (go_simp; with_reducible rfl))
      simp only [Act.put, List.getElem_toArray, List.getElem_cons_zero, List.getElem_cons_succ, List.setIfInBounds_toArray, List.set_cons_zero, List.set_cons_succ]
      refine wpAnyH_ready (rs := [6]) (by kernel_rfl) (by simp) ?_
      refine AllReadyH.cons rfl (fun K hK => ?_) AllReadyH.nil
      go_simp
      go_wp2_with (go_at_call 14; refine (IA.out _ BV.out).mono ?_; rintro e wb ⟨vb, rfl, hob, hbb⟩)
      have Bb := Lib.hid (up BV.out hbb BV.out.size)
      obtain ⟨Ab, cb, rfl, lb, -⟩ := hob.open_
      have Lb := Lib.hid lb
      refine hK.out _ _ (KX.out _ Bb.out) (fun hH2 => ?_)
      clear hK K hHeld hbb hob lb
      refine wpAnyH_ready (rs := [10]) (by kernel_rfl) (by simp) ?_
      refine AllReadyH.cons rfl (fun K hK => ?_) AllReadyH.nil
      go_simp
      go_wp2_with (go_at_call 15; refine (RA.out _ Bb.out).mono ?_; rintro e wc ⟨vc, rfl, hoc, hbc⟩)
      have Bc := Lib.hid (up Bb.out hbc Bb.out.size)
      obtain ⟨Ac, cc, rfl, lc, -⟩ := hoc.open_
      have EQ := Lib.hid (equal_any Ab Ac cb cc js wc (Lb.out.below hbc) lc JL.out)
      refine hK.out _ _ (KX.out _ Bc.out) (fun hH3 => ?_)
      clear hK K hH2 hbc hoc lc
      refine wpAnyH_ready (rs := [11]) (by kernel_rfl) (by simp) ?_
      refine AllReadyH.cons rfl (fun K hK => ?_) AllReadyH.nil
      go_simp
      go_wp2_with (go_at_call 13; refine EQ.out.mono ?_; rintro e wd ⟨rfl, hbd⟩)
      have Bd := Lib.hid (up Bc.out hbd Bc.out.size)
      refine hK.out _ _ (KX.out _ Bd.out) (fun hH4 => ?_)
      clear hK K hH3 hbd
      refine wpAnyH_take (i := 12) (v := ?_) rfl (by kernel_rfl) (by kernel_rfl) (by kernel_rfl) (fun _ _ _ h => h) (Or.inl ⟨by rfl, ?_⟩) (by assumption) ?_
      rotate_left
      · (intro w hSw; (try dsimp only at hSw); first | (go_simp; done) | (go_simp; with_reducible rfl))
      simp only [Act.put, List.getElem_toArray, List.getElem_cons_zero, List.getElem_cons_succ, List.setIfInBounds_toArray, List.set_cons_zero, List.set_cons_succ]
      refine wpAnyH_take (i := 13) (v := ?_) rfl (by kernel_rfl) (by kernel_rfl) (by kernel_rfl) (fun _ _ _ h => h) (Or.inl ⟨by rfl, ?_⟩) (by assumption) ?_
      rotate_left
      · (intro w hSw; (try dsimp only at hSw); first | (go_simp; done) | (go_simp; with_reducible rfl))
      simp only [Act.put, List.getElem_toArray, List.getElem_cons_zero, List.getElem_cons_succ, List.setIfInBounds_toArray, List.set_cons_zero, List.set_cons_succ]
      refine wpAnyH_done (by kernel_rfl) ?_ _
      clear hH4 IA RA EQ
      go_wp2_with fail
      refine ⟨⟨k + 1, _, L3, n3, A9, c9, rfl, by omega, by go_num, BYA.out.below Bd.out BYA.out.lt, (TA.out.below Bd.out).mono (by omega), OA.out.below Bd.out, up BA.out Bd.out BA.out.size, by omega, by omega, GS.out⟩, by simp [iv]; omega⟩
    · obtain rfl : k = D'.length := by omega
      clear hby ht7 ho7 hb7 hg7
      have S1 := Lib.hid (same_any Ay cy T7.out (own_lay O7.out) (by omega))
      have S2 := Lib.hid (fun ws (h : Below w7.heap.size w7 ws) => same_any Ax cx (T4.out.below (up B7.out h B7.out.size)) ((own_lay O4.out).below (up B7.out h B7.out.size)) (by omega))
      have LB := Lib.hid (fun ws (h : Below w7.heap.size w7 ws) => (show ws.cell? ⟨xb, 0, none⟩ = some (.slice Ax L.length cx) ∧ ws.cell? ⟨xb, 1, none⟩ = some (.int .i64 nx) from ⟨(BX4.out.below (up B7.out h B7.out.size) BX4.out.lt).cell 0, (BX4.out.below (up B7.out h B7.out.size) BX4.out.lt).cell 1⟩))
      go_wp2_with fail
      refine S1.out.mono ?_
      rintro e w8 ⟨rfl, hb8⟩
      have B8 := Lib.hid hb8
      obtain ⟨z0, z1⟩ := LB.out _ hb8
      clear hb8 x0 x1 S1
      go_wp2_with fail
      refine (S2.out _ B8.out).mono ?_
      rintro e w9 ⟨rfl, hb9⟩
      have B9 := Lib.hid (up B8.out hb9 B8.out.size)
      clear hb9 z0 z1 S2
      go_wp2_with fail
      refine (AW.out _).mono ?_
      rintro e wx ⟨rfl, hbx⟩
      have BF := Lib.hid (up B4.out (up B7.out (up B9.out hbx B9.out.size) B7.out.size) B4.out.size)
      clear hbx
      go_wp2_with fail
      go_ret
      exact ⟨rfl, BF.out⟩
theorem walk (w : World) (A : Option Addr) (c : Nat) (D : List OpR) (hA : Lay EO w A D) (hc : D.length ≤ c) (hm : c ≤ maxLen) (hD : ∀ o ∈ D, o.Ok) (A' : Option Addr) (c' : Nat) (D' : List OpR) (hA' : Lay EO w A' D') (hc' : D'.length ≤ c') (hm' : c' ≤ maxLen) (hD' : ∀ o ∈ D', o.Ok) :
    Calls Try.prog 7 #[.slice A D.length c, .slice A' D'.length c'] w fun e w' => e = .returned (.bool true) ∧ Below w.heap.size w w' := by
  unfold maxLen at hm hm'
  cases h : smallB D 50 with
  | false => exact walk_no w A c D hA hD A' c' D' hA' hD' (by omega) (by omega) (.inl h)
  | true =>
    cases h' : smallB D' 50 with
    | false => exact walk_no w A c D hA hD A' c' D' hA' hD' (by omega) (by omega) (.inr ⟨h, h'⟩)
    | true => exact walk_yes w A c D hA hD A' c' D' hA' hD' h h'
set_option maxRecDepth 100000 in
theorem lifted (os : Os) (started : os.Started) (H : Type) (enc : TypeId × Value → H) :
    ReturnsInHanded {} Try.checked os 7 .any (Rows.thingCopiesSpec.pre6 enc Try.prog Try.f7 Rows.thingCopiesRow.domain false) (Rows.thingCopiesSpec.post enc Try.prog Try.f7 false true false false) := by
  refine returnsInHanded_of_change (C := Try.checked) base.own started (by kernel_rfl) Try.func7
    (ChangeSpec.witness6 (enc := enc) (C := Try.checked) false ⟨#[], #[.slice none 0 0, .slice none 0 0], []⟩ 8 (by kernel_rfl) (by kernel_rfl) (by kernel_rfl) (by kernel_rfl)) ?_
  intro W bs args ds gs before hval0 hW _ _
  have hval : ∀ (j : Nat) t v, Try.f7.params[j]? = some t → args[j]? = some v → Value.okWide Try.prog W .any bs t v := hval0
  have hW' : DataW.Whole enc Try.prog Try.f7.params.toList Rows.thingCopiesSpec.vars false W args.toList ds gs before := hW
  obtain ⟨p, q, hA0, hV, rfl, _, _⟩ := hW
  have hA : DataW.TrodAll enc Try.prog W 0 (fun _ => true) true Try.f7.params.toList args.toList ds p := hA0
  rw [Try.params7] at hA hval
  obtain ⟨v0, vs0, d0, ds0, p0, q0, hargs, rfl, rfl, h0, r0⟩ := trodAll_cons hA
  obtain ⟨v1, vs1, d1, ds1, p1, q1, rfl, rfl, rfl, h1, r1⟩ := trodAll_cons r0
  obtain ⟨rfl, rfl, rfl⟩ := trodAll_nil r1
  obtain rfl : args = #[v0, v1] := by cases args; simp_all
  obtain ⟨rfl, rfl⟩ := trodVars_none hV
  obtain ⟨A0, c0, D0, rfl, b0, m0, n0, o0⟩ := tg.open_ops (hval 0 22 v0 rfl rfl) h0
  obtain ⟨A1, c1, D1, rfl, b1, m1, n1, o1⟩ := tg.open_ops (hval 1 22 v1 rfl rfl) h1
  clear hA0 hval0
  refine (walk W A0 c0 D0 n0 b0 m0 o0 A1 c1 D1 n1 b1 m1 o1).mono fun e W' ⟨he, hb⟩ => ?_
  subst he
  exact ⟨_, rfl, base.law_post base.laid (by kernel_rfl) rfl rfl Try.underlying4 hW' rfl rfl rfl hb⟩

theorem over : Rows.thingCopiesRow.holds Try.pinned (OpenSpec.ofChange Rows.thingCopiesSpec) :=
  OpenClaim.holds_of_wide 7 Try.f7 rfl rfl rfl rfl rfl rfl rfl ⟨rfl, rfl, rfl, rfl, rfl⟩ rfl rfl rfl rfl rfl (by kernel_rfl) Try.func7 (by kernel_rfl)
    (of_decide_eq_true (by kernel_rfl)) (by unfold Func.isWrapper; first | (rw [if_pos (by decide +kernel)]; kernel_rfl) | (rw [if_neg (by decide +kernel)]; exact ⟨rfl, rfl⟩))
    (fun os started H enc _ => lifted os started H enc)

theorem proved : Rows.ThingCopiesSaid := over
#print axioms proved
end Go.Proofs.Ytckdfdnhoionnaa.thingCopies
