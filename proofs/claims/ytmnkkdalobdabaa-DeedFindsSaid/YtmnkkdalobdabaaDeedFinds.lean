/-
  DeedFinds: behind some calls what is found is what the list has.
-/
import Derived.Test.YtmnkkdalobdabaaDeedK
import Derived.Test.YtmnkkdalobdabaaStructs
import Derived.Test.YtmnkkdalobdabaaBase2
import Derived.BigQuiet
import Derived.Deep.CutRange
namespace Go.Proofs.Ytmnkkdalobdabaa.deedFinds
open Go.ChangeShapes Go.WideShapes Go.ChangeAt Go.RowKit
open dd rk
open base (ret_bool ret_int made up Blk Only Nums IntRows below_drewN)
set_option linter.unusedVariables false
set_option linter.unusedSimpArgs false

set_option maxRecDepth 100000 in
set_option maxHeartbeats 2000000 in
theorem walk_no (w : World) (A : Option Addr) (m c : Nat) (n : Int) (hm : m ≤ 9223372036854775807) (h : 100 < m) :
    Calls Try.prog 4 #[.slice A m c, .int .i64 n] w fun e w' => e = .returned (.bool true) ∧ Below w.heap.size w w' := by
  have N := Lib.hid (new_any w)
  have AW := Lib.hid (fun ws => awake_any ws)
  go_enter Try.func4, Try.ntmps4
  go_wp2_with fail
  refine N.out.mono ?_
  rintro e w1 ⟨rfl, -, hb1⟩
  have B1 := Lib.hid hb1
  clear hb1
  go_wp2_with fail
  refine (AW.out _).mono ?_
  rintro e w2 ⟨rfl, hb2⟩
  have B2 := Lib.hid (up B1.out hb2 B1.out.size)
  clear hb2
  go_wp2_with fail
  go_ret
  exact ⟨rfl, B2.out⟩

theorem lay1 {w : World} {A : Option Addr} {l : List Int} (h : Lay E1 w A l) {k : Nat} (hk : k < l.length) : ∃ b off, A = some ⟨b, off, none⟩ ∧ w.cell? ⟨b, off + k, none⟩ = some (.int .i64 l[k]) := by
  obtain ⟨b, off, e, _, hc⟩ := h (by omega)
  have := hc k hk 0 (by decide)
  rw [show off + k * E1.k + 0 = off + k by show off + k * 1 + 0 = _; omega] at this
  exact ⟨b, off, e, this⟩

set_option maxRecDepth 100000 in
set_option maxHeartbeats 100000000 in
theorem walk_yes (w : World) (A : Option Addr) (m c : Nat) (F : Nat → Nat → Int) (h1 : IntRows w A m 3 F) (n : Int) (hm : m ≤ 100) (hc : m ≤ c) (hcm : c ≤ 9223372036854775807) :
    Calls Try.prog 4 #[.slice A m c, .int .i64 n] w fun e w' => e = .returned (.bool true) ∧ Below w.heap.size w w' := by
  have N := Lib.hid (new_any w)
  have AW := Lib.hid (fun ws => awake_any ws)
  have NN := Lib.hid h1
  clear h1
  go_enter Try.func4, Try.ntmps4
  go_wp2_with fail
  refine N.out.mono ?_
  rintro e w1 ⟨rfl, hd1, hb1⟩
  have hm2 := made w1 (.cells #[.slice none 0 0, .int .i64 1] 28)
  have D2 := Lib.hid (hd1.below hm2)
  have B2 := Lib.hid (up hb1 hm2 hb1.size)
  have BX2 := Lib.hid (Blk.new w1 28 #[.slice none 0 0, .int .i64 1])
  have G1 := Lib.hid hb1.size
  have G0 := Lib.hid (show w.heap.size < w1.heap.size from hd1.lt)
  clear hd1 hb1 hm2 N
  go_wp2_with fail
  generalize w1.alloc (.cells #[.slice none 0 0, .int .i64 1] 28) = w2 at *
  go_loopw [34] (fun i wr => ∃ (k : Nat) (W : World) (L : List D) (nx : Int) (Ax : Option Addr) (cx : Nat), W = wr ∧ k ≤ m ∧ i = .int .i64 k ∧ Blk wr w1.heap.size 28 #[.slice Ax L.length cx, .int .i64 nx] ∧ DAt wr w.heap.size w.heap.size L nx ∧ Own E3 wr w.heap.size 45 (.slice Ax L.length cx) L ∧ Below w.heap.size w wr ∧ L.length ≤ k ∧ 1 ≤ nx ∧ nx ≤ k + 1) (fun i _ => m - (intOf i).toNat)
  case atStart => exact ⟨0, _, [], 1, none, 0, rfl, by omega, rfl, BX2.out, D2.out, Own.nil _ _ _, B2.out, by simp, by omega, by omega⟩
  case round =>
  obtain ⟨k, w3, L, nx, Ax, cx, rfl, hk, rfl, hbx, hd, ho, hb, hll, hn0, hn1⟩ := hrel
  have BX3 := Lib.hid hbx
  have D3 := Lib.hid hd
  have O3 := Lib.hid ho
  have B3 := Lib.hid hb
  have x0 := hbx.cell 0
  have x1 := hbx.cell 1
  by_cases hkm : k < m
  · obtain ⟨b, off, rfl, _, hcell⟩ := (base.IntRows.keep NN.out hb) (by omega)
    have e0 := hcell k hkm 0 (by omega)
    have e1 := hcell k hkm 1 (by omega)
    have e2 := hcell k hkm 2 (by omega)
    rw [Nat.add_zero] at e0
    clear hcell hbx hd ho hb
    generalize F k 0 = k0 at *
    generalize F k 1 = k1 at *
    generalize F k 2 = k2 at *
    have hm4 := made w3 (.cells #[.int .i64 k0, .int .i64 k1, .int .i64 k2] 30)
    have SP := Lib.hid (step_any Ax cx L nx k0 k1 k2 w.heap.size w.heap.size (w3.alloc (.cells #[.int .i64 k0, .int .i64 k1, .int .i64 k2] 30)) (D3.out.below hm4) (O3.out.below hm4) (by omega) ⟨by omega, by omega⟩ (Nat.le_trans B3.out.size hm4.size))
    have SZ := Lib.hid (step_size (L, nx) k0 k1 k2)
    have B4 := Lib.hid (up B3.out hm4 B3.out.size)
    have BX4 := Lib.hid (BX3.out.below hm4 BX3.out.lt)
    have bo := Blk.new w3 30 #[.int .i64 k0, .int .i64 k1, .int .i64 k2]
    have o0 := bo.cell 0
    have o1 := bo.cell 1
    have o2 := bo.cell 2
    have TS := Lib.hid (fun ws (h : Below w3.heap.size w3 ws) => h)
    clear hm4 bo x0 x1
    have x0 := BX4.out.cell 0
    have x1 := BX4.out.cell 1
    generalize stepS (L, nx) k0 k1 k2 = r at *
    obtain ⟨L2, n2⟩ := r
    dsimp only at SZ
    go_wp2_with fail
    generalize w3.alloc (.cells #[.int .i64 k0, .int .i64 k1, .int .i64 k2] 30) = w4 at *
    refine SP.out.mono ?_
    rintro e w5 ⟨v5, rfl, hd5, ho5, hb5, ht5⟩
    obtain ⟨A5, c5, rfl, -⟩ := ho5.open_
    have BX5 := Lib.hid (ht5.blk BX4.out (show w1.heap.size ≠ w.heap.size by have := G1.out; have := G0.out; omega) (by decide))
    have B5 := Lib.hid ((B4.out.mono (Nat.le_refl _)).trans hb5)
    have r0 := BX5.out.cell 0
    have r1 := BX5.out.cell 1
    have f0 := BX5.out.free 0
    have f1 := BX5.out.free 1
    have K5 := Lib.hid (blk2 BX5.out (.slice A5 L2.length c5) (.int .i64 n2))
    have O6 := Lib.hid (own2 ho5 BX5.out (by decide) (.slice A5 L2.length c5) (.int .i64 n2))
    have D6 := Lib.hid (hd5.set2 BX5.out (by decide) (by decide) (.slice A5 L2.length c5) (.int .i64 n2))
    have B6 := Lib.hid (below2 B5.out (r := w1.heap.size) G1.out (.slice A5 L2.length c5) (.int .i64 n2))
    clear hd5 ho5 hb5 ht5 e0 e1 e2 o0 o1 o2 x0 x1 SP
    have hsz := SZ.out
    go_wp2_with fail
    refine ⟨⟨k + 1, _, L2, n2, A5, c5, rfl, by omega, by go_num, K5.out, D6.out, O6.out, B6.out, by omega, by omega, by omega⟩, by simp [intOf]; omega⟩
  · obtain rfl : k = m := by omega
    clear hbx hd ho hb
    have hl100 : L.length ≤ 100 := by omega
    have LW := Lib.hid (fun ws (h : Below w3.heap.size w3 ws) => (show Lay E3 ws Ax L from by
      obtain ⟨A', c', e, h2, _⟩ := O3.out.open_
      injection e with q1 q2 q3
      subst q1
      exact h2.below h))
    have KX := Lib.hid (fun ws (h : Below w3.heap.size w3 ws) => (show ws.cell? ⟨w1.heap.size, 0, none⟩ = some (.slice Ax L.length cx) ∧ ws.cell? ⟨w1.heap.size, 1, none⟩ = some (.int .i64 nx) from ⟨(BX3.out.below h BX3.out.lt).cell 0, (BX3.out.below h BX3.out.lt).cell 1⟩))
    have GE := Lib.hid (get_any w.heap.size w.heap.size L nx n w3 D3.out (by omega))
    have OF := Lib.hid (fun ws (h : Below w3.heap.size w3 ws) => of_any w.heap.size w.heap.size L nx n ws (D3.out.below h) (by omega))
    have RF := Lib.hid (fun ws (h : Below w3.heap.size w3 ws) => rfind_any Ax cx L nx n ws (LW.out ws h) (by omega))
    have RO := Lib.hid (fun ws (h : Below w3.heap.size w3 ws) => rof_any Ax cx L nx n ws (LW.out ws h) (by omega))
    have FL1 := Lib.hid (fun i (h : fi (isId n) L = some i) => fi_lt h)
    have FL2 := Lib.hid (fun i (h : fi (isPlot n) L = some i) => fi_lt h)
    generalize fi (isId n) L = o1 at *
    generalize fi (isPlot n) L = o2 at *
    obtain ⟨da, hda⟩ : ∃ d, d = dAt L o1 := ⟨_, rfl⟩
    obtain ⟨db, hdb⟩ : ∃ d, d = dAt L o2 := ⟨_, rfl⟩
    obtain ⟨er, her⟩ : ∃ e : Int, e = if o1.isSome then 0 else 14 := ⟨_, rfl⟩
    obtain ⟨j1, hj1⟩ : ∃ j, j = ix o1 := ⟨_, rfl⟩
    obtain ⟨j2, hj2⟩ : ∃ j, j = ix o2 := ⟨_, rfl⟩
    obtain ⟨s2, hs2⟩ : ∃ s, s = o2.isSome := ⟨_, rfl⟩
    rw [← hda, ← her] at GE
    rw [← hdb, ← hs2] at OF
    rw [← hj1] at RF
    rw [← hj2] at RO
    have DA := Lib.hid hda
    have DB := Lib.hid hdb
    have ER := Lib.hid her
    have J1 := Lib.hid hj1
    have J2 := Lib.hid hj2
    have S2 := Lib.hid hs2
    clear hda hdb her hj1 hj2 hs2 x0 x1
    obtain ⟨a0, a1, a2⟩ := da
    obtain ⟨b0, b1, b2⟩ := db
    dsimp only at GE OF
    go_wp2_with fail
    refine GE.out.mono ?_
    rintro e w4 ⟨rfl, hb4⟩
    have B5 := Lib.hid (up hb4 (made w4 (.cells #[.int .i64 a0, .int .i64 a1, .int .i64 a2] 40)) hb4.size)
    have BA5 := Lib.hid (Blk.new w4 40 #[.int .i64 a0, .int .i64 a1, .int .i64 a2])
    clear hb4 GE
    obtain ⟨x0, x1⟩ := KX.out _ B5.out
    go_wp2_with fail
    generalize w4.alloc (.cells #[.int .i64 a0, .int .i64 a1, .int .i64 a2] 40) = w5 at *
    refine (RF.out _ B5.out).mono ?_
    rintro e w6 ⟨rfl, hb6⟩
    have B6 := Lib.hid (up B5.out hb6 B5.out.size)
    have BA6 := Lib.hid (BA5.out.below hb6 BA5.out.lt)
    clear hb6 x0 x1 RF BA5
    go_wp2_with fail
    refine (OF.out _ B6.out).mono ?_
    rintro e w7 ⟨rfl, hb7⟩
    have hb8 := up hb7 (made w7 (.cells #[.int .i64 b0, .int .i64 b1, .int .i64 b2] 40)) hb7.size
    have B8 := Lib.hid (up B6.out hb8 B6.out.size)
    have BA8 := Lib.hid (BA6.out.below hb8 BA6.out.lt)
    have BB8 := Lib.hid (Blk.new w7 40 #[.int .i64 b0, .int .i64 b1, .int .i64 b2])
    clear hb7 hb8 OF BA6
    obtain ⟨x0, x1⟩ := KX.out _ B8.out
    go_wp2_with fail
    generalize w7.alloc (.cells #[.int .i64 b0, .int .i64 b1, .int .i64 b2] 40) = w8 at *
    refine (RO.out _ B8.out).mono ?_
    rintro e w9 ⟨rfl, hb9⟩
    have B9 := Lib.hid (up B8.out hb9 B8.out.size)
    have BA9 := Lib.hid (BA8.out.below hb9 BA8.out.lt)
    have BB9 := Lib.hid (BB8.out.below hb9 BB8.out.lt)
    clear hb9 RO x0 x1 BA8 BB8
    obtain ⟨x0, x1⟩ := KX.out _ B9.out
    have y0 := BA9.out.cell 0
    have y1 := BA9.out.cell 1
    have y2 := BA9.out.cell 2
    go_upto_region 14 with fail
    go_cut [91] from 64 to 91 (fun s91 wx => s91 = .bool false ∧ Below w9.heap.size w9 wx)
    case first =>
      cases o1 with
      | none =>
        obtain rfl : j1 = -1 := J1.out
        obtain rfl : er = 14 := ER.out
        obtain ⟨rfl, rfl, rfl⟩ : a0 = 0 ∧ a1 = 0 ∧ a2 = 0 := by simpa [dAt, Prod.ext_iff] using DA.out
        go_wp2_with fail
        go_quiet (fail)
        go_wp2_with fail
        go_meet
        case rel => exact ⟨rfl, below_drewN (Below.refl w9.heap.size w9) _⟩
      | some i1 =>
        obtain rfl : j1 = i1 := J1.out
        obtain rfl : er = 0 := ER.out
        have hil := FL1.out i1 rfl
        have hlz : ((i1 : Int) < 0) = False := by simp
        have hdz : decide ((i1 : Int) < 0) = false := by simp
        have hgz : ((i1 : Int) ≥ 0) = True := by simp
        obtain ⟨q, off, hAx, e0, e1, e2⟩ := lay3 (LW.out _ B9.out) hil
        rw [show L[i1] = (a0, a1, a2) from by rw [DA.out]; simp [dAt, List.getD, hil]] at e0 e1 e2
        dsimp only at e0 e1 e2
        rw [hAx] at x0
        clear hAx
        go_wp2_with fail
        go_quiet (fail)
        go_wp2_with fail
        go_meet
        case rel => exact ⟨rfl, below_drewN (Below.refl w9.heap.size w9) _⟩
    case rest =>
      obtain ⟨rfl, hbw⟩ := hcut
      have BW := Lib.hid hbw
      clear hbw x0 x1 y0 y1 y2
      generalize wc = w10 at *
      have B10 := Lib.hid (up B9.out BW.out B9.out.size)
      have BB10 := Lib.hid (BB9.out.below BW.out BB9.out.lt)
      have b0_ := BB10.out.cell 0
      have b1_ := BB10.out.cell 1
      have b2_ := BB10.out.cell 2
      obtain ⟨x0, x1⟩ := KX.out _ B10.out
      go_upto_region 16 with fail
      go_cut [116] from 92 to 116 (fun s116 wx => s116 = .bool false ∧ Below w10.heap.size w10 wx)
      case first =>
        cases o2 with
        | none =>
          obtain rfl : j2 = -1 := J2.out
          obtain rfl : s2 = false := S2.out
          obtain ⟨rfl, rfl, rfl⟩ : b0 = 0 ∧ b1 = 0 ∧ b2 = 0 := by simpa [dAt, Prod.ext_iff] using DB.out
          go_wp2_with fail
          go_quiet (fail)
          go_wp2_with fail
          go_meet
          case rel => exact ⟨rfl, below_drewN (Below.refl w10.heap.size w10) _⟩
        | some i2 =>
          obtain rfl : j2 = i2 := J2.out
          obtain rfl : s2 = true := S2.out
          have hil := FL2.out i2 rfl
          obtain ⟨q, off, hAx, e0, e1, e2⟩ := lay3 (LW.out _ B10.out) hil
          rw [show L[i2] = (b0, b1, b2) from by rw [DB.out]; simp [dAt, List.getD, hil]] at e0 e1 e2
          dsimp only at e0 e1 e2
          rw [hAx] at x0
          clear hAx
          go_wp2_with fail
          go_quiet (fail)
          go_wp2_with fail
          go_meet
          case rel => exact ⟨rfl, below_drewN (Below.refl w10.heap.size w10) _⟩
      case rest =>
        obtain ⟨rfl, hbv⟩ := hcut
        have BV := Lib.hid hbv
        clear hbv b0_ b1_ b2_ x0 x1
        generalize wc = w11 at *
        have B11 := Lib.hid (up B10.out BV.out B10.out.size)
        have KX2 := KX
        go_wp2_with fail
        have KX := KX2
        have HE := Lib.hid (fun ws (h : Below w3.heap.size w3 ws) => held_any w.heap.size w.heap.size L nx n ws (D3.out.below h) (by omega))
        have RH := Lib.hid (fun ws (h : Below w3.heap.size w3 ws) => rheld_any Ax cx L nx n ws (LW.out ws h) (by omega))
        refine wp_region_held_drew (S := (fun ws => ws.cell? ⟨w1.heap.size, 0, none⟩ = some (.slice Ax L.length cx) ∧ ws.cell? ⟨w1.heap.size, 1, none⟩ = some (.int .i64 nx))) (by kernel_rfl) (KX.out _ B11.out.drew) (fun hHeld => ?_)
        refine wpAnyH_take (i := 0) (v := ?_) rfl (by kernel_rfl) (by kernel_rfl) (by kernel_rfl) (fun _ _ _ h => h) (Or.inl ⟨by rfl, ?_⟩) (by assumption) ?_
        rotate_left
        · (intro w hSw; (try dsimp only at hSw); first | (go_simp; done) | (go_simp; with_reducible rfl))
        simp only [Act.put, List.getElem_toArray, List.getElem_cons_zero, List.getElem_cons_succ, List.setIfInBounds_toArray, List.set_cons_zero, List.set_cons_succ]
        refine wpAnyH_take (i := 1) (v := ?_) rfl (by kernel_rfl) (by kernel_rfl) (by kernel_rfl) (fun _ _ _ h => h) (Or.inl ⟨by rfl, ?_⟩) (by assumption) ?_
        rotate_left
        · (intro w hSw; (try dsimp only at hSw); first | (go_simp; done) | (go_simp; with_reducible rfl))
        simp only [Act.put, List.getElem_toArray, List.getElem_cons_zero, List.getElem_cons_succ, List.setIfInBounds_toArray, List.set_cons_zero, List.set_cons_succ]
        refine wpAnyH_take (i := 3) (v := ?_) rfl (by kernel_rfl) (by kernel_rfl) (by kernel_rfl) (fun _ _ _ h => h) (Or.inl ⟨by rfl, ?_⟩) (by assumption) ?_
        rotate_left
        · (intro w hSw; (try dsimp only at hSw); first | (go_simp; done) | (go_simp; with_reducible rfl))
        simp only [Act.put, List.getElem_toArray, List.getElem_cons_zero, List.getElem_cons_succ, List.setIfInBounds_toArray, List.set_cons_zero, List.set_cons_succ]
        refine wpAnyH_take (i := 4) (v := ?_) rfl (by kernel_rfl) (by kernel_rfl) (by kernel_rfl) (fun _ _ _ h => h) (Or.inl ⟨by rfl, ?_⟩) (by assumption) ?_
        rotate_left
        · (intro w hSw; (try dsimp only at hSw); first | (go_simp; done) | (go_simp; with_reducible rfl))
        simp only [Act.put, List.getElem_toArray, List.getElem_cons_zero, List.getElem_cons_succ, List.setIfInBounds_toArray, List.set_cons_zero, List.set_cons_succ]
        refine wpAnyH_ready (rs := [2]) (by kernel_rfl) (by simp) ?_
        refine AllReadyH.cons rfl (fun K hK => ?_) AllReadyH.nil
        go_simp
        go_wp2_with (go_at_call 18; refine (HE.out _ B11.out.drew).mono ?_; rintro e w12 ⟨v1, rfl, hv1, hb12⟩; obtain ⟨A1, c1, rfl, hl1, hm1, hx1⟩ := hv1.open_)
        have B12 := Lib.hid (up B11.out.drew hb12 B11.out.drew.size)
        have L12 := Lib.hid hl1
        refine hK.out _ _ (KX.out _ B12.out) (fun hH1 => ?_)
        clear hK K hHeld hv1 hl1 hb12
        refine wpAnyH_ready (rs := [5]) (by kernel_rfl) (by simp) ?_
        refine AllReadyH.cons rfl (fun K hK => ?_) AllReadyH.nil
        go_simp
        go_wp2_with (go_at_call 19; refine (RH.out _ B12.out).mono ?_; rintro e w13 ⟨v2, rfl, hv2, hb13⟩; obtain ⟨A2, c2, rfl, hl2, hm2, hx2⟩ := hv2.open_)
        have B13 := Lib.hid (up B12.out hb13 B12.out.size)
        have L13 := Lib.hid (L12.out.below hb13)
        have M13 := Lib.hid hl2
        refine hK.out _ _ (KX.out _ B13.out) (fun hH2 => ?_)
        clear hK K hH1 hv2 hl2 hb13
        refine wpAnyH_take (i := 6) (v := ?_) rfl (by kernel_rfl) (by kernel_rfl) (by kernel_rfl) (fun _ _ _ h => h) (Or.inl ⟨by rfl, ?_⟩) (by assumption) ?_
        rotate_left
        · (intro w hSw; (try dsimp only at hSw); first | (go_simp; done) | (go_simp; with_reducible rfl))
        simp only [Act.put, List.getElem_toArray, List.getElem_cons_zero, List.getElem_cons_succ, List.setIfInBounds_toArray, List.set_cons_zero, List.set_cons_succ]
        refine wpAnyH_take (i := 7) (v := ?_) rfl (by kernel_rfl) (by kernel_rfl) (by kernel_rfl) (fun _ _ _ h => h) (Or.inl ⟨by rfl, ?_⟩) (by assumption) ?_
        rotate_left
        · (intro w hSw; (try dsimp only at hSw); first | (go_simp; done) | (go_simp; with_reducible rfl))
        simp only [Act.put, List.getElem_toArray, List.getElem_cons_zero, List.getElem_cons_succ, List.setIfInBounds_toArray, List.set_cons_zero, List.set_cons_succ]
        refine wpAnyH_done (by kernel_rfl) ?_ _
        clear hH2 HE RH
        have hhl := held_short L n
        generalize held L n = hl at *
        go_wp2_with fail
        go_loopw [130] (fun i wr => ∃ (k : Nat) (W : World), W = wr ∧ k ≤ hl.length ∧ i = .int .i64 k ∧ Below w13.heap.size w13 wr) (fun i _ => hl.length - (intOf i).toNat)
        case atStart => exact ⟨0, _, rfl, by omega, rfl, Below.refl _ _⟩
        case round =>
          obtain ⟨k, w14, rfl, hk, rfl, hb14⟩ := hrel
          have B14 := Lib.hid hb14
          by_cases hkl : k < hl.length
          · obtain ⟨q1, q1o, hA1, e1⟩ := lay1 (L13.out.below hb14) hkl
            obtain ⟨q2, q2o, hA2, e2⟩ := lay1 (M13.out.below hb14) hkl
            rw [hA1, hA2]
            clear hb14
            generalize hl[k] = z at *
            go_wp2_with fail
            go_quiet (fail)
            go_wp2_with fail
            refine ⟨⟨k + 1, _, rfl, by omega, by go_num, below_drewN B14.out _⟩, by simp [intOf]; omega⟩
          · obtain rfl : k = hl.length := by omega
            clear hb14
            have B15 := Lib.hid (up B13.out B14.out B13.out.size)
            go_wp2_with fail
            refine (AW.out _).mono ?_
            rintro e w15 ⟨rfl, hb15⟩
            have B16 := Lib.hid (up B3.out (up B15.out hb15 B15.out.size) B3.out.size)
            clear hb15
            go_wp2_with fail
            go_ret
            exact ⟨rfl, B16.out⟩


theorem walk (w : World) (A : Option Addr) (m c : Nat) (F : Nat → Nat → Int) (h1 : IntRows w A m 3 F) (hc : m ≤ c) (hm : c ≤ maxLen) (hw : ∀ i, i < m → ∀ j, j < 3 → -9223372036854775808 ≤ F i j ∧ F i j ≤ 9223372036854775807) (n : Int) (wn : (Lit.int .i64 n).wf = true) :
    Calls Try.prog 4 #[.slice A m c, .int .i64 n] w fun e w' => e = .returned (.bool true) ∧ Below w.heap.size w w' := by
  unfold maxLen at hm
  by_cases q : 100 < m
  · exact walk_no w A m c n (by omega) q
  · exact walk_yes w A m c F h1 n (by omega) hc (by omega)

set_option maxRecDepth 100000 in
theorem lifted (os : Os) (started : os.Started) (H : Type) (enc : TypeId × Value → H) :
    ReturnsInHanded {} Try.checked os 4 .any (Rows.deedFindsSpec.pre6 enc Try.prog Try.f4 Rows.deedFindsRow.domain false) (Rows.deedFindsSpec.post enc Try.prog Try.f4 false true false false) := by
  refine returnsInHanded_of_change (C := Try.checked) base.own started (by kernel_rfl) Try.func4
    (ChangeSpec.witness6 (enc := enc) (C := Try.checked) false ⟨#[], #[.slice none 0 0, .int .i64 0], []⟩ 8 (by kernel_rfl) (by kernel_rfl) (by kernel_rfl) (by kernel_rfl)) ?_
  intro W bs args ds gs before hval0 hW _ _
  have hval : ∀ (j : Nat) t v, Try.f4.params[j]? = some t → args[j]? = some v → Value.okWide Try.prog W .any bs t v := hval0
  have hW' : DataW.Whole enc Try.prog Try.f4.params.toList Rows.deedFindsSpec.vars false W args.toList ds gs before := hW
  obtain ⟨p, q, hA0, hV, rfl, _, _⟩ := hW
  have hA : DataW.TrodAll enc Try.prog W 0 (fun _ => true) true Try.f4.params.toList args.toList ds p := hA0
  rw [Try.params4] at hA hval
  obtain ⟨v0, vs0, d0, ds0, p0, q0, hargs, rfl, rfl, h0, r0⟩ := trodAll_cons hA
  obtain ⟨v1, vs1, d1, ds1, p1, q1, rfl, rfl, rfl, h1, r1⟩ := trodAll_cons r0
  obtain ⟨rfl, rfl, rfl⟩ := trodAll_nil r1
  obtain rfl : args = #[v0, v1] := by cases args; simp_all
  obtain ⟨rfl, rfl⟩ := trodVars_none hV
  obtain ⟨A0, k0, c0, F0, rfl, b0, m0, n0, w0⟩ := base.open_introws 3 Try.underlying22 Try.underlying30 (by kernel_rfl) (by kernel_rfl) rfl (by omega) (by intro j f hj; rcases j with _ | _ | _ | j <;> simp at hj <;> (subst hj; exact Try.underlying3)) (hval 0 22 v0 rfl rfl) h0
  obtain ⟨a1, rfl, rfl, rfl, w1⟩ := open_int Try.underlying3 (hval 1 3 v1 rfl rfl) h1
  clear hA0 hval0
  refine (walk W A0 k0 c0 F0 n0 b0 m0 w0 a1 w1).mono fun e W' ⟨he, hb⟩ => ?_
  subst he
  exact ⟨_, rfl, base.law_post base.laid (by kernel_rfl) rfl rfl Try.underlying4 hW' rfl rfl rfl hb⟩

theorem over : Rows.deedFindsRow.holds Try.pinned (OpenSpec.ofChange Rows.deedFindsSpec) :=
  OpenClaim.holds_of_wide 4 Try.f4 rfl rfl rfl rfl rfl rfl rfl ⟨rfl, rfl, rfl, rfl, rfl⟩ rfl rfl rfl rfl rfl (by kernel_rfl) Try.func4 (by kernel_rfl)
    (of_decide_eq_true (by kernel_rfl)) (by unfold Func.isWrapper; first | (rw [if_pos (by decide +kernel)]; kernel_rfl) | (rw [if_neg (by decide +kernel)]; exact ⟨rfl, rfl⟩))
    (fun os started H enc _ => lifted os started H enc)

theorem proved : Rows.DeedFindsSaid := over
#print axioms proved
end Go.Proofs.Ytmnkkdalobdabaa.deedFinds
