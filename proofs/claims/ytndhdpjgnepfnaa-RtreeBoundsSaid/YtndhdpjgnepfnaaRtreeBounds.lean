/-
  RtreeBounds (P14.2, P14.3): for every list of calls the law answers true. Conditions: none.
-/
import Derived.Test.YtndhdpjgnepfnaaTrAN
namespace Go.Proofs.Ytndhdpjgnepfnaa.rtreeBounds
open Go.ChangeShapes Go.WideShapes Go.ChangeAt Go.RowKit
open tr rect
open rk (Lay)
open base (ret_bool ret_int made up Blk Only)
set_option linter.unusedVariables false
set_option linter.unusedSimpArgs false
attribute [local go_sem] Oper.semAt_some

/-- both, and one block beside -/
theorem offW {w0 w w9 w' : World} {t wb : Nat} {S : List Th} {F : Nat → Prop} {A : Option Addr} (h : Bo w0 t S F A w) (hb : Below w.heap.size w w9) (ho : Only (fun k => k = wb) w9 w') (hw : ¬ F wb ∧ (∀ b off, A = some ⟨b, off, none⟩ → b ≠ wb) ∧ w0.heap.size ≤ wb) : Bo w0 t S F A w' ∧ True := by
  have h9 := h.next hb
  exact ⟨⟨h9.tree.only ho (fun k hk e => hw.1 (e ▸ hk)), h9.lay.keep (fun b hlt ⟨off, e⟩ => ho.block b hlt (hw.2.1 b off e)), h9.ap, h9.own, h9.below.trans (ho.to_below (B := w0.heap.size) (fun i hi e => by omega) h9.below.size), h9.nodup⟩, trivial⟩
def bt (S : List Th) : Bx := bb (S.map Prod.fst)
theorem bt_take {S : List Th} {p : Nat} (hp : p < S.length) : bt (S.take (p + 1)) = jo (bt (S.take p)) (S.getD p dth).1 := by
  have ek : S.getD p dth = S[p] := by rw [List.getD_eq_getElem?_getD, List.getElem?_eq_getElem hp]; rfl
  rw [ek, List.take_succ_eq_append_getElem hp]
  unfold bt bb
  rw [List.map_append, List.foldl_append]
  rfl
set_option maxRecDepth 100000 in
set_option maxHeartbeats 8000000 in
theorem walk_no (A : Option Addr) (c : Nat) (L : List tr.Op) (w : World) (hl : 120 < L.length) : Calls Try.prog 6 #[.slice A L.length c] w fun e w' => e = .returned (.bool true) ∧ Below w.heap.size w w' := by
  have AW := Lib.hid (awake_any w)
  have d1 : decide ((L.length : Int) > 120) = true := decide_eq_true (by omega)
  go_enter Try.func6, Try.ntmps6
  go_wp2_with fail
  refine AW.out.mono ?_
  rintro e w1 ⟨rfl, hb1⟩
  have B1 := Lib.hid hb1
  clear hb1
  go_wp2_with fail
  go_ret
  exact ⟨rfl, B1.out⟩
set_option maxRecDepth 100000 in
set_option maxHeartbeats 8000000 in
theorem walk_yes (A : Option Addr) (c : Nat) (L : List tr.Op) (w : World) (hA : Lay EO w A L) (hok : ∀ o ∈ L, o.ok) (hl : L.length ≤ 120) : Calls Try.prog 6 #[.slice A L.length c] w fun e w' => e = .returned (.bool true) ∧ Below w.heap.size w w' := by
  have PL := Lib.hid (played_any A c L w hA hl hok)
  have d1 : decide ((L.length : Int) > 120) = false := decide_eq_false (by omega)
  have d1b : (120 < L.length) = False := eq_false (by omega)
  clear hA hok
  go_enter Try.func6, Try.ntmps6
  go_wp2_with fail
  refine PL.out.mono ?_
  rintro e w1 ⟨t, S, F, Ax, cx, rfl, hbo, hS⟩
  have BO1 := Lib.hid hbo
  have HS := Lib.hid hS
  obtain ⟨wb0, hwb0⟩ : ∃ z, w1.heap.size = z := ⟨_, rfl⟩
  obtain ⟨w2, hw2⟩ : ∃ w2, w1.alloc zc = w2 := ⟨_, rfl⟩
  have M2 := Lib.hid (show Below w1.heap.size w1 w2 from by rw [← hw2]; exact made w1 _)
  have WB := Lib.hid (show Blk w2 w1.heap.size 28 #[.int .i64 0, .int .i64 0, .int .i64 0, .int .i64 0] from by rw [← hw2]; exact Blk.new _ _ _)
  have BO2 := Lib.hid (hbo.next M2.out)
  have WF := Lib.hid (show ¬ F w1.heap.size ∧ (0 < S.length → ∀ b off, Ax = some ⟨b, off, none⟩ → b ≠ w1.heap.size) ∧ w.heap.size ≤ w1.heap.size from ⟨fun q => by have := hbo.tree.lt _ q; omega, fun h0 b off e q => by
    obtain ⟨b', o', e', hlt, -⟩ := hbo.lay h0
    rw [e] at e'
    injection e' with e'
    injection e' with e'
    omega, hbo.below.size⟩)
  have HW2 := Lib.hid hw2
  clear hbo hS hw2 PL hwb0 wb0
  generalize hnS : S.length = nS at *
  have NS := Lib.hid hnS
  clear hnS
  go_upto_region 7 with fail
  have hw2 := HW2.out
  unfold zc at hw2
  simp only [hw2]
  clear hw2 HW2
  generalize hwb : w1.heap.size = wb at *
  clear hwb d1 d1b
  go_wp2_with fail
  go_loopw [25] (fun i wr => ∃ (p : Nat) (W : World), W = wr ∧ p ≤ nS ∧ i = .int .i64 p ∧ Blk wr wb 28 #[.int .i64 (bt (S.take p)).x, .int .i64 (bt (S.take p)).y, .int .i64 (bt (S.take p)).w, .int .i64 (bt (S.take p)).h] ∧ Bo w t S F Ax wr ∧ True) (fun i _ => nS - (intOf i).toNat)
  case atStart => exact ⟨0, _, rfl, by omega, rfl, WB.out, BO2.out, trivial⟩
  case round =>
  obtain ⟨p, w5, rfl, hp, rfl, hwv, hbo, -⟩ := hrel
  by_cases hpl : p < nS
  · have BO := Lib.hid hbo
    have WV0 := Lib.hid hwv
    have hpS : p < S.length := by rw [NS.out]; exact hpl
    obtain ⟨b0, o0, rfl, e0, e1, e2, e3, e4⟩ := row5 hbo.lay hpS
    have BT := Lib.hid (bt_take hpS)
    obtain ⟨d, hd⟩ : ∃ d, S.getD p dth = d := ⟨_, rfl⟩
    rw [hd] at e0 e1 e2 e3 e4 BT
    obtain ⟨V, hV⟩ : ∃ V, bt (S.take p) = V := ⟨_, rfl⟩
    rw [hV] at BT WV0
    obtain ⟨V2, hV2⟩ : ∃ V2, bt (S.take (p + 1)) = V2 := ⟨_, rfl⟩
    rw [hV2] at BT
    have JV := BT
    have HV2 := Lib.hid hV2
    have WF2 := Lib.hid (show ¬ F wb ∧ (∀ b off, some (⟨b0, o0, none⟩ : Addr) = some ⟨b, off, none⟩ → b ≠ wb) ∧ w.heap.size ≤ wb from ⟨WF.out.1, WF.out.2.1 (by omega), WF.out.2.2⟩)
    obtain ⟨wE, hwE⟩ : ∃ wE, w5.alloc (.cells #[.int .i64 d.1.x, .int .i64 d.1.y, .int .i64 d.1.w, .int .i64 d.1.h, .int .i64 d.2] 48) = wE := ⟨_, rfl⟩
    have BE := Lib.hid (show Below w5.heap.size w5 wE from by rw [← hwE]; exact made w5 _)
    have YB := Lib.hid (show Blk wE w5.heap.size 48 #[.int .i64 d.1.x, .int .i64 d.1.y, .int .i64 d.1.w, .int .i64 d.1.h, .int .i64 d.2] from by rw [← hwE]; exact Blk.new _ _ _)
    have WV := Lib.hid (WV0.out.below BE.out WV0.out.lt)
    have YW := Lib.hid (show ¬ w5.heap.size = wb from fun e => by have := WV0.out.lt; omega)
    have dp : decide (p < nS) = true := decide_eq_true hpl
    have wp1 : IntKind.i64.wrap ((p : Int) + 1) = (p : Int) + 1 := IntWalk.i64_in _ (by have := HS.out; omega)
    have i0 : (0 : Int) ≤ (p : Int) := Int.natCast_nonneg _
    have HWE := Lib.hid hwE
    have WF := WF2
    clear WF2 hp hwv hbo hpS hd hV hV2 hwE WV0
    go_upto_region 10 with fail
    have hwE := HWE.out
    simp only [hwE]
    clear hwE HWE e0 e1 e2 e3 e4
    have BS := Lib.hid BE.out.size
    generalize hyb : w5.heap.size = yb at *
    have HYB := Lib.hid hyb
    clear hyb
    refine wp_region_held_drew (S := (fun ws => ws.cell? ⟨yb, 0, none⟩ = some (.int .i64 d.1.x) ∧ ws.cell? ⟨yb, 1, none⟩ = some (.int .i64 d.1.y) ∧ ws.cell? ⟨yb, 2, none⟩ = some (.int .i64 d.1.w) ∧ ws.cell? ⟨yb, 3, none⟩ = some (.int .i64 d.1.h))) (by kernel_rfl) ⟨YB.out.cell 0, YB.out.cell 1, YB.out.cell 2, YB.out.cell 3⟩ (fun hHeld => ?_)
    refine wpAnyH_take (i := 1) (v := ?_) rfl (by kernel_rfl) (by kernel_rfl) (by kernel_rfl) (fun _ _ _ h => h) (Or.inl ⟨by rfl, ?_⟩) (by assumption) ?_
    rotate_left
    · (intro w hSw; (try dsimp only at hSw); first | (go_simp; done) | (go_simp; with_reducible rfl))
    simp only [Act.put, List.getElem_toArray, List.getElem_cons_zero, List.getElem_cons_succ, List.setIfInBounds_toArray, List.set_cons_zero, List.set_cons_succ]
    refine wpAnyH_take (i := 2) (v := ?_) rfl (by kernel_rfl) (by kernel_rfl) (by kernel_rfl) (fun _ _ _ h => h) (Or.inl ⟨by rfl, ?_⟩) (by assumption) ?_
    rotate_left
    · (intro w hSw; (try dsimp only at hSw); first | (go_simp; done) | (go_simp; with_reducible rfl))
    simp only [Act.put, List.getElem_toArray, List.getElem_cons_zero, List.getElem_cons_succ, List.setIfInBounds_toArray, List.set_cons_zero, List.set_cons_succ]
    obtain ⟨x0, x1, x2, x3⟩ := WV.out.four
    refine wpAnyH_ready (rs := [0, 3]) (by kernel_rfl) (by simp) ?_
    refine AllReadyH.cons rfl (fun K hK => ?_) (AllReadyH.cons rfl (fun K hK => ?_) AllReadyH.nil)
    · go_simp
      refine hK.out _ _ ⟨YB.out.cell 0, YB.out.cell 1, YB.out.cell 2, YB.out.cell 3⟩ (fun hHeld2 => ?_)
      clear hK K hHeld x0 x1 x2 x3
      refine wpAnyH_ready (rs := [3]) (by kernel_rfl) (by simp) ?_
      refine AllReadyH.cons rfl (fun K hK => ?_) AllReadyH.nil
      go_simp
      refine (back_any d.1 _).mono ?_
      rintro e w8 ⟨rfl, hb8⟩
      have B8 := Lib.hid (show Below wE.heap.size wE w8 from (base.below_drewN (Below.refl wE.heap.size wE) 1).trans hb8)
      have Y8 := Lib.hid (YB.out.below B8.out YB.out.lt)
      refine hK.out _ _ ⟨Y8.out.cell 0, Y8.out.cell 1, Y8.out.cell 2, Y8.out.cell 3⟩ (fun hHeld => ?_)
      clear hK K hHeld2 hb8
      refine wpAnyH_ready (rs := [4]) (by kernel_rfl) (by simp) ?_
      refine AllReadyH.cons rfl (fun K hK => ?_) AllReadyH.nil
      go_simp
      refine (join_any V d.1 w8).mono ?_
      rintro e w9 ⟨rfl, hb9⟩
      rw [← JV.out]
      have B9 := Lib.hid (up B8.out hb9 B8.out.size)
      have Y9 := Lib.hid (YB.out.below B9.out YB.out.lt)
      have W9 := Lib.hid (WV.out.below B9.out WV.out.lt)
      refine hK.out _ _ ⟨Y9.out.cell 0, Y9.out.cell 1, Y9.out.cell 2, Y9.out.cell 3⟩ (fun hHeld2 => ?_)
      clear hK K hHeld hb9
      have f0 := W9.out.free 0
      have f1 := W9.out.free 1
      have f2 := W9.out.free 2
      have f3 := W9.out.free 3
      obtain ⟨x0, x1, x2, x3⟩ := W9.out.four
      refine wpAnyH_ready (rs := [5]) (by kernel_rfl) (by simp) ?_
      refine AllReadyH.cons rfl (fun K hK => ?_) AllReadyH.nil
      go_simp
      have W10 := Lib.hid (blk4 W9.out (.int .i64 V2.x) (.int .i64 V2.y) (.int .i64 V2.w) (.int .i64 V2.h))
      have O10 := Lib.hid (only4 w9 wb (.int .i64 V2.x) (.int .i64 V2.y) (.int .i64 V2.w) (.int .i64 V2.h))
      have Y10 := Lib.hid (Y9.out.only O10.out YW.out)
      refine hK.out _ _ ⟨Y10.out.cell 0, Y10.out.cell 1, Y10.out.cell 2, Y10.out.cell 3⟩ (fun hHeld => ?_)
      clear hK K hHeld2 f0 f1 f2 f3 x0 x1 x2 x3
      refine wpAnyH_done (by kernel_rfl) ?_ _
      clear hHeld
      have BO10 := Lib.hid (offW BO.out (by rw [HYB.out]; exact BE.out.trans (B9.out.mono BS.out)) O10.out WF.out)
      generalize (((w9.setCell ⟨wb, 0, none⟩ (.int .i64 V2.x)).setCell ⟨wb, 1, none⟩ (.int .i64 V2.y)).setCell ⟨wb, 2, none⟩ (.int .i64 V2.w)).setCell ⟨wb, 3, none⟩ (.int .i64 V2.h) = w10 at *
      go_wp2_with fail
      clear wp1
      exact ⟨⟨p + 1, _, rfl, by omega, by go_num, by rw [HV2.out]; exact W10.out, BO10.out.1, BO10.out.2⟩, by simp [intOf]; omega⟩
    · go_simp
      clear x0 x1 x2 x3
      refine (back_any d.1 _).mono ?_
      rintro e w8 ⟨rfl, hb8⟩
      have B8 := Lib.hid (show Below wE.heap.size wE w8 from (base.below_drewN (Below.refl wE.heap.size wE) 1).trans hb8)
      have Y8 := Lib.hid (YB.out.below B8.out YB.out.lt)
      refine hK.out _ _ ⟨Y8.out.cell 0, Y8.out.cell 1, Y8.out.cell 2, Y8.out.cell 3⟩ (fun hHeld2 => ?_)
      clear hK K hHeld hb8
      obtain ⟨x0, x1, x2, x3⟩ := (WV.out.below B8.out WV.out.lt).four
      refine wpAnyH_ready (rs := [0]) (by kernel_rfl) (by simp) ?_
      refine AllReadyH.cons rfl (fun K hK => ?_) AllReadyH.nil
      go_simp
      refine hK.out _ _ ⟨Y8.out.cell 0, Y8.out.cell 1, Y8.out.cell 2, Y8.out.cell 3⟩ (fun hHeld => ?_)
      clear hK K hHeld2 x0 x1 x2 x3
      refine wpAnyH_ready (rs := [4]) (by kernel_rfl) (by simp) ?_
      refine AllReadyH.cons rfl (fun K hK => ?_) AllReadyH.nil
      go_simp
      refine (join_any V d.1 w8).mono ?_
      rintro e w9 ⟨rfl, hb9⟩
      rw [← JV.out]
      have B9 := Lib.hid (up B8.out hb9 B8.out.size)
      have Y9 := Lib.hid (YB.out.below B9.out YB.out.lt)
      have W9 := Lib.hid (WV.out.below B9.out WV.out.lt)
      refine hK.out _ _ ⟨Y9.out.cell 0, Y9.out.cell 1, Y9.out.cell 2, Y9.out.cell 3⟩ (fun hHeld2 => ?_)
      clear hK K hHeld hb9
      have f0 := W9.out.free 0
      have f1 := W9.out.free 1
      have f2 := W9.out.free 2
      have f3 := W9.out.free 3
      obtain ⟨x0, x1, x2, x3⟩ := W9.out.four
      refine wpAnyH_ready (rs := [5]) (by kernel_rfl) (by simp) ?_
      refine AllReadyH.cons rfl (fun K hK => ?_) AllReadyH.nil
      go_simp
      have W10 := Lib.hid (blk4 W9.out (.int .i64 V2.x) (.int .i64 V2.y) (.int .i64 V2.w) (.int .i64 V2.h))
      have O10 := Lib.hid (only4 w9 wb (.int .i64 V2.x) (.int .i64 V2.y) (.int .i64 V2.w) (.int .i64 V2.h))
      have Y10 := Lib.hid (Y9.out.only O10.out YW.out)
      refine hK.out _ _ ⟨Y10.out.cell 0, Y10.out.cell 1, Y10.out.cell 2, Y10.out.cell 3⟩ (fun hHeld => ?_)
      clear hK K hHeld2 f0 f1 f2 f3 x0 x1 x2 x3
      refine wpAnyH_done (by kernel_rfl) ?_ _
      clear hHeld
      have BO10 := Lib.hid (offW BO.out (by rw [HYB.out]; exact BE.out.trans (B9.out.mono BS.out)) O10.out WF.out)
      generalize (((w9.setCell ⟨wb, 0, none⟩ (.int .i64 V2.x)).setCell ⟨wb, 1, none⟩ (.int .i64 V2.y)).setCell ⟨wb, 2, none⟩ (.int .i64 V2.w)).setCell ⟨wb, 3, none⟩ (.int .i64 V2.h) = w10 at *
      go_wp2_with fail
      clear wp1
      exact ⟨⟨p + 1, _, rfl, by omega, by go_num, by rw [HV2.out]; exact W10.out, BO10.out.1, BO10.out.2⟩, by simp [intOf]; omega⟩
  · obtain rfl : p = nS := by omega
    have dp : decide (p < p) = false := decide_eq_false (by omega)
    have hTk : S.take p = S := by rw [← NS.out, List.take_length]
    rw [hTk] at hwv
    obtain ⟨h, root, v, X, a1, a2, a3, a4⟩ := hbo.tree
    have BO := Lib.hid hbo
    rw [NS.out] at a1
    have A1 := Lib.hid a1
    have hBB : bb ((all X).map Prod.fst) = bt S := bb_perm (a3.map _) a1.nd.things
    have BN := Lib.hid (bounds_any t h p root v X w5 a1 (by have := HS.out; omega))
    rw [hBB] at BN
    have HI := Lib.hid (show h = 0 ∨ 2 ^ h ≤ p from by
      rcases a2 with q | q
      · exact .inl q
      · right
        have := a1.nd.many (by omega)
        rw [a3.length_eq, NS.out] at this
        exact this)
    have HH := Lib.hid (a1.high (by rw [a3.length_eq, NS.out]; have := HS.out; omega))
    have WV := Lib.hid hwv
    generalize bt S = V at *
    clear hp hpl hbo hwv a1 a2 a3 a4 hTk hBB
    go_wp2_with fail
    refine BN.out.mono ?_
    rintro e w6 ⟨rfl, hb6⟩
    have B6 := Lib.hid hb6
    have W6 := Lib.hid (WV.out.below hb6 WV.out.lt)
    clear hb6 BN
    obtain ⟨w7, hw7⟩ : ∃ w7, w6.alloc (.cells #[.int .i64 V.x, .int .i64 V.y, .int .i64 V.w, .int .i64 V.h] 28) = w7 := ⟨_, rfl⟩
    have M7 := Lib.hid (show Below w6.heap.size w6 w7 from by rw [← hw7]; exact made w6 _)
    have R7 := Lib.hid (show Blk w7 w6.heap.size 28 #[.int .i64 V.x, .int .i64 V.y, .int .i64 V.w, .int .i64 V.h] from by rw [← hw7]; exact Blk.new _ _ _)
    have W7 := Lib.hid (W6.out.below M7.out W6.out.lt)
    have B7 := Lib.hid (up B6.out M7.out B6.out.size)
    have HW7 := Lib.hid hw7
    clear hw7
    go_upto_region 13 with fail
    have hw7 := HW7.out
    simp only [hw7]
    clear hw7 HW7
    generalize hrb : w6.heap.size = rb at *
    clear hrb
    have dg : decide ((p : Int) > 0) = decide (0 < p) := by
      by_cases q : 0 < p
      · rw [decide_eq_true q, decide_eq_true (by omega)]
      · rw [decide_eq_false q, decide_eq_false (by omega)]
    have hnq := fun ws => run_neq V V ws
    have hG := guard_rect
    obtain ⟨x0, x1, x2, x3⟩ := R7.out.four
    obtain ⟨y0, y1, y2, y3⟩ := W7.out.four
    have eV : decide (V = V) = true := decide_eq_true rfl
    rw [eV] at hnq
    by_cases hp0 : 0 < p
    · have dq : decide (0 < p) = true := decide_eq_true hp0
      rw [dq] at *
      go_upto_region 15 with fail
      clear x0 x1 x2 x3 y0 y1 y2 y3 hnq hG dg eV dq
      go_wp2_with fail
      go_loopw [10, 11] (fun nv kv wr => ∃ (j k : Nat) (W : World), W = wr ∧ nv = .int .i64 ((j : Int) + 1) ∧ kv = .int .i64 k ∧ j + k ≤ p ∧ (h ≤ j ∨ 2 ^ (h - j) ≤ k) ∧ Below w7.heap.size w7 wr) (fun _ kv _ => (intOf kv).toNat)
      case atStart => exact ⟨0, p, _, rfl, rfl, rfl, by omega, by rcases HI.out with q | q; exact .inl (by omega); exact .inr q, Below.refl _ _⟩
      case round =>
        obtain ⟨j, k, w8, rfl, rfl, rfl, hjk, hhk, hb8⟩ := hrel
        by_cases hk1 : 1 < k
        · have dk : decide ((k : Int) > 1) = true := decide_eq_true (by omega)
          have wj : IntKind.i64.wrap ((j : Int) + 1 + 1) = ((j + 1 : Nat) : Int) + 1 := by rw [IntWalk.i64_in _ (by have := HS.out; omega)]; omega
          have wk : IntKind.i64.wrap ((k : Int) / 2) = ((k / 2 : Nat) : Int) := by rw [IntWalk.i64_in _ (by have := HS.out; omega)]; omega
          have HQ := Lib.hid (show h ≤ j + 1 ∨ 2 ^ (h - (j + 1)) ≤ k / 2 from by
            rcases hhk with q | q
            · exact .inl (by omega)
            · by_cases q2 : h ≤ j + 1
              · exact .inl q2
              · right
                obtain ⟨m, hm⟩ : ∃ m, h - j = m + 1 := ⟨h - j - 1, by omega⟩
                have hm2 : h - (j + 1) = m := by omega
                rw [hm, Nat.pow_succ] at q
                rw [hm2]
                omega)
          have hk2 : k / 2 + 1 ≤ k := by omega
          generalize hkk : k / 2 = k2 at *
          have HK2 := Lib.hid (show j + 1 + k2 ≤ p ∧ k2 < k from ⟨by omega, by omega⟩)
          have B8 := Lib.hid hb8
          clear hhk hb8 hjk hk2
          go_wp2_with fail
          exact ⟨⟨j + 1, k2, _, rfl, by go_num, rfl, HK2.out.1, HQ.out, B8.out⟩, by simp [intOf]; exact HK2.out.2⟩
        · have dk : decide ((k : Int) > 1) = false := decide_eq_false (by omega)
          have hj : h ≤ j := by
            rcases hhk with q | q
            · exact q
            · have := Nat.two_pow_pos (h - j)
              by_cases q2 : h ≤ j
              · exact q2
              · have h2 : 2 ^ 1 ≤ 2 ^ (h - j) := Nat.pow_le_pow_right (by omega) (by omega)
                omega
          have B8 := Lib.hid (up B7.out hb8 B7.out.size)
          have A8 := Lib.hid (A1.out.below B8.out)
          have DP := Lib.hid (fun W (hW : Below w8.heap.size w8 W) => deep_any W t h p root v X (A8.out.below hW) (by have := HH.out; omega))
          have AW := Lib.hid (fun W => awake_any W)
          have g1 : decide ((h : Int) + 1 ≥ 1) = true := decide_eq_true (by omega)
          have g2 : decide ((h : Int) + 1 ≤ (j : Int) + 1) = true := decide_eq_true (by omega)
          clear hhk hb8 hjk
          go_wp2_with fail
          refine (DP.out _ (Below.refl _ _)).mono ?_
          rintro e w9 ⟨rfl, rfl⟩
          go_wp2_with fail
          refine (DP.out _ (Below.refl _ _)).mono ?_
          rintro e w9 ⟨rfl, rfl⟩
          go_wp2_with fail
          refine (AW.out _).mono ?_
          rintro e w10 ⟨rfl, hb10⟩
          have B10 := Lib.hid hb10
          clear hb10
          go_wp2_with fail
          have h8 : Below w.heap.size w w9 := up BO.out.below B8.out BO.out.below.size
          have hbf : Below w.heap.size w w10 := up h8 B10.out h8.size
          go_ret
          exact ⟨rfl, hbf⟩
    · have dq : decide (0 < p) = false := decide_eq_false hp0
      rw [dq] at *
      go_upto_region 15 with fail
      clear x0 x1 x2 x3 y0 y1 y2 y3 hnq hG dg eV dq
      go_wp2_with fail
      go_loopw [10, 11] (fun nv kv wr => ∃ (j k : Nat) (W : World), W = wr ∧ nv = .int .i64 ((j : Int) + 1) ∧ kv = .int .i64 k ∧ j + k ≤ p ∧ (h ≤ j ∨ 2 ^ (h - j) ≤ k) ∧ Below w7.heap.size w7 wr) (fun _ kv _ => (intOf kv).toNat)
      case atStart => exact ⟨0, p, _, rfl, rfl, rfl, by omega, by rcases HI.out with q | q; exact .inl (by omega); exact .inr q, Below.refl _ _⟩
      case round =>
        obtain ⟨j, k, w8, rfl, rfl, rfl, hjk, hhk, hb8⟩ := hrel
        by_cases hk1 : 1 < k
        · have dk : decide ((k : Int) > 1) = true := decide_eq_true (by omega)
          have wj : IntKind.i64.wrap ((j : Int) + 1 + 1) = ((j + 1 : Nat) : Int) + 1 := by rw [IntWalk.i64_in _ (by have := HS.out; omega)]; omega
          have wk : IntKind.i64.wrap ((k : Int) / 2) = ((k / 2 : Nat) : Int) := by rw [IntWalk.i64_in _ (by have := HS.out; omega)]; omega
          have HQ := Lib.hid (show h ≤ j + 1 ∨ 2 ^ (h - (j + 1)) ≤ k / 2 from by
            rcases hhk with q | q
            · exact .inl (by omega)
            · by_cases q2 : h ≤ j + 1
              · exact .inl q2
              · right
                obtain ⟨m, hm⟩ : ∃ m, h - j = m + 1 := ⟨h - j - 1, by omega⟩
                have hm2 : h - (j + 1) = m := by omega
                rw [hm, Nat.pow_succ] at q
                rw [hm2]
                omega)
          have hk2 : k / 2 + 1 ≤ k := by omega
          generalize hkk : k / 2 = k2 at *
          have HK2 := Lib.hid (show j + 1 + k2 ≤ p ∧ k2 < k from ⟨by omega, by omega⟩)
          have B8 := Lib.hid hb8
          clear hhk hb8 hjk hk2
          go_wp2_with fail
          exact ⟨⟨j + 1, k2, _, rfl, by go_num, rfl, HK2.out.1, HQ.out, B8.out⟩, by simp [intOf]; exact HK2.out.2⟩
        · have dk : decide ((k : Int) > 1) = false := decide_eq_false (by omega)
          have hj : h ≤ j := by
            rcases hhk with q | q
            · exact q
            · have := Nat.two_pow_pos (h - j)
              by_cases q2 : h ≤ j
              · exact q2
              · have h2 : 2 ^ 1 ≤ 2 ^ (h - j) := Nat.pow_le_pow_right (by omega) (by omega)
                omega
          have B8 := Lib.hid (up B7.out hb8 B7.out.size)
          have A8 := Lib.hid (A1.out.below B8.out)
          have DP := Lib.hid (fun W (hW : Below w8.heap.size w8 W) => deep_any W t h p root v X (A8.out.below hW) (by have := HH.out; omega))
          have AW := Lib.hid (fun W => awake_any W)
          have g1 : decide ((h : Int) + 1 ≥ 1) = true := decide_eq_true (by omega)
          have g2 : decide ((h : Int) + 1 ≤ (j : Int) + 1) = true := decide_eq_true (by omega)
          clear hhk hb8 hjk
          go_wp2_with fail
          refine (DP.out _ (Below.refl _ _)).mono ?_
          rintro e w9 ⟨rfl, rfl⟩
          go_wp2_with fail
          refine (DP.out _ (Below.refl _ _)).mono ?_
          rintro e w9 ⟨rfl, rfl⟩
          go_wp2_with fail
          refine (AW.out _).mono ?_
          rintro e w10 ⟨rfl, hb10⟩
          have B10 := Lib.hid hb10
          clear hb10
          go_wp2_with fail
          have h8 : Below w.heap.size w w9 := up BO.out.below B8.out BO.out.below.size
          have hbf : Below w.heap.size w w10 := up h8 B10.out h8.size
          go_ret
          exact ⟨rfl, hbf⟩
theorem walk (w : World) (A : Option Addr) (c : Nat) (L : List tr.Op) (h : Lay EO w A L) (b : L.length ≤ c) (m : c ≤ maxLen) (o : ∀ o ∈ L, o.ok) :
    Calls Try.prog 6 #[.slice A L.length c] w fun e w' => e = .returned (.bool true) ∧ Below w.heap.size w w' := by
  by_cases hl : L.length ≤ 120
  · exact walk_yes A c L w h o hl
  · exact walk_no A c L w (by omega)

set_option maxRecDepth 100000 in
theorem lifted (os : Os) (started : os.Started) (H : Type) (enc : TypeId × Value → H) :
    ReturnsInHanded {} Try.checked os 6 .any (Rows.rtreeBoundsSpec.pre6 enc Try.prog Try.f6 Rows.rtreeBoundsRow.domain false) (Rows.rtreeBoundsSpec.post enc Try.prog Try.f6 false true false false) := by
  refine returnsInHanded_of_change (C := Try.checked) base.own started (by kernel_rfl) Try.func6
    (ChangeSpec.witness6 (enc := enc) (C := Try.checked) false ⟨#[], #[.slice none 0 0], []⟩ 8 (by kernel_rfl) (by kernel_rfl) (by kernel_rfl) (by kernel_rfl)) ?_
  intro W bs args ds gs before hval0 hW _ _
  have hval : ∀ (j : Nat) t v, Try.f6.params[j]? = some t → args[j]? = some v → Value.okWide Try.prog W .any bs t v := hval0
  have hW' : DataW.Whole enc Try.prog Try.f6.params.toList Rows.rtreeBoundsSpec.vars false W args.toList ds gs before := hW
  obtain ⟨p, q, hA0, hV, rfl, _, _⟩ := hW
  have hA : DataW.TrodAll enc Try.prog W 0 (fun _ => true) true Try.f6.params.toList args.toList ds p := hA0
  rw [Try.params6] at hA hval
  obtain ⟨v0, vs0, d0, ds0, p0, q0, hargs, rfl, rfl, h0, r0⟩ := trodAll_cons hA
  obtain ⟨rfl, rfl, rfl⟩ := trodAll_nil r0
  obtain rfl : args = #[v0] := by cases args; simp_all
  obtain ⟨rfl, rfl⟩ := trodVars_none hV
  obtain ⟨A0, c0, D0, rfl, b0, m0, n0, o0⟩ := tr.open_ops (hval 0 22 v0 rfl rfl) h0
  clear hA0 hval0
  refine (walk W A0 c0 D0 n0 b0 m0 o0).mono fun e W' ⟨he, hb⟩ => ?_
  subst he
  exact ⟨_, rfl, base.law_post base.laid (by kernel_rfl) rfl rfl Try.underlying4 hW' rfl rfl rfl hb⟩

theorem over : Rows.rtreeBoundsRow.holds Try.pinned (OpenSpec.ofChange Rows.rtreeBoundsSpec) :=
  OpenClaim.holds_of_wide 6 Try.f6 rfl rfl rfl rfl rfl rfl rfl ⟨rfl, rfl, rfl, rfl, rfl⟩ rfl rfl rfl rfl rfl (by kernel_rfl) Try.func6 (by kernel_rfl)
    (of_decide_eq_true (by kernel_rfl)) (by unfold Func.isWrapper; first | (rw [if_pos (by decide +kernel)]; kernel_rfl) | (rw [if_neg (by decide +kernel)]; exact ⟨rfl, rfl⟩))
    (fun os started H enc _ => lifted os started H enc)

theorem proved : Rows.RtreeBoundsSaid := over
#print axioms proved
end Go.Proofs.Ytndhdpjgnepfnaa.rtreeBounds
