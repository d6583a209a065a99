/-
  Quads: Count.
-/
import Derived.Test.YtpfnkmlfpkjkpaaQdP
import Derived.Test.YtpfnkmlfpkjkpaaQdR
import Derived.Test.YtpfnkmlfpkjkpaaHeldIn
import Derived.Test.YtpfnkmlfpkjkpaaBase2
namespace Go.Proofs.Ytpfnkmlfpkjkpaa.qd
open Go.RowKit Go.Shelf
open base (ret_bool ret_int made up Blk Only)
open rect rgm
set_option linter.unusedVariables false
set_option linter.unusedSimpArgs false
attribute [local go_sem] Oper.semAt_some

/-- the boxes of a call of Count -/
structure CS (w : World) (v n : Int) (W : World) : Prop where
  b0 : Blk W w.heap.size 3 #[.int .i64 v]
  b1 : Blk W (w.heap.size + 1) 3 #[.int .i64 n]
  below : Below w.heap.size w W
section
variable {w W W' : World} {v n : Int}
theorem CS.only {T : Nat → Prop} (h : CS w v n W) (ho : Only T W W') (hT : ∀ k, k < w.heap.size + 2 → ¬ T k) : CS w v n W' :=
  ⟨h.b0.only ho (hT _ (by omega)), h.b1.only ho (hT _ (by omega)), h.below.trans (Only.to_below ho (fun i hi => hT i (by omega)) h.below.size)⟩
theorem CS.put (h : CS w v n W) (n' : Int) : CS w v n' (W.setCell ⟨w.heap.size + 1, 0, none⟩ (.int .i64 n')) := by
  refine ⟨h.b0.far (p := ⟨w.heap.size + 1, 0, none⟩) (by show w.heap.size ≠ w.heap.size + 1; omega) _, h.b1.put 0 _, h.below.setCell (p := ⟨w.heap.size + 1, 0, none⟩) (by show w.heap.size ≤ w.heap.size + 1; omega) _⟩
theorem one_only' (W : World) (b : Nat) (v : Value) : Only (fun j => j = b) W (W.setCell ⟨b, 0, none⟩ v) := (Only.refl (fun j => j = b) W).setCell (p := ⟨b, 0, none⟩) (.inl rfl) _
end
set_option maxRecDepth 100000 in
set_option maxHeartbeats 4000000 in
theorem count_any (g k : Nat) (q : Q) (v : Int) (w : World) (h : QAt w g k q) : Calls Try.prog 21 #[.pointer (some ⟨g, 0, none⟩), .int .i64 v] w fun e w' => e = .returned (.int .i64 (cnt v (lv q k 0 0 0 0 ((2 ^ k : Nat) : Int) ((2 ^ k : Nat) : Int)))) ∧ Below w.heap.size w w' := by
  obtain ⟨w2, hw2⟩ : ∃ w2, (w.alloc (.cells #[.int .i64 v] 3)).alloc (.cells #[.int .i64 0] 3) = w2 := ⟨_, rfl⟩
  have A0 : CS w v 0 w2 := by
    rw [← hw2]
    refine ⟨(Blk.new _ _ _).alloc _, ?_, (made w _).alloc (by rw [asz]; omega) _⟩
    have := Blk.new (w.alloc (.cells #[.int .i64 v] 3)) 3 #[.int .i64 0]
    rw [asz] at this
    exact this
  have BD := Lib.hid (fun e he => lv_box (q := q) (k := k) (x := 0) (y := 0) (a := 0) (b := 0) (c := ((2 ^ k : Nat) : Int)) (d := ((2 ^ k : Nat) : Int)) h.fits h.box e he)
  have CL := Lib.hid (cnt_le v (q := q) (k := k) (x := 0) (y := 0) (a := 0) (b := 0) (c := ((2 ^ k : Nat) : Int)) (d := ((2 ^ k : Nat) : Int)) h.fits)
  have K4 := Lib.hid (show ((4 ^ k : Nat) : Int) ≤ 65536 from by
    have h4 : 4 ^ k ≤ 4 ^ 8 := Nat.pow_le_pow_right (by decide) h.le
    have : 4 ^ 8 = 65536 := by decide
    omega)
  have Z2 := Lib.hid (show w2.heap.size = w.heap.size + 2 by rw [← hw2, asz, asz])
  have A2 := Lib.hid A0
  have LM := Lib.hid (squares_make g k q w2 (h.below A0.below))
  have Q2 := Lib.hid (h.below A0.below)
  have GW := Lib.hid (And.intro h.lt (show ∀ m, q.blocks m → m < w.heap.size from fun m e => h.is.blk_lt e))
  clear A0 h
  generalize ((2 ^ k : Nat) : Int) = s at *
  have HW2 := Lib.hid hw2
  clear hw2
  refine (callsIn_wide (n := 3)).1 ?_
  refine callsIn_of_wp_marks Try.func21 rfl trivial ?_ rfl
  simp only [Try.ntmps21, List.size_toArray, List.length_cons, List.length_nil, Nat.reduceAdd, Nat.reduceSub, Array.replicate_succ, Array.replicate_zero, List.push_toArray, List.append_toArray, List.nil_append, List.cons_append]
  refine wpIn_wide.2 (calm_wp ?_)
  go_upto_region 2 with fail
  have hw2 := HW2.out
  simp only [hw2]
  clear hw2 HW2
  go_wp2_with fail
  refine LM.out.mono ?_
  rintro e w3 ⟨B, rfl, hBB, hx3, hb3⟩
  have X3 := Lib.hid hx3
  have ZB := Lib.hid hBB
  have A3 := Lib.hid (A2.out.only (T := fun k => w2.heap.size ≤ k) ((Only.refl _ w2).below hb3 (fun i hi h => h)) (fun k hk => by have := Z2.out; omega))
  have Q3 := Lib.hid (Q2.out.below hb3)
  have Z3 := Lib.hid (show w.heap.size + 2 ≤ w3.heap.size from by have := Z2.out; have := hb3.size; omega)
  clear hx3 hb3 hBB LM A2 Q2
  go_wp2_with fail
  refine (wpIn_wide (n := 3)).1 ?_
  refine' wp_leaves6 B g k q 0 0 s s rfl rfl X3.out Q3.out (fun m W => CS w v (cnt v ((lv q k 0 0 0 0 s s).take m)) W) (fun c' W => False) (fun j => j = w.heap.size + 1) _ ?hS A3.out ?hJs ?hEs ?assign ?body ?done ?stop
  case hS =>
    have z2 := Z2.out
    have z3 := Z3.out
    have zb := ZB.out
    have gw := GW.out.1
    have hbl : ∀ j, w.heap.size ≤ j → ¬ q.blocks j := fun j hj e => by have := GW.out.2 j e; omega
    rintro j rfl
    exact ⟨by omega, by omega, hbl _ (by omega), by omega, by omega⟩
  case hJs =>
    rintro m W W' h2 ho
    exact h2.only ho (fun k hk => by have := Z3.out; omega)
  case hEs =>
    rintro c W W' h1 ho
    exact h1
  case assign =>
    intro d W b K hb hK
    have HB := Lib.hid hb
    clear hb
    simp only [Lf.args, List.zip_toArray, List.zip_cons_cons, List.zip_nil_right, List.foldl_toArray, List.foldl_cons, List.foldl_nil, List.setIfInBounds_toArray, List.set_cons_succ, List.set_cons_zero]
    gi_wp2
    have hb := HB.out
    simp only [hb]
    exact hK
  case body =>
    rintro m e b Wc hm hd ha hbz hbb
    have hs1 := cnt_succ v hm
    have hle := cnt_take_le v (lv q k 0 0 0 0 s s) (m + 1)
    have hp := cnt_pos v ((lv q k 0 0 0 0 s s).take m)
    have hp1 := cnt_pos v ((lv q k 0 0 0 0 s s).take (m + 1))
    have hcl := CL.out
    have hk4 := K4.out
    have hr := (BD.out _ (show (lv q k 0 0 0 0 s s).getD m dfl ∈ lv q k 0 0 0 0 s s from by
      rw [List.getD_eq_getElem?_getD, List.getElem?_eq_getElem hm, Option.getD_some]
      exact List.getElem_mem hm)).right
    rw [hd] at hs1 hr
    obtain ⟨d1, d2, d3, d4⟩ := e
    dsimp only at hs1 hr hbb ⊢
    have AR := Lib.hid (fun W => area_yes d1 d2 d3 d3 W hr)
    have c0 := ha.b0.cell 0
    have c1 := ha.b1.cell 0
    have f1 := ha.b1.free 0
    have HA := Lib.hid ha
    have HB := Lib.hid hbb
    obtain ⟨r0, r1, r2, r3⟩ := hbb.four
    by_cases hv : (d4 : Int) = v
    · have q1 : ((d4 : Int) == v) = true := by simpa using hv
      have q2 : decide ((d4 : Int) = v) = true := by simpa using hv
      rw [if_pos hv] at hs1
      have hw1 : IntKind.i64.wrap (cnt v ((lv q k 0 0 0 0 s s).take m) + d3 * d3) = cnt v ((lv q k 0 0 0 0 s s).take m) + d3 * d3 := IntWalk.i64_in _ (by omega)
      have FIN := Lib.hid (fun (W : World) (h : CS w v (cnt v ((lv q k 0 0 0 0 s s).take m)) W) => (show CS w v (cnt v ((lv q k 0 0 0 0 s s).take (m + 1))) (W.setCell ⟨w.heap.size + 1, 0, none⟩ (.int .i64 (cnt v ((lv q k 0 0 0 0 s s).take m) + d3 * d3))) from by rw [hs1]; exact h.put _))
      have hdr : Only (fun k => Wc.heap.size ≤ k) Wc Wc.drew := (Only.refl _ Wc).drewN 1
      have HAD := Lib.hid (show CS w v (cnt v ((lv q k 0 0 0 0 s s).take m)) Wc.drew from HA.out.only hdr (fun k hk => by have := HB.out.lt; have := Z3.out; omega))
      have HBD := Lib.hid (show Blk Wc.drew b 42 #[.int .i64 d1, .int .i64 d2, .int .i64 d3, .int .i64 d3] from HB.out.drewN 1)
      have ON := Lib.hid (show Only (fun j => j = w.heap.size + 1) Wc Wc.drew from (Only.refl _ Wc).drewN 1)
      have BN := Lib.hid (show w.heap.size + 2 ≤ Wc.heap.size from by have := HB.out.lt; have := Z3.out; omega)
      have KP := Lib.hid (fun (W : World) (h : Below Wc.drew.heap.size Wc.drew W) => (show CS w v (cnt v ((lv q k 0 0 0 0 s s).take m)) W ∧ Blk W b 42 #[.int .i64 d1, .int .i64 d2, .int .i64 d3, .int .i64 d3] ∧ Only (fun j => j = w.heap.size + 1) Wc W from
        ⟨HAD.out.only (T := fun k => Wc.drew.heap.size ≤ k) ((Only.refl _ _).below h (fun i hi e => e)) (fun k hk => by have := BN.out; have : Wc.heap.size ≤ Wc.drew.heap.size := ON.out.size; omega), HBD.out.below h HBD.out.lt, ON.out.trans ((Only.refl (fun _ => False) _).below h (fun i hi e => by omega)) (fun _ _ e => e.elim)⟩))
      clear hv hm hd ha hbb hs1 hle hp hp1 hcl hk4 hr hdr
      generalize cnt v ((lv q k 0 0 0 0 s s).take m) = n0 at *
      gi_wp2
      clear c0 c1 f1 r0 r1 r2 r3
      refine still.region_held_in (S := fun ws => ws.cell? ⟨b, 0, none⟩ = some (.int .i64 d1) ∧ ws.cell? ⟨b, 1, none⟩ = some (.int .i64 d2) ∧ ws.cell? ⟨b, 2, none⟩ = some (.int .i64 d3) ∧ ws.cell? ⟨b, 3, none⟩ = some (.int .i64 d3)) (still.rowy_round (w3.heap.size + 1)) (by kernel_rfl) (by kernel_rfl) (fun _ _ h => h) HBD.out.four (fun hHeld => ?_)
      clear ON BN HA HB
      generalize Wc.drew = wd at *
      refine wpAnyH_take (i := 1) (v := ?_) rfl (by kernel_rfl) (by kernel_rfl) (by kernel_rfl) (fun _ _ _ h => h) (Or.inl ⟨by rfl, ?_⟩) (by assumption) ?_
      rotate_left
      · (intro w hSw; (try dsimp only at hSw); first | (go_simp; done) | (go_simp; with_reducible rfl))
      simp only [Act.put, List.getElem_toArray, List.getElem_cons_zero, List.getElem_cons_succ, List.setIfInBounds_toArray, List.set_cons_zero, List.set_cons_succ]
      refine wpAnyH_ready (rs := [0, 2]) (by kernel_rfl) (by simp) ?_
      have c1 := HAD.out.b1.cell 0
      refine AllReadyH.cons rfl (fun K hK => ?_) (AllReadyH.cons rfl (fun K hK => ?_) AllReadyH.nil)
      · go_simp
        refine hK.out _ _ HBD.out.four (fun hHeld2 => ?_)
        clear hK K hHeld c1
        refine wpAnyH_ready (rs := [2]) (by kernel_rfl) (by simp) ?_
        refine AllReadyH.cons rfl (fun K hK => ?_) AllReadyH.nil
        go_simp
        refine (AR.out _).mono ?_
        rintro e w7 ⟨rfl, hb7⟩
        have P7 := Lib.hid (KP.out w7 hb7)
        refine hK.out _ _ P7.out.2.1.four (fun hHeld3 => ?_)
        clear hK K hHeld2 hb7
        refine wpAnyH_take (i := 3) (v := ?_) rfl (by kernel_rfl) (by kernel_rfl) (by kernel_rfl) (fun _ _ _ h => h) (Or.inl ⟨by rfl, ?_⟩) (by assumption) ?_
        rotate_left
        · (intro w hSw; (try dsimp only at hSw); first | (go_simp; done) | (go_simp; with_reducible rfl))
        simp only [Act.put, List.getElem_toArray, List.getElem_cons_zero, List.getElem_cons_succ, List.setIfInBounds_toArray, List.set_cons_zero, List.set_cons_succ]
        have c7 := P7.out.1.b1.cell 0
        have f7 := P7.out.1.b1.free 0
        refine wpAnyH_ready (rs := [4]) (by kernel_rfl) (by simp) ?_
        refine AllReadyH.cons rfl (fun K hK => ?_) AllReadyH.nil
        go_simp
        have R9 := P7.out.2.1.far (p := ⟨w.heap.size + 1, 0, none⟩) (by have := Z3.out; show b ≠ w.heap.size + 1; omega) (.int .i64 (n0 + d3 * d3))
        have END := Lib.hid (And.intro (P7.out.2.2.trans (one_only' w7 (w.heap.size + 1) (.int .i64 (n0 + d3 * d3))) (fun _ _ e => e)) (FIN.out w7 P7.out.1))
        refine hK.out _ _ R9.four (fun hHeld5 => ?_)
        clear hK K hHeld3 R9 c7 f7
        refine wpAnyH_done (by kernel_rfl) ?_ _
        clear hHeld5
        gi_wp2
        exact END.out
      · go_simp
        refine (AR.out _).mono ?_
        rintro e w7 ⟨rfl, hb7⟩
        have P7 := Lib.hid (KP.out w7 hb7)
        refine hK.out _ _ P7.out.2.1.four (fun hHeld3 => ?_)
        clear hK K hHeld hb7 c1
        have c7 := P7.out.1.b1.cell 0
        have f7 := P7.out.1.b1.free 0
        refine wpAnyH_ready (rs := [0]) (by kernel_rfl) (by simp) ?_
        refine AllReadyH.cons rfl (fun K hK => ?_) AllReadyH.nil
        go_simp
        refine hK.out _ _ P7.out.2.1.four (fun hHeld4 => ?_)
        clear hK K hHeld3
        refine wpAnyH_take (i := 3) (v := ?_) rfl (by kernel_rfl) (by kernel_rfl) (by kernel_rfl) (fun _ _ _ h => h) (Or.inl ⟨by rfl, ?_⟩) (by assumption) ?_
        rotate_left
        · (intro w hSw; (try dsimp only at hSw); first | (go_simp; done) | (go_simp; with_reducible rfl))
        simp only [Act.put, List.getElem_toArray, List.getElem_cons_zero, List.getElem_cons_succ, List.setIfInBounds_toArray, List.set_cons_zero, List.set_cons_succ]
        refine wpAnyH_ready (rs := [4]) (by kernel_rfl) (by simp) ?_
        refine AllReadyH.cons rfl (fun K hK => ?_) AllReadyH.nil
        go_simp
        have R9 := P7.out.2.1.far (p := ⟨w.heap.size + 1, 0, none⟩) (by have := Z3.out; show b ≠ w.heap.size + 1; omega) (.int .i64 (n0 + d3 * d3))
        have END := Lib.hid (And.intro (P7.out.2.2.trans (one_only' w7 (w.heap.size + 1) (.int .i64 (n0 + d3 * d3))) (fun _ _ e => e)) (FIN.out w7 P7.out.1))
        refine hK.out _ _ R9.four (fun hHeld5 => ?_)
        clear hK K hHeld4 R9 c7 f7
        refine wpAnyH_done (by kernel_rfl) ?_ _
        clear hHeld5
        gi_wp2
        exact END.out
    · have q1 : ((d4 : Int) == v) = false := by simpa using hv
      have q2 : decide ((d4 : Int) = v) = false := by simpa using hv
      rw [if_neg hv, Int.add_zero] at hs1
      have FIN := Lib.hid (show CS w v (cnt v ((lv q k 0 0 0 0 s s).take (m + 1))) Wc from by rw [hs1]; exact ha)
      clear hv hm hd ha hbb hs1 hle hp hp1 hcl hk4 hr
      gi_wp2
      exact ⟨Only.refl _ _, FIN.out⟩
  case done =>
    rintro W ha hs hK
    rw [List.take_length] at ha
    have KD := Lib.hid hK
    have HQ := Lib.hid ha.below
    have DW := Lib.hid (show w.heap.size ≤ w3.heap.size from by have := Z3.out; omega)
    have c0 := ha.b1.cell 0
    clear ha hs hK
    go_wp2_with fail
    refine ⟨by simp, .inl ⟨_, _, rfl, run_takeDeferred KD.out, ?_⟩⟩
    refine ⟨.int .i64 (cnt v (lv q k 0 0 0 0 s s)), ?_, rfl, HQ.out.trans (belowK_b (w := w) (Nat.le_refl _) _ w3.heap.size _ _ DW.out KD.out rfl rfl)⟩
    simp [results, Try.f21, go_sem]
  case stop =>
    rintro c W h hs hK
    exact h.elim
end Go.Proofs.Ytpfnkmlfpkjkpaa.qd
