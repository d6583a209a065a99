/-
  RentStages: any house has at any tick the stage that the document says; what some periods cost is told exactly, or refused.
-/
import Derived.Test.YtmgfnhbhgmpchaaRsD
import Derived.Test.YtmgfnhbhgmpchaaRentC
import Derived.Test.YtmgfnhbhgmpchaaStructs
import Derived.Test.YtmgfnhbhgmpchaaBase2
namespace Go.Proofs.Ytmgfnhbhgmpchaa.rentStages
open Go.ChangeShapes Go.WideShapes Go.ChangeAt Go.RowKit
open rn mk rk
open base (ret_bool ret_int made up Blk Only IntRows)
set_option linter.unusedVariables false
set_option linter.unusedSimpArgs false

set_option maxRecDepth 100000 in
set_option maxHeartbeats 2000000 in
theorem walk_no (w : World) (A : Option Addr) (m c : Nat) (z0 z1 z2 z3 : Int) (hm : m ≤ 9223372036854775807) (h : 60 < m) :
    Calls Try.prog 4 #[.slice A m c, .agg #[.int .i64 z0, .int .i64 z1, .int .i64 z2, .int .i64 z3]] w fun e w' => e = .returned (.bool true) ∧ Below w.heap.size w w' := by
  have hmm := made w (.cells #[.int .i64 z0, .int .i64 z1, .int .i64 z2, .int .i64 z3] 28)
  have B0 := Lib.hid hmm
  clear hmm
  have N := Lib.hid (fun ws => new_any ws)
  have AW := Lib.hid (fun ws => awake_any ws)
  go_enter Try.func4, Try.ntmps4
  go_wp2_with fail
  generalize w.alloc (.cells #[.int .i64 z0, .int .i64 z1, .int .i64 z2, .int .i64 z3] 28) = w0 at *
  refine (N.out _).mono ?_
  rintro e w1 ⟨rfl, -, hb1⟩
  have B1 := Lib.hid (up B0.out hb1 B0.out.size)
  clear hb1
  go_wp2_with fail
  refine (AW.out _).mono ?_
  rintro e w2 ⟨rfl, hba⟩
  have BA := Lib.hid (up B1.out hba B1.out.size)
  clear hba
  go_wp2_with fail
  go_ret
  exact ⟨rfl, BA.out⟩
theorem wf_nth {m : Nat} {F : Nat → Nat → Int} (hw : ∀ i, i < m → ∀ j, j < 4 → -9223372036854775808 ≤ F i j ∧ F i j ≤ 9223372036854775807) {i : Nat} (hi : i < m) {j : Nat} (hj : j < 4) : (Lit.int .i64 (F i j)).wf = true := mk.wf_of (hw i hi j hj).1 (hw i hi j hj).2

/-- behind the loop -/
structure Fin (w w0 wr : World) (A : Option Addr) (c : Nat) (L : List R3) (cn : Nat) (z0 z1 z2 z3 : Int) : Prop where
  r : RAt wr (w0.heap.size + 1) w0.heap.size (rn.look L) cn
  o : rk.Own E3 wr w0.heap.size 42 (.slice A L.length c) L
  g : Gd L
  l : L.length ≤ 1000
  b : Below w.heap.size w wr
  z : Blk wr w.heap.size 28 #[.int .i64 z0, .int .i64 z1, .int .i64 z2, .int .i64 z3]
theorem Fin.below {w w0 wr ws : World} {A : Option Addr} {c cn : Nat} {L : List R3} {z0 z1 z2 z3 : Int} (h : Fin w w0 wr A c L cn z0 z1 z2 z3) (hb : Below wr.heap.size wr ws) : Fin w w0 ws A c L cn z0 z1 z2 z3 :=
  ⟨h.r.below hb, rk.Own.below h.o hb, h.g, h.l, up h.b hb h.b.size, h.z.below hb h.z.lt⟩
set_option maxRecDepth 100000 in
set_option maxHeartbeats 8000000 in
theorem walk_yes (w : World) (A : Option Addr) (m c : Nat) (F : Nat → Nat → Int) (h1 : IntRows w A m 4 F) (hm : m ≤ 60) (hw : ∀ i, i < m → ∀ j, j < 4 → -9223372036854775808 ≤ F i j ∧ F i j ≤ 9223372036854775807) (z0 z1 z2 z3 : Int) (wz1 : (Lit.int .i64 z1).wf = true) (hz2 : z2 ≤ 9223372036854775807) (hz3 : z3 ≤ 9223372036854775807) :
    Calls Try.prog 4 #[.slice A m c, .agg #[.int .i64 z0, .int .i64 z1, .int .i64 z2, .int .i64 z3]] w fun e w' => e = .returned (.bool true) ∧ Below w.heap.size w w' := by
  have hmm := made w (.cells #[.int .i64 z0, .int .i64 z1, .int .i64 z2, .int .i64 z3] 28)
  have B0 := Lib.hid hmm
  have Z0 := Lib.hid (Blk.new w 28 #[.int .i64 z0, .int .i64 z1, .int .i64 z2, .int .i64 z3])
  have N := Lib.hid (fun ws => new_any ws)
  have AW := Lib.hid (fun ws => awake_any ws)
  have NN := Lib.hid (base.IntRows.keep h1 hmm)
  have HW := Lib.hid hw
  have WZ := Lib.hid wz1
  have HZ2 := Lib.hid hz2
  have HZ3 := Lib.hid hz3
  clear h1 hmm hw wz1 hz2 hz3
  go_enter Try.func4, Try.ntmps4
  go_wp2_with fail
  generalize w.alloc (.cells #[.int .i64 z0, .int .i64 z1, .int .i64 z2, .int .i64 z3] 28) = w0 at *
  refine (N.out _).mono ?_
  rintro e w1 ⟨rfl, hr1, hb1⟩
  have R1 := Lib.hid hr1
  have B1 := Lib.hid hb1
  have ZN := Lib.hid (show w.heap.size < w0.heap.size from Z0.out.lt)
  clear hr1 hb1 N
  go_wp2_with fail
  go_loopw [6, 32] (fun x i wr => ∃ (k : Nat) (W : World) (L : List R3) (cn : Nat), W = wr ∧ k ≤ m ∧ i = .int .i64 k ∧ RAt wr (w0.heap.size + 1) w0.heap.size (rn.look L) cn ∧ cn ≤ k ∧ rk.Own E3 wr w0.heap.size 42 x L ∧ L.length ≤ k ∧ Gd L ∧ Mut w0.heap.size w1 wr) (fun _ i _ => m - (intOf i).toNat)
  case atStart => exact ⟨0, _, [], 0, rfl, by omega, rfl, R1.out, by omega, rk.Own.nil _ _ _, by simp, fun d hd => (by cases hd), Only.refl _ _⟩
  case round =>
  obtain ⟨k, w2, L, cn, rfl, hk, rfl, hr, hcn, ho, hll, hg, hmu⟩ := hrel
  have R2 := Lib.hid hr
  have O2 := Lib.hid ho
  have GD := Lib.hid hg
  have M2 := Lib.hid hmu
  obtain ⟨Ax, cx, rfl, -⟩ := ho.open_
  have C2 := Lib.hid (show Below w0.heap.size w0 w2 from B1.out.trans (hmu.to (Nat.le_refl _) B1.out.size))
  clear hr ho hg hmu
  by_cases hkm : k < m
  · obtain ⟨b, off, rfl, _, hcell⟩ := (base.IntRows.keep NN.out C2.out) (by omega)
    have e0 := hcell k hkm 0 (by omega)
    have e1 := hcell k hkm 1 (by omega)
    have e2 := hcell k hkm 2 (by omega)
    have e3 := hcell k hkm 3 (by omega)
    rw [Nat.add_zero] at e0
    have WN := Lib.hid (wf_nth HW.out hkm (show 1 < 4 by omega))
    clear hcell
    generalize F k 0 = k0 at *
    generalize F k 1 = k1 at *
    generalize F k 2 = k2 at *
    generalize F k 3 = k3 at *
    have hm3 := made w2 (.cells #[.int .i64 k0, .int .i64 k1, .int .i64 k2, .int .i64 k3] 28)
    have R3_ := Lib.hid (R2.out.below hm3)
    have O3 := Lib.hid (rk.Own.below O2.out hm3)
    have M3 := Lib.hid (M2.out.then_ (Mut.of_below hm3))
    have HS := Lib.hid (Nat.le_trans C2.out.size hm3.size)
    have X3 := Lib.hid (Blk.new w2 28 #[.int .i64 k0, .int .i64 k1, .int .i64 k2, .int .i64 k3])
    clear hm3
    go_upto_region 8 with fail
    generalize w2.alloc (.cells #[.int .i64 k0, .int .i64 k1, .int .i64 k2, .int .i64 k3] 28) = w3 at *
    clear e0 e1 e2 e3
    have o0 := X3.out.cell 0
    have o1 := X3.out.cell 1
    have o2 := X3.out.cell 2
    have o3 := X3.out.cell 3
    have SP := Lib.hid (step_any Ax cx cn L k0 k1 k2 k3 w0.heap.size (w0.heap.size + 1) w0.heap.size w3 R3_.out O3.out (by omega) HS.out (Nat.le_refl _) GD.out WN.out (by omega))
    have SG := Lib.hid (step_good GD.out k0 k1 k2 k3)
    generalize stepS L k0 k1 k2 k3 = L2 at *
    go_wp2_with fail
    refine SP.out.mono ?_
    rintro e w4 ⟨v4, c4, rfl, hr4, hc4, ho4, hm4⟩
    have R4 := Lib.hid hr4
    have O4 := Lib.hid ho4
    have M4 := Lib.hid (M3.out.then_ hm4)
    obtain ⟨A4, d4, rfl, -⟩ := ho4.open_
    clear hr4 ho4 hm4 SP o0 o1 o2 o3
    have hsz := SG.out.2
    go_wp2_with fail
    refine ⟨⟨k + 1, _, L2, c4, rfl, by omega, by go_num, R4.out, by omega, O4.out, by omega, SG.out.1, M4.out⟩, by simp [intOf]; omega⟩
  · obtain rfl : k = m := by omega
    have F2 := Lib.hid (show Fin w w0 w2 Ax cx L cn z0 z1 z2 z3 from ⟨R2.out, O2.out, GD.out, by omega, (B0.out.trans (C2.out.mono (Nat.le_of_lt ZN.out))), Z0.out.below C2.out ZN.out⟩)
    have CO := Lib.hid (fun ws (h : RAt ws (w0.heap.size + 1) w0.heap.size (rn.look L) cn) => cost_any (w0.heap.size + 1) w0.heap.size cn (rn.look L) z1 z2 ws h WZ.out (fun d hd => (GD.out d (look_mem hd)).1))
    have RF := Lib.hid (fun ws (h : Lay E3 ws Ax L) => rfind_any Ax cx L z1 ws h (by omega))
    clear R1 B1 M2 C2 R2 O2 NN HW Z0 B0
    have y1 := F2.out.z.cell 1
    have y3 := F2.out.z.cell 3
    cases q : fi (isH z1) L with
    | none =>
      have hn := look_none q
      rw [q] at RF
      dsimp only [ix] at RF
      have SG := Lib.hid (stage_none (w0.heap.size + 1) w0.heap.size cn (rn.look L) z1 z3 w2 F2.out.r WZ.out hn)
      have GE := Lib.hid (fun ws (h : RAt ws (w0.heap.size + 1) w0.heap.size (rn.look L) cn) => get_none h WZ.out hn)
      rw [hn] at CO
      rw [show costOf none z2 = (0, 14) from rfl] at CO
      clear q hn
      go_wp2_with fail
      refine SG.out.mono ?_
      rintro e w3 ⟨rfl, hb3⟩
      have F3 := Lib.hid (F2.out.below hb3)
      clear hb3 SG y1 y3 F2
      have y1 := F3.out.z.cell 1
      have y2 := F3.out.z.cell 2
      go_wp2_with fail
      refine (CO.out _ F3.out.r).mono ?_
      rintro e w4 ⟨rfl, hb4⟩
      have F4 := Lib.hid (F3.out.below hb4)
      clear hb4 CO y1 y2 F3
      have y1 := F4.out.z.cell 1
      go_wp2_with fail
      refine (RF.out _ (own_lay F4.out.o)).mono ?_
      rintro e w5 ⟨rfl, rfl⟩
      go_wp2_with fail
      refine (GE.out _ F4.out.r).mono ?_
      rintro e w6 ⟨rfl, hb6⟩
      have hm := made w6 (.cells #[.int .i64 0, .int .i64 0, .int .i64 0] 38)
      have F6 := Lib.hid ((F4.out.below hb6).below hm)
      clear hb6 hm GE y1 F4
      go_upto_region 15 with fail
      generalize w6.alloc (.cells #[.int .i64 0, .int .i64 0, .int .i64 0] 38) = w7 at *
      have B7 := Lib.hid F6.out.b
      go_wp2_with fail
      refine (AW.out _).mono ?_
      rintro e w8 ⟨rfl, hba⟩
      have BA := Lib.hid (up B7.out hba B7.out.size)
      clear hba
      go_wp2_with fail
      go_ret
      exact ⟨rfl, BA.out⟩
    | some i =>
      obtain ⟨hi, h1, h2⟩ := look_some q
      rw [q] at RF
      dsimp only [ix] at RF
      obtain ⟨d, hd⟩ : ∃ d, L[i] = d := ⟨_, rfl⟩
      rw [hd] at h1
      have gd := GD.out d (look_mem h1)
      obtain ⟨d0, d1, d2⟩ := d
      dsimp only at gd
      obtain ⟨⟨gd0, gd1⟩, gd2, gd3⟩ := gd
      obtain ⟨bb, off, rfl, -⟩ := lay3 (own_lay F2.out.o) hi
      have ROW := Lib.hid (fun ws (h : Lay E3 ws (some ⟨bb, off, none⟩) L) => lay3_at h hi hd)
      dsimp only at ROW
      have SG := Lib.hid (stage_some (w0.heap.size + 1) w0.heap.size cn (rn.look L) z1 z3 w2 F2.out.r WZ.out d0 d1 d2 h1 gd2 gd3 HZ3.out)
      have RS := Lib.hid (fun ws => rstage_any d2 z3 ws gd2 gd3)
      have AE := Lib.hid (show costOf (some (d0, d1, d2)) z2 = if okPer z2 = false then (0, 11) else if d1 * z2 ≤ 1099511627776 then (d1 * z2, 0) else (0, 15) from rfl)
      rw [h1] at CO
      generalize costOf (some (d0, d1, d2)) z2 = co at *
      obtain ⟨cv, ce⟩ := co
      dsimp only at CO
      generalize stageOf d2 z3 = st at *
      clear q h1 h2 hd
      by_cases q1 : z2 < 1
      · have e1 := AE.out
        rw [if_pos (by unfold okPer; simp; omega)] at e1
        injection e1 with e1 e2
        subst e1 e2
        have q1a : decide (z2 < 1) = true := by simpa using q1
        clear AE q1
        go_wp2_with fail
        refine SG.out.mono ?_
        rintro e w3 ⟨rfl, hb3⟩
        have F3 := Lib.hid (F2.out.below hb3)
        clear hb3 SG y1 y3 F2
        have y1 := F3.out.z.cell 1
        have y2 := F3.out.z.cell 2
        go_wp2_with fail
        refine (CO.out _ F3.out.r).mono ?_
        rintro e w4 ⟨rfl, hb4⟩
        have F4 := Lib.hid (F3.out.below hb4)
        clear hb4 CO y1 y2 F3
        have y1 := F4.out.z.cell 1
        go_wp2_with fail
        refine (RF.out _ (own_lay F4.out.o)).mono ?_
        rintro e w5 ⟨rfl, rfl⟩
        have F5 := Lib.hid (show Fin w w0 w4.drew (some ⟨bb, off, none⟩) cx L cn z0 z1 z2 z3 from F4.out.below ((Below.refl _ _).drew))
        have S5 := Lib.hid (show w4.drew.cell? ⟨bb, off + i * 3 + 2, none⟩ = some (.int .i64 d2) ∧ w4.drew.cell? ⟨w.heap.size, 3, none⟩ = some (.int .i64 z3) from ⟨(ROW.out _ (own_lay F5.out.o)).2.2, F5.out.z.cell 3⟩)
        clear y1
        go_wp2_with fail
        refine wp_region_held_drew (S := fun ws => ws.cell? ⟨bb, off + i * 3 + 2, none⟩ = some (.int .i64 d2) ∧ ws.cell? ⟨w.heap.size, 3, none⟩ = some (.int .i64 z3)) (by kernel_rfl) S5.out (fun hHeld => ?_)
        refine wpAnyH_take (i := 0) (v := ?_) rfl (by kernel_rfl) (by kernel_rfl) (by kernel_rfl) (fun _ _ _ h => h) (Or.inl ⟨by rfl, ?_⟩) (by assumption) ?_
        rotate_left
        · (intro w hSw; (try dsimp only at hSw); first | (go_simp; done) | (go_simp; with_reducible rfl))
        simp only [Act.put, List.getElem_toArray, List.getElem_cons_zero, List.getElem_cons_succ, List.setIfInBounds_toArray, List.set_cons_zero, List.set_cons_succ]
        refine wpAnyH_take (i := 1) (v := ?_) rfl (by kernel_rfl) (by kernel_rfl) (by kernel_rfl) (fun _ _ _ h => h) (Or.inl ⟨by rfl, ?_⟩) (by assumption) ?_
        rotate_left
        · (intro w hSw; (try dsimp only at hSw); first | (go_simp; done) | (go_simp; with_reducible rfl))
        simp only [Act.put, List.getElem_toArray, List.getElem_cons_zero, List.getElem_cons_succ, List.setIfInBounds_toArray, List.set_cons_zero, List.set_cons_succ]
        refine wpAnyH_take (i := 2) (v := ?_) rfl (by kernel_rfl) (by kernel_rfl) (by kernel_rfl) (fun _ _ _ h => h) (Or.inl ⟨by rfl, ?_⟩) (by assumption) ?_
        rotate_left
        · (intro w hSw; (try dsimp only at hSw); first | (go_simp; done) | (go_simp; with_reducible rfl))
        simp only [Act.put, List.getElem_toArray, List.getElem_cons_zero, List.getElem_cons_succ, List.setIfInBounds_toArray, List.set_cons_zero, List.set_cons_succ]
        refine wpAnyH_take (i := 3) (v := ?_) rfl (by kernel_rfl) (by kernel_rfl) (by kernel_rfl) (fun _ _ _ h => h) (Or.inl ⟨by rfl, ?_⟩) (by assumption) ?_
        rotate_left
        · (intro w hSw; (try dsimp only at hSw); first | (go_simp; done) | (go_simp; with_reducible rfl))
        simp only [Act.put, List.getElem_toArray, List.getElem_cons_zero, List.getElem_cons_succ, List.setIfInBounds_toArray, List.set_cons_zero, List.set_cons_succ]
        refine wpAnyH_take (i := 4) (v := ?_) rfl (by kernel_rfl) (by kernel_rfl) (by kernel_rfl) (fun _ _ _ h => h) (Or.inl ⟨by rfl, ?_⟩) (by assumption) ?_
        rotate_left
        · (intro w hSw; (try dsimp only at hSw); first | (go_simp; done) | (go_simp; with_reducible rfl))
        simp only [Act.put, List.getElem_toArray, List.getElem_cons_zero, List.getElem_cons_succ, List.setIfInBounds_toArray, List.set_cons_zero, List.set_cons_succ]
        refine wpAnyH_take (i := 5) (v := ?_) rfl (by kernel_rfl) (by kernel_rfl) (by kernel_rfl) (fun _ _ _ h => h) (Or.inl ⟨by rfl, ?_⟩) (by assumption) ?_
        rotate_left
        · (intro w hSw; (try dsimp only at hSw); first | (go_simp; done) | (go_simp; with_reducible rfl))
        simp only [Act.put, List.getElem_toArray, List.getElem_cons_zero, List.getElem_cons_succ, List.setIfInBounds_toArray, List.set_cons_zero, List.set_cons_succ]
        refine wpAnyH_take (i := 6) (v := ?_) rfl (by kernel_rfl) (by kernel_rfl) (by kernel_rfl) (fun _ _ _ h => h) (Or.inl ⟨by rfl, ?_⟩) (by assumption) ?_
        rotate_left
        · (intro w hSw; (try dsimp only at hSw); first | (go_simp; done) | (go_simp; with_reducible rfl))
        simp only [Act.put, List.getElem_toArray, List.getElem_cons_zero, List.getElem_cons_succ, List.setIfInBounds_toArray, List.set_cons_zero, List.set_cons_succ]
        refine wpAnyH_take (i := 7) (v := ?_) rfl (by kernel_rfl) (by kernel_rfl) (by kernel_rfl) (fun _ _ _ h => h) (Or.inl ⟨by rfl, ?_⟩) (by assumption) ?_
        rotate_left
        · (intro w hSw; (try dsimp only at hSw); first | (go_simp; done) | (go_simp; with_reducible rfl))
        simp only [Act.put, List.getElem_toArray, List.getElem_cons_zero, List.getElem_cons_succ, List.setIfInBounds_toArray, List.set_cons_zero, List.set_cons_succ]
        refine wpAnyH_take (i := 8) (v := ?_) rfl (by kernel_rfl) (by kernel_rfl) (by kernel_rfl) (fun _ _ _ h => h) (Or.inl ⟨by rfl, ?_⟩) (by assumption) ?_
        rotate_left
        · (intro w hSw; (try dsimp only at hSw); first | (go_simp; done) | (go_simp; with_reducible rfl))
        simp only [Act.put, List.getElem_toArray, List.getElem_cons_zero, List.getElem_cons_succ, List.setIfInBounds_toArray, List.set_cons_zero, List.set_cons_succ]
        refine wpAnyH_take (i := 9) (v := ?_) rfl (by kernel_rfl) (by kernel_rfl) (by kernel_rfl) (fun _ _ _ h => h) (Or.inl ⟨by rfl, ?_⟩) (by assumption) ?_
        rotate_left
        · (intro w hSw; (try dsimp only at hSw); first | (go_simp; done) | (go_simp; with_reducible rfl))
        simp only [Act.put, List.getElem_toArray, List.getElem_cons_zero, List.getElem_cons_succ, List.setIfInBounds_toArray, List.set_cons_zero, List.set_cons_succ]
        refine wpAnyH_take (i := 10) (v := ?_) rfl (by kernel_rfl) (by kernel_rfl) (by kernel_rfl) (fun _ _ _ h => h) (Or.inl ⟨by rfl, ?_⟩) (by assumption) ?_
        rotate_left
        · (intro w hSw; (try dsimp only at hSw); first | (go_simp; done) | (go_simp; with_reducible rfl))
        simp only [Act.put, List.getElem_toArray, List.getElem_cons_zero, List.getElem_cons_succ, List.setIfInBounds_toArray, List.set_cons_zero, List.set_cons_succ]
        refine wpAnyH_ready (rs := [11]) (by kernel_rfl) (by simp) ?_
        refine AllReadyH.cons rfl (fun K hK => ?_) AllReadyH.nil
        go_simp
        go_wp2_with (go_at_call 16; refine (RS.out _).mono ?_; rintro e w6 ⟨rfl, rfl⟩)
        refine hK.out _ _ S5.out (fun hH1 => ?_)
        clear hK K hHeld
        refine wpAnyH_take (i := 12) (v := ?_) rfl (by kernel_rfl) (by kernel_rfl) (by kernel_rfl) (fun _ _ _ h => h) (Or.inl ⟨by rfl, ?_⟩) (by assumption) ?_
        rotate_left
        · (intro w hSw; (try dsimp only at hSw); first | (go_simp; done) | (go_simp; with_reducible rfl))
        simp only [Act.put, List.getElem_toArray, List.getElem_cons_zero, List.getElem_cons_succ, List.setIfInBounds_toArray, List.set_cons_zero, List.set_cons_succ]
        refine wpAnyH_take (i := 13) (v := ?_) rfl (by kernel_rfl) (by kernel_rfl) (by kernel_rfl) (fun _ _ _ h => h) (Or.inl ⟨by rfl, ?_⟩) (by assumption) ?_
        rotate_left
        · (intro w hSw; (try dsimp only at hSw); first | (go_simp; done) | (go_simp; with_reducible rfl))
        simp only [Act.put, List.getElem_toArray, List.getElem_cons_zero, List.getElem_cons_succ, List.setIfInBounds_toArray, List.set_cons_zero, List.set_cons_succ]
        refine wpAnyH_done (by kernel_rfl) ?_ _
        clear hH1 S5 RS F4
        generalize w4.drew = w6 at *
        have y2 := F5.out.z.cell 2
        have B6 := Lib.hid F5.out.b
        go_wp2_with fail
        refine (AW.out _).mono ?_
        rintro e w7 ⟨rfl, hba⟩
        have BA := Lib.hid (up B6.out hba B6.out.size)
        clear hba
        go_wp2_with fail
        go_ret
        exact ⟨rfl, BA.out⟩
      by_cases q2 : 12 < z2
      · have e1 := AE.out
        rw [if_pos (by unfold okPer; simp; omega)] at e1
        injection e1 with e1 e2
        subst e1 e2
        have q1a : decide (z2 < 1) = false := by simpa using q1
        have q2a : decide (12 < z2) = true := by simpa using q2
        have q2b : decide (z2 > 12) = true := by simpa using q2
        clear AE q1 q2
        go_wp2_with fail
        refine SG.out.mono ?_
        rintro e w3 ⟨rfl, hb3⟩
        have F3 := Lib.hid (F2.out.below hb3)
        clear hb3 SG y1 y3 F2
        have y1 := F3.out.z.cell 1
        have y2 := F3.out.z.cell 2
        go_wp2_with fail
        refine (CO.out _ F3.out.r).mono ?_
        rintro e w4 ⟨rfl, hb4⟩
        have F4 := Lib.hid (F3.out.below hb4)
        clear hb4 CO y1 y2 F3
        have y1 := F4.out.z.cell 1
        go_wp2_with fail
        refine (RF.out _ (own_lay F4.out.o)).mono ?_
        rintro e w5 ⟨rfl, rfl⟩
        have F5 := Lib.hid (show Fin w w0 w4.drew (some ⟨bb, off, none⟩) cx L cn z0 z1 z2 z3 from F4.out.below ((Below.refl _ _).drew))
        have S5 := Lib.hid (show w4.drew.cell? ⟨bb, off + i * 3 + 2, none⟩ = some (.int .i64 d2) ∧ w4.drew.cell? ⟨w.heap.size, 3, none⟩ = some (.int .i64 z3) from ⟨(ROW.out _ (own_lay F5.out.o)).2.2, F5.out.z.cell 3⟩)
        clear y1
        go_wp2_with fail
        refine wp_region_held_drew (S := fun ws => ws.cell? ⟨bb, off + i * 3 + 2, none⟩ = some (.int .i64 d2) ∧ ws.cell? ⟨w.heap.size, 3, none⟩ = some (.int .i64 z3)) (by kernel_rfl) S5.out (fun hHeld => ?_)
        refine wpAnyH_take (i := 0) (v := ?_) rfl (by kernel_rfl) (by kernel_rfl) (by kernel_rfl) (fun _ _ _ h => h) (Or.inl ⟨by rfl, ?_⟩) (by assumption) ?_
        rotate_left
        · (intro w hSw; (try dsimp only at hSw); first | (go_simp; done) | (go_simp; with_reducible rfl))
        simp only [Act.put, List.getElem_toArray, List.getElem_cons_zero, List.getElem_cons_succ, List.setIfInBounds_toArray, List.set_cons_zero, List.set_cons_succ]
        refine wpAnyH_take (i := 1) (v := ?_) rfl (by kernel_rfl) (by kernel_rfl) (by kernel_rfl) (fun _ _ _ h => h) (Or.inl ⟨by rfl, ?_⟩) (by assumption) ?_
        rotate_left
        · (intro w hSw; (try dsimp only at hSw); first | (go_simp; done) | (go_simp; with_reducible rfl))
        simp only [Act.put, List.getElem_toArray, List.getElem_cons_zero, List.getElem_cons_succ, List.setIfInBounds_toArray, List.set_cons_zero, List.set_cons_succ]
        refine wpAnyH_take (i := 2) (v := ?_) rfl (by kernel_rfl) (by kernel_rfl) (by kernel_rfl) (fun _ _ _ h => h) (Or.inl ⟨by rfl, ?_⟩) (by assumption) ?_
        rotate_left
        · (intro w hSw; (try dsimp only at hSw); first | (go_simp; done) | (go_simp; with_reducible rfl))
        simp only [Act.put, List.getElem_toArray, List.getElem_cons_zero, List.getElem_cons_succ, List.setIfInBounds_toArray, List.set_cons_zero, List.set_cons_succ]
        refine wpAnyH_take (i := 3) (v := ?_) rfl (by kernel_rfl) (by kernel_rfl) (by kernel_rfl) (fun _ _ _ h => h) (Or.inl ⟨by rfl, ?_⟩) (by assumption) ?_
        rotate_left
        · (intro w hSw; (try dsimp only at hSw); first | (go_simp; done) | (go_simp; with_reducible rfl))
        simp only [Act.put, List.getElem_toArray, List.getElem_cons_zero, List.getElem_cons_succ, List.setIfInBounds_toArray, List.set_cons_zero, List.set_cons_succ]
        refine wpAnyH_take (i := 4) (v := ?_) rfl (by kernel_rfl) (by kernel_rfl) (by kernel_rfl) (fun _ _ _ h => h) (Or.inl ⟨by rfl, ?_⟩) (by assumption) ?_
        rotate_left
        · (intro w hSw; (try dsimp only at hSw); first | (go_simp; done) | (go_simp; with_reducible rfl))
        simp only [Act.put, List.getElem_toArray, List.getElem_cons_zero, List.getElem_cons_succ, List.setIfInBounds_toArray, List.set_cons_zero, List.set_cons_succ]
        refine wpAnyH_take (i := 5) (v := ?_) rfl (by kernel_rfl) (by kernel_rfl) (by kernel_rfl) (fun _ _ _ h => h) (Or.inl ⟨by rfl, ?_⟩) (by assumption) ?_
        rotate_left
        · (intro w hSw; (try dsimp only at hSw); first | (go_simp; done) | (go_simp; with_reducible rfl))
        simp only [Act.put, List.getElem_toArray, List.getElem_cons_zero, List.getElem_cons_succ, List.setIfInBounds_toArray, List.set_cons_zero, List.set_cons_succ]
        refine wpAnyH_take (i := 6) (v := ?_) rfl (by kernel_rfl) (by kernel_rfl) (by kernel_rfl) (fun _ _ _ h => h) (Or.inl ⟨by rfl, ?_⟩) (by assumption) ?_
        rotate_left
        · (intro w hSw; (try dsimp only at hSw); first | (go_simp; done) | (go_simp; with_reducible rfl))
        simp only [Act.put, List.getElem_toArray, List.getElem_cons_zero, List.getElem_cons_succ, List.setIfInBounds_toArray, List.set_cons_zero, List.set_cons_succ]
        refine wpAnyH_take (i := 7) (v := ?_) rfl (by kernel_rfl) (by kernel_rfl) (by kernel_rfl) (fun _ _ _ h => h) (Or.inl ⟨by rfl, ?_⟩) (by assumption) ?_
        rotate_left
        · (intro w hSw; (try dsimp only at hSw); first | (go_simp; done) | (go_simp; with_reducible rfl))
        simp only [Act.put, List.getElem_toArray, List.getElem_cons_zero, List.getElem_cons_succ, List.setIfInBounds_toArray, List.set_cons_zero, List.set_cons_succ]
        refine wpAnyH_take (i := 8) (v := ?_) rfl (by kernel_rfl) (by kernel_rfl) (by kernel_rfl) (fun _ _ _ h => h) (Or.inl ⟨by rfl, ?_⟩) (by assumption) ?_
        rotate_left
        · (intro w hSw; (try dsimp only at hSw); first | (go_simp; done) | (go_simp; with_reducible rfl))
        simp only [Act.put, List.getElem_toArray, List.getElem_cons_zero, List.getElem_cons_succ, List.setIfInBounds_toArray, List.set_cons_zero, List.set_cons_succ]
        refine wpAnyH_take (i := 9) (v := ?_) rfl (by kernel_rfl) (by kernel_rfl) (by kernel_rfl) (fun _ _ _ h => h) (Or.inl ⟨by rfl, ?_⟩) (by assumption) ?_
        rotate_left
        · (intro w hSw; (try dsimp only at hSw); first | (go_simp; done) | (go_simp; with_reducible rfl))
        simp only [Act.put, List.getElem_toArray, List.getElem_cons_zero, List.getElem_cons_succ, List.setIfInBounds_toArray, List.set_cons_zero, List.set_cons_succ]
        refine wpAnyH_take (i := 10) (v := ?_) rfl (by kernel_rfl) (by kernel_rfl) (by kernel_rfl) (fun _ _ _ h => h) (Or.inl ⟨by rfl, ?_⟩) (by assumption) ?_
        rotate_left
        · (intro w hSw; (try dsimp only at hSw); first | (go_simp; done) | (go_simp; with_reducible rfl))
        simp only [Act.put, List.getElem_toArray, List.getElem_cons_zero, List.getElem_cons_succ, List.setIfInBounds_toArray, List.set_cons_zero, List.set_cons_succ]
        refine wpAnyH_ready (rs := [11]) (by kernel_rfl) (by simp) ?_
        refine AllReadyH.cons rfl (fun K hK => ?_) AllReadyH.nil
        go_simp
        go_wp2_with (go_at_call 16; refine (RS.out _).mono ?_; rintro e w6 ⟨rfl, rfl⟩)
        refine hK.out _ _ S5.out (fun hH1 => ?_)
        clear hK K hHeld
        refine wpAnyH_take (i := 12) (v := ?_) rfl (by kernel_rfl) (by kernel_rfl) (by kernel_rfl) (fun _ _ _ h => h) (Or.inl ⟨by rfl, ?_⟩) (by assumption) ?_
        rotate_left
        · (intro w hSw; (try dsimp only at hSw); first | (go_simp; done) | (go_simp; with_reducible rfl))
        simp only [Act.put, List.getElem_toArray, List.getElem_cons_zero, List.getElem_cons_succ, List.setIfInBounds_toArray, List.set_cons_zero, List.set_cons_succ]
        refine wpAnyH_take (i := 13) (v := ?_) rfl (by kernel_rfl) (by kernel_rfl) (by kernel_rfl) (fun _ _ _ h => h) (Or.inl ⟨by rfl, ?_⟩) (by assumption) ?_
        rotate_left
        · (intro w hSw; (try dsimp only at hSw); first | (go_simp; done) | (go_simp; with_reducible rfl))
        simp only [Act.put, List.getElem_toArray, List.getElem_cons_zero, List.getElem_cons_succ, List.setIfInBounds_toArray, List.set_cons_zero, List.set_cons_succ]
        refine wpAnyH_done (by kernel_rfl) ?_ _
        clear hH1 S5 RS F4
        generalize w4.drew = w6 at *
        have y2 := F5.out.z.cell 2
        have B6 := Lib.hid F5.out.b
        go_wp2_with fail
        refine (AW.out _).mono ?_
        rintro e w7 ⟨rfl, hba⟩
        have BA := Lib.hid (up B6.out hba B6.out.size)
        clear hba
        go_wp2_with fail
        go_ret
        exact ⟨rfl, BA.out⟩
      have e1 := AE.out
      rw [if_neg (by unfold okPer; simp; omega)] at e1
      have q1a : decide (z2 < 1) = false := by simpa using q1
      have q2a : decide (12 < z2) = false := by simpa using q2
      have q2b : decide (z2 > 12) = false := by simpa using q2
      have RT := fun ws => gold.rtimes_any d1 z2 ws (gold.right_mk (by omega) gd1) (by omega) (by omega)
      have pp : 0 ≤ d1 * z2 := Int.mul_nonneg (by omega) (by omega)
      by_cases q3 : d1 * z2 ≤ 1099511627776
      · rw [if_pos q3] at e1
        injection e1 with e1 e2
        subst e1 e2
        have TM := Lib.hid (fun ws => (RT ws).mono (fun e w' (h : gold.TimesPost (d1 * z2) ws e w') => (show e = .returned (.int .i64 (d1 * z2)) ∧ ws = w' from by
          obtain ⟨⟨_, h1⟩ | ⟨h1, _⟩, h2⟩ := h
          · exact ⟨h1, h2⟩
          · exact absurd h1 (by omega))))
        clear AE q1 q2 RT
        generalize d1 * z2 = p at *
        have q4a : decide (p < 0) = false := by simp; omega
        clear q3
        go_wp2_with fail
        refine SG.out.mono ?_
        rintro e w3 ⟨rfl, hb3⟩
        have F3 := Lib.hid (F2.out.below hb3)
        clear hb3 SG y1 y3 F2
        have y1 := F3.out.z.cell 1
        have y2 := F3.out.z.cell 2
        go_wp2_with fail
        refine (CO.out _ F3.out.r).mono ?_
        rintro e w4 ⟨rfl, hb4⟩
        have F4 := Lib.hid (F3.out.below hb4)
        clear hb4 CO y1 y2 F3
        have y1 := F4.out.z.cell 1
        go_wp2_with fail
        refine (RF.out _ (own_lay F4.out.o)).mono ?_
        rintro e w5 ⟨rfl, rfl⟩
        have F5 := Lib.hid (show Fin w w0 w4.drew (some ⟨bb, off, none⟩) cx L cn z0 z1 z2 z3 from F4.out.below ((Below.refl _ _).drew))
        have S5 := Lib.hid (show w4.drew.cell? ⟨bb, off + i * 3 + 2, none⟩ = some (.int .i64 d2) ∧ w4.drew.cell? ⟨w.heap.size, 3, none⟩ = some (.int .i64 z3) from ⟨(ROW.out _ (own_lay F5.out.o)).2.2, F5.out.z.cell 3⟩)
        clear y1
        go_wp2_with fail
        refine wp_region_held_drew (S := fun ws => ws.cell? ⟨bb, off + i * 3 + 2, none⟩ = some (.int .i64 d2) ∧ ws.cell? ⟨w.heap.size, 3, none⟩ = some (.int .i64 z3)) (by kernel_rfl) S5.out (fun hHeld => ?_)
        refine wpAnyH_take (i := 0) (v := ?_) rfl (by kernel_rfl) (by kernel_rfl) (by kernel_rfl) (fun _ _ _ h => h) (Or.inl ⟨by rfl, ?_⟩) (by assumption) ?_
        rotate_left
        · (intro w hSw; (try dsimp only at hSw); first | (go_simp; done) | (go_simp; with_reducible rfl))
        simp only [Act.put, List.getElem_toArray, List.getElem_cons_zero, List.getElem_cons_succ, List.setIfInBounds_toArray, List.set_cons_zero, List.set_cons_succ]
        refine wpAnyH_take (i := 1) (v := ?_) rfl (by kernel_rfl) (by kernel_rfl) (by kernel_rfl) (fun _ _ _ h => h) (Or.inl ⟨by rfl, ?_⟩) (by assumption) ?_
        rotate_left
        · (intro w hSw; (try dsimp only at hSw); first | (go_simp; done) | (go_simp; with_reducible rfl))
        simp only [Act.put, List.getElem_toArray, List.getElem_cons_zero, List.getElem_cons_succ, List.setIfInBounds_toArray, List.set_cons_zero, List.set_cons_succ]
        refine wpAnyH_take (i := 2) (v := ?_) rfl (by kernel_rfl) (by kernel_rfl) (by kernel_rfl) (fun _ _ _ h => h) (Or.inl ⟨by rfl, ?_⟩) (by assumption) ?_
        rotate_left
        · (intro w hSw; (try dsimp only at hSw); first | (go_simp; done) | (go_simp; with_reducible rfl))
        simp only [Act.put, List.getElem_toArray, List.getElem_cons_zero, List.getElem_cons_succ, List.setIfInBounds_toArray, List.set_cons_zero, List.set_cons_succ]
        refine wpAnyH_take (i := 3) (v := ?_) rfl (by kernel_rfl) (by kernel_rfl) (by kernel_rfl) (fun _ _ _ h => h) (Or.inl ⟨by rfl, ?_⟩) (by assumption) ?_
        rotate_left
        · (intro w hSw; (try dsimp only at hSw); first | (go_simp; done) | (go_simp; with_reducible rfl))
        simp only [Act.put, List.getElem_toArray, List.getElem_cons_zero, List.getElem_cons_succ, List.setIfInBounds_toArray, List.set_cons_zero, List.set_cons_succ]
        refine wpAnyH_take (i := 4) (v := ?_) rfl (by kernel_rfl) (by kernel_rfl) (by kernel_rfl) (fun _ _ _ h => h) (Or.inl ⟨by rfl, ?_⟩) (by assumption) ?_
        rotate_left
        · (intro w hSw; (try dsimp only at hSw); first | (go_simp; done) | (go_simp; with_reducible rfl))
        simp only [Act.put, List.getElem_toArray, List.getElem_cons_zero, List.getElem_cons_succ, List.setIfInBounds_toArray, List.set_cons_zero, List.set_cons_succ]
        refine wpAnyH_take (i := 5) (v := ?_) rfl (by kernel_rfl) (by kernel_rfl) (by kernel_rfl) (fun _ _ _ h => h) (Or.inl ⟨by rfl, ?_⟩) (by assumption) ?_
        rotate_left
        · (intro w hSw; (try dsimp only at hSw); first | (go_simp; done) | (go_simp; with_reducible rfl))
        simp only [Act.put, List.getElem_toArray, List.getElem_cons_zero, List.getElem_cons_succ, List.setIfInBounds_toArray, List.set_cons_zero, List.set_cons_succ]
        refine wpAnyH_take (i := 6) (v := ?_) rfl (by kernel_rfl) (by kernel_rfl) (by kernel_rfl) (fun _ _ _ h => h) (Or.inl ⟨by rfl, ?_⟩) (by assumption) ?_
        rotate_left
        · (intro w hSw; (try dsimp only at hSw); first | (go_simp; done) | (go_simp; with_reducible rfl))
        simp only [Act.put, List.getElem_toArray, List.getElem_cons_zero, List.getElem_cons_succ, List.setIfInBounds_toArray, List.set_cons_zero, List.set_cons_succ]
        refine wpAnyH_take (i := 7) (v := ?_) rfl (by kernel_rfl) (by kernel_rfl) (by kernel_rfl) (fun _ _ _ h => h) (Or.inl ⟨by rfl, ?_⟩) (by assumption) ?_
        rotate_left
        · (intro w hSw; (try dsimp only at hSw); first | (go_simp; done) | (go_simp; with_reducible rfl))
        simp only [Act.put, List.getElem_toArray, List.getElem_cons_zero, List.getElem_cons_succ, List.setIfInBounds_toArray, List.set_cons_zero, List.set_cons_succ]
        refine wpAnyH_take (i := 8) (v := ?_) rfl (by kernel_rfl) (by kernel_rfl) (by kernel_rfl) (fun _ _ _ h => h) (Or.inl ⟨by rfl, ?_⟩) (by assumption) ?_
        rotate_left
        · (intro w hSw; (try dsimp only at hSw); first | (go_simp; done) | (go_simp; with_reducible rfl))
        simp only [Act.put, List.getElem_toArray, List.getElem_cons_zero, List.getElem_cons_succ, List.setIfInBounds_toArray, List.set_cons_zero, List.set_cons_succ]
        refine wpAnyH_take (i := 9) (v := ?_) rfl (by kernel_rfl) (by kernel_rfl) (by kernel_rfl) (fun _ _ _ h => h) (Or.inl ⟨by rfl, ?_⟩) (by assumption) ?_
        rotate_left
        · (intro w hSw; (try dsimp only at hSw); first | (go_simp; done) | (go_simp; with_reducible rfl))
        simp only [Act.put, List.getElem_toArray, List.getElem_cons_zero, List.getElem_cons_succ, List.setIfInBounds_toArray, List.set_cons_zero, List.set_cons_succ]
        refine wpAnyH_take (i := 10) (v := ?_) rfl (by kernel_rfl) (by kernel_rfl) (by kernel_rfl) (fun _ _ _ h => h) (Or.inl ⟨by rfl, ?_⟩) (by assumption) ?_
        rotate_left
        · (intro w hSw; (try dsimp only at hSw); first | (go_simp; done) | (go_simp; with_reducible rfl))
        simp only [Act.put, List.getElem_toArray, List.getElem_cons_zero, List.getElem_cons_succ, List.setIfInBounds_toArray, List.set_cons_zero, List.set_cons_succ]
        refine wpAnyH_ready (rs := [11]) (by kernel_rfl) (by simp) ?_
        refine AllReadyH.cons rfl (fun K hK => ?_) AllReadyH.nil
        go_simp
        go_wp2_with (go_at_call 16; refine (RS.out _).mono ?_; rintro e w6 ⟨rfl, rfl⟩)
        refine hK.out _ _ S5.out (fun hH1 => ?_)
        clear hK K hHeld
        refine wpAnyH_take (i := 12) (v := ?_) rfl (by kernel_rfl) (by kernel_rfl) (by kernel_rfl) (fun _ _ _ h => h) (Or.inl ⟨by rfl, ?_⟩) (by assumption) ?_
        rotate_left
        · (intro w hSw; (try dsimp only at hSw); first | (go_simp; done) | (go_simp; with_reducible rfl))
        simp only [Act.put, List.getElem_toArray, List.getElem_cons_zero, List.getElem_cons_succ, List.setIfInBounds_toArray, List.set_cons_zero, List.set_cons_succ]
        refine wpAnyH_take (i := 13) (v := ?_) rfl (by kernel_rfl) (by kernel_rfl) (by kernel_rfl) (fun _ _ _ h => h) (Or.inl ⟨by rfl, ?_⟩) (by assumption) ?_
        rotate_left
        · (intro w hSw; (try dsimp only at hSw); first | (go_simp; done) | (go_simp; with_reducible rfl))
        simp only [Act.put, List.getElem_toArray, List.getElem_cons_zero, List.getElem_cons_succ, List.setIfInBounds_toArray, List.set_cons_zero, List.set_cons_succ]
        refine wpAnyH_done (by kernel_rfl) ?_ _
        clear hH1 S5 RS F4
        generalize w4.drew = w6 at *
        have y2 := F5.out.z.cell 2
        go_upto_region 20 with fail
        clear y2
        have F7 := Lib.hid (show Fin w w0 w6.drew (some ⟨bb, off, none⟩) cx L cn z0 z1 z2 z3 from F5.out.below ((Below.refl _ _).drew))
        have S7 := Lib.hid (show w6.drew.cell? ⟨bb, off + i * 3 + 1, none⟩ = some (.int .i64 d1) ∧ w6.drew.cell? ⟨w.heap.size, 2, none⟩ = some (.int .i64 z2) from ⟨(ROW.out _ (own_lay F7.out.o)).2.1, F7.out.z.cell 2⟩)
        refine wp_region_held_drew (S := fun ws => ws.cell? ⟨bb, off + i * 3 + 1, none⟩ = some (.int .i64 d1) ∧ ws.cell? ⟨w.heap.size, 2, none⟩ = some (.int .i64 z2)) (by kernel_rfl) S7.out (fun hHeld => ?_)
        refine wpAnyH_take (i := 0) (v := ?_) rfl (by kernel_rfl) (by kernel_rfl) (by kernel_rfl) (fun _ _ _ h => h) (Or.inl ⟨by rfl, ?_⟩) (by assumption) ?_
        rotate_left
        · (intro w hSw; (try dsimp only at hSw); first | (go_simp; done) | (go_simp; with_reducible rfl))
        simp only [Act.put, List.getElem_toArray, List.getElem_cons_zero, List.getElem_cons_succ, List.setIfInBounds_toArray, List.set_cons_zero, List.set_cons_succ]
        refine wpAnyH_take (i := 1) (v := ?_) rfl (by kernel_rfl) (by kernel_rfl) (by kernel_rfl) (fun _ _ _ h => h) (Or.inl ⟨by rfl, ?_⟩) (by assumption) ?_
        rotate_left
        · (intro w hSw; (try dsimp only at hSw); first | (go_simp; done) | (go_simp; with_reducible rfl))
        simp only [Act.put, List.getElem_toArray, List.getElem_cons_zero, List.getElem_cons_succ, List.setIfInBounds_toArray, List.set_cons_zero, List.set_cons_succ]
        refine wpAnyH_take (i := 2) (v := ?_) rfl (by kernel_rfl) (by kernel_rfl) (by kernel_rfl) (fun _ _ _ h => h) (Or.inl ⟨by rfl, ?_⟩) (by assumption) ?_
        rotate_left
        · (intro w hSw; (try dsimp only at hSw); first | (go_simp; done) | (go_simp; with_reducible rfl))
        simp only [Act.put, List.getElem_toArray, List.getElem_cons_zero, List.getElem_cons_succ, List.setIfInBounds_toArray, List.set_cons_zero, List.set_cons_succ]
        refine wpAnyH_take (i := 3) (v := ?_) rfl (by kernel_rfl) (by kernel_rfl) (by kernel_rfl) (fun _ _ _ h => h) (Or.inl ⟨by rfl, ?_⟩) (by assumption) ?_
        rotate_left
        · (intro w hSw; (try dsimp only at hSw); first | (go_simp; done) | (go_simp; with_reducible rfl))
        simp only [Act.put, List.getElem_toArray, List.getElem_cons_zero, List.getElem_cons_succ, List.setIfInBounds_toArray, List.set_cons_zero, List.set_cons_succ]
        refine wpAnyH_take (i := 4) (v := ?_) rfl (by kernel_rfl) (by kernel_rfl) (by kernel_rfl) (fun _ _ _ h => h) (Or.inl ⟨by rfl, ?_⟩) (by assumption) ?_
        rotate_left
        · (intro w hSw; (try dsimp only at hSw); first | (go_simp; done) | (go_simp; with_reducible rfl))
        simp only [Act.put, List.getElem_toArray, List.getElem_cons_zero, List.getElem_cons_succ, List.setIfInBounds_toArray, List.set_cons_zero, List.set_cons_succ]
        refine wpAnyH_take (i := 5) (v := ?_) rfl (by kernel_rfl) (by kernel_rfl) (by kernel_rfl) (fun _ _ _ h => h) (Or.inl ⟨by rfl, ?_⟩) (by assumption) ?_
        rotate_left
        · (intro w hSw; (try dsimp only at hSw); first | (go_simp; done) | (go_simp; with_reducible rfl))
        simp only [Act.put, List.getElem_toArray, List.getElem_cons_zero, List.getElem_cons_succ, List.setIfInBounds_toArray, List.set_cons_zero, List.set_cons_succ]
        refine wpAnyH_take (i := 6) (v := ?_) rfl (by kernel_rfl) (by kernel_rfl) (by kernel_rfl) (fun _ _ _ h => h) (Or.inl ⟨by rfl, ?_⟩) (by assumption) ?_
        rotate_left
        · (intro w hSw; (try dsimp only at hSw); first | (go_simp; done) | (go_simp; with_reducible rfl))
        simp only [Act.put, List.getElem_toArray, List.getElem_cons_zero, List.getElem_cons_succ, List.setIfInBounds_toArray, List.set_cons_zero, List.set_cons_succ]
        refine wpAnyH_ready (rs := [7]) (by kernel_rfl) (by simp) ?_
        refine AllReadyH.cons rfl (fun K hK => ?_) AllReadyH.nil
        go_simp
        go_wp2_with (go_at_call 17; refine (TM.out _).mono ?_; rintro e w8 ⟨rfl, rfl⟩)
        refine hK.out _ _ S7.out (fun hH1 => ?_)
        clear hK K hHeld
        refine wpAnyH_take (i := 8) (v := ?_) rfl (by kernel_rfl) (by kernel_rfl) (by kernel_rfl) (fun _ _ _ h => h) (Or.inl ⟨by rfl, ?_⟩) (by assumption) ?_
        rotate_left
        · (intro w hSw; (try dsimp only at hSw); first | (go_simp; done) | (go_simp; with_reducible rfl))
        simp only [Act.put, List.getElem_toArray, List.getElem_cons_zero, List.getElem_cons_succ, List.setIfInBounds_toArray, List.set_cons_zero, List.set_cons_succ]
        refine wpAnyH_done (by kernel_rfl) ?_ _
        clear hH1 S7 TM F5
        generalize w6.drew = w8 at *
        have B8 := Lib.hid F7.out.b
        go_wp2_with fail
        refine (AW.out _).mono ?_
        rintro e w9 ⟨rfl, hba⟩
        have BA := Lib.hid (up B8.out hba B8.out.size)
        clear hba
        go_wp2_with fail
        go_ret
        exact ⟨rfl, BA.out⟩
      · rw [if_neg q3] at e1
        injection e1 with e1 e2
        subst e1 e2
        have TM := Lib.hid (fun ws => (RT ws).mono (fun e w' (h : gold.TimesPost (d1 * z2) ws e w') => (show e = .returned (.int .i64 (-1)) ∧ ws = w' from by
          obtain ⟨⟨h1, _⟩ | ⟨_, h1⟩, h2⟩ := h
          · exact absurd h1 q3
          · exact ⟨h1, h2⟩)))
        clear AE q1 q2 RT q3 pp
        go_wp2_with fail
        refine SG.out.mono ?_
        rintro e w3 ⟨rfl, hb3⟩
        have F3 := Lib.hid (F2.out.below hb3)
        clear hb3 SG y1 y3 F2
        have y1 := F3.out.z.cell 1
        have y2 := F3.out.z.cell 2
        go_wp2_with fail
        refine (CO.out _ F3.out.r).mono ?_
        rintro e w4 ⟨rfl, hb4⟩
        have F4 := Lib.hid (F3.out.below hb4)
        clear hb4 CO y1 y2 F3
        have y1 := F4.out.z.cell 1
        go_wp2_with fail
        refine (RF.out _ (own_lay F4.out.o)).mono ?_
        rintro e w5 ⟨rfl, rfl⟩
        have F5 := Lib.hid (show Fin w w0 w4.drew (some ⟨bb, off, none⟩) cx L cn z0 z1 z2 z3 from F4.out.below ((Below.refl _ _).drew))
        have S5 := Lib.hid (show w4.drew.cell? ⟨bb, off + i * 3 + 2, none⟩ = some (.int .i64 d2) ∧ w4.drew.cell? ⟨w.heap.size, 3, none⟩ = some (.int .i64 z3) from ⟨(ROW.out _ (own_lay F5.out.o)).2.2, F5.out.z.cell 3⟩)
        clear y1
        go_wp2_with fail
        refine wp_region_held_drew (S := fun ws => ws.cell? ⟨bb, off + i * 3 + 2, none⟩ = some (.int .i64 d2) ∧ ws.cell? ⟨w.heap.size, 3, none⟩ = some (.int .i64 z3)) (by kernel_rfl) S5.out (fun hHeld => ?_)
        refine wpAnyH_take (i := 0) (v := ?_) rfl (by kernel_rfl) (by kernel_rfl) (by kernel_rfl) (fun _ _ _ h => h) (Or.inl ⟨by rfl, ?_⟩) (by assumption) ?_
        rotate_left
        · (intro w hSw; (try dsimp only at hSw); first | (go_simp; done) | (go_simp; with_reducible rfl))
        simp only [Act.put, List.getElem_toArray, List.getElem_cons_zero, List.getElem_cons_succ, List.setIfInBounds_toArray, List.set_cons_zero, List.set_cons_succ]
        refine wpAnyH_take (i := 1) (v := ?_) rfl (by kernel_rfl) (by kernel_rfl) (by kernel_rfl) (fun _ _ _ h => h) (Or.inl ⟨by rfl, ?_⟩) (by assumption) ?_
        rotate_left
        · (intro w hSw; (try dsimp only at hSw); first | (go_simp; done) | (go_simp; with_reducible rfl))
        simp only [Act.put, List.getElem_toArray, List.getElem_cons_zero, List.getElem_cons_succ, List.setIfInBounds_toArray, List.set_cons_zero, List.set_cons_succ]
        refine wpAnyH_take (i := 2) (v := ?_) rfl (by kernel_rfl) (by kernel_rfl) (by kernel_rfl) (fun _ _ _ h => h) (Or.inl ⟨by rfl, ?_⟩) (by assumption) ?_
        rotate_left
        · (intro w hSw; (try dsimp only at hSw); first | (go_simp; done) | (go_simp; with_reducible rfl))
        simp only [Act.put, List.getElem_toArray, List.getElem_cons_zero, List.getElem_cons_succ, List.setIfInBounds_toArray, List.set_cons_zero, List.set_cons_succ]
        refine wpAnyH_take (i := 3) (v := ?_) rfl (by kernel_rfl) (by kernel_rfl) (by kernel_rfl) (fun _ _ _ h => h) (Or.inl ⟨by rfl, ?_⟩) (by assumption) ?_
        rotate_left
        · (intro w hSw; (try dsimp only at hSw); first | (go_simp; done) | (go_simp; with_reducible rfl))
        simp only [Act.put, List.getElem_toArray, List.getElem_cons_zero, List.getElem_cons_succ, List.setIfInBounds_toArray, List.set_cons_zero, List.set_cons_succ]
        refine wpAnyH_take (i := 4) (v := ?_) rfl (by kernel_rfl) (by kernel_rfl) (by kernel_rfl) (fun _ _ _ h => h) (Or.inl ⟨by rfl, ?_⟩) (by assumption) ?_
        rotate_left
        · (intro w hSw; (try dsimp only at hSw); first | (go_simp; done) | (go_simp; with_reducible rfl))
        simp only [Act.put, List.getElem_toArray, List.getElem_cons_zero, List.getElem_cons_succ, List.setIfInBounds_toArray, List.set_cons_zero, List.set_cons_succ]
        refine wpAnyH_take (i := 5) (v := ?_) rfl (by kernel_rfl) (by kernel_rfl) (by kernel_rfl) (fun _ _ _ h => h) (Or.inl ⟨by rfl, ?_⟩) (by assumption) ?_
        rotate_left
        · (intro w hSw; (try dsimp only at hSw); first | (go_simp; done) | (go_simp; with_reducible rfl))
        simp only [Act.put, List.getElem_toArray, List.getElem_cons_zero, List.getElem_cons_succ, List.setIfInBounds_toArray, List.set_cons_zero, List.set_cons_succ]
        refine wpAnyH_take (i := 6) (v := ?_) rfl (by kernel_rfl) (by kernel_rfl) (by kernel_rfl) (fun _ _ _ h => h) (Or.inl ⟨by rfl, ?_⟩) (by assumption) ?_
        rotate_left
        · (intro w hSw; (try dsimp only at hSw); first | (go_simp; done) | (go_simp; with_reducible rfl))
        simp only [Act.put, List.getElem_toArray, List.getElem_cons_zero, List.getElem_cons_succ, List.setIfInBounds_toArray, List.set_cons_zero, List.set_cons_succ]
        refine wpAnyH_take (i := 7) (v := ?_) rfl (by kernel_rfl) (by kernel_rfl) (by kernel_rfl) (fun _ _ _ h => h) (Or.inl ⟨by rfl, ?_⟩) (by assumption) ?_
        rotate_left
        · (intro w hSw; (try dsimp only at hSw); first | (go_simp; done) | (go_simp; with_reducible rfl))
        simp only [Act.put, List.getElem_toArray, List.getElem_cons_zero, List.getElem_cons_succ, List.setIfInBounds_toArray, List.set_cons_zero, List.set_cons_succ]
        refine wpAnyH_take (i := 8) (v := ?_) rfl (by kernel_rfl) (by kernel_rfl) (by kernel_rfl) (fun _ _ _ h => h) (Or.inl ⟨by rfl, ?_⟩) (by assumption) ?_
        rotate_left
        · (intro w hSw; (try dsimp only at hSw); first | (go_simp; done) | (go_simp; with_reducible rfl))
        simp only [Act.put, List.getElem_toArray, List.getElem_cons_zero, List.getElem_cons_succ, List.setIfInBounds_toArray, List.set_cons_zero, List.set_cons_succ]
        refine wpAnyH_take (i := 9) (v := ?_) rfl (by kernel_rfl) (by kernel_rfl) (by kernel_rfl) (fun _ _ _ h => h) (Or.inl ⟨by rfl, ?_⟩) (by assumption) ?_
        rotate_left
        · (intro w hSw; (try dsimp only at hSw); first | (go_simp; done) | (go_simp; with_reducible rfl))
        simp only [Act.put, List.getElem_toArray, List.getElem_cons_zero, List.getElem_cons_succ, List.setIfInBounds_toArray, List.set_cons_zero, List.set_cons_succ]
        refine wpAnyH_take (i := 10) (v := ?_) rfl (by kernel_rfl) (by kernel_rfl) (by kernel_rfl) (fun _ _ _ h => h) (Or.inl ⟨by rfl, ?_⟩) (by assumption) ?_
        rotate_left
        · (intro w hSw; (try dsimp only at hSw); first | (go_simp; done) | (go_simp; with_reducible rfl))
        simp only [Act.put, List.getElem_toArray, List.getElem_cons_zero, List.getElem_cons_succ, List.setIfInBounds_toArray, List.set_cons_zero, List.set_cons_succ]
        refine wpAnyH_ready (rs := [11]) (by kernel_rfl) (by simp) ?_
        refine AllReadyH.cons rfl (fun K hK => ?_) AllReadyH.nil
        go_simp
        go_wp2_with (go_at_call 16; refine (RS.out _).mono ?_; rintro e w6 ⟨rfl, rfl⟩)
        refine hK.out _ _ S5.out (fun hH1 => ?_)
        clear hK K hHeld
        refine wpAnyH_take (i := 12) (v := ?_) rfl (by kernel_rfl) (by kernel_rfl) (by kernel_rfl) (fun _ _ _ h => h) (Or.inl ⟨by rfl, ?_⟩) (by assumption) ?_
        rotate_left
        · (intro w hSw; (try dsimp only at hSw); first | (go_simp; done) | (go_simp; with_reducible rfl))
        simp only [Act.put, List.getElem_toArray, List.getElem_cons_zero, List.getElem_cons_succ, List.setIfInBounds_toArray, List.set_cons_zero, List.set_cons_succ]
        refine wpAnyH_take (i := 13) (v := ?_) rfl (by kernel_rfl) (by kernel_rfl) (by kernel_rfl) (fun _ _ _ h => h) (Or.inl ⟨by rfl, ?_⟩) (by assumption) ?_
        rotate_left
        · (intro w hSw; (try dsimp only at hSw); first | (go_simp; done) | (go_simp; with_reducible rfl))
        simp only [Act.put, List.getElem_toArray, List.getElem_cons_zero, List.getElem_cons_succ, List.setIfInBounds_toArray, List.set_cons_zero, List.set_cons_succ]
        refine wpAnyH_done (by kernel_rfl) ?_ _
        clear hH1 S5 RS F4
        generalize w4.drew = w6 at *
        have y2 := F5.out.z.cell 2
        go_upto_region 20 with fail
        clear y2
        have F7 := Lib.hid (show Fin w w0 w6.drew (some ⟨bb, off, none⟩) cx L cn z0 z1 z2 z3 from F5.out.below ((Below.refl _ _).drew))
        have S7 := Lib.hid (show w6.drew.cell? ⟨bb, off + i * 3 + 1, none⟩ = some (.int .i64 d1) ∧ w6.drew.cell? ⟨w.heap.size, 2, none⟩ = some (.int .i64 z2) from ⟨(ROW.out _ (own_lay F7.out.o)).2.1, F7.out.z.cell 2⟩)
        refine wp_region_held_drew (S := fun ws => ws.cell? ⟨bb, off + i * 3 + 1, none⟩ = some (.int .i64 d1) ∧ ws.cell? ⟨w.heap.size, 2, none⟩ = some (.int .i64 z2)) (by kernel_rfl) S7.out (fun hHeld => ?_)
        refine wpAnyH_take (i := 0) (v := ?_) rfl (by kernel_rfl) (by kernel_rfl) (by kernel_rfl) (fun _ _ _ h => h) (Or.inl ⟨by rfl, ?_⟩) (by assumption) ?_
        rotate_left
        · (intro w hSw; (try dsimp only at hSw); first | (go_simp; done) | (go_simp; with_reducible rfl))
        simp only [Act.put, List.getElem_toArray, List.getElem_cons_zero, List.getElem_cons_succ, List.setIfInBounds_toArray, List.set_cons_zero, List.set_cons_succ]
        refine wpAnyH_take (i := 1) (v := ?_) rfl (by kernel_rfl) (by kernel_rfl) (by kernel_rfl) (fun _ _ _ h => h) (Or.inl ⟨by rfl, ?_⟩) (by assumption) ?_
        rotate_left
        · (intro w hSw; (try dsimp only at hSw); first | (go_simp; done) | (go_simp; with_reducible rfl))
        simp only [Act.put, List.getElem_toArray, List.getElem_cons_zero, List.getElem_cons_succ, List.setIfInBounds_toArray, List.set_cons_zero, List.set_cons_succ]
        refine wpAnyH_take (i := 2) (v := ?_) rfl (by kernel_rfl) (by kernel_rfl) (by kernel_rfl) (fun _ _ _ h => h) (Or.inl ⟨by rfl, ?_⟩) (by assumption) ?_
        rotate_left
        · (intro w hSw; (try dsimp only at hSw); first | (go_simp; done) | (go_simp; with_reducible rfl))
        simp only [Act.put, List.getElem_toArray, List.getElem_cons_zero, List.getElem_cons_succ, List.setIfInBounds_toArray, List.set_cons_zero, List.set_cons_succ]
        refine wpAnyH_take (i := 3) (v := ?_) rfl (by kernel_rfl) (by kernel_rfl) (by kernel_rfl) (fun _ _ _ h => h) (Or.inl ⟨by rfl, ?_⟩) (by assumption) ?_
        rotate_left
        · (intro w hSw; (try dsimp only at hSw); first | (go_simp; done) | (go_simp; with_reducible rfl))
        simp only [Act.put, List.getElem_toArray, List.getElem_cons_zero, List.getElem_cons_succ, List.setIfInBounds_toArray, List.set_cons_zero, List.set_cons_succ]
        refine wpAnyH_take (i := 4) (v := ?_) rfl (by kernel_rfl) (by kernel_rfl) (by kernel_rfl) (fun _ _ _ h => h) (Or.inl ⟨by rfl, ?_⟩) (by assumption) ?_
        rotate_left
        · (intro w hSw; (try dsimp only at hSw); first | (go_simp; done) | (go_simp; with_reducible rfl))
        simp only [Act.put, List.getElem_toArray, List.getElem_cons_zero, List.getElem_cons_succ, List.setIfInBounds_toArray, List.set_cons_zero, List.set_cons_succ]
        refine wpAnyH_take (i := 5) (v := ?_) rfl (by kernel_rfl) (by kernel_rfl) (by kernel_rfl) (fun _ _ _ h => h) (Or.inl ⟨by rfl, ?_⟩) (by assumption) ?_
        rotate_left
        · (intro w hSw; (try dsimp only at hSw); first | (go_simp; done) | (go_simp; with_reducible rfl))
        simp only [Act.put, List.getElem_toArray, List.getElem_cons_zero, List.getElem_cons_succ, List.setIfInBounds_toArray, List.set_cons_zero, List.set_cons_succ]
        refine wpAnyH_take (i := 6) (v := ?_) rfl (by kernel_rfl) (by kernel_rfl) (by kernel_rfl) (fun _ _ _ h => h) (Or.inl ⟨by rfl, ?_⟩) (by assumption) ?_
        rotate_left
        · (intro w hSw; (try dsimp only at hSw); first | (go_simp; done) | (go_simp; with_reducible rfl))
        simp only [Act.put, List.getElem_toArray, List.getElem_cons_zero, List.getElem_cons_succ, List.setIfInBounds_toArray, List.set_cons_zero, List.set_cons_succ]
        refine wpAnyH_ready (rs := [7]) (by kernel_rfl) (by simp) ?_
        refine AllReadyH.cons rfl (fun K hK => ?_) AllReadyH.nil
        go_simp
        go_wp2_with (go_at_call 17; refine (TM.out _).mono ?_; rintro e w8 ⟨rfl, rfl⟩)
        refine hK.out _ _ S7.out (fun hH1 => ?_)
        clear hK K hHeld
        refine wpAnyH_take (i := 8) (v := ?_) rfl (by kernel_rfl) (by kernel_rfl) (by kernel_rfl) (fun _ _ _ h => h) (Or.inl ⟨by rfl, ?_⟩) (by assumption) ?_
        rotate_left
        · (intro w hSw; (try dsimp only at hSw); first | (go_simp; done) | (go_simp; with_reducible rfl))
        simp only [Act.put, List.getElem_toArray, List.getElem_cons_zero, List.getElem_cons_succ, List.setIfInBounds_toArray, List.set_cons_zero, List.set_cons_succ]
        refine wpAnyH_done (by kernel_rfl) ?_ _
        clear hH1 S7 TM F5
        generalize w6.drew = w8 at *
        have B8 := Lib.hid F7.out.b
        go_wp2_with fail
        refine (AW.out _).mono ?_
        rintro e w9 ⟨rfl, hba⟩
        have BA := Lib.hid (up B8.out hba B8.out.size)
        clear hba
        go_wp2_with fail
        go_ret
        exact ⟨rfl, BA.out⟩

theorem walk (w : World) (A : Option Addr) (m c : Nat) (F : Nat → Nat → Int) (h1 : IntRows w A m 4 F) (hc : m ≤ c) (hm : c ≤ maxLen) (hw : ∀ i, i < m → ∀ j, j < 4 → -9223372036854775808 ≤ F i j ∧ F i j ≤ 9223372036854775807) (z0 z1 z2 z3 : Int) (wz0 : (Lit.int .i64 z0).wf = true) (wz1 : (Lit.int .i64 z1).wf = true) (wz2 : (Lit.int .i64 z2).wf = true) (wz3 : (Lit.int .i64 z3).wf = true) :
    Calls Try.prog 4 #[.slice A m c, .agg #[.int .i64 z0, .int .i64 z1, .int .i64 z2, .int .i64 z3]] w fun e w' => e = .returned (.bool true) ∧ Below w.heap.size w w' := by
  unfold maxLen at hm
  by_cases q : 60 < m
  · exact walk_no w A m c z0 z1 z2 z3 (by omega) q
  · exact walk_yes w A m c F h1 (by omega) hw z0 z1 z2 z3 wz1 (show -9223372036854775808 ≤ z2 ∧ z2 ≤ 9223372036854775807 by simpa [Lit.wf, IntKind.min, IntKind.max, IntKind.signed, IntKind.bits] using wz2).2 (show -9223372036854775808 ≤ z3 ∧ z3 ≤ 9223372036854775807 by simpa [Lit.wf, IntKind.min, IntKind.max, IntKind.signed, IntKind.bits] using wz3).2

set_option maxRecDepth 100000 in
theorem lifted (os : Os) (started : os.Started) (H : Type) (enc : TypeId × Value → H) :
    ReturnsInHanded {} Try.checked os 4 .any (Rows.rentStagesSpec.pre6 enc Try.prog Try.f4 Rows.rentStagesRow.domain false) (Rows.rentStagesSpec.post enc Try.prog Try.f4 false true false false) := by
  refine returnsInHanded_of_change (C := Try.checked) base.own started (by kernel_rfl) Try.func4
    (ChangeSpec.witness6 (enc := enc) (C := Try.checked) false ⟨#[], #[.slice none 0 0, .agg #[.int .i64 0, .int .i64 0, .int .i64 0, .int .i64 0]], []⟩ 8 (by kernel_rfl) (by kernel_rfl) (by kernel_rfl) (by kernel_rfl)) ?_
  intro W bs args ds gs before hval0 hW _ _
  have hval : ∀ (j : Nat) t v, Try.f4.params[j]? = some t → args[j]? = some v → Value.okWide Try.prog W .any bs t v := hval0
  have hW' : DataW.Whole enc Try.prog Try.f4.params.toList Rows.rentStagesSpec.vars false W args.toList ds gs before := hW
  obtain ⟨p, q, hA0, hV, rfl, _, _⟩ := hW
  have hA : DataW.TrodAll enc Try.prog W 0 (fun _ => true) true Try.f4.params.toList args.toList ds p := hA0
  rw [Try.params4] at hA hval
  obtain ⟨v0, vs0, d0, ds0, p0, q0, hargs, rfl, rfl, h0, r0⟩ := trodAll_cons hA
  obtain ⟨v1, vs1, d1, ds1, p1, q1, rfl, rfl, rfl, h1, r1⟩ := trodAll_cons r0
  obtain ⟨rfl, rfl, rfl⟩ := trodAll_nil r1
  obtain rfl : args = #[v0, v1] := by cases args; simp_all
  obtain ⟨rfl, rfl⟩ := trodVars_none hV
  obtain ⟨A0, k0, c0, F0, rfl, b0, m0, n0, w0⟩ := base.open_introws 4 Try.underlying22 Try.underlying28 (by kernel_rfl) (by kernel_rfl) rfl (by omega) (by intro j f hj; rcases j with _ | _ | _ | _ | j <;> simp at hj <;> (subst hj; exact Try.underlying3)) (hval 0 22 v0 rfl rfl) h0
  obtain ⟨x1, y1, u1, z1, rfl, wx1, wy1, wu1, wz1⟩ := base.open_four Try.underlying28 Try.underlying3 ⟨rfl, rfl, rfl⟩ (by kernel_rfl) (by kernel_rfl) (hval 1 28 v1 rfl rfl) h1
  clear hA0 hval0
  refine (walk W A0 k0 c0 F0 n0 b0 m0 w0 x1 y1 u1 z1 wx1 wy1 wu1 wz1).mono fun e W' ⟨he, hb⟩ => ?_
  subst he
  exact ⟨_, rfl, base.law_post base.laid (by kernel_rfl) rfl rfl Try.underlying4 hW' rfl rfl rfl hb⟩

theorem over : Rows.rentStagesRow.holds Try.pinned (OpenSpec.ofChange Rows.rentStagesSpec) :=
  OpenClaim.holds_of_wide 4 Try.f4 rfl rfl rfl rfl rfl rfl rfl ⟨rfl, rfl, rfl, rfl, rfl⟩ rfl rfl rfl rfl rfl (by kernel_rfl) Try.func4 (by kernel_rfl)
    (of_decide_eq_true (by kernel_rfl)) (by unfold Func.isWrapper; first | (rw [if_pos (by decide +kernel)]; kernel_rfl) | (rw [if_neg (by decide +kernel)]; exact ⟨rfl, rfl⟩))
    (fun os started H enc _ => lifted os started H enc)

theorem proved : Rows.RentStagesSaid := over
#print axioms proved
end Go.Proofs.Ytmgfnhbhgmpchaa.rentStages
