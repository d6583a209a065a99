/-
  StallPlays: stalls answer every sequence of calls as two lists do.
-/
import Derived.Test.YthnjacfpnbhfpaaStZ
import Derived.Test.YthnjacfpnbhfpaaStructs
namespace Go.Proofs.Ythnjacfpnbhfpaa.stallPlays
open Go.ChangeShapes Go.WideShapes Go.ChangeAt Go.RowKit
open st mk rk
open base (ret_bool ret_int made up Blk Only IntRows)
set_option linter.unusedVariables false
set_option linter.unusedSimpArgs false

set_option maxRecDepth 100000 in
set_option maxHeartbeats 2000000 in
theorem walk_no (w : World) (A : Option Addr) (m c : Nat) (hm : m ≤ 9223372036854775807) (h : 80 < m) :
    Calls Try.prog 3 #[.slice A m c] w fun e w' => e = .returned (.bool true) ∧ Below w.heap.size w w' := by
  have N := Lib.hid (new_ex w)
  have AW := Lib.hid (fun ws => awake_any ws)
  go_enter Try.func3, Try.ntmps3
  go_wp2_with fail
  refine N.out.mono ?_
  rintro e w1 ⟨g, bs, bw, rfl, -, hb1⟩
  have B1 := Lib.hid hb1
  clear hb1
  go_wp2_with fail
  refine (AW.out _).mono ?_
  rintro e w2 ⟨rfl, hba⟩
  have BA := Lib.hid (up B1.out hba B1.out.size)
  clear hba
  go_wp2_with fail
  go_ret
  exact ⟨rfl, BA.out⟩
theorem wf_nth {m : Nat} {F : Nat → Nat → Int} (hw : ∀ i, i < m → ∀ j, j < 4 → -9223372036854775808 ≤ F i j ∧ F i j ≤ 9223372036854775807) {i : Nat} (hi : i < m) {j : Nat} (hj : j < 4) : (Lit.int .i64 (F i j)).wf = true := mk.wf_of (hw i hi j hj).1 (hw i hi j hj).2
theorem putB {w5 : World} {z : Nat} {u0 u1 : Value} (b : Blk w5 z 29 #[u0, u1]) (va vb : Value) : Blk ((w5.setCell ⟨z, 0, none⟩ va).setCell ⟨z, 1, none⟩ vb) z 29 #[va, vb] := by
  have b2 := (b.put 0 va).put 1 vb
  simp only [List.setIfInBounds_toArray, List.set_cons_zero, List.set_cons_succ] at b2
  exact b2
set_option maxRecDepth 100000 in
set_option maxHeartbeats 8000000 in
theorem walk_yes (w : World) (A : Option Addr) (m c : Nat) (F : Nat → Nat → Int) (h1 : IntRows w A m 4 F) (hm : m ≤ 80) (hw : ∀ i, i < m → ∀ j, j < 4 → -9223372036854775808 ≤ F i j ∧ F i j ≤ 9223372036854775807) :
    Calls Try.prog 3 #[.slice A m c] w fun e w' => e = .returned (.bool true) ∧ Below w.heap.size w w' := by
  have N := Lib.hid (new_ex w)
  have AW := Lib.hid (fun ws => awake_any ws)
  have NN := Lib.hid h1
  have HW := Lib.hid hw
  clear h1 hw
  go_enter Try.func3, Try.ntmps3
  go_wp2_with fail
  refine N.out.mono ?_
  rintro e w1 ⟨g, bs, bw, rfl, hr1, hb1⟩
  have hmx := made w1 (.cells #[.slice none 0 0, .slice none 0 0] 29)
  have R1 := Lib.hid (hr1.below hmx)
  have B1 := Lib.hid (up hb1 hmx hb1.size)
  have BX1 := Lib.hid (Blk.new w1 29 #[.slice none 0 0, .slice none 0 0])
  have HXB := Lib.hid hb1.size
  clear hr1 hb1 N hmx
  go_upto_region 5 with fail
  generalize w1.alloc (.cells #[.slice none 0 0, .slice none 0 0] 29) = w1b at *
  generalize w1.heap.size = xb at *
  go_wp2_with fail
  go_loopw [26] (fun i wr => ∃ (k : Nat) (W : World) (s : S3) (T : List C2) (G : List G3) (va vb : Value), W = wr ∧ k ≤ m ∧ i = .int .i64 k ∧ SX wr w.heap.size g bs bw s (sumT T) k ∧ Rel s (T, G) ∧ T.length ≤ k ∧ G.length ≤ k ∧ Blk wr xb 29 #[va, vb] ∧ rk.Own E2 wr w.heap.size 71 va T ∧ rk.Own E3 wr w.heap.size 69 vb G ∧ Below w.heap.size w wr) (fun i _ => m - (intOf i).toNat)
  case atStart => exact ⟨0, _, S0, [], [], _, _, rfl, by omega, rfl, R1.out, Rel.nil, by simp, by simp, BX1.out, rk.Own.nil _ _ _, rk.Own.nil _ _ _, B1.out⟩
  case round =>
  obtain ⟨k, w2, s, T, G, va, vb, rfl, hk, rfl, hx, hr, hT, hG, hbx, oT, oG, hb⟩ := hrel
  have X2 := Lib.hid hx
  have RR := Lib.hid hr
  have BX2 := Lib.hid hbx
  have OT2 := Lib.hid oT
  have OG2 := Lib.hid oG
  have B2 := Lib.hid hb
  obtain ⟨At, ct, rfl, -⟩ := oT.open_
  obtain ⟨Ag, cg, rfl, -⟩ := oG.open_
  clear hx hr hbx oT oG
  by_cases hkm : k < m
  · obtain ⟨b, off, rfl, _, hcell⟩ := (base.IntRows.keep NN.out hb) (by omega)
    have e0 := hcell k hkm 0 (by omega)
    have e1 := hcell k hkm 1 (by omega)
    have e2 := hcell k hkm 2 (by omega)
    have e3 := hcell k hkm 3 (by omega)
    rw [Nat.add_zero] at e0
    have W1 := Lib.hid (wf_nth HW.out hkm (show 1 < 4 by omega))
    have W2 := Lib.hid (wf_nth HW.out hkm (show 2 < 4 by omega))
    clear hcell hb
    generalize F k 0 = k0 at *
    generalize F k 1 = k1 at *
    generalize F k 2 = k2 at *
    generalize F k 3 = k3 at *
    have hm3 := made w2 (.cells #[.int .i64 k0, .int .i64 k1, .int .i64 k2, .int .i64 k3] 31)
    have X3 := Lib.hid (X2.out.below hm3)
    have BX3 := Lib.hid (BX2.out.below hm3 BX2.out.lt)
    have OT3 := Lib.hid (OT2.out.below hm3)
    have OG3 := Lib.hid (OG2.out.below hm3)
    have B3 := Lib.hid (up B2.out hm3 B2.out.size)
    have Y3 := Lib.hid (Blk.new w2 31 #[.int .i64 k0, .int .i64 k1, .int .i64 k2, .int .i64 k3])
    clear hm3 X2 BX2 OT2 OG2
    go_upto_region 8 with fail
    generalize w2.alloc (.cells #[.int .i64 k0, .int .i64 k1, .int .i64 k2, .int .i64 k3] 31) = w3 at *
    generalize w2.heap.size = ob at *
    clear e0 e1 e2 e3
    have x0 := BX3.out.cell 0
    have x1 := BX3.out.cell 1
    have o0 := Y3.out.cell 0
    have o1 := Y3.out.cell 1
    have o2 := Y3.out.cell 2
    have o3 := Y3.out.cell 3
    have SP := Lib.hid (step_any k0 k1 k2 k3 At ct T Ag cg G X3.out RR.out (by omega) (by omega) (by omega) OT3.out OG3.out B3.out.size W1.out W2.out)
    go_wp2_with fail
    refine SP.out.mono ?_
    rintro e w4 ⟨s2, T2, G2, va2, vb2, rfl, h4, oT4, oG4, c4, r4, l1, l2⟩
    obtain ⟨At2, ct2, rfl, -⟩ := oT4.open_
    obtain ⟨Ag2, cg2, rfl, -⟩ := oG4.open_
    have bx4 := Chg.blk c4 BX3.out rfl
    have bo4 := Chg.blk c4 Y3.out rfl
    have hno := ne_of_ty bo4 bx4 (by decide)
    obtain ⟨hx8, y0, y1, oa8, ob8, b8, f0, f1, z0, z1, far8⟩ := fin4 (B := w.heap.size) (w := w) h4 (Chg.of_below _ (B3.out.trans (c4.to B3.out.size))) bx4 HXB.out oT4 oG4
    have X5 := Lib.hid hx8
    have OT5 := Lib.hid oa8
    have OG5 := Lib.hid ob8
    have B5 := Lib.hid (b8.to (Nat.le_refl _))
    have BX5 := Lib.hid (putB bx4 (.slice At2 T2.length ct2) (.slice Ag2 G2.length cg2))
    have BO5 := Lib.hid (far8 _ _ _ bo4 hno)
    have R5 := Lib.hid r4
    clear h4 oT4 oG4 c4 r4 bx4 bo4 hno hx8 oa8 ob8 b8 far8 SP o0 o1 o2 o3 x0 x1
    have hl1 : T2.length ≤ k + 1 := by omega
    have hl2 : G2.length ≤ k + 1 := by omega
    have SA := Lib.hid (same_any At2 ct2 Ag2 cg2 X5.out R5.out (by omega) rfl (by omega) (by omega) OT5.out OG5.out)
    clear l1 l2
    go_upto_region 10 with fail
    generalize ((w4.setCell ⟨xb, 0, none⟩ (.slice At2 T2.length ct2)).setCell ⟨xb, 1, none⟩ (.slice Ag2 G2.length cg2)) = w5 at *
    clear f0 f1 z0 z1
    go_wp2_with fail
    refine SA.out.mono ?_
    rintro e w6 ⟨rfl, hb6⟩
    have D6 := Lib.hid hb6
    have o2 := (BO5.out.below hb6 BO5.out.lt).cell 2
    have PR := Lib.hid (priceX k2 (X5.out.below hb6) W2.out)
    clear hb6 y0 y1 SA
    go_wp2_with fail
    refine PR.out.mono ?_
    rintro e w7 ⟨rfl, hb7⟩
    have D8 := Lib.hid (up (up D6.out hb7 D6.out.size) (drewB w7) (up D6.out hb7 D6.out.size).size)
    clear hb7 o2 PR
    have SF := Lib.hid (fun W (h : Below w5.heap.size w5 W) => show W.cell? ⟨xb, 0, none⟩ = some (.slice At2 T2.length ct2) ∧ W.cell? ⟨xb, 1, none⟩ = some (.slice Ag2 G2.length cg2) ∧ W.cell? ⟨ob, 1, none⟩ = some (.int .i64 k1) ∧ W.cell? ⟨ob, 2, none⟩ = some (.int .i64 k2) from ⟨(BX5.out.below h BX5.out.lt).cell 0, (BX5.out.below h BX5.out.lt).cell 1, (BO5.out.below h BO5.out.lt).cell 1, (BO5.out.below h BO5.out.lt).cell 2⟩)
    have FI := Lib.hid (fun W (h : Below w5.heap.size w5 W) => rfind_any Ag2 cg2 G2 At2 T2.length ct2 k2 W ((layE OG5.out).below h) (by omega))
    have RH := Lib.hid (fun W (h : Below w5.heap.size w5 W) => rhas_any At2 ct2 T2 Ag2 G2.length cg2 k1 W ((layE OT5.out).below h) (by omega))
    have HS := Lib.hid (fun W (h : Below w5.heap.size w5 W) => hasX k1 (X5.out.below h) W1.out)
    have z1 := prE_is (s := s2) k2
    have z2 := (ixI_is (fi (isG k2) G2)).trans (R5.out.gis k2)
    have z3 := (ixI_is (fi (isT k1) T2)).trans (R5.out.tis k1)
    generalize (s2.G k2).isSome = bg at *
    generalize (s2.T k1).isSome = bt at *
    generalize ixI (fi (isG k2) G2) = fg at *
    generalize ixI (fi (isT k1) T2) = ft at *
    generalize prE s2 k2 = pe at *
    generalize prA s2 k2 = pa at *
    generalize prB s2 k2 = pb at *
    have z4 : decide (fg ≥ 0) = bg := z2
    have z5 : decide (ft ≥ 0) = bt := z3
    go_upto_region 13 with fail
    refine wp_region_held_drew (S := fun W => W.cell? ⟨xb, 0, none⟩ = some (.slice At2 T2.length ct2) ∧ W.cell? ⟨xb, 1, none⟩ = some (.slice Ag2 G2.length cg2) ∧ W.cell? ⟨ob, 1, none⟩ = some (.int .i64 k1) ∧ W.cell? ⟨ob, 2, none⟩ = some (.int .i64 k2)) (by kernel_rfl) (SF.out _ D8.out) (fun hHeld => ?_)
    generalize w7.drew = w8 at *
    refine wpAnyH_take (i := 0) (v := ?_) rfl (by kernel_rfl) (by kernel_rfl) (by kernel_rfl) (fun _ _ _ h => h) (Or.inl ⟨by rfl, ?_⟩) (by assumption) ?_
    rotate_left
    · (intro w hSw; (try dsimp only at hSw); first | (go_simp; done) | (go_simp; with_reducible rfl))
    simp only [Act.put, List.getElem_toArray, List.getElem_cons_zero, List.getElem_cons_succ, List.setIfInBounds_toArray, List.set_cons_zero, List.set_cons_succ]
    refine wpAnyH_take (i := 1) (v := ?_) rfl (by kernel_rfl) (by kernel_rfl) (by kernel_rfl) (fun _ _ _ h => h) (Or.inl ⟨by rfl, ?_⟩) (by assumption) ?_
    rotate_left
    · (intro w hSw; (try dsimp only at hSw); first | (go_simp; done) | (go_simp; with_reducible rfl))
    simp only [Act.put, List.getElem_toArray, List.getElem_cons_zero, List.getElem_cons_succ, List.setIfInBounds_toArray, List.set_cons_zero, List.set_cons_succ]
    refine wpAnyH_take (i := 2) (v := ?_) rfl (by kernel_rfl) (by kernel_rfl) (by kernel_rfl) (fun _ _ _ h => h) (Or.inl ⟨by rfl, ?_⟩) (by assumption) ?_
    rotate_left
    · (intro w hSw; (try dsimp only at hSw); first | (go_simp; done) | (go_simp; with_reducible rfl))
    simp only [Act.put, List.getElem_toArray, List.getElem_cons_zero, List.getElem_cons_succ, List.setIfInBounds_toArray, List.set_cons_zero, List.set_cons_succ]
    refine wpAnyH_take (i := 3) (v := ?_) rfl (by kernel_rfl) (by kernel_rfl) (by kernel_rfl) (fun _ _ _ h => h) (Or.inl ⟨by rfl, ?_⟩) (by assumption) ?_
    rotate_left
    · (intro w hSw; (try dsimp only at hSw); first | (go_simp; done) | (go_simp; with_reducible rfl))
    simp only [Act.put, List.getElem_toArray, List.getElem_cons_zero, List.getElem_cons_succ, List.setIfInBounds_toArray, List.set_cons_zero, List.set_cons_succ]
    refine wpAnyH_take (i := 4) (v := ?_) rfl (by kernel_rfl) (by kernel_rfl) (by kernel_rfl) (fun _ _ _ h => h) (Or.inl ⟨by rfl, ?_⟩) (by assumption) ?_
    rotate_left
    · (intro w hSw; (try dsimp only at hSw); first | (go_simp; done) | (go_simp; with_reducible rfl))
    simp only [Act.put, List.getElem_toArray, List.getElem_cons_zero, List.getElem_cons_succ, List.setIfInBounds_toArray, List.set_cons_zero, List.set_cons_succ]
    refine wpAnyH_ready (rs := [5]) (by kernel_rfl) (by simp) ?_
    refine AllReadyH.cons rfl (fun K hK => ?_) AllReadyH.nil
    go_simp
    go_wp2_with (go_at_call 12; refine (FI.out w8 D8.out).mono ?_; rintro e w9 ⟨rfl, hb⟩)
    have D9 := Lib.hid (up D8.out hb D8.out.size)
    clear hb
    refine hK.out _ _ (SF.out _ D9.out) (fun hHeld2 => ?_)
    clear hK K hHeld
    refine wpAnyH_take (i := 6) (v := ?_) rfl (by kernel_rfl) (by kernel_rfl) (by kernel_rfl) (fun _ _ _ h => h) (Or.inl ⟨by rfl, ?_⟩) (by assumption) ?_
    rotate_left
    · (intro w hSw; (try dsimp only at hSw); first | (go_simp; done) | (go_simp; with_reducible rfl))
    simp only [Act.put, List.getElem_toArray, List.getElem_cons_zero, List.getElem_cons_succ, List.setIfInBounds_toArray, List.set_cons_zero, List.set_cons_succ]
    refine wpAnyH_take (i := 7) (v := ?_) rfl (by kernel_rfl) (by kernel_rfl) (by kernel_rfl) (fun _ _ _ h => h) (Or.inl ⟨by rfl, ?_⟩) (by assumption) ?_
    rotate_left
    · (intro w hSw; (try dsimp only at hSw); first | (go_simp; done) | (go_simp; with_reducible rfl))
    simp only [Act.put, List.getElem_toArray, List.getElem_cons_zero, List.getElem_cons_succ, List.setIfInBounds_toArray, List.set_cons_zero, List.set_cons_succ]
    refine wpAnyH_take (i := 8) (v := ?_) rfl (by kernel_rfl) (by kernel_rfl) (by kernel_rfl) (fun _ _ _ h => h) (Or.inl ⟨by rfl, ?_⟩) (by assumption) ?_
    rotate_left
    · (intro w hSw; (try dsimp only at hSw); first | (go_simp; done) | (go_simp; with_reducible rfl))
    simp only [Act.put, List.getElem_toArray, List.getElem_cons_zero, List.getElem_cons_succ, List.setIfInBounds_toArray, List.set_cons_zero, List.set_cons_succ]
    refine wpAnyH_take (i := 9) (v := ?_) rfl (by kernel_rfl) (by kernel_rfl) (by kernel_rfl) (fun _ _ _ h => h) (Or.inl ⟨by rfl, ?_⟩) (by assumption) ?_
    rotate_left
    · (intro w hSw; (try dsimp only at hSw); first | (go_simp; done) | (go_simp; with_reducible rfl))
    simp only [Act.put, List.getElem_toArray, List.getElem_cons_zero, List.getElem_cons_succ, List.setIfInBounds_toArray, List.set_cons_zero, List.set_cons_succ]
    refine wpAnyH_take (i := 10) (v := ?_) rfl (by kernel_rfl) (by kernel_rfl) (by kernel_rfl) (fun _ _ _ h => h) (Or.inl ⟨by rfl, ?_⟩) (by assumption) ?_
    rotate_left
    · (intro w hSw; (try dsimp only at hSw); first | (go_simp; done) | (go_simp; with_reducible rfl))
    simp only [Act.put, List.getElem_toArray, List.getElem_cons_zero, List.getElem_cons_succ, List.setIfInBounds_toArray, List.set_cons_zero, List.set_cons_succ]
    refine wpAnyH_take (i := 11) (v := ?_) rfl (by kernel_rfl) (by kernel_rfl) (by kernel_rfl) (fun _ _ _ h => h) (Or.inl ⟨by rfl, ?_⟩) (by assumption) ?_
    rotate_left
    · (intro w hSw; (try dsimp only at hSw); first | (go_simp; done) | (go_simp; with_reducible rfl))
    simp only [Act.put, List.getElem_toArray, List.getElem_cons_zero, List.getElem_cons_succ, List.setIfInBounds_toArray, List.set_cons_zero, List.set_cons_succ]
    refine wpAnyH_take (i := 13) (v := ?_) rfl (by kernel_rfl) (by kernel_rfl) (by kernel_rfl) (fun _ _ _ h => h) (Or.inl ⟨by rfl, ?_⟩) (by assumption) ?_
    rotate_left
    · (intro w hSw; (try dsimp only at hSw); first | (go_simp; done) | (go_simp; with_reducible rfl))
    simp only [Act.put, List.getElem_toArray, List.getElem_cons_zero, List.getElem_cons_succ, List.setIfInBounds_toArray, List.set_cons_zero, List.set_cons_succ]
    refine wpAnyH_take (i := 14) (v := ?_) rfl (by kernel_rfl) (by kernel_rfl) (by kernel_rfl) (fun _ _ _ h => h) (Or.inl ⟨by rfl, ?_⟩) (by assumption) ?_
    rotate_left
    · (intro w hSw; (try dsimp only at hSw); first | (go_simp; done) | (go_simp; with_reducible rfl))
    simp only [Act.put, List.getElem_toArray, List.getElem_cons_zero, List.getElem_cons_succ, List.setIfInBounds_toArray, List.set_cons_zero, List.set_cons_succ]
    refine wpAnyH_take (i := 15) (v := ?_) rfl (by kernel_rfl) (by kernel_rfl) (by kernel_rfl) (fun _ _ _ h => h) (Or.inl ⟨by rfl, ?_⟩) (by assumption) ?_
    rotate_left
    · (intro w hSw; (try dsimp only at hSw); first | (go_simp; done) | (go_simp; with_reducible rfl))
    simp only [Act.put, List.getElem_toArray, List.getElem_cons_zero, List.getElem_cons_succ, List.setIfInBounds_toArray, List.set_cons_zero, List.set_cons_succ]
    refine wpAnyH_ready (rs := [12]) (by kernel_rfl) (by simp) ?_
    refine AllReadyH.cons rfl (fun K hK => ?_) AllReadyH.nil
    go_simp
    go_wp2_with (go_at_call 13; refine (HS.out w9 D9.out).mono ?_; rintro e w10 ⟨rfl, rfl⟩)
    refine hK.out _ _ (SF.out _ D9.out) (fun hHeld => ?_)
    clear hK K hHeld2
    refine wpAnyH_ready (rs := [16]) (by kernel_rfl) (by simp) ?_
    refine AllReadyH.cons rfl (fun K hK => ?_) AllReadyH.nil
    go_simp
    go_wp2_with (go_at_call 14; refine (RH.out w9 D9.out).mono ?_; rintro e w11 ⟨rfl, hb⟩)
    have D11 := Lib.hid (up D9.out hb D9.out.size)
    clear hb
    refine hK.out _ _ (SF.out _ D11.out) (fun hHeld2 => ?_)
    clear hK K hHeld
    refine wpAnyH_take (i := 17) (v := ?_) rfl (by kernel_rfl) (by kernel_rfl) (by kernel_rfl) (fun _ _ _ h => h) (Or.inl ⟨by rfl, ?_⟩) (by assumption) ?_
    rotate_left
    · (intro w hSw; (try dsimp only at hSw); first | (go_simp; done) | (go_simp; with_reducible rfl))
    simp only [Act.put, List.getElem_toArray, List.getElem_cons_zero, List.getElem_cons_succ, List.setIfInBounds_toArray, List.set_cons_zero, List.set_cons_succ]
    refine wpAnyH_take (i := 18) (v := ?_) rfl (by kernel_rfl) (by kernel_rfl) (by kernel_rfl) (fun _ _ _ h => h) (Or.inl ⟨by rfl, ?_⟩) (by assumption) ?_
    rotate_left
    · (intro w hSw; (try dsimp only at hSw); first | (go_simp; done) | (go_simp; with_reducible rfl))
    simp only [Act.put, List.getElem_toArray, List.getElem_cons_zero, List.getElem_cons_succ, List.setIfInBounds_toArray, List.set_cons_zero, List.set_cons_succ]
    refine wpAnyH_take (i := 19) (v := ?_) rfl (by kernel_rfl) (by kernel_rfl) (by kernel_rfl) (fun _ _ _ h => h) (Or.inl ⟨by rfl, ?_⟩) (by assumption) ?_
    rotate_left
    · (intro w hSw; (try dsimp only at hSw); first | (go_simp; done) | (go_simp; with_reducible rfl))
    simp only [Act.put, List.getElem_toArray, List.getElem_cons_zero, List.getElem_cons_succ, List.setIfInBounds_toArray, List.set_cons_zero, List.set_cons_succ]
    refine wpAnyH_done (by kernel_rfl) ?_ _
    clear hHeld2 z1 z2 z3 z4 z5
    go_wp2_with fail
    refine ⟨⟨k + 1, _, s2, T2, G2, _, _, rfl, by omega, by go_num, X5.out.below D11.out, R5.out, hl1, hl2, BX5.out.below D11.out BX5.out.lt, OT5.out.below D11.out, OG5.out.below D11.out, up B5.out D11.out B5.out.size⟩, by simp [intOf]; omega⟩
  · obtain rfl : k = m := by omega
    go_wp2_with fail
    refine (AW.out _).mono ?_
    rintro e w8 ⟨rfl, hba⟩
    have BA := Lib.hid (up B2.out hba B2.out.size)
    clear hba
    go_wp2_with fail
    go_ret
    exact ⟨rfl, BA.out⟩

theorem walk (w : World) (A : Option Addr) (m c : Nat) (F : Nat → Nat → Int) (h1 : IntRows w A m 4 F) (hc : m ≤ c) (hm : c ≤ maxLen) (hw : ∀ i, i < m → ∀ j, j < 4 → -9223372036854775808 ≤ F i j ∧ F i j ≤ 9223372036854775807) :
    Calls Try.prog 3 #[.slice A m c] w fun e w' => e = .returned (.bool true) ∧ Below w.heap.size w w' := by
  unfold maxLen at hm
  by_cases q : 80 < m
  · exact walk_no w A m c (by omega) q
  · exact walk_yes w A m c F h1 (by omega) hw

set_option maxRecDepth 100000 in
theorem lifted (os : Os) (started : os.Started) (H : Type) (enc : TypeId × Value → H) :
    ReturnsInHanded {} Try.checked os 3 .any (Rows.stallPlaysSpec.pre6 enc Try.prog Try.f3 Rows.stallPlaysRow.domain false) (Rows.stallPlaysSpec.post enc Try.prog Try.f3 false true false false) := by
  refine returnsInHanded_of_change (C := Try.checked) base.own started (by kernel_rfl) Try.func3
    (ChangeSpec.witness6 (enc := enc) (C := Try.checked) false ⟨#[], #[.slice none 0 0], []⟩ 8 (by kernel_rfl) (by kernel_rfl) (by kernel_rfl) (by kernel_rfl)) ?_
  intro W bs args ds gs before hval0 hW _ _
  have hval : ∀ (j : Nat) t v, Try.f3.params[j]? = some t → args[j]? = some v → Value.okWide Try.prog W .any bs t v := hval0
  have hW' : DataW.Whole enc Try.prog Try.f3.params.toList Rows.stallPlaysSpec.vars false W args.toList ds gs before := hW
  obtain ⟨p, q, hA0, hV, rfl, _, _⟩ := hW
  have hA : DataW.TrodAll enc Try.prog W 0 (fun _ => true) true Try.f3.params.toList args.toList ds p := hA0
  rw [Try.params3] at hA hval
  obtain ⟨v0, vs0, d0, ds0, p0, q0, hargs, rfl, rfl, h0, r0⟩ := trodAll_cons hA
  obtain ⟨rfl, rfl, rfl⟩ := trodAll_nil r0
  obtain rfl : args = #[v0] := by cases args; simp_all
  obtain ⟨rfl, rfl⟩ := trodVars_none hV
  obtain ⟨A0, k0, c0, F0, rfl, b0, m0, n0, w0⟩ := base.open_introws 4 Try.underlying22 Try.underlying31 (by kernel_rfl) (by kernel_rfl) rfl (by omega) (by intro j f hj; rcases j with _ | _ | _ | _ | j <;> simp at hj <;> (subst hj; exact Try.underlying3)) (hval 0 22 v0 rfl rfl) h0
  clear hA0 hval0
  refine (walk W A0 k0 c0 F0 n0 b0 m0 w0).mono fun e W' ⟨he, hb⟩ => ?_
  subst he
  exact ⟨_, rfl, base.law_post base.laid (by kernel_rfl) rfl rfl Try.underlying4 hW' rfl rfl rfl hb⟩

theorem over : Rows.stallPlaysRow.holds Try.pinned (OpenSpec.ofChange Rows.stallPlaysSpec) :=
  OpenClaim.holds_of_wide 3 Try.f3 rfl rfl rfl rfl rfl rfl rfl ⟨rfl, rfl, rfl, rfl, rfl⟩ rfl rfl rfl rfl rfl (by kernel_rfl) Try.func3 (by kernel_rfl)
    (of_decide_eq_true (by kernel_rfl)) (by unfold Func.isWrapper; first | (rw [if_pos (by decide +kernel)]; kernel_rfl) | (rw [if_neg (by decide +kernel)]; exact ⟨rfl, rfl⟩))
    (fun os started H enc _ => lifted os started H enc)

theorem proved : Rows.StallPlaysSaid := over
#print axioms proved
end Go.Proofs.Ythnjacfpnbhfpaa.stallPlays
