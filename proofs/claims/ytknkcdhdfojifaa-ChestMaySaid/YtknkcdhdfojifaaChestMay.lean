/-
  ChestMay: a chest lets one take from it who stands high enough, and so it says.
-/
import Derived.Test.YtknkcdhdfojifaaChL
import Derived.Test.YtknkcdhdfojifaaChM
import Derived.Test.YtknkcdhdfojifaaStructs
import Derived.Test.YtknkcdhdfojifaaBase2
import Derived.Deep.RegionHeld
namespace Go.Proofs.Ytknkcdhdfojifaa.chestMay
open Go.ChangeShapes Go.WideShapes Go.ChangeAt Go.RowKit
open ch mk rk
open base (ret_bool ret_int made up Blk Only IntRows)
set_option linter.unusedVariables false
set_option linter.unusedSimpArgs false

set_option maxRecDepth 100000 in
set_option maxHeartbeats 2000000 in
theorem walk_no (w : World) (A : Option Addr) (m c : Nat) (z0 z1 z2 z3 hh : Int) (hm : m ≤ 9223372036854775807) (h : 80 < m) :
    Calls Try.prog 4 #[.slice A m c, .agg #[.int .i64 z0, .int .i64 z1, .int .i64 z2, .int .i64 z3], .int .i64 hh] w fun e w' => e = .returned (.bool true) ∧ Below w.heap.size w w' := by
  have hmm := made w (.cells #[.int .i64 z0, .int .i64 z1, .int .i64 z2, .int .i64 z3] 28)
  have B0 := Lib.hid hmm
  clear hmm
  have N := Lib.hid (fun ws => new_any ws.heap.size ws (Nat.le_refl _))
  have AW := Lib.hid (fun ws => awake_any ws)
  go_enter Try.func4, Try.ntmps4
  go_wp2_with fail
  generalize w.alloc (.cells #[.int .i64 z0, .int .i64 z1, .int .i64 z2, .int .i64 z3] 28) = w0 at *
  refine (N.out _).mono ?_
  rintro e w1 ⟨rfl, -, hb1⟩
  have B1 := Lib.hid (up B0.out hb1 B0.out.size)
  clear hb1
  go_wp2_with fail
  refine (AW.out _).mono ?_
  rintro e w2 ⟨rfl, hba⟩
  have BA := Lib.hid (up B1.out hba B1.out.size)
  clear hba
  go_wp2_with fail
  go_ret
  exact ⟨rfl, BA.out⟩
theorem wf_nth {m : Nat} {F : Nat → Nat → Int} (hw : ∀ i, i < m → ∀ j, j < 4 → -9223372036854775808 ≤ F i j ∧ F i j ≤ 9223372036854775807) {i : Nat} (hi : i < m) {j : Nat} (hj : j < 4) : (Lit.int .i64 (F i j)).wf = true := mk.wf_of (hw i hi j hj).1 (hw i hi j hj).2

/-- behind the loop -/
structure Fin (w w0 wr : World) (A : Option Addr) (c : Nat) (L : List C2) (cn : Nat) (z0 z1 z2 z3 : Int) : Prop where
  r : CAt wr w0.heap.size (w0.heap.size + 1) w0.heap.size L cn
  o : rk.Own E2 wr w0.heap.size 37 (.slice A L.length c) L
  l : L.length ≤ 1000
  b : Below w.heap.size w wr
  z : Blk wr w.heap.size 28 #[.int .i64 z0, .int .i64 z1, .int .i64 z2, .int .i64 z3]
theorem Fin.below {w w0 wr ws : World} {A : Option Addr} {c cn : Nat} {L : List C2} {z0 z1 z2 z3 : Int} (h : Fin w w0 wr A c L cn z0 z1 z2 z3) (hb : Below wr.heap.size wr ws) : Fin w w0 ws A c L cn z0 z1 z2 z3 :=
  ⟨h.r.below hb, rk.Own.below h.o hb, h.l, up h.b hb h.b.size, h.z.below hb h.z.lt⟩
set_option maxRecDepth 100000 in
set_option maxHeartbeats 8000000 in
theorem walk_yes (w : World) (A : Option Addr) (m c : Nat) (F : Nat → Nat → Int) (h1 : IntRows w A m 4 F) (hm : m ≤ 80) (hw : ∀ i, i < m → ∀ j, j < 4 → -9223372036854775808 ≤ F i j ∧ F i j ≤ 9223372036854775807) (z0 z1 z2 z3 hh : Int) (wz1 : (Lit.int .i64 z1).wf = true) (wz2 : (Lit.int .i64 z2).wf = true) :
    Calls Try.prog 4 #[.slice A m c, .agg #[.int .i64 z0, .int .i64 z1, .int .i64 z2, .int .i64 z3], .int .i64 hh] w fun e w' => e = .returned (.bool true) ∧ Below w.heap.size w w' := by
  have hmm := made w (.cells #[.int .i64 z0, .int .i64 z1, .int .i64 z2, .int .i64 z3] 28)
  have B0 := Lib.hid hmm
  have Z0 := Lib.hid (Blk.new w 28 #[.int .i64 z0, .int .i64 z1, .int .i64 z2, .int .i64 z3])
  have N := Lib.hid (fun ws => new_any ws.heap.size ws (Nat.le_refl _))
  have AW := Lib.hid (fun ws => awake_any ws)
  have NN := Lib.hid (base.IntRows.keep h1 hmm)
  have HW := Lib.hid hw
  have WZ := Lib.hid wz1
  have WZ2 := Lib.hid wz2
  clear h1 hmm hw wz1 wz2
  go_enter Try.func4, Try.ntmps4
  go_wp2_with fail
  generalize w.alloc (.cells #[.int .i64 z0, .int .i64 z1, .int .i64 z2, .int .i64 z3] 28) = w0 at *
  refine (N.out _).mono ?_
  rintro e w1 ⟨rfl, hr1, hb1⟩
  have R1 := Lib.hid hr1
  have B1 := Lib.hid hb1
  have ZN := Lib.hid (show w.heap.size < w0.heap.size from Z0.out.lt)
  clear hr1 hb1 N
  go_wp2_with fail
  go_loopw [8, 31] (fun x i wr => ∃ (k : Nat) (W : World) (L : List C2) (cn : Nat), W = wr ∧ k ≤ m ∧ i = .int .i64 k ∧ CAt wr w0.heap.size (w0.heap.size + 1) w0.heap.size L cn ∧ cn ≤ k ∧ rk.Own E2 wr w0.heap.size 37 x L ∧ L.length ≤ k ∧ Tch w0.heap.size w0.heap.size w1 wr) (fun _ i _ => m - (intOf i).toNat)
  case atStart => exact ⟨0, _, [], 0, rfl, by omega, rfl, R1.out, by omega, rk.Own.nil _ _ _, by simp, Only.refl _ _⟩
  case round =>
  obtain ⟨k, w2, L, cn, rfl, hk, rfl, hr, hcn, ho, hll, hmu⟩ := hrel
  have R2 := Lib.hid hr
  have O2 := Lib.hid ho
  have M2 := Lib.hid hmu
  obtain ⟨Ax, cx, rfl, -⟩ := ho.open_
  have C2_ := Lib.hid (show Below w0.heap.size w0 w2 from B1.out.trans (Tch.to hmu (Nat.le_refl _) B1.out.size))
  clear hr ho hmu
  by_cases hkm : k < m
  · obtain ⟨b, off, rfl, _, hcell⟩ := (base.IntRows.keep NN.out C2_.out) (by omega)
    have e0 := hcell k hkm 0 (by omega)
    have e1 := hcell k hkm 1 (by omega)
    have e2 := hcell k hkm 2 (by omega)
    have e3 := hcell k hkm 3 (by omega)
    rw [Nat.add_zero] at e0
    have WN := Lib.hid (wf_nth HW.out hkm (show 1 < 4 by omega))
    have WI := Lib.hid (wf_nth HW.out hkm (show 2 < 4 by omega))
    clear hcell
    generalize F k 0 = k0 at *
    generalize F k 1 = k1 at *
    generalize F k 2 = k2 at *
    generalize F k 3 = k3 at *
    have hm3 := made w2 (.cells #[.int .i64 k0, .int .i64 k1, .int .i64 k2, .int .i64 k3] 28)
    have R3_ := Lib.hid (R2.out.below hm3)
    have O3 := Lib.hid (rk.Own.below O2.out hm3)
    have M3 := Lib.hid (Tch.then_ M2.out hm3)
    have HS := Lib.hid (Nat.le_trans C2_.out.size hm3.size)
    have X3 := Lib.hid (Blk.new w2 28 #[.int .i64 k0, .int .i64 k1, .int .i64 k2, .int .i64 k3])
    clear hm3
    go_upto_region 8 with fail
    generalize w2.alloc (.cells #[.int .i64 k0, .int .i64 k1, .int .i64 k2, .int .i64 k3] 28) = w3 at *
    clear e0 e1 e2 e3
    have o0 := X3.out.cell 0
    have o1 := X3.out.cell 1
    have o2 := X3.out.cell 2
    have o3 := X3.out.cell 3
    have SP := Lib.hid (step_any k0 Ax cx L k1 k2 k3 w0.heap.size w0.heap.size (w0.heap.size + 1) w0.heap.size cn w3 R3_.out O3.out (by omega) (by omega) HS.out HS.out WN.out WI.out)
    have SG := Lib.hid (step_len L k0 k1 k2 k3)
    generalize stepS L k0 k1 k2 k3 = L2 at *
    go_wp2_with fail
    refine SP.out.mono ?_
    rintro e w4 ⟨v4, c4, rfl, hr4, hc4, ho4, hm4⟩
    have R4 := Lib.hid hr4
    have O4 := Lib.hid ho4
    have M4 := Lib.hid (show Tch w0.heap.size w0.heap.size w1 w4 from Only.trans M3.out hm4 (fun k hk h => tch_back M3.out hk h))
    obtain ⟨A4, d4, rfl, -⟩ := ho4.open_
    clear hr4 ho4 hm4 SP o0 o1 o2 o3
    have hsz := SG.out
    go_wp2_with fail
    refine ⟨⟨k + 1, _, L2, c4, rfl, by omega, by go_num, R4.out, by omega, O4.out, by omega, M4.out⟩, by simp [intOf]; omega⟩
  · obtain rfl : k = m := by omega
    have F2 := Lib.hid (show Fin w w0 w2 Ax cx L cn z0 z1 z2 z3 from ⟨R2.out, O2.out, by omega, (B0.out.trans (C2_.out.mono (Nat.le_of_lt ZN.out))), Z0.out.below C2_.out ZN.out⟩)
    have MY := Lib.hid (fun ws (h : CAt ws w0.heap.size (w0.heap.size + 1) w0.heap.size L cn) => may_any (lv := z3) h WZ.out WZ2.out (by omega))
    have PL := Lib.hid (fun ws (h : Lay E2 ws Ax L) => rplace_any Ax cx L z1 z2 ws h (by omega) (wf_b WZ2.out).1 (wf_b WZ2.out).2)
    have RO := Lib.hid (fun ws => room_any hh ws)
    clear R1 B1 M2 C2_ R2 O2 NN HW Z0 B0
    have y1 := F2.out.z.cell 1
    have y2 := F2.out.z.cell 2
    have y3 := F2.out.z.cell 3
    cases q : plc L z1 z2 with
    | none =>
      unfold mayErr at MY
      rw [q] at PL MY
      dsimp only [ixc] at PL MY
      have NE := Lib.hid (fun ws (h : CAt ws w0.heap.size (w0.heap.size + 1) w0.heap.size L cn) => need_no h WZ.out q)
      clear q
      go_wp2_with fail
      refine (MY.out _ F2.out.r).mono ?_
      rintro e w4 ⟨rfl, rfl⟩
      go_wp2_with fail
      refine (PL.out _ (Own.lay F2.out.o)).mono ?_
      rintro e w4 ⟨rfl, rfl⟩
      go_wp2_with fail
      refine (NE.out _ F2.out.r).mono ?_
      rintro e w4 ⟨rfl, rfl⟩
      have B6 := Lib.hid F2.out.b
      by_cases a1 : hh < 0
      · rw [show roomErr hh = 12 from if_pos (.inl a1)] at RO
        have a1a : decide (hh < 0) = true := by simpa using a1
        have a1b : decide (0 ≤ hh) = false := by simpa using a1
        go_wp2_with fail
        refine (RO.out _).mono ?_
        rintro e w6 ⟨rfl, rfl⟩
        go_wp2_with fail
        refine (AW.out _).mono ?_
        rintro e w7 ⟨rfl, hba⟩
        have BA := Lib.hid (up B6.out hba B6.out.size)
        clear hba
        go_wp2_with fail
        go_ret
        exact ⟨rfl, BA.out⟩
      by_cases a2 : 16 ≤ hh
      · rw [show roomErr hh = 12 from if_pos (.inr a2)] at RO
        have a2a : decide (hh < 16) = false := by simp; omega
        have a2b : decide (0 ≤ hh) = true := by simp; omega
        go_wp2_with fail
        refine (RO.out _).mono ?_
        rintro e w6 ⟨rfl, rfl⟩
        go_wp2_with fail
        refine (AW.out _).mono ?_
        rintro e w7 ⟨rfl, hba⟩
        have BA := Lib.hid (up B6.out hba B6.out.size)
        clear hba
        go_wp2_with fail
        go_ret
        exact ⟨rfl, BA.out⟩
      · rw [show roomErr hh = 0 from if_neg (by omega)] at RO
        have a2a : decide (hh < 16) = true := by simp; omega
        have a2b : decide (0 ≤ hh) = true := by simp; omega
        go_wp2_with fail
        refine (RO.out _).mono ?_
        rintro e w6 ⟨rfl, rfl⟩
        go_wp2_with fail
        refine (AW.out _).mono ?_
        rintro e w7 ⟨rfl, hba⟩
        have BA := Lib.hid (up B6.out hba B6.out.size)
        clear hba
        go_wp2_with fail
        go_ret
        exact ⟨rfl, BA.out⟩
    | some p =>
      obtain ⟨hi, -⟩ := plc_some L z1 z2 p q (plc_ge q)
      have NE := Lib.hid (fun ws (h : CAt ws w0.heap.size (w0.heap.size + 1) w0.heap.size L cn) => need_yes h WZ.out WZ2.out q hi (by omega))
      obtain ⟨d, hd⟩ : ∃ d, L[p] = d := ⟨_, rfl⟩
      have gd : L.getD p (0, 0) = d := by rw [← hd]; simp [List.getD, hi]
      unfold mayErr at MY
      rw [q] at PL MY
      dsimp only [ixc] at PL MY
      rw [gd] at MY
      rw [hd] at NE
      obtain ⟨bb, off, rfl, -⟩ := lay2 (Own.lay F2.out.o) hi
      have ROW := Lib.hid (fun ws (h : Lay E2 ws (some ⟨bb, off, none⟩) L) => (lay2_at h hi hd).2)
      obtain ⟨d0, d1⟩ := d
      dsimp only at NE MY ROW
      clear q gd hd
      by_cases q : z3 < d1
      · rw [if_pos q] at MY
        go_wp2_with fail
        refine (MY.out _ F2.out.r).mono ?_
        rintro e w4 ⟨rfl, rfl⟩
        go_wp2_with fail
        refine (PL.out _ (Own.lay F2.out.o)).mono ?_
        rintro e w4 ⟨rfl, rfl⟩
        go_upto_region 15 with fail
        have F5 := Lib.hid (show Fin w w0 w2.drew (some ⟨bb, off, none⟩) cx L cn z0 z1 z2 z3 from F2.out.below ((Below.refl _ _).drew))
        refine wp_region_held_drew (S := fun ws => ws.cell? ⟨bb, off + p * 2 + 1, none⟩ = some (.int .i64 d1) ∧ ws.cell? ⟨w.heap.size, 3, none⟩ = some (.int .i64 z3)) (by kernel_rfl) ⟨ROW.out _ (Own.lay F5.out.o), F5.out.z.cell 3⟩ (fun hHeld => ?_)
        refine wpAnyH_take (i := 0) (v := ?_) rfl (by kernel_rfl) (by kernel_rfl) (by kernel_rfl) (fun _ _ _ h => h) (Or.inl ⟨by rfl, ?_⟩) (by assumption) ?_
        rotate_left
        · (intro w hSw; (try dsimp only at hSw); first | (go_simp; done) | (go_simp; with_reducible rfl))
        simp only [Act.put, List.getElem_toArray, List.getElem_cons_zero, List.getElem_cons_succ, List.setIfInBounds_toArray, List.set_cons_zero, List.set_cons_succ]
        refine wpAnyH_take (i := 1) (v := ?_) rfl (by kernel_rfl) (by kernel_rfl) (by kernel_rfl) (fun _ _ _ h => h) (Or.inl ⟨by rfl, ?_⟩) (by assumption) ?_
        rotate_left
        · (intro w hSw; (try dsimp only at hSw); first | (go_simp; done) | (go_simp; with_reducible rfl))
        simp only [Act.put, List.getElem_toArray, List.getElem_cons_zero, List.getElem_cons_succ, List.setIfInBounds_toArray, List.set_cons_zero, List.set_cons_succ]
        refine wpAnyH_take (i := 2) (v := ?_) rfl (by kernel_rfl) (by kernel_rfl) (by kernel_rfl) (fun _ _ _ h => h) (Or.inl ⟨by rfl, ?_⟩) (by assumption) ?_
        rotate_left
        · (intro w hSw; (try dsimp only at hSw); first | (go_simp; done) | (go_simp; with_reducible rfl))
        simp only [Act.put, List.getElem_toArray, List.getElem_cons_zero, List.getElem_cons_succ, List.setIfInBounds_toArray, List.set_cons_zero, List.set_cons_succ]
        refine wpAnyH_take (i := 3) (v := ?_) rfl (by kernel_rfl) (by kernel_rfl) (by kernel_rfl) (fun _ _ _ h => h) (Or.inl ⟨by rfl, ?_⟩) (by assumption) ?_
        rotate_left
        · (intro w hSw; (try dsimp only at hSw); first | (go_simp; done) | (go_simp; with_reducible rfl))
        simp only [Act.put, List.getElem_toArray, List.getElem_cons_zero, List.getElem_cons_succ, List.setIfInBounds_toArray, List.set_cons_zero, List.set_cons_succ]
        refine wpAnyH_take (i := 4) (v := ?_) rfl (by kernel_rfl) (by kernel_rfl) (by kernel_rfl) (fun _ _ _ h => h) (Or.inl ⟨by rfl, ?_⟩) (by assumption) ?_
        rotate_left
        · (intro w hSw; (try dsimp only at hSw); first | (go_simp; done) | (go_simp; with_reducible rfl))
        simp only [Act.put, List.getElem_toArray, List.getElem_cons_zero, List.getElem_cons_succ, List.setIfInBounds_toArray, List.set_cons_zero, List.set_cons_succ]
        refine wpAnyH_take (i := 5) (v := ?_) rfl (by kernel_rfl) (by kernel_rfl) (by kernel_rfl) (fun _ _ _ h => h) (Or.inl ⟨by rfl, ?_⟩) (by assumption) ?_
        rotate_left
        · (intro w hSw; (try dsimp only at hSw); first | (go_simp; done) | (go_simp; with_reducible rfl))
        simp only [Act.put, List.getElem_toArray, List.getElem_cons_zero, List.getElem_cons_succ, List.setIfInBounds_toArray, List.set_cons_zero, List.set_cons_succ]
        refine wpAnyH_take (i := 6) (v := ?_) rfl (by kernel_rfl) (by kernel_rfl) (by kernel_rfl) (fun _ _ _ h => h) (Or.inl ⟨by rfl, ?_⟩) (by assumption) ?_
        rotate_left
        · (intro w hSw; (try dsimp only at hSw); first | (go_simp; done) | (go_simp; with_reducible rfl))
        simp only [Act.put, List.getElem_toArray, List.getElem_cons_zero, List.getElem_cons_succ, List.setIfInBounds_toArray, List.set_cons_zero, List.set_cons_succ]
        refine wpAnyH_take (i := 7) (v := ?_) rfl (by kernel_rfl) (by kernel_rfl) (by kernel_rfl) (fun _ _ _ h => h) (Or.inl ⟨by rfl, ?_⟩) (by assumption) ?_
        rotate_left
        · (intro w hSw; (try dsimp only at hSw); first | (go_simp; done) | (go_simp; with_reducible rfl))
        simp only [Act.put, List.getElem_toArray, List.getElem_cons_zero, List.getElem_cons_succ, List.setIfInBounds_toArray, List.set_cons_zero, List.set_cons_succ]
        refine wpAnyH_done (by kernel_rfl) ?_ _
        clear hHeld F2 y1 y2 y3
        generalize w2.drew = w5 at *
        have F2 := F5
        have y1 := F2.out.z.cell 1
        have y2 := F2.out.z.cell 2
        have y4 := ROW.out _ (Own.lay F2.out.o)
        go_wp2_with fail
        refine (NE.out _ F2.out.r).mono ?_
        rintro e w4 ⟨rfl, rfl⟩
        have B6 := Lib.hid F2.out.b
        by_cases a1 : hh < 0
        · rw [show roomErr hh = 12 from if_pos (.inl a1)] at RO
          have a1a : decide (hh < 0) = true := by simpa using a1
          have a1b : decide (0 ≤ hh) = false := by simpa using a1
          go_wp2_with fail
          refine (RO.out _).mono ?_
          rintro e w6 ⟨rfl, rfl⟩
          go_wp2_with fail
          refine (AW.out _).mono ?_
          rintro e w7 ⟨rfl, hba⟩
          have BA := Lib.hid (up B6.out hba B6.out.size)
          clear hba
          go_wp2_with fail
          go_ret
          exact ⟨rfl, BA.out⟩
        by_cases a2 : 16 ≤ hh
        · rw [show roomErr hh = 12 from if_pos (.inr a2)] at RO
          have a2a : decide (hh < 16) = false := by simp; omega
          have a2b : decide (0 ≤ hh) = true := by simp; omega
          go_wp2_with fail
          refine (RO.out _).mono ?_
          rintro e w6 ⟨rfl, rfl⟩
          go_wp2_with fail
          refine (AW.out _).mono ?_
          rintro e w7 ⟨rfl, hba⟩
          have BA := Lib.hid (up B6.out hba B6.out.size)
          clear hba
          go_wp2_with fail
          go_ret
          exact ⟨rfl, BA.out⟩
        · rw [show roomErr hh = 0 from if_neg (by omega)] at RO
          have a2a : decide (hh < 16) = true := by simp; omega
          have a2b : decide (0 ≤ hh) = true := by simp; omega
          go_wp2_with fail
          refine (RO.out _).mono ?_
          rintro e w6 ⟨rfl, rfl⟩
          go_wp2_with fail
          refine (AW.out _).mono ?_
          rintro e w7 ⟨rfl, hba⟩
          have BA := Lib.hid (up B6.out hba B6.out.size)
          clear hba
          go_wp2_with fail
          go_ret
          exact ⟨rfl, BA.out⟩
      · rw [if_neg q] at MY
        go_wp2_with fail
        refine (MY.out _ F2.out.r).mono ?_
        rintro e w4 ⟨rfl, rfl⟩
        go_wp2_with fail
        refine (PL.out _ (Own.lay F2.out.o)).mono ?_
        rintro e w4 ⟨rfl, rfl⟩
        go_upto_region 15 with fail
        have F5 := Lib.hid (show Fin w w0 w2.drew (some ⟨bb, off, none⟩) cx L cn z0 z1 z2 z3 from F2.out.below ((Below.refl _ _).drew))
        refine wp_region_held_drew (S := fun ws => ws.cell? ⟨bb, off + p * 2 + 1, none⟩ = some (.int .i64 d1) ∧ ws.cell? ⟨w.heap.size, 3, none⟩ = some (.int .i64 z3)) (by kernel_rfl) ⟨ROW.out _ (Own.lay F5.out.o), F5.out.z.cell 3⟩ (fun hHeld => ?_)
        refine wpAnyH_take (i := 0) (v := ?_) rfl (by kernel_rfl) (by kernel_rfl) (by kernel_rfl) (fun _ _ _ h => h) (Or.inl ⟨by rfl, ?_⟩) (by assumption) ?_
        rotate_left
        · (intro w hSw; (try dsimp only at hSw); first | (go_simp; done) | (go_simp; with_reducible rfl))
        simp only [Act.put, List.getElem_toArray, List.getElem_cons_zero, List.getElem_cons_succ, List.setIfInBounds_toArray, List.set_cons_zero, List.set_cons_succ]
        refine wpAnyH_take (i := 1) (v := ?_) rfl (by kernel_rfl) (by kernel_rfl) (by kernel_rfl) (fun _ _ _ h => h) (Or.inl ⟨by rfl, ?_⟩) (by assumption) ?_
        rotate_left
        · (intro w hSw; (try dsimp only at hSw); first | (go_simp; done) | (go_simp; with_reducible rfl))
        simp only [Act.put, List.getElem_toArray, List.getElem_cons_zero, List.getElem_cons_succ, List.setIfInBounds_toArray, List.set_cons_zero, List.set_cons_succ]
        refine wpAnyH_take (i := 2) (v := ?_) rfl (by kernel_rfl) (by kernel_rfl) (by kernel_rfl) (fun _ _ _ h => h) (Or.inl ⟨by rfl, ?_⟩) (by assumption) ?_
        rotate_left
        · (intro w hSw; (try dsimp only at hSw); first | (go_simp; done) | (go_simp; with_reducible rfl))
        simp only [Act.put, List.getElem_toArray, List.getElem_cons_zero, List.getElem_cons_succ, List.setIfInBounds_toArray, List.set_cons_zero, List.set_cons_succ]
        refine wpAnyH_take (i := 3) (v := ?_) rfl (by kernel_rfl) (by kernel_rfl) (by kernel_rfl) (fun _ _ _ h => h) (Or.inl ⟨by rfl, ?_⟩) (by assumption) ?_
        rotate_left
        · (intro w hSw; (try dsimp only at hSw); first | (go_simp; done) | (go_simp; with_reducible rfl))
        simp only [Act.put, List.getElem_toArray, List.getElem_cons_zero, List.getElem_cons_succ, List.setIfInBounds_toArray, List.set_cons_zero, List.set_cons_succ]
        refine wpAnyH_take (i := 4) (v := ?_) rfl (by kernel_rfl) (by kernel_rfl) (by kernel_rfl) (fun _ _ _ h => h) (Or.inl ⟨by rfl, ?_⟩) (by assumption) ?_
        rotate_left
        · (intro w hSw; (try dsimp only at hSw); first | (go_simp; done) | (go_simp; with_reducible rfl))
        simp only [Act.put, List.getElem_toArray, List.getElem_cons_zero, List.getElem_cons_succ, List.setIfInBounds_toArray, List.set_cons_zero, List.set_cons_succ]
        refine wpAnyH_take (i := 5) (v := ?_) rfl (by kernel_rfl) (by kernel_rfl) (by kernel_rfl) (fun _ _ _ h => h) (Or.inl ⟨by rfl, ?_⟩) (by assumption) ?_
        rotate_left
        · (intro w hSw; (try dsimp only at hSw); first | (go_simp; done) | (go_simp; with_reducible rfl))
        simp only [Act.put, List.getElem_toArray, List.getElem_cons_zero, List.getElem_cons_succ, List.setIfInBounds_toArray, List.set_cons_zero, List.set_cons_succ]
        refine wpAnyH_take (i := 6) (v := ?_) rfl (by kernel_rfl) (by kernel_rfl) (by kernel_rfl) (fun _ _ _ h => h) (Or.inl ⟨by rfl, ?_⟩) (by assumption) ?_
        rotate_left
        · (intro w hSw; (try dsimp only at hSw); first | (go_simp; done) | (go_simp; with_reducible rfl))
        simp only [Act.put, List.getElem_toArray, List.getElem_cons_zero, List.getElem_cons_succ, List.setIfInBounds_toArray, List.set_cons_zero, List.set_cons_succ]
        refine wpAnyH_take (i := 7) (v := ?_) rfl (by kernel_rfl) (by kernel_rfl) (by kernel_rfl) (fun _ _ _ h => h) (Or.inl ⟨by rfl, ?_⟩) (by assumption) ?_
        rotate_left
        · (intro w hSw; (try dsimp only at hSw); first | (go_simp; done) | (go_simp; with_reducible rfl))
        simp only [Act.put, List.getElem_toArray, List.getElem_cons_zero, List.getElem_cons_succ, List.setIfInBounds_toArray, List.set_cons_zero, List.set_cons_succ]
        refine wpAnyH_done (by kernel_rfl) ?_ _
        clear hHeld F2 y1 y2 y3
        generalize w2.drew = w5 at *
        have F2 := F5
        have y1 := F2.out.z.cell 1
        have y2 := F2.out.z.cell 2
        have y4 := ROW.out _ (Own.lay F2.out.o)
        go_wp2_with fail
        refine (NE.out _ F2.out.r).mono ?_
        rintro e w4 ⟨rfl, rfl⟩
        have B6 := Lib.hid F2.out.b
        by_cases a1 : hh < 0
        · rw [show roomErr hh = 12 from if_pos (.inl a1)] at RO
          have a1a : decide (hh < 0) = true := by simpa using a1
          have a1b : decide (0 ≤ hh) = false := by simpa using a1
          go_wp2_with fail
          refine (RO.out _).mono ?_
          rintro e w6 ⟨rfl, rfl⟩
          go_wp2_with fail
          refine (AW.out _).mono ?_
          rintro e w7 ⟨rfl, hba⟩
          have BA := Lib.hid (up B6.out hba B6.out.size)
          clear hba
          go_wp2_with fail
          go_ret
          exact ⟨rfl, BA.out⟩
        by_cases a2 : 16 ≤ hh
        · rw [show roomErr hh = 12 from if_pos (.inr a2)] at RO
          have a2a : decide (hh < 16) = false := by simp; omega
          have a2b : decide (0 ≤ hh) = true := by simp; omega
          go_wp2_with fail
          refine (RO.out _).mono ?_
          rintro e w6 ⟨rfl, rfl⟩
          go_wp2_with fail
          refine (AW.out _).mono ?_
          rintro e w7 ⟨rfl, hba⟩
          have BA := Lib.hid (up B6.out hba B6.out.size)
          clear hba
          go_wp2_with fail
          go_ret
          exact ⟨rfl, BA.out⟩
        · rw [show roomErr hh = 0 from if_neg (by omega)] at RO
          have a2a : decide (hh < 16) = true := by simp; omega
          have a2b : decide (0 ≤ hh) = true := by simp; omega
          go_wp2_with fail
          refine (RO.out _).mono ?_
          rintro e w6 ⟨rfl, rfl⟩
          go_wp2_with fail
          refine (AW.out _).mono ?_
          rintro e w7 ⟨rfl, hba⟩
          have BA := Lib.hid (up B6.out hba B6.out.size)
          clear hba
          go_wp2_with fail
          go_ret
          exact ⟨rfl, BA.out⟩

theorem walk (w : World) (A : Option Addr) (m c : Nat) (F : Nat → Nat → Int) (h1 : IntRows w A m 4 F) (hc : m ≤ c) (hm : c ≤ maxLen) (hw : ∀ i, i < m → ∀ j, j < 4 → -9223372036854775808 ≤ F i j ∧ F i j ≤ 9223372036854775807) (z0 z1 z2 z3 : Int) (wz0 : (Lit.int .i64 z0).wf = true) (wz1 : (Lit.int .i64 z1).wf = true) (wz2 : (Lit.int .i64 z2).wf = true) (wz3 : (Lit.int .i64 z3).wf = true) (hh : Int) (wh : (Lit.int .i64 hh).wf = true) :
    Calls Try.prog 4 #[.slice A m c, .agg #[.int .i64 z0, .int .i64 z1, .int .i64 z2, .int .i64 z3], .int .i64 hh] w fun e w' => e = .returned (.bool true) ∧ Below w.heap.size w w' := by
  unfold maxLen at hm
  by_cases q : 80 < m
  · exact walk_no w A m c z0 z1 z2 z3 hh (by omega) q
  · exact walk_yes w A m c F h1 (by omega) hw z0 z1 z2 z3 hh wz1 wz2

set_option maxRecDepth 100000 in
theorem lifted (os : Os) (started : os.Started) (H : Type) (enc : TypeId × Value → H) :
    ReturnsInHanded {} Try.checked os 4 .any (Rows.chestMaySpec.pre6 enc Try.prog Try.f4 Rows.chestMayRow.domain false) (Rows.chestMaySpec.post enc Try.prog Try.f4 false true false false) := by
  refine returnsInHanded_of_change (C := Try.checked) base.own started (by kernel_rfl) Try.func4
    (ChangeSpec.witness6 (enc := enc) (C := Try.checked) false ⟨#[], #[.slice none 0 0, .agg #[.int .i64 0, .int .i64 0, .int .i64 0, .int .i64 0], .int .i64 0], []⟩ 8 (by kernel_rfl) (by kernel_rfl) (by kernel_rfl) (by kernel_rfl)) ?_
  intro W bs args ds gs before hval0 hW _ _
  have hval : ∀ (j : Nat) t v, Try.f4.params[j]? = some t → args[j]? = some v → Value.okWide Try.prog W .any bs t v := hval0
  have hW' : DataW.Whole enc Try.prog Try.f4.params.toList Rows.chestMaySpec.vars false W args.toList ds gs before := hW
  obtain ⟨p, q, hA0, hV, rfl, _, _⟩ := hW
  have hA : DataW.TrodAll enc Try.prog W 0 (fun _ => true) true Try.f4.params.toList args.toList ds p := hA0
  rw [Try.params4] at hA hval
  obtain ⟨v0, vs0, d0, ds0, p0, q0, hargs, rfl, rfl, h0, r0⟩ := trodAll_cons hA
  obtain ⟨v1, vs1, d1, ds1, p1, q1, rfl, rfl, rfl, h1, r1⟩ := trodAll_cons r0
  obtain ⟨v2, vs2, d2, ds2, p2, q2, rfl, rfl, rfl, h2, r2⟩ := trodAll_cons r1
  obtain ⟨rfl, rfl, rfl⟩ := trodAll_nil r2
  obtain rfl : args = #[v0, v1, v2] := by cases args; simp_all
  obtain ⟨rfl, rfl⟩ := trodVars_none hV
  obtain ⟨A0, k0, c0, F0, rfl, b0, m0, n0, w0⟩ := base.open_introws 4 Try.underlying22 Try.underlying28 (by kernel_rfl) (by kernel_rfl) rfl (by omega) (by intro j f hj; rcases j with _ | _ | _ | _ | j <;> simp at hj <;> (subst hj; exact Try.underlying3)) (hval 0 22 v0 rfl rfl) h0
  obtain ⟨x1, y1, u1, z1, rfl, wx1, wy1, wu1, wz1⟩ := base.open_four Try.underlying28 Try.underlying3 ⟨rfl, rfl, rfl⟩ (by kernel_rfl) (by kernel_rfl) (hval 1 28 v1 rfl rfl) h1
  obtain ⟨a2, rfl, rfl, rfl, w2⟩ := open_int Try.underlying3 (hval 2 3 v2 rfl rfl) h2
  clear hA0 hval0
  refine (walk W A0 k0 c0 F0 n0 b0 m0 w0 x1 y1 u1 z1 wx1 wy1 wu1 wz1 a2 w2).mono fun e W' ⟨he, hb⟩ => ?_
  subst he
  exact ⟨_, rfl, base.law_post base.laid (by kernel_rfl) rfl rfl Try.underlying4 hW' rfl rfl rfl hb⟩

theorem over : Rows.chestMayRow.holds Try.pinned (OpenSpec.ofChange Rows.chestMaySpec) :=
  OpenClaim.holds_of_wide 4 Try.f4 rfl rfl rfl rfl rfl rfl rfl ⟨rfl, rfl, rfl, rfl, rfl⟩ rfl rfl rfl rfl rfl (by kernel_rfl) Try.func4 (by kernel_rfl)
    (of_decide_eq_true (by kernel_rfl)) (by unfold Func.isWrapper; first | (rw [if_pos (by decide +kernel)]; kernel_rfl) | (rw [if_neg (by decide +kernel)]; exact ⟨rfl, rfl⟩))
    (fun os started H enc _ => lifted os started H enc)

theorem proved : Rows.ChestMaySaid := over
#print axioms proved
end Go.Proofs.Ytknkcdhdfojifaa.chestMay
