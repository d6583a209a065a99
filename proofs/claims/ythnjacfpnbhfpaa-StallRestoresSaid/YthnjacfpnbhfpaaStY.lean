/-
  Stalls: one call of both: Close.
-/
import Derived.Test.YthnjacfpnbhfpaaStX
namespace Go.Proofs.Ythnjacfpnbhfpaa.st
open Go.RowKit
open base (ret_bool ret_int made up Blk Only)
open rk mk
set_option linter.unusedVariables false
set_option linter.unusedSimpArgs false
variable {B C g bs bw : Nat} {w w1 w2 w5 w' : World} {s : S3} {tot k1 k2 k3 : Int} {m : Nat}

set_option maxRecDepth 100000 in
set_option maxHeartbeats 8000000 in
theorem step_6n (At : Option Addr) (ct : Nat) (T : List C2) (Ag : Option Addr) (cg : Nat) (G : List G3) (H : SX w B g bs bw s tot m) (R : Rel s (T, G)) (hm : m ≤ 900) (hl : T.length ≤ 900) (hg : G.length ≤ 900) (oT : Own E2 w C 71 (.slice At T.length ct) T) (oG : Own E3 w C 69 (.slice Ag G.length cg) G) (hB : B ≤ w.heap.size) (hC : C ≤ w.heap.size) (hw : (Lit.int .i64 k1).wf = true) (hT : s.T k1 = none) :
    Calls Try.prog 9 #[.pointer (some ⟨g, 0, none⟩), .agg #[.slice At T.length ct, .slice Ag G.length cg], .agg #[.int .i64 6, .int .i64 k1, .int .i64 k2, .int .i64 k3]] w (StepP B C g bs bw s (T, G) tot m w) := by
  obtain ⟨v1, v2, v3, hw1, hw2, hw3, BX, BO, RZ, B3, hz1, hz2⟩ := boxes3 w (.slice At T.length ct) (.slice Ag G.length cg) #[.int .i64 6, .int .i64 k1, .int .i64 k2, .int .i64 k3]
  have HX := Lib.hid (H.below B3)
  have OT := Lib.hid (oT.below B3)
  have OG := Lib.hid (oG.below B3)
  have HB := Lib.hid (Nat.le_trans hB B3.size)
  have HC := Lib.hid (Nat.le_trans hC B3.size)
  replace B3 := Lib.hid (Chg.of_below B B3)
  have RR := Lib.hid R
  have b0 := BX.cell 0
  have b1 := BX.cell 1
  have o0 := BO.cell 0
  have o1 := BO.cell 1
  have o2 := BO.cell 2
  have o3 := BO.cell 3
  replace BX := Lib.hid BX
  replace BO := Lib.hid BO
  replace RZ := Lib.hid RZ
  have HZ := Lib.hid (show w.heap.size ≤ v2.heap.size from hz2)
  clear H R oT oG hB hC
  have PC := Lib.hid (close_none k1 HX.out hw hT)
  have RC := Lib.hid (fun W (h1 : Own E2 W C 71 (.slice At T.length ct) T) (h2 : Own E3 W C 69 (.slice Ag G.length cg) G) (h3 : C ≤ W.heap.size) => show Calls Try.prog 32 #[.agg #[.slice At T.length ct, .slice Ag G.length cg], .int .i64 k1] W (NewS C W (T, G) 14) from by
    have := rclose_any At ct T Ag cg G k1 W h1 h2 (by omega) (by omega) h3
    have q := RR.out.tnone.1 hT
    dsimp only at q
    unfold rcloseL rcloseE at this
    rw [q] at this
    exact this)
  clear hT
  generalize hL : (T, G) = ll at *
  obtain ⟨T4, G4⟩ := ll
  go_enter Try.func9, Try.ntmps9
  go_wp2_with (first | rw [hw1] | rw [hw2] | rw [hw3])
  refine PC.out.mono ?_
  rintro e w5 ⟨rfl, h5, c5, -⟩
  have hm6 := made w5 (.cells #[.int .i64 0, .int .i64 0, .slice none 0 0] 47)
  have HX6 := Lib.hid (h5.below hm6)
  have BX6 := Lib.hid ((Chg.blk c5 BX.out rfl).below hm6 (Chg.blk c5 BX.out rfl).lt)
  have BO6 := Lib.hid ((Chg.blk c5 BO.out rfl).below hm6 (Chg.blk c5 BO.out rfl).lt)
  have RZ6 := Lib.hid ((Chg.blk c5 RZ.out rfl).below hm6 (Chg.blk c5 RZ.out rfl).lt)
  have OT6 := Lib.hid ((Chg.own c5 OT.out (fun _ => rfl)).below hm6)
  have OG6 := Lib.hid ((Chg.own c5 OG.out (fun _ => rfl)).below hm6)
  have B6 := Lib.hid ((B3.out.trans c5).step hm6)
  have HB6 := Lib.hid (Nat.le_trans (Nat.le_trans HB.out (c5.to HB.out).size) hm6.size)
  have HC6 := Lib.hid (Nat.le_trans (Nat.le_trans HC.out (c5.to HB.out).size) hm6.size)
  have BR6 := Lib.hid (Blk.new w5 47 #[.int .i64 0, .int .i64 0, .slice none 0 0])
  clear h5 c5 hm6 b0 b1 o0 o1 o2 o3 PC HX BX OT OG B3 HB BO RZ hw1 hw2 hw3
  go_upto_region 26 with fail
  generalize w5.alloc (.cells #[.int .i64 0, .int .i64 0, .slice none 0 0] 47) = w6 at *
  generalize w5.heap.size = rb at *
  have b0 := BX6.out.cell 0
  have b1 := BX6.out.cell 1
  have o1 := BO6.out.cell 1
  go_wp2_with fail
  refine (RC.out w6 OT6.out OG6.out HC6.out).mono ?_
  rintro e w7 ⟨va, vb, rfl, oa, ob, hb7⟩
  dsimp only at oa ob
  obtain ⟨A4, c4, rfl, -⟩ := oa.open_
  obtain ⟨C4, e4, rfl, -⟩ := ob.open_
  have hm8 := made w7 (.cells #[.slice A4 T4.length c4, .slice C4 G4.length e4] 29)
  have D8 := Lib.hid (up hb7 hm8 hb7.size)
  have OA := Lib.hid (oa.below hm8)
  have OB := Lib.hid (ob.below hm8)
  have BY := Lib.hid (Blk.new w7 29 #[.slice A4 T4.length c4, .slice C4 G4.length e4])
  have NZ := Lib.hid (show w7.heap.size ≠ v2.heap.size from fun e => by have h1 := RZ6.out.lt; have h2 := hb7.size; omega)
  clear oa ob hb7 hm8 b0 b1 o1 RC
  go_upto_region 27 with fail
  generalize w7.alloc (.cells #[.slice A4 T4.length c4, .slice C4 G4.length e4] 29) = w8 at *
  generalize w7.heap.size = yb at *
  have D9 := Lib.hid (up D8.out (drewB w8) D8.out.size)
  have OA9 := Lib.hid (OA.out.below (drewB w8))
  have OB9 := Lib.hid (OB.out.below (drewB w8))
  have BY9 := Lib.hid (BY.out.below (drewB w8) BY.out.lt)
  clear OA OB BY D8
  go_upto_region 28 with fail
  have BR9 := Lib.hid (BR6.out.below D9.out BR6.out.lt)
  have RZ9 := Lib.hid (RZ6.out.below D9.out RZ6.out.lt)
  have SS := Lib.hid (show w8.drew.cell? ⟨yb, 0, none⟩ = some (.slice A4 T4.length c4) ∧ w8.drew.cell? ⟨yb, 1, none⟩ = some (.slice C4 G4.length e4) ∧ w8.drew.cell? ⟨rb, 0, none⟩ = some (.int .i64 0) ∧ w8.drew.cell? ⟨rb, 1, none⟩ = some (.int .i64 0) ∧ w8.drew.cell? ⟨rb, 2, none⟩ = some (.slice none 0 0) from ⟨BY9.out.cell 0, BY9.out.cell 1, BR9.out.cell 0, BR9.out.cell 1, BR9.out.cell 2⟩)
  refine wp_region_held_drew (S := fun W => W.cell? ⟨yb, 0, none⟩ = some (.slice A4 T4.length c4) ∧ W.cell? ⟨yb, 1, none⟩ = some (.slice C4 G4.length e4) ∧ W.cell? ⟨rb, 0, none⟩ = some (.int .i64 0) ∧ W.cell? ⟨rb, 1, none⟩ = some (.int .i64 0) ∧ W.cell? ⟨rb, 2, none⟩ = some (.slice none 0 0)) (by kernel_rfl) SS.out (fun hHeld => ?_)
  generalize w8.drew = w9 at *
  refine wpAnyH_take (i := 0) (v := ?_) rfl (by kernel_rfl) (by kernel_rfl) (by kernel_rfl) (fun _ _ _ h => h) (Or.inl ⟨by rfl, ?_⟩) (by assumption) ?_
  rotate_left
  · (intro w hSw; (try dsimp only at hSw); first | (go_simp; done) | (go_simp; with_reducible rfl))
  simp only [Act.put, List.getElem_toArray, List.getElem_cons_zero, List.getElem_cons_succ, List.setIfInBounds_toArray, List.set_cons_zero, List.set_cons_succ]
  refine wpAnyH_take (i := 1) (v := ?_) rfl (by kernel_rfl) (by kernel_rfl) (by kernel_rfl) (fun _ _ _ h => h) (Or.inl ⟨by rfl, ?_⟩) (by assumption) ?_
  rotate_left
  · (intro w hSw; (try dsimp only at hSw); first | (go_simp; done) | (go_simp; with_reducible rfl))
  simp only [Act.put, List.getElem_toArray, List.getElem_cons_zero, List.getElem_cons_succ, List.setIfInBounds_toArray, List.set_cons_zero, List.set_cons_succ]
  refine wpAnyH_take (i := 2) (v := ?_) rfl (by kernel_rfl) (by kernel_rfl) (by kernel_rfl) (fun _ _ _ h => h) (Or.inl ⟨by rfl, ?_⟩) (by assumption) ?_
  rotate_left
  · (intro w hSw; (try dsimp only at hSw); first | (go_simp; done) | (go_simp; with_reducible rfl))
  simp only [Act.put, List.getElem_toArray, List.getElem_cons_zero, List.getElem_cons_succ, List.setIfInBounds_toArray, List.set_cons_zero, List.set_cons_succ]
  refine wpAnyH_take (i := 3) (v := ?_) rfl (by kernel_rfl) (by kernel_rfl) (by kernel_rfl) (fun _ _ _ h => h) (Or.inl ⟨by rfl, ?_⟩) (by assumption) ?_
  rotate_left
  · (intro w hSw; (try dsimp only at hSw); first | (go_simp; done) | (go_simp; with_reducible rfl))
  simp only [Act.put, List.getElem_toArray, List.getElem_cons_zero, List.getElem_cons_succ, List.setIfInBounds_toArray, List.set_cons_zero, List.set_cons_succ]
  refine wpAnyH_take (i := 4) (v := ?_) rfl (by kernel_rfl) (by kernel_rfl) (by kernel_rfl) (fun _ _ _ h => h) (Or.inl ⟨by rfl, ?_⟩) (by assumption) ?_
  rotate_left
  · (intro w hSw; (try dsimp only at hSw); first | (go_simp; done) | (go_simp; with_reducible rfl))
  simp only [Act.put, List.getElem_toArray, List.getElem_cons_zero, List.getElem_cons_succ, List.setIfInBounds_toArray, List.set_cons_zero, List.set_cons_succ]
  refine wpAnyH_take (i := 5) (v := ?_) rfl (by kernel_rfl) (by kernel_rfl) (by kernel_rfl) (fun _ _ _ h => h) (Or.inl ⟨by rfl, ?_⟩) (by assumption) ?_
  rotate_left
  · (intro w hSw; (try dsimp only at hSw); first | (go_simp; done) | (go_simp; with_reducible rfl))
  simp only [Act.put, List.getElem_toArray, List.getElem_cons_zero, List.getElem_cons_succ, List.setIfInBounds_toArray, List.set_cons_zero, List.set_cons_succ]
  refine wpAnyH_take (i := 6) (v := ?_) rfl (by kernel_rfl) (by kernel_rfl) (by kernel_rfl) (fun _ _ _ h => h) (Or.inl ⟨by rfl, ?_⟩) (by assumption) ?_
  rotate_left
  · (intro w hSw; (try dsimp only at hSw); first | (go_simp; done) | (go_simp; with_reducible rfl))
  simp only [Act.put, List.getElem_toArray, List.getElem_cons_zero, List.getElem_cons_succ, List.setIfInBounds_toArray, List.set_cons_zero, List.set_cons_succ]
  refine wpAnyH_take (i := 7) (v := ?_) rfl (by kernel_rfl) (by kernel_rfl) (by kernel_rfl) (fun _ _ _ h => h) (Or.inl ⟨by rfl, ?_⟩) (by assumption) ?_
  rotate_left
  · (intro w hSw; (try dsimp only at hSw); first | (go_simp; done) | (go_simp; with_reducible rfl))
  simp only [Act.put, List.getElem_toArray, List.getElem_cons_zero, List.getElem_cons_succ, List.setIfInBounds_toArray, List.set_cons_zero, List.set_cons_succ]
  refine wpAnyH_take (i := 8) (v := ?_) rfl (by kernel_rfl) (by kernel_rfl) (by kernel_rfl) (fun _ _ _ h => h) (Or.inl ⟨by rfl, ?_⟩) (by assumption) ?_
  rotate_left
  · (intro w hSw; (try dsimp only at hSw); first | (go_simp; done) | (go_simp; with_reducible rfl))
  simp only [Act.put, List.getElem_toArray, List.getElem_cons_zero, List.getElem_cons_succ, List.setIfInBounds_toArray, List.set_cons_zero, List.set_cons_succ]
  refine wpAnyH_take (i := 9) (v := ?_) rfl (by kernel_rfl) (by kernel_rfl) (by kernel_rfl) (fun _ _ _ h => h) (Or.inl ⟨by rfl, ?_⟩) (by assumption) ?_
  rotate_left
  · (intro w hSw; (try dsimp only at hSw); first | (go_simp; done) | (go_simp; with_reducible rfl))
  simp only [Act.put, List.getElem_toArray, List.getElem_cons_zero, List.getElem_cons_succ, List.setIfInBounds_toArray, List.set_cons_zero, List.set_cons_succ]
  refine wpAnyH_take (i := 10) (v := ?_) rfl (by kernel_rfl) (by kernel_rfl) (by kernel_rfl) (fun _ _ _ h => h) (Or.inl ⟨by rfl, ?_⟩) (by assumption) ?_
  rotate_left
  · (intro w hSw; (try dsimp only at hSw); first | (go_simp; done) | (go_simp; with_reducible rfl))
  simp only [Act.put, List.getElem_toArray, List.getElem_cons_zero, List.getElem_cons_succ, List.setIfInBounds_toArray, List.set_cons_zero, List.set_cons_succ]
  refine wpAnyH_take (i := 11) (v := ?_) rfl (by kernel_rfl) (by kernel_rfl) (by kernel_rfl) (fun _ _ _ h => h) (Or.inl ⟨by rfl, ?_⟩) (by assumption) ?_
  rotate_left
  · (intro w hSw; (try dsimp only at hSw); first | (go_simp; done) | (go_simp; with_reducible rfl))
  simp only [Act.put, List.getElem_toArray, List.getElem_cons_zero, List.getElem_cons_succ, List.setIfInBounds_toArray, List.set_cons_zero, List.set_cons_succ]
  refine wpAnyH_take (i := 12) (v := ?_) rfl (by kernel_rfl) (by kernel_rfl) (by kernel_rfl) (fun _ _ _ h => h) (Or.inl ⟨by rfl, ?_⟩) (by assumption) ?_
  rotate_left
  · (intro w hSw; (try dsimp only at hSw); first | (go_simp; done) | (go_simp; with_reducible rfl))
  simp only [Act.put, List.getElem_toArray, List.getElem_cons_zero, List.getElem_cons_succ, List.setIfInBounds_toArray, List.set_cons_zero, List.set_cons_succ]
  refine wpAnyH_take (i := 13) (v := ?_) rfl (by kernel_rfl) (by kernel_rfl) (by kernel_rfl) (fun _ _ _ h => h) (Or.inl ⟨by rfl, ?_⟩) (by assumption) ?_
  rotate_left
  · (intro w hSw; (try dsimp only at hSw); first | (go_simp; done) | (go_simp; with_reducible rfl))
  simp only [Act.put, List.getElem_toArray, List.getElem_cons_zero, List.getElem_cons_succ, List.setIfInBounds_toArray, List.set_cons_zero, List.set_cons_succ]
  refine wpAnyH_take (i := 14) (v := ?_) rfl (by kernel_rfl) (by kernel_rfl) (by kernel_rfl) (fun _ _ _ h => h) (Or.inl ⟨by rfl, ?_⟩) (by assumption) ?_
  rotate_left
  · (intro w hSw; (try dsimp only at hSw); first | (go_simp; done) | (go_simp; with_reducible rfl))
  simp only [Act.put, List.getElem_toArray, List.getElem_cons_zero, List.getElem_cons_succ, List.setIfInBounds_toArray, List.set_cons_zero, List.set_cons_succ]
  have NR := Lib.hid (show rb ≠ v2.heap.size from ne_of_ty BR9.out RZ9.out (by decide))
  obtain ⟨hx8, x0, x1, oa8, ob8, b8, f0, f1, z0, z1, far8⟩ := fin4 (B := B) (HX6.out.below D9.out) (B6.out.step D9.out) RZ9.out HZ.out OA9.out OB9.out
  have S8 := Lib.hid (show ((w9.setCell ⟨v2.heap.size, 0, none⟩ (.slice A4 T4.length c4)).setCell ⟨v2.heap.size, 1, none⟩ (.slice C4 G4.length e4)).cell? ⟨yb, 0, none⟩ = some (.slice A4 T4.length c4) ∧ ((w9.setCell ⟨v2.heap.size, 0, none⟩ (.slice A4 T4.length c4)).setCell ⟨v2.heap.size, 1, none⟩ (.slice C4 G4.length e4)).cell? ⟨yb, 1, none⟩ = some (.slice C4 G4.length e4) ∧ ((w9.setCell ⟨v2.heap.size, 0, none⟩ (.slice A4 T4.length c4)).setCell ⟨v2.heap.size, 1, none⟩ (.slice C4 G4.length e4)).cell? ⟨rb, 0, none⟩ = some (.int .i64 0) ∧ ((w9.setCell ⟨v2.heap.size, 0, none⟩ (.slice A4 T4.length c4)).setCell ⟨v2.heap.size, 1, none⟩ (.slice C4 G4.length e4)).cell? ⟨rb, 1, none⟩ = some (.int .i64 0) ∧ ((w9.setCell ⟨v2.heap.size, 0, none⟩ (.slice A4 T4.length c4)).setCell ⟨v2.heap.size, 1, none⟩ (.slice C4 G4.length e4)).cell? ⟨rb, 2, none⟩ = some (.slice none 0 0) from ⟨(far8 _ _ _ BY9.out NZ.out).cell 0, (far8 _ _ _ BY9.out NZ.out).cell 1, (far8 _ _ _ BR9.out NR.out).cell 0, (far8 _ _ _ BR9.out NR.out).cell 1, (far8 _ _ _ BR9.out NR.out).cell 2⟩)
  have R8 := Lib.hid (And.intro hx8 (And.intro oa8 (And.intro ob8 b8)))
  clear hx8 oa8 ob8 b8 far8
  refine wpAnyH_ready (rs := [15]) (by kernel_rfl) (by simp) ?_
  refine AllReadyH.cons rfl (fun K hK => ?_) AllReadyH.nil
  go_simp
  refine hK.out _ _ S8.out (fun hHeld2 => ?_)
  clear hK K hHeld
  refine wpAnyH_take (i := 16) (v := ?_) rfl (by kernel_rfl) (by kernel_rfl) (by kernel_rfl) (fun _ _ _ h => h) (Or.inl ⟨by rfl, ?_⟩) (by assumption) ?_
  rotate_left
  · (intro w hSw; (try dsimp only at hSw); first | (go_simp; done) | (go_simp; with_reducible rfl))
  simp only [Act.put, List.getElem_toArray, List.getElem_cons_zero, List.getElem_cons_succ, List.setIfInBounds_toArray, List.set_cons_zero, List.set_cons_succ]
  refine wpAnyH_done (by kernel_rfl) ?_ _
  clear hHeld2 f0 f1 z0 z1
  go_wp2_with fail
  refine bodyPost_ret (v := .tuple #[.agg #[.slice A4 T4.length c4, .slice C4 G4.length e4], .bool true]) (by simp [results, Try.results9, go_sem, x0, x1]) rfl ⟨_, _, rfl, R8.out.1, R8.out.2.1, R8.out.2.2.1, R8.out.2.2.2⟩
set_option maxRecDepth 100000 in
set_option maxHeartbeats 16000000 in
theorem step_6s (At : Option Addr) (ct : Nat) (T : List C2) (Ag : Option Addr) (cg : Nat) (G : List G3) {u : Int} (H : SX w B g bs bw s tot m) (R : Rel s (T, G)) (hm : m ≤ 900) (hl : T.length ≤ 900) (hg : G.length ≤ 900) (oT : Own E2 w C 71 (.slice At T.length ct) T) (oG : Own E3 w C 69 (.slice Ag G.length cg) G) (hB : B ≤ w.heap.size) (hC : C ≤ w.heap.size) (hT : s.T k1 = some u) (ht : -1152921504606846976 ≤ tot ∧ tot ≤ 1152921504606846976) :
    Calls Try.prog 9 #[.pointer (some ⟨g, 0, none⟩), .agg #[.slice At T.length ct, .slice Ag G.length cg], .agg #[.int .i64 6, .int .i64 k1, .int .i64 k2, .int .i64 k3]] w (StepP B C g bs bw (closeS s k1) (woT T k1, woH G k1) (tot - u) m w) := by
  obtain ⟨v1, v2, v3, hw1, hw2, hw3, BX, BO, RZ, B3, hz1, hz2⟩ := boxes3 w (.slice At T.length ct) (.slice Ag G.length cg) #[.int .i64 6, .int .i64 k1, .int .i64 k2, .int .i64 k3]
  have HX := Lib.hid (H.below B3)
  have OT := Lib.hid (oT.below B3)
  have OG := Lib.hid (oG.below B3)
  have HB := Lib.hid (Nat.le_trans hB B3.size)
  have HC := Lib.hid (Nat.le_trans hC B3.size)
  replace B3 := Lib.hid (Chg.of_below B B3)
  have RR := Lib.hid R
  have b0 := BX.cell 0
  have b1 := BX.cell 1
  have o0 := BO.cell 0
  have o1 := BO.cell 1
  have o2 := BO.cell 2
  have o3 := BO.cell 3
  replace BX := Lib.hid BX
  replace BO := Lib.hid BO
  replace RZ := Lib.hid RZ
  have HZ := Lib.hid (show w.heap.size ≤ v2.heap.size from hz2)
  clear H R oT oG hB hC
  have GD := Lib.hid HX.out.gd
  have PC := Lib.hid (close_some k1 u HX.out (by omega) hT ht)
  obtain ⟨j, hj, q2, hu⟩ := RR.out.tfind hT
  have FH := Lib.hid (fun W (h : Own E2 W C 71 (.slice At T.length ct) T) => show Calls Try.prog 14 #[.agg #[.slice At T.length ct, .slice Ag G.length cg], .int .i64 k1] W (fun e w' => e = .returned (.int .i64 (j : Int)) ∧ Below W.heap.size W w') from by have := rhas_any At ct T Ag G.length cg k1 W (layE h) (by omega); rw [q2] at this; exact this)
  have RC := Lib.hid (fun W (h1 : Own E2 W C 71 (.slice At T.length ct) T) (h2 : Own E3 W C 69 (.slice Ag G.length cg) G) (h3 : C ≤ W.heap.size) => show Calls Try.prog 32 #[.agg #[.slice At T.length ct, .slice Ag G.length cg], .int .i64 k1] W (NewS C W (woT T k1, woH G k1) 0) from by
    have := rclose_any At ct T Ag cg G k1 W h1 h2 (by omega) (by omega) h3
    unfold rcloseL rcloseE at this
    rw [q2] at this
    exact this)
  have HU := Lib.hid hu
  have zj : decide ((j : Int) < 0) = false := decide_eq_false (by omega)
  have hjn : (j : Int) < (T.length : Int) := by omega
  have RR2 := Lib.hid (fun ts (hk : Keys (inn s.G k1) ts) => RR.out.gl GD.out hk)
  have OLEN := Lib.hid (show (ofL G k1).length ≤ 1000 from Nat.le_trans (of_len G k1) (by omega))
  clear q2 hu hT ht
  generalize hL : (woT T k1, woH G k1) = ll at *
  obtain ⟨T4, G4⟩ := ll
  go_enter Try.func9, Try.ntmps9
  go_wp2_with (first | rw [hw1] | rw [hw2] | rw [hw3])
  refine PC.out.mono ?_
  rintro e w5 ⟨v5, ts, rfl, hk, -, o5, h5, c5⟩
  rw [RR2.out ts hk] at o5
  replace o5 : Own E2 w5 v3.heap.size 56 v5 (tp (ofL G k1)) := o5
  obtain ⟨Ar, cr, e5, -⟩ := o5.open_
  rw [tp_len] at e5
  subst e5
  have hm6 := made w5 (.cells #[.int .i64 k1, .int .i64 u, .slice Ar (ofL G k1).length cr] 47)
  have HX6 := Lib.hid (h5.below hm6)
  have BX6 := Lib.hid ((Chg.blk c5 BX.out rfl).below hm6 (Chg.blk c5 BX.out rfl).lt)
  have BO6 := Lib.hid ((Chg.blk c5 BO.out rfl).below hm6 (Chg.blk c5 BO.out rfl).lt)
  have RZ6 := Lib.hid ((Chg.blk c5 RZ.out rfl).below hm6 (Chg.blk c5 RZ.out rfl).lt)
  have OT6 := Lib.hid ((Chg.own c5 OT.out (fun _ => rfl)).below hm6)
  have OG6 := Lib.hid ((Chg.own c5 OG.out (fun _ => rfl)).below hm6)
  have B6 := Lib.hid ((B3.out.trans c5).step hm6)
  have HB6 := Lib.hid (Nat.le_trans (Nat.le_trans HB.out (c5.to HB.out).size) hm6.size)
  have HC6 := Lib.hid (Nat.le_trans (Nat.le_trans HC.out (c5.to HB.out).size) hm6.size)
  have BR6 := Lib.hid (Blk.new w5 47 #[.int .i64 k1, .int .i64 u, .slice Ar (ofL G k1).length cr])
  have GO6 := Lib.hid (o5.below hm6)
  clear o5 hk RR2
  clear h5 c5 hm6 b0 b1 o0 o1 o2 o3 PC HX BX OT OG B3 HB BO RZ hw1 hw2 hw3
  go_upto_region 26 with fail
  generalize w5.alloc (.cells #[.int .i64 k1, .int .i64 u, .slice Ar (ofL G k1).length cr] 47) = w6 at *
  generalize w5.heap.size = rb at *
  have b0 := BX6.out.cell 0
  have b1 := BX6.out.cell 1
  have o1 := BO6.out.cell 1
  go_wp2_with fail
  refine (RC.out w6 OT6.out OG6.out HC6.out).mono ?_
  rintro e w7 ⟨va, vb, rfl, oa, ob, hb7⟩
  dsimp only at oa ob
  obtain ⟨A4, c4, rfl, -⟩ := oa.open_
  obtain ⟨C4, e4, rfl, -⟩ := ob.open_
  have hm8 := made w7 (.cells #[.slice A4 T4.length c4, .slice C4 G4.length e4] 29)
  have D8 := Lib.hid (up hb7 hm8 hb7.size)
  have OA := Lib.hid (oa.below hm8)
  have OB := Lib.hid (ob.below hm8)
  have BY := Lib.hid (Blk.new w7 29 #[.slice A4 T4.length c4, .slice C4 G4.length e4])
  have NZ := Lib.hid (show w7.heap.size ≠ v2.heap.size from fun e => by have h1 := RZ6.out.lt; have h2 := hb7.size; omega)
  clear oa ob hb7 hm8 b0 b1 o1 RC
  go_upto_region 27 with fail
  generalize w7.alloc (.cells #[.slice A4 T4.length c4, .slice C4 G4.length e4] 29) = w8 at *
  generalize w7.heap.size = yb at *
  have D9 := Lib.hid (up D8.out (drewB w8) D8.out.size)
  have OA9 := Lib.hid (OA.out.below (drewB w8))
  have OB9 := Lib.hid (OB.out.below (drewB w8))
  have BY9 := Lib.hid (BY.out.below (drewB w8) BY.out.lt)
  clear OA OB BY D8
  go_upto_region 29 with fail
  obtain ⟨bT, offT, eT, -⟩ := lay2 (layE OT6.out) hj
  subst eT
  have SF := Lib.hid (fun W (h : Below w6.heap.size w6 W) (hy : Blk W yb 29 #[.slice A4 T4.length c4, .slice C4 G4.length e4]) => show W.cell? ⟨yb, 0, none⟩ = some (.slice A4 T4.length c4) ∧ W.cell? ⟨yb, 1, none⟩ = some (.slice C4 G4.length e4) ∧ W.cell? ⟨rb, 0, none⟩ = some (.int .i64 k1) ∧ W.cell? ⟨rb, 1, none⟩ = some (.int .i64 u) ∧ W.cell? ⟨rb, 2, none⟩ = some (.slice Ar (ofL G k1).length cr) ∧ W.cell? ⟨w.heap.size, 0, none⟩ = some (.slice (some ⟨bT, offT, none⟩) T.length ct) ∧ W.cell? ⟨w.heap.size, 1, none⟩ = some (.slice Ag G.length cg) ∧ W.cell? ⟨v1.heap.size, 1, none⟩ = some (.int .i64 k1) ∧ W.cell? ⟨bT, offT + j * 2 + 1, none⟩ = some (.int .i64 u) from by
    have := (lay2c ((layE OT6.out).below h) hj).2
    rw [HU.out] at this
    have r := BR6.out.below h BR6.out.lt
    exact ⟨hy.cell 0, hy.cell 1, r.cell 0, r.cell 1, r.cell 2, (BX6.out.below h BX6.out.lt).cell 0, (BX6.out.below h BX6.out.lt).cell 1, (BO6.out.below h BO6.out.lt).cell 1, this⟩)
  refine wp_region_held_drew (S := fun W => W.cell? ⟨yb, 0, none⟩ = some (.slice A4 T4.length c4) ∧ W.cell? ⟨yb, 1, none⟩ = some (.slice C4 G4.length e4) ∧ W.cell? ⟨rb, 0, none⟩ = some (.int .i64 k1) ∧ W.cell? ⟨rb, 1, none⟩ = some (.int .i64 u) ∧ W.cell? ⟨rb, 2, none⟩ = some (.slice Ar (ofL G k1).length cr) ∧ W.cell? ⟨w.heap.size, 0, none⟩ = some (.slice (some ⟨bT, offT, none⟩) T.length ct) ∧ W.cell? ⟨w.heap.size, 1, none⟩ = some (.slice Ag G.length cg) ∧ W.cell? ⟨v1.heap.size, 1, none⟩ = some (.int .i64 k1) ∧ W.cell? ⟨bT, offT + j * 2 + 1, none⟩ = some (.int .i64 u)) (by kernel_rfl) (SF.out _ D9.out BY9.out) (fun hHeld => ?_)
  generalize w8.drew = w9 at *
  refine wpAnyH_take (i := 0) (v := ?_) rfl (by kernel_rfl) (by kernel_rfl) (by kernel_rfl) (fun _ _ _ h => h) (Or.inl ⟨by rfl, ?_⟩) (by assumption) ?_
  rotate_left
  · (intro w hSw; (try dsimp only at hSw); first | (go_simp; done) | (go_simp; with_reducible rfl))
  simp only [Act.put, List.getElem_toArray, List.getElem_cons_zero, List.getElem_cons_succ, List.setIfInBounds_toArray, List.set_cons_zero, List.set_cons_succ]
  refine wpAnyH_take (i := 1) (v := ?_) rfl (by kernel_rfl) (by kernel_rfl) (by kernel_rfl) (fun _ _ _ h => h) (Or.inl ⟨by rfl, ?_⟩) (by assumption) ?_
  rotate_left
  · (intro w hSw; (try dsimp only at hSw); first | (go_simp; done) | (go_simp; with_reducible rfl))
  simp only [Act.put, List.getElem_toArray, List.getElem_cons_zero, List.getElem_cons_succ, List.setIfInBounds_toArray, List.set_cons_zero, List.set_cons_succ]
  refine wpAnyH_take (i := 2) (v := ?_) rfl (by kernel_rfl) (by kernel_rfl) (by kernel_rfl) (fun _ _ _ h => h) (Or.inl ⟨by rfl, ?_⟩) (by assumption) ?_
  rotate_left
  · (intro w hSw; (try dsimp only at hSw); first | (go_simp; done) | (go_simp; with_reducible rfl))
  simp only [Act.put, List.getElem_toArray, List.getElem_cons_zero, List.getElem_cons_succ, List.setIfInBounds_toArray, List.set_cons_zero, List.set_cons_succ]
  refine wpAnyH_take (i := 3) (v := ?_) rfl (by kernel_rfl) (by kernel_rfl) (by kernel_rfl) (fun _ _ _ h => h) (Or.inl ⟨by rfl, ?_⟩) (by assumption) ?_
  rotate_left
  · (intro w hSw; (try dsimp only at hSw); first | (go_simp; done) | (go_simp; with_reducible rfl))
  simp only [Act.put, List.getElem_toArray, List.getElem_cons_zero, List.getElem_cons_succ, List.setIfInBounds_toArray, List.set_cons_zero, List.set_cons_succ]
  refine wpAnyH_take (i := 4) (v := ?_) rfl (by kernel_rfl) (by kernel_rfl) (by kernel_rfl) (fun _ _ _ h => h) (Or.inl ⟨by rfl, ?_⟩) (by assumption) ?_
  rotate_left
  · (intro w hSw; (try dsimp only at hSw); first | (go_simp; done) | (go_simp; with_reducible rfl))
  simp only [Act.put, List.getElem_toArray, List.getElem_cons_zero, List.getElem_cons_succ, List.setIfInBounds_toArray, List.set_cons_zero, List.set_cons_succ]
  refine wpAnyH_take (i := 5) (v := ?_) rfl (by kernel_rfl) (by kernel_rfl) (by kernel_rfl) (fun _ _ _ h => h) (Or.inl ⟨by rfl, ?_⟩) (by assumption) ?_
  rotate_left
  · (intro w hSw; (try dsimp only at hSw); first | (go_simp; done) | (go_simp; with_reducible rfl))
  simp only [Act.put, List.getElem_toArray, List.getElem_cons_zero, List.getElem_cons_succ, List.setIfInBounds_toArray, List.set_cons_zero, List.set_cons_succ]
  refine wpAnyH_take (i := 6) (v := ?_) rfl (by kernel_rfl) (by kernel_rfl) (by kernel_rfl) (fun _ _ _ h => h) (Or.inl ⟨by rfl, ?_⟩) (by assumption) ?_
  rotate_left
  · (intro w hSw; (try dsimp only at hSw); first | (go_simp; done) | (go_simp; with_reducible rfl))
  simp only [Act.put, List.getElem_toArray, List.getElem_cons_zero, List.getElem_cons_succ, List.setIfInBounds_toArray, List.set_cons_zero, List.set_cons_succ]
  refine wpAnyH_take (i := 7) (v := ?_) rfl (by kernel_rfl) (by kernel_rfl) (by kernel_rfl) (fun _ _ _ h => h) (Or.inl ⟨by rfl, ?_⟩) (by assumption) ?_
  rotate_left
  · (intro w hSw; (try dsimp only at hSw); first | (go_simp; done) | (go_simp; with_reducible rfl))
  simp only [Act.put, List.getElem_toArray, List.getElem_cons_zero, List.getElem_cons_succ, List.setIfInBounds_toArray, List.set_cons_zero, List.set_cons_succ]
  refine wpAnyH_take (i := 8) (v := ?_) rfl (by kernel_rfl) (by kernel_rfl) (by kernel_rfl) (fun _ _ _ h => h) (Or.inl ⟨by rfl, ?_⟩) (by assumption) ?_
  rotate_left
  · (intro w hSw; (try dsimp only at hSw); first | (go_simp; done) | (go_simp; with_reducible rfl))
  simp only [Act.put, List.getElem_toArray, List.getElem_cons_zero, List.getElem_cons_succ, List.setIfInBounds_toArray, List.set_cons_zero, List.set_cons_succ]
  refine wpAnyH_take (i := 9) (v := ?_) rfl (by kernel_rfl) (by kernel_rfl) (by kernel_rfl) (fun _ _ _ h => h) (Or.inl ⟨by rfl, ?_⟩) (by assumption) ?_
  rotate_left
  · (intro w hSw; (try dsimp only at hSw); first | (go_simp; done) | (go_simp; with_reducible rfl))
  simp only [Act.put, List.getElem_toArray, List.getElem_cons_zero, List.getElem_cons_succ, List.setIfInBounds_toArray, List.set_cons_zero, List.set_cons_succ]
  refine wpAnyH_take (i := 10) (v := ?_) rfl (by kernel_rfl) (by kernel_rfl) (by kernel_rfl) (fun _ _ _ h => h) (Or.inl ⟨by rfl, ?_⟩) (by assumption) ?_
  rotate_left
  · (intro w hSw; (try dsimp only at hSw); first | (go_simp; done) | (go_simp; with_reducible rfl))
  simp only [Act.put, List.getElem_toArray, List.getElem_cons_zero, List.getElem_cons_succ, List.setIfInBounds_toArray, List.set_cons_zero, List.set_cons_succ]
  refine wpAnyH_take (i := 11) (v := ?_) rfl (by kernel_rfl) (by kernel_rfl) (by kernel_rfl) (fun _ _ _ h => h) (Or.inl ⟨by rfl, ?_⟩) (by assumption) ?_
  rotate_left
  · (intro w hSw; (try dsimp only at hSw); first | (go_simp; done) | (go_simp; with_reducible rfl))
  simp only [Act.put, List.getElem_toArray, List.getElem_cons_zero, List.getElem_cons_succ, List.setIfInBounds_toArray, List.set_cons_zero, List.set_cons_succ]
  refine wpAnyH_take (i := 12) (v := ?_) rfl (by kernel_rfl) (by kernel_rfl) (by kernel_rfl) (fun _ _ _ h => h) (Or.inl ⟨by rfl, ?_⟩) (by assumption) ?_
  rotate_left
  · (intro w hSw; (try dsimp only at hSw); first | (go_simp; done) | (go_simp; with_reducible rfl))
  simp only [Act.put, List.getElem_toArray, List.getElem_cons_zero, List.getElem_cons_succ, List.setIfInBounds_toArray, List.set_cons_zero, List.set_cons_succ]
  refine wpAnyH_take (i := 13) (v := ?_) rfl (by kernel_rfl) (by kernel_rfl) (by kernel_rfl) (fun _ _ _ h => h) (Or.inl ⟨by rfl, ?_⟩) (by assumption) ?_
  rotate_left
  · (intro w hSw; (try dsimp only at hSw); first | (go_simp; done) | (go_simp; with_reducible rfl))
  simp only [Act.put, List.getElem_toArray, List.getElem_cons_zero, List.getElem_cons_succ, List.setIfInBounds_toArray, List.set_cons_zero, List.set_cons_succ]
  refine wpAnyH_take (i := 14) (v := ?_) rfl (by kernel_rfl) (by kernel_rfl) (by kernel_rfl) (fun _ _ _ h => h) (Or.inl ⟨by rfl, ?_⟩) (by assumption) ?_
  rotate_left
  · (intro w hSw; (try dsimp only at hSw); first | (go_simp; done) | (go_simp; with_reducible rfl))
  simp only [Act.put, List.getElem_toArray, List.getElem_cons_zero, List.getElem_cons_succ, List.setIfInBounds_toArray, List.set_cons_zero, List.set_cons_succ]
  refine wpAnyH_take (i := 15) (v := ?_) rfl (by kernel_rfl) (by kernel_rfl) (by kernel_rfl) (fun _ _ _ h => h) (Or.inl ⟨by rfl, ?_⟩) (by assumption) ?_
  rotate_left
  · (intro w hSw; (try dsimp only at hSw); first | (go_simp; done) | (go_simp; with_reducible rfl))
  simp only [Act.put, List.getElem_toArray, List.getElem_cons_zero, List.getElem_cons_succ, List.setIfInBounds_toArray, List.set_cons_zero, List.set_cons_succ]
  refine wpAnyH_take (i := 16) (v := ?_) rfl (by kernel_rfl) (by kernel_rfl) (by kernel_rfl) (fun _ _ _ h => h) (Or.inl ⟨by rfl, ?_⟩) (by assumption) ?_
  rotate_left
  · (intro w hSw; (try dsimp only at hSw); first | (go_simp; done) | (go_simp; with_reducible rfl))
  simp only [Act.put, List.getElem_toArray, List.getElem_cons_zero, List.getElem_cons_succ, List.setIfInBounds_toArray, List.set_cons_zero, List.set_cons_succ]
  refine wpAnyH_take (i := 17) (v := ?_) rfl (by kernel_rfl) (by kernel_rfl) (by kernel_rfl) (fun _ _ _ h => h) (Or.inl ⟨by rfl, ?_⟩) (by assumption) ?_
  rotate_left
  · (intro w hSw; (try dsimp only at hSw); first | (go_simp; done) | (go_simp; with_reducible rfl))
  simp only [Act.put, List.getElem_toArray, List.getElem_cons_zero, List.getElem_cons_succ, List.setIfInBounds_toArray, List.set_cons_zero, List.set_cons_succ]
  refine wpAnyH_ready (rs := [18]) (by kernel_rfl) (by simp) ?_
  refine AllReadyH.cons rfl (fun K hK => ?_) AllReadyH.nil
  go_simp
  go_wp2_with (go_at_call 14; refine (FH.out w9 (OT6.out.below D9.out)).mono ?_; rintro e w10 ⟨rfl, hb⟩)
  have D10 := Lib.hid (up D9.out hb D9.out.size)
  have BY10 := Lib.hid (BY9.out.below hb BY9.out.lt)
  have OA10 := Lib.hid (OA9.out.below hb)
  have OB10 := Lib.hid (OB9.out.below hb)
  clear hb OA9 OB9
  refine hK.out _ _ (SF.out _ D10.out BY10.out) (fun hHeld2 => ?_)
  clear hK K hHeld
  refine wpAnyH_take (i := 19) (v := ?_) rfl (by kernel_rfl) (by kernel_rfl) (by kernel_rfl) (fun _ _ _ h => h) (Or.inl ⟨by rfl, ?_⟩) (by assumption) ?_
  rotate_left
  · (intro w hSw; (try dsimp only at hSw); first | (go_simp; done) | (go_simp; with_reducible rfl))
  simp only [Act.put, List.getElem_toArray, List.getElem_cons_zero, List.getElem_cons_succ, List.setIfInBounds_toArray, List.set_cons_zero, List.set_cons_succ]
  refine wpAnyH_take (i := 20) (v := ?_) rfl (by kernel_rfl) (by kernel_rfl) (by kernel_rfl) (fun _ _ _ h => h) (Or.inl ⟨by rfl, ?_⟩) (by assumption) ?_
  rotate_left
  · (intro w hSw; (try dsimp only at hSw); first | (go_simp; done) | (go_simp; with_reducible rfl))
  simp only [Act.put, List.getElem_toArray, List.getElem_cons_zero, List.getElem_cons_succ, List.setIfInBounds_toArray, List.set_cons_zero, List.set_cons_succ]
  refine wpAnyH_take (i := 21) (v := ?_) rfl (by kernel_rfl) (by kernel_rfl) (by kernel_rfl) (fun _ _ _ h => h) (Or.inl ⟨by rfl, ?_⟩) (by assumption) ?_
  rotate_left
  · (intro w hSw; (try dsimp only at hSw); first | (go_simp; done) | (go_simp; with_reducible rfl))
  simp only [Act.put, List.getElem_toArray, List.getElem_cons_zero, List.getElem_cons_succ, List.setIfInBounds_toArray, List.set_cons_zero, List.set_cons_succ]
  refine wpAnyH_take (i := 22) (v := ?_) rfl (by kernel_rfl) (by kernel_rfl) (by kernel_rfl) (fun _ _ _ h => h) (Or.inl ⟨by rfl, ?_⟩) (by assumption) ?_
  rotate_left
  · (intro w hSw; (try dsimp only at hSw); first | (go_simp; done) | (go_simp; with_reducible rfl))
  simp only [Act.put, List.getElem_toArray, List.getElem_cons_zero, List.getElem_cons_succ, List.setIfInBounds_toArray, List.set_cons_zero, List.set_cons_succ]
  refine wpAnyH_take (i := 23) (v := ?_) rfl (by kernel_rfl) (by kernel_rfl) (by kernel_rfl) (fun _ _ _ h => h) (Or.inl ⟨by rfl, ?_⟩) (by assumption) ?_
  rotate_left
  · (intro w hSw; (try dsimp only at hSw); first | (go_simp; done) | (go_simp; with_reducible rfl))
  simp only [Act.put, List.getElem_toArray, List.getElem_cons_zero, List.getElem_cons_succ, List.setIfInBounds_toArray, List.set_cons_zero, List.set_cons_succ]
  refine wpAnyH_take (i := 24) (v := ?_) rfl (by kernel_rfl) (by kernel_rfl) (by kernel_rfl) (fun _ _ _ h => h) (Or.inl ⟨by rfl, ?_⟩) (by assumption) ?_
  rotate_left
  · (intro w hSw; (try dsimp only at hSw); first | (go_simp; done) | (go_simp; with_reducible rfl))
  simp only [Act.put, List.getElem_toArray, List.getElem_cons_zero, List.getElem_cons_succ, List.setIfInBounds_toArray, List.set_cons_zero, List.set_cons_succ]
  refine wpAnyH_take (i := 25) (v := ?_) rfl (by kernel_rfl) (by kernel_rfl) (by kernel_rfl) (fun _ _ _ h => h) (Or.inl ⟨by rfl, ?_⟩) (by assumption) ?_
  rotate_left
  · (intro w hSw; (try dsimp only at hSw); first | (go_simp; done) | (go_simp; with_reducible rfl))
  simp only [Act.put, List.getElem_toArray, List.getElem_cons_zero, List.getElem_cons_succ, List.setIfInBounds_toArray, List.set_cons_zero, List.set_cons_succ]
  refine wpAnyH_take (i := 26) (v := ?_) rfl (by kernel_rfl) (by kernel_rfl) (by kernel_rfl) (fun _ _ _ h => h) (Or.inl ⟨by rfl, ?_⟩) (by assumption) ?_
  rotate_left
  · (intro w hSw; (try dsimp only at hSw); first | (go_simp; done) | (go_simp; with_reducible rfl))
  simp only [Act.put, List.getElem_toArray, List.getElem_cons_zero, List.getElem_cons_succ, List.setIfInBounds_toArray, List.set_cons_zero, List.set_cons_succ]
  refine wpAnyH_take (i := 27) (v := ?_) rfl (by kernel_rfl) (by kernel_rfl) (by kernel_rfl) (fun _ _ _ h => h) (Or.inl ⟨by rfl, ?_⟩) (by assumption) ?_
  rotate_left
  · (intro w hSw; (try dsimp only at hSw); first | (go_simp; done) | (go_simp; with_reducible rfl))
  simp only [Act.put, List.getElem_toArray, List.getElem_cons_zero, List.getElem_cons_succ, List.setIfInBounds_toArray, List.set_cons_zero, List.set_cons_succ]
  refine wpAnyH_take (i := 28) (v := ?_) rfl (by kernel_rfl) (by kernel_rfl) (by kernel_rfl) (fun _ _ _ h => h) (Or.inl ⟨by rfl, ?_⟩) (by assumption) ?_
  rotate_left
  · (intro w hSw; (try dsimp only at hSw); first | (go_simp; done) | (go_simp; with_reducible rfl))
  simp only [Act.put, List.getElem_toArray, List.getElem_cons_zero, List.getElem_cons_succ, List.setIfInBounds_toArray, List.set_cons_zero, List.set_cons_succ]
  refine wpAnyH_take (i := 29) (v := ?_) rfl (by kernel_rfl) (by kernel_rfl) (by kernel_rfl) (fun _ _ _ h => h) (Or.inl ⟨by rfl, ?_⟩) (by assumption) ?_
  rotate_left
  · (intro w hSw; (try dsimp only at hSw); first | (go_simp; done) | (go_simp; with_reducible rfl))
  simp only [Act.put, List.getElem_toArray, List.getElem_cons_zero, List.getElem_cons_succ, List.setIfInBounds_toArray, List.set_cons_zero, List.set_cons_succ]
  clear zj hjn
  refine wpAnyH_ready (rs := [30]) (by kernel_rfl) (by simp) ?_
  refine AllReadyH.cons rfl (fun K hK => ?_) AllReadyH.nil
  go_simp
  go_wp2_with (go_at_call 34; refine (rof_any Ag cg G (some ⟨bT, offT, none⟩) T.length ct k1 w10 ((layE OG6.out).below D10.out) (by omega)).mono ?_; rintro e w11 ⟨v6, rfl, ho6, hb⟩)
  obtain ⟨A6, c6, rfl, hl6, -⟩ := ho6.open_
  have D11 := Lib.hid (up D10.out hb D10.out.size)
  have BY11 := Lib.hid (BY10.out.below hb BY10.out.lt)
  have OA11 := Lib.hid (OA10.out.below hb)
  have OB11 := Lib.hid (OB10.out.below hb)
  have GQ := Lib.hid (goods_eq Ar cr A6 c6 (ofL G k1) w11 (by have := GO6.out.below D11.out; rw [← tp_len (ofL G k1)] at this; exact layE this) hl6 (by have := OLEN.out; omega))
  clear hb ho6 hl6 OA10 OB10
  refine hK.out _ _ (SF.out _ D11.out BY11.out) (fun hHeld => ?_)
  clear hK K hHeld2
  refine wpAnyH_ready (rs := [31]) (by kernel_rfl) (by simp) ?_
  refine AllReadyH.cons rfl (fun K hK => ?_) AllReadyH.nil
  go_simp
  go_wp2_with (go_at_call 33; refine GQ.out.mono ?_; rintro e w13 ⟨rfl, hb⟩)
  have D13 := Lib.hid (up D11.out hb D11.out.size)
  have BY13 := Lib.hid (BY11.out.below hb BY11.out.lt)
  have OA13 := Lib.hid (OA11.out.below hb)
  have OB13 := Lib.hid (OB11.out.below hb)
  clear hb GQ
  refine hK.out _ _ (SF.out _ D13.out BY13.out) (fun hHeld2 => ?_)
  clear hK K hHeld
  refine wpAnyH_take (i := 32) (v := ?_) rfl (by kernel_rfl) (by kernel_rfl) (by kernel_rfl) (fun _ _ _ h => h) (Or.inl ⟨by rfl, ?_⟩) (by assumption) ?_
  rotate_left
  · (intro w hSw; (try dsimp only at hSw); first | (go_simp; done) | (go_simp; with_reducible rfl))
  simp only [Act.put, List.getElem_toArray, List.getElem_cons_zero, List.getElem_cons_succ, List.setIfInBounds_toArray, List.set_cons_zero, List.set_cons_succ]
  have RZ13 := Lib.hid (RZ6.out.below D13.out RZ6.out.lt)
  have ot13 := OT6.out.below D13.out
  obtain ⟨hx8, x0, x1, oa8, ob8, b8, f0, f1, z0, z1, far8⟩ := fin4 (B := B) (HX6.out.below D13.out) (B6.out.step D13.out) RZ13.out HZ.out OA13.out OB13.out
  have NX := Lib.hid (show w.heap.size ≠ v2.heap.size from fun e => by
    have h1 := BX6.out
    have h2 := RZ6.out
    rw [← e] at h2
    unfold Blk at h1 h2
    rw [h1] at h2
    injection h2 with h2
    injection h2 with h2
    injection h2 with h2
    injection h2 with h2 _
    cases h2)
  have NO := Lib.hid (show v1.heap.size ≠ v2.heap.size from ne_of_ty BO6.out RZ6.out (by decide))
  have NR := Lib.hid (show rb ≠ v2.heap.size from ne_of_ty BR6.out RZ6.out (by decide))
  have S8 := Lib.hid (show ((w13.setCell ⟨v2.heap.size, 0, none⟩ (.slice A4 T4.length c4)).setCell ⟨v2.heap.size, 1, none⟩ (.slice C4 G4.length e4)).cell? ⟨yb, 0, none⟩ = some (.slice A4 T4.length c4) ∧ ((w13.setCell ⟨v2.heap.size, 0, none⟩ (.slice A4 T4.length c4)).setCell ⟨v2.heap.size, 1, none⟩ (.slice C4 G4.length e4)).cell? ⟨yb, 1, none⟩ = some (.slice C4 G4.length e4) ∧ ((w13.setCell ⟨v2.heap.size, 0, none⟩ (.slice A4 T4.length c4)).setCell ⟨v2.heap.size, 1, none⟩ (.slice C4 G4.length e4)).cell? ⟨rb, 0, none⟩ = some (.int .i64 k1) ∧ ((w13.setCell ⟨v2.heap.size, 0, none⟩ (.slice A4 T4.length c4)).setCell ⟨v2.heap.size, 1, none⟩ (.slice C4 G4.length e4)).cell? ⟨rb, 1, none⟩ = some (.int .i64 u) ∧ ((w13.setCell ⟨v2.heap.size, 0, none⟩ (.slice A4 T4.length c4)).setCell ⟨v2.heap.size, 1, none⟩ (.slice C4 G4.length e4)).cell? ⟨rb, 2, none⟩ = some (.slice Ar (ofL G k1).length cr) ∧ ((w13.setCell ⟨v2.heap.size, 0, none⟩ (.slice A4 T4.length c4)).setCell ⟨v2.heap.size, 1, none⟩ (.slice C4 G4.length e4)).cell? ⟨w.heap.size, 0, none⟩ = some (.slice (some ⟨bT, offT, none⟩) T.length ct) ∧ ((w13.setCell ⟨v2.heap.size, 0, none⟩ (.slice A4 T4.length c4)).setCell ⟨v2.heap.size, 1, none⟩ (.slice C4 G4.length e4)).cell? ⟨w.heap.size, 1, none⟩ = some (.slice Ag G.length cg) ∧ ((w13.setCell ⟨v2.heap.size, 0, none⟩ (.slice A4 T4.length c4)).setCell ⟨v2.heap.size, 1, none⟩ (.slice C4 G4.length e4)).cell? ⟨v1.heap.size, 1, none⟩ = some (.int .i64 k1) ∧ ((w13.setCell ⟨v2.heap.size, 0, none⟩ (.slice A4 T4.length c4)).setCell ⟨v2.heap.size, 1, none⟩ (.slice C4 G4.length e4)).cell? ⟨bT, offT + j * 2 + 1, none⟩ = some (.int .i64 u) from by
    have m1 := (far8 _ _ _ (BX6.out.below D13.out BX6.out.lt) NX.out)
    have m2 := (far8 _ _ _ (BO6.out.below D13.out BO6.out.lt) NO.out)
    have m4 := (far8 _ _ _ (BR6.out.below D13.out BR6.out.lt) NR.out)
    have m5 := (far8 _ _ _ BY13.out NZ.out)
    have m3 : Own E2 ((w13.setCell ⟨v2.heap.size, 0, none⟩ (.slice A4 T4.length c4)).setCell ⟨v2.heap.size, 1, none⟩ (.slice C4 G4.length e4)) C 71 (.slice (some ⟨bT, offT, none⟩) T.length ct) T := ot13.keep (fun k hk => by
      obtain ⟨_, _, cs, h1⟩ := ot13.lt' k hk
      have hne : k ≠ v2.heap.size := ne_of_ty h1 RZ13.out (by decide)
      exact (far8 _ _ _ h1 hne).trans h1.symm)
    have := (lay2c (layE m3) hj).2
    rw [HU.out] at this
    exact ⟨m5.cell 0, m5.cell 1, m4.cell 0, m4.cell 1, m4.cell 2, m1.cell 0, m1.cell 1, m2.cell 1, this⟩)
  have R8 := Lib.hid (And.intro hx8 (And.intro oa8 (And.intro ob8 b8)))
  clear hx8 oa8 ob8 b8 far8 ot13 SF
  refine wpAnyH_ready (rs := [33]) (by kernel_rfl) (by simp) ?_
  refine AllReadyH.cons rfl (fun K hK => ?_) AllReadyH.nil
  go_simp
  refine hK.out _ _ S8.out (fun hHeld => ?_)
  clear hK K hHeld2
  refine wpAnyH_take (i := 34) (v := ?_) rfl (by kernel_rfl) (by kernel_rfl) (by kernel_rfl) (fun _ _ _ h => h) (Or.inl ⟨by rfl, ?_⟩) (by assumption) ?_
  rotate_left
  · (intro w hSw; (try dsimp only at hSw); first | (go_simp; done) | (go_simp; with_reducible rfl))
  simp only [Act.put, List.getElem_toArray, List.getElem_cons_zero, List.getElem_cons_succ, List.setIfInBounds_toArray, List.set_cons_zero, List.set_cons_succ]
  refine wpAnyH_done (by kernel_rfl) ?_ _
  clear hHeld f0 f1 z0 z1
  go_wp2_with fail
  refine bodyPost_ret (v := .tuple #[.agg #[.slice A4 T4.length c4, .slice C4 G4.length e4], .bool true]) (by simp [results, Try.results9, go_sem, x0, x1]) rfl ⟨_, _, rfl, R8.out.1, R8.out.2.1, R8.out.2.2.1, R8.out.2.2.2⟩
end Go.Proofs.Ythnjacfpnbhfpaa.st
