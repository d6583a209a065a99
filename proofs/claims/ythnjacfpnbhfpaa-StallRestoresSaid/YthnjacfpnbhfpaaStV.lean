/-
  Stalls: one call of both.
-/
import Derived.Test.YthnjacfpnbhfpaaStU
namespace Go.Proofs.Ythnjacfpnbhfpaa.st
open Go.RowKit
open base (ret_bool ret_int made up Blk Only)
open rk mk
set_option linter.unusedVariables false
set_option linter.unusedSimpArgs false
variable {B C g bs bw : Nat} {w w1 w2 w5 w' : World} {s : S3} {tot k1 k2 k3 : Int} {m : Nat}

theorem boxes3 (w : World) (x0 x1 : Value) (os : Array Value) : ∃ w1 w2 w3, w.alloc (.cells #[x0, x1] 29) = w1 ∧ w1.alloc (.cells os 31) = w2 ∧ w2.alloc (.cells #[.slice none 0 0, .slice none 0 0] 29) = w3 ∧ Blk w3 w.heap.size 29 #[x0, x1] ∧ Blk w3 w1.heap.size 31 os ∧ Blk w3 w2.heap.size 29 #[.slice none 0 0, .slice none 0 0] ∧ Below w.heap.size w w3 ∧ w.heap.size ≤ w1.heap.size ∧ w.heap.size ≤ w2.heap.size := by
  have h1 := made w (.cells #[x0, x1] 29)
  have b1 := Blk.new w 29 #[x0, x1]
  have h2 := made (w.alloc (.cells #[x0, x1] 29)) (.cells os 31)
  have b2 := Blk.new (w.alloc (.cells #[x0, x1] 29)) 31 os
  have h3 := made ((w.alloc (.cells #[x0, x1] 29)).alloc (.cells os 31)) (.cells #[.slice none 0 0, .slice none 0 0] 29)
  exact ⟨_, _, _, rfl, rfl, rfl, (b1.below h2 b1.lt).below h3 (b1.below h2 b1.lt).lt, b2.below h3 b2.lt, Blk.new _ _ _, up (up h1 h2 h1.size) h3 (up h1 h2 h1.size).size, h1.size, Nat.le_trans h1.size h2.size⟩
theorem SX.far_ (H : SX w B g bs bw s tot m) {k i : Nat} {t : TypeId} {cs : Array Value} (hb : Blk w k t cs) (h1 : t ≠ 67) (h2 : t ≠ 76) (v : Value) : SX (w.setCell ⟨k, i, none⟩ v) B g bs bw s tot m := by
  obtain ⟨nT, nG, P, M, h, a, b⟩ := H
  exact ⟨nT, nG, P, M, h.far_ hb h1 h2 v, a, b⟩
theorem fin4 {z C : Nat} {u0 u1 va vb : Value} {T : List C2} {G : List G3} (H : SX w5 B g bs bw s tot m) (hb : Chg B w w5) (b : Blk w5 z 29 #[u0, u1]) (hz : w.heap.size ≤ z) (o1 : Own E2 w5 C 71 va T) (o2 : Own E3 w5 C 69 vb G) :
    SX ((w5.setCell ⟨z, 0, none⟩ va).setCell ⟨z, 1, none⟩ vb) B g bs bw s tot m ∧ ((w5.setCell ⟨z, 0, none⟩ va).setCell ⟨z, 1, none⟩ vb).cell? ⟨z, 0, none⟩ = some va ∧ ((w5.setCell ⟨z, 0, none⟩ va).setCell ⟨z, 1, none⟩ vb).cell? ⟨z, 1, none⟩ = some vb ∧ Own E2 ((w5.setCell ⟨z, 0, none⟩ va).setCell ⟨z, 1, none⟩ vb) C 71 va T ∧ Own E3 ((w5.setCell ⟨z, 0, none⟩ va).setCell ⟨z, 1, none⟩ vb) C 69 vb G ∧ Chg B w ((w5.setCell ⟨z, 0, none⟩ va).setCell ⟨z, 1, none⟩ vb) ∧ w5.frozen? ⟨z, 0, none⟩ = false ∧ w5.frozen? ⟨z, 1, none⟩ = false ∧ w5.cell? ⟨z, 0, none⟩ = some u0 ∧ w5.cell? ⟨z, 1, none⟩ = some u1 ∧
    (∀ k t cs, Blk w5 k t cs → k ≠ z → Blk ((w5.setCell ⟨z, 0, none⟩ va).setCell ⟨z, 1, none⟩ vb) k t cs) := by
  have b2 := (b.put 0 va).put 1 vb
  simp only [List.setIfInBounds_toArray, List.set_cons_zero, List.set_cons_succ] at b2
  refine ⟨(H.far_ b (by decide) (by decide) va).far_ (b.put 0 va) (by decide) (by decide) vb, b2.cell 0, b2.cell 1, o1.keep (fun k hk => ?_), o2.keep (fun k hk => ?_), Only.setCell (p := ⟨z, 1, none⟩) (Only.setCell (p := ⟨z, 0, none⟩) hb (.inr hz) _) (.inr hz) _, b.free 0, b.free 1, b.cell 0, b.cell 1, fun k t cs h hne => (h.far (p := ⟨z, 0, none⟩) hne _).far (p := ⟨z, 1, none⟩) hne _⟩
  · obtain ⟨_, _, cs, h1⟩ := o1.lt' k hk
    have hne : k ≠ z := ne_of_ty h1 b (by decide)
    exact (Below.heap_setCell _ ⟨z, 1, none⟩ _ k hne).trans (Below.heap_setCell _ ⟨z, 0, none⟩ _ k hne)
  · obtain ⟨_, _, cs, h1⟩ := o2.lt' k hk
    have hne : k ≠ z := ne_of_ty h1 b (by decide)
    exact (Below.heap_setCell _ ⟨z, 1, none⟩ _ k hne).trans (Below.heap_setCell _ ⟨z, 0, none⟩ _ k hne)
def StepP (B C g bs bw : Nat) (s : S3) (l : LS) (tot : Int) (m : Nat) (w : World) (e : Ending) (w' : World) : Prop := ∃ va vb, e = .returned (.tuple #[.agg #[va, vb], .bool true]) ∧ SX w' B g bs bw s tot m ∧ Own E2 w' C 71 va l.1 ∧ Own E3 w' C 69 vb l.2 ∧ Chg B w w'

set_option maxRecDepth 100000 in
set_option maxHeartbeats 8000000 in
theorem step_1 (At : Option Addr) (ct : Nat) (T : List C2) (Ag : Option Addr) (cg : Nat) (G : List G3) (H : SX w B g bs bw s tot m) (R : Rel s (T, G)) (hm : m ≤ 900) (hl : T.length ≤ 900) (hg : G.length ≤ 900) (oT : Own E2 w C 71 (.slice At T.length ct) T) (oG : Own E3 w C 69 (.slice Ag G.length cg) G) (hB : B ≤ w.heap.size) (hC : C ≤ w.heap.size) (hwn : (Lit.int .i64 k1).wf = true) :
    Calls Try.prog 9 #[.pointer (some ⟨g, 0, none⟩), .agg #[.slice At T.length ct, .slice Ag G.length cg], .agg #[.int .i64 1, .int .i64 k1, .int .i64 k2, .int .i64 k3]] w (StepP B C g bs bw (openR s k1) (ropenL T G k1) tot (m + 1) w) := by
  obtain ⟨v1, v2, v3, hw1, hw2, hw3, BX, BO, RZ, B3, hz1, hz2⟩ := boxes3 w (.slice At T.length ct) (.slice Ag G.length cg) #[.int .i64 1, .int .i64 k1, .int .i64 k2, .int .i64 k3]
  have HX := Lib.hid (H.below B3)
  have OT := Lib.hid (oT.below B3)
  have OG := Lib.hid (oG.below B3)
  have HB := Lib.hid (Nat.le_trans hB B3.size)
  have HC := Lib.hid (Nat.le_trans hC B3.size)
  replace B3 := Lib.hid (Chg.of_below B B3)
  have RR := Lib.hid R
  have b0 := BX.cell 0
  have b1 := BX.cell 1
  have o0 := BO.cell 0
  have o1 := BO.cell 1
  have o2 := BO.cell 2
  have o3 := BO.cell 3
  replace BX := Lib.hid BX
  replace BO := Lib.hid BO
  replace RZ := Lib.hid RZ
  have HZ := Lib.hid (show w.heap.size ≤ v2.heap.size from hz2)
  clear H R oT oG hB hC
  have RC := Lib.hid (ropen_any At ct T Ag cg G k1 v3 OT.out OG.out (by omega) (by omega) HC.out)
  have EE := Lib.hid (rel_openE RR.out k1)
  have PC := Lib.hid (fun W (h : SX W B g bs bw s tot m) (hb : B ≤ W.heap.size) => open_any k1 h (by omega) hwn hb)
  generalize openR s k1 = s2 at *
  generalize hL : ropenL T G k1 = ll at *
  obtain ⟨T4, G4⟩ := ll
  generalize hE : ropenE T k1 = ee at *
  go_enter Try.func9, Try.ntmps9
  go_wp2_with (first | rw [hw1] | rw [hw2] | rw [hw3])
  refine RC.out.mono ?_
  rintro e w4 ⟨va, vb, rfl, oa, ob, hb4⟩
  dsimp only at oa ob
  obtain ⟨A4, c4, rfl, -⟩ := oa.open_
  obtain ⟨C4, e4, rfl, -⟩ := ob.open_
  have hm5 := made w4 (.cells #[.slice A4 T4.length c4, .slice C4 G4.length e4] 29)
  have h5 := up hb4 hm5 hb4.size
  have d6 := drewB (w4.alloc (.cells #[.slice A4 T4.length c4, .slice C4 G4.length e4] 29))
  have h6 := up h5 d6 h5.size
  have by5 := Blk.new w4 29 #[.slice A4 T4.length c4, .slice C4 G4.length e4]
  have BY := Lib.hid (by5.below d6 by5.lt)
  have BO6 := Lib.hid (BO.out.below h6 BO.out.lt)
  have RZ6 := Lib.hid (RZ.out.below h6 RZ.out.lt)
  have OA := Lib.hid ((oa.below hm5).below d6)
  have OB := Lib.hid ((ob.below hm5).below d6)
  have HX6 := Lib.hid (HX.out.below h6)
  have B6 := Lib.hid (B3.out.step h6)
  have HB6 := Lib.hid (Nat.le_trans HB.out h6.size)
  have NZ := Lib.hid (show w4.heap.size ≠ v2.heap.size from fun e => by have h1 := RZ.out.lt; have h2 := hb4.size; omega)
  have NO := Lib.hid (show v1.heap.size ≠ v2.heap.size from ne_of_ty BO.out RZ.out (by decide))
  clear oa ob hb4 hm5 h5 d6 h6 by5 b0 b1 o0 o1 o2 o3 hw1 hw2 hw3 RC
  go_upto_region 4 with fail
  have SS := Lib.hid (show (w4.alloc (.cells #[.slice A4 T4.length c4, .slice C4 G4.length e4] 29)).drew.cell? ⟨w4.heap.size, 0, none⟩ = some (.slice A4 T4.length c4) ∧ (w4.alloc (.cells #[.slice A4 T4.length c4, .slice C4 G4.length e4] 29)).drew.cell? ⟨w4.heap.size, 1, none⟩ = some (.slice C4 G4.length e4) ∧ (w4.alloc (.cells #[.slice A4 T4.length c4, .slice C4 G4.length e4] 29)).drew.cell? ⟨v1.heap.size, 1, none⟩ = some (.int .i64 k1) from ⟨BY.out.cell 0, BY.out.cell 1, BO6.out.cell 1⟩)
  refine wp_region_held_drew (S := fun W => W.cell? ⟨w4.heap.size, 0, none⟩ = some (.slice A4 T4.length c4) ∧ W.cell? ⟨w4.heap.size, 1, none⟩ = some (.slice C4 G4.length e4) ∧ W.cell? ⟨v1.heap.size, 1, none⟩ = some (.int .i64 k1)) (by kernel_rfl) SS.out (fun hHeld => ?_)
  generalize (w4.alloc (.cells #[.slice A4 T4.length c4, .slice C4 G4.length e4] 29)).drew = w6 at *
  refine wpAnyH_take (i := 0) (v := ?_) rfl (by kernel_rfl) (by kernel_rfl) (by kernel_rfl) (fun _ _ _ h => h) (Or.inl ⟨by rfl, ?_⟩) (by assumption) ?_
  rotate_left
  · (intro w hSw; (try dsimp only at hSw); first | (go_simp; done) | (go_simp; with_reducible rfl))
  simp only [Act.put, List.getElem_toArray, List.getElem_cons_zero, List.getElem_cons_succ, List.setIfInBounds_toArray, List.set_cons_zero, List.set_cons_succ]
  refine wpAnyH_take (i := 1) (v := ?_) rfl (by kernel_rfl) (by kernel_rfl) (by kernel_rfl) (fun _ _ _ h => h) (Or.inl ⟨by rfl, ?_⟩) (by assumption) ?_
  rotate_left
  · (intro w hSw; (try dsimp only at hSw); first | (go_simp; done) | (go_simp; with_reducible rfl))
  simp only [Act.put, List.getElem_toArray, List.getElem_cons_zero, List.getElem_cons_succ, List.setIfInBounds_toArray, List.set_cons_zero, List.set_cons_succ]
  refine wpAnyH_take (i := 2) (v := ?_) rfl (by kernel_rfl) (by kernel_rfl) (by kernel_rfl) (fun _ _ _ h => h) (Or.inl ⟨by rfl, ?_⟩) (by assumption) ?_
  rotate_left
  · (intro w hSw; (try dsimp only at hSw); first | (go_simp; done) | (go_simp; with_reducible rfl))
  simp only [Act.put, List.getElem_toArray, List.getElem_cons_zero, List.getElem_cons_succ, List.setIfInBounds_toArray, List.set_cons_zero, List.set_cons_succ]
  refine wpAnyH_take (i := 3) (v := ?_) rfl (by kernel_rfl) (by kernel_rfl) (by kernel_rfl) (fun _ _ _ h => h) (Or.inl ⟨by rfl, ?_⟩) (by assumption) ?_
  rotate_left
  · (intro w hSw; (try dsimp only at hSw); first | (go_simp; done) | (go_simp; with_reducible rfl))
  simp only [Act.put, List.getElem_toArray, List.getElem_cons_zero, List.getElem_cons_succ, List.setIfInBounds_toArray, List.set_cons_zero, List.set_cons_succ]
  refine wpAnyH_take (i := 5) (v := ?_) rfl (by kernel_rfl) (by kernel_rfl) (by kernel_rfl) (fun _ _ _ h => h) (Or.inl ⟨by rfl, ?_⟩) (by assumption) ?_
  rotate_left
  · (intro w hSw; (try dsimp only at hSw); first | (go_simp; done) | (go_simp; with_reducible rfl))
  simp only [Act.put, List.getElem_toArray, List.getElem_cons_zero, List.getElem_cons_succ, List.setIfInBounds_toArray, List.set_cons_zero, List.set_cons_succ]
  refine wpAnyH_ready (rs := [4]) (by kernel_rfl) (by simp) ?_
  refine AllReadyH.cons rfl (fun K hK => ?_) AllReadyH.nil
  go_simp
  go_wp2_with (go_at_call 15; refine (PC.out w6 HX6.out HB6.out).mono ?_; rintro e w7 ⟨rfl, h7, c7⟩)
  have by7 := Chg.blk c7 BY.out rfl
  have bo7 := Chg.blk c7 BO6.out rfl
  have rz7 := Chg.blk c7 RZ6.out rfl
  have oa7 := Chg.own c7 OA.out (fun _ => rfl)
  have ob7 := Chg.own c7 OB.out (fun _ => rfl)
  obtain ⟨hx8, x0, x1, oa8, ob8, b8, f0, f1, y0, y1, far8⟩ := fin4 (B := B) h7 (B6.out.trans c7) rz7 HZ.out oa7 ob7
  have S7 := Lib.hid (show w7.cell? ⟨w4.heap.size, 0, none⟩ = some (.slice A4 T4.length c4) ∧ w7.cell? ⟨w4.heap.size, 1, none⟩ = some (.slice C4 G4.length e4) ∧ w7.cell? ⟨v1.heap.size, 1, none⟩ = some (.int .i64 k1) from ⟨by7.cell 0, by7.cell 1, bo7.cell 1⟩)
  have S8 := Lib.hid (show ((w7.setCell ⟨v2.heap.size, 0, none⟩ (.slice A4 T4.length c4)).setCell ⟨v2.heap.size, 1, none⟩ (.slice C4 G4.length e4)).cell? ⟨w4.heap.size, 0, none⟩ = some (.slice A4 T4.length c4) ∧ ((w7.setCell ⟨v2.heap.size, 0, none⟩ (.slice A4 T4.length c4)).setCell ⟨v2.heap.size, 1, none⟩ (.slice C4 G4.length e4)).cell? ⟨w4.heap.size, 1, none⟩ = some (.slice C4 G4.length e4) ∧ ((w7.setCell ⟨v2.heap.size, 0, none⟩ (.slice A4 T4.length c4)).setCell ⟨v2.heap.size, 1, none⟩ (.slice C4 G4.length e4)).cell? ⟨v1.heap.size, 1, none⟩ = some (.int .i64 k1) from ⟨(far8 _ _ _ by7 NZ.out).cell 0, (far8 _ _ _ by7 NZ.out).cell 1, (far8 _ _ _ bo7 NO.out).cell 1⟩)
  have R8 := Lib.hid (And.intro hx8 (And.intro oa8 (And.intro ob8 b8)))
  clear h7 c7 by7 bo7 rz7 oa7 ob7 hx8 oa8 ob8 b8 far8
  refine hK.out _ _ S7.out (fun hHeld2 => ?_)
  clear hK K hHeld
  have ez := EE.out
  refine wpAnyH_take (i := 6) (v := ?_) rfl (by kernel_rfl) (by kernel_rfl) (by kernel_rfl) (fun _ _ _ h => h) (Or.inl ⟨by rfl, ?_⟩) (by assumption) ?_
  rotate_left
  · (intro w hSw; (try dsimp only at hSw); first | (go_simp; done) | (go_simp; with_reducible rfl))
  simp only [Act.put, List.getElem_toArray, List.getElem_cons_zero, List.getElem_cons_succ, List.setIfInBounds_toArray, List.set_cons_zero, List.set_cons_succ]
  clear ez
  refine wpAnyH_ready (rs := [7]) (by kernel_rfl) (by simp) ?_
  refine AllReadyH.cons rfl (fun K hK => ?_) AllReadyH.nil
  go_simp
  refine hK.out _ _ S8.out (fun hHeld => ?_)
  clear hK K hHeld2
  refine wpAnyH_take (i := 8) (v := ?_) rfl (by kernel_rfl) (by kernel_rfl) (by kernel_rfl) (fun _ _ _ h => h) (Or.inl ⟨by rfl, ?_⟩) (by assumption) ?_
  rotate_left
  · (intro w hSw; (try dsimp only at hSw); first | (go_simp; done) | (go_simp; with_reducible rfl))
  simp only [Act.put, List.getElem_toArray, List.getElem_cons_zero, List.getElem_cons_succ, List.setIfInBounds_toArray, List.set_cons_zero, List.set_cons_succ]
  refine wpAnyH_done (by kernel_rfl) ?_ _
  clear hHeld f0 f1 y0 y1
  go_wp2_with fail
  refine bodyPost_ret (v := .tuple #[.agg #[.slice A4 T4.length c4, .slice C4 G4.length e4], .bool true]) (by simp [results, Try.results9, go_sem, x0, x1]) rfl ⟨_, _, rfl, R8.out.1, R8.out.2.1, R8.out.2.2.1, R8.out.2.2.2⟩

set_option maxRecDepth 100000 in
set_option maxHeartbeats 8000000 in
theorem step_2 (At : Option Addr) (ct : Nat) (T : List C2) (Ag : Option Addr) (cg : Nat) (G : List G3) (H : SX w B g bs bw s tot m) (R : Rel s (T, G)) (hm : m ≤ 900) (hl : T.length ≤ 900) (hg : G.length ≤ 900) (oT : Own E2 w C 71 (.slice At T.length ct) T) (oG : Own E3 w C 69 (.slice Ag G.length cg) G) (hB : B ≤ w.heap.size) (hC : C ≤ w.heap.size) (hwn : (Lit.int .i64 k1).wf = true) (hwt : (Lit.int .i64 k2).wf = true) :
    Calls Try.prog 9 #[.pointer (some ⟨g, 0, none⟩), .agg #[.slice At T.length ct, .slice Ag G.length cg], .agg #[.int .i64 2, .int .i64 k1, .int .i64 k2, .int .i64 k3]] w (StepP B C g bs bw (putR s k1 k2 k3) (rputL T G k1 k2 k3) tot (m + 1) w) := by
  obtain ⟨v1, v2, v3, hw1, hw2, hw3, BX, BO, RZ, B3, hz1, hz2⟩ := boxes3 w (.slice At T.length ct) (.slice Ag G.length cg) #[.int .i64 2, .int .i64 k1, .int .i64 k2, .int .i64 k3]
  have HX := Lib.hid (H.below B3)
  have OT := Lib.hid (oT.below B3)
  have OG := Lib.hid (oG.below B3)
  have HB := Lib.hid (Nat.le_trans hB B3.size)
  have HC := Lib.hid (Nat.le_trans hC B3.size)
  replace B3 := Lib.hid (Chg.of_below B B3)
  have RR := Lib.hid R
  have b0 := BX.cell 0
  have b1 := BX.cell 1
  have o0 := BO.cell 0
  have o1 := BO.cell 1
  have o2 := BO.cell 2
  have o3 := BO.cell 3
  replace BX := Lib.hid BX
  replace BO := Lib.hid BO
  replace RZ := Lib.hid RZ
  have HZ := Lib.hid (show w.heap.size ≤ v2.heap.size from hz2)
  clear H R oT oG hB hC
  have RC := Lib.hid (rput_any At ct T Ag cg G k1 k2 k3 v3 OT.out OG.out (by omega) (by omega) HC.out)
  have EE := Lib.hid (rel_putE RR.out k1 k2 k3)
  have PC := Lib.hid (fun W (h : SX W B g bs bw s tot m) (hb : B ≤ W.heap.size) => put_any k1 k2 k3 h (by omega) hwn hwt)
  generalize putR s k1 k2 k3 = s2 at *
  generalize hL : rputL T G k1 k2 k3 = ll at *
  obtain ⟨T4, G4⟩ := ll
  generalize hE : rputE T G k1 k2 k3 = ee at *
  go_enter Try.func9, Try.ntmps9
  go_wp2_with (first | rw [hw1] | rw [hw2] | rw [hw3])
  refine RC.out.mono ?_
  rintro e w4 ⟨va, vb, rfl, oa, ob, hb4⟩
  dsimp only at oa ob
  obtain ⟨A4, c4, rfl, -⟩ := oa.open_
  obtain ⟨C4, e4, rfl, -⟩ := ob.open_
  have hm5 := made w4 (.cells #[.slice A4 T4.length c4, .slice C4 G4.length e4] 29)
  have h5 := up hb4 hm5 hb4.size
  have d6 := drewB (w4.alloc (.cells #[.slice A4 T4.length c4, .slice C4 G4.length e4] 29))
  have h6 := up h5 d6 h5.size
  have by5 := Blk.new w4 29 #[.slice A4 T4.length c4, .slice C4 G4.length e4]
  have BY := Lib.hid (by5.below d6 by5.lt)
  have BO6 := Lib.hid (BO.out.below h6 BO.out.lt)
  have RZ6 := Lib.hid (RZ.out.below h6 RZ.out.lt)
  have OA := Lib.hid ((oa.below hm5).below d6)
  have OB := Lib.hid ((ob.below hm5).below d6)
  have HX6 := Lib.hid (HX.out.below h6)
  have B6 := Lib.hid (B3.out.step h6)
  have HB6 := Lib.hid (Nat.le_trans HB.out h6.size)
  have NZ := Lib.hid (show w4.heap.size ≠ v2.heap.size from fun e => by have h1 := RZ.out.lt; have h2 := hb4.size; omega)
  have NO := Lib.hid (show v1.heap.size ≠ v2.heap.size from ne_of_ty BO.out RZ.out (by decide))
  clear oa ob hb4 hm5 h5 d6 h6 by5 b0 b1 o0 o1 o2 o3 hw1 hw2 hw3 RC
  go_upto_region 7 with fail
  have SS := Lib.hid (show (w4.alloc (.cells #[.slice A4 T4.length c4, .slice C4 G4.length e4] 29)).drew.cell? ⟨w4.heap.size, 0, none⟩ = some (.slice A4 T4.length c4) ∧ (w4.alloc (.cells #[.slice A4 T4.length c4, .slice C4 G4.length e4] 29)).drew.cell? ⟨w4.heap.size, 1, none⟩ = some (.slice C4 G4.length e4) ∧ (w4.alloc (.cells #[.slice A4 T4.length c4, .slice C4 G4.length e4] 29)).drew.cell? ⟨v1.heap.size, 1, none⟩ = some (.int .i64 k1) ∧ (w4.alloc (.cells #[.slice A4 T4.length c4, .slice C4 G4.length e4] 29)).drew.cell? ⟨v1.heap.size, 2, none⟩ = some (.int .i64 k2) ∧ (w4.alloc (.cells #[.slice A4 T4.length c4, .slice C4 G4.length e4] 29)).drew.cell? ⟨v1.heap.size, 3, none⟩ = some (.int .i64 k3) from ⟨BY.out.cell 0, BY.out.cell 1, BO6.out.cell 1, BO6.out.cell 2, BO6.out.cell 3⟩)
  refine wp_region_held_drew (S := fun W => W.cell? ⟨w4.heap.size, 0, none⟩ = some (.slice A4 T4.length c4) ∧ W.cell? ⟨w4.heap.size, 1, none⟩ = some (.slice C4 G4.length e4) ∧ W.cell? ⟨v1.heap.size, 1, none⟩ = some (.int .i64 k1) ∧ W.cell? ⟨v1.heap.size, 2, none⟩ = some (.int .i64 k2) ∧ W.cell? ⟨v1.heap.size, 3, none⟩ = some (.int .i64 k3)) (by kernel_rfl) SS.out (fun hHeld => ?_)
  generalize (w4.alloc (.cells #[.slice A4 T4.length c4, .slice C4 G4.length e4] 29)).drew = w6 at *
  refine wpAnyH_take (i := 0) (v := ?_) rfl (by kernel_rfl) (by kernel_rfl) (by kernel_rfl) (fun _ _ _ h => h) (Or.inl ⟨by rfl, ?_⟩) (by assumption) ?_
  rotate_left
  · (intro w hSw; (try dsimp only at hSw); first | (go_simp; done) | (go_simp; with_reducible rfl))
  simp only [Act.put, List.getElem_toArray, List.getElem_cons_zero, List.getElem_cons_succ, List.setIfInBounds_toArray, List.set_cons_zero, List.set_cons_succ]
  refine wpAnyH_take (i := 1) (v := ?_) rfl (by kernel_rfl) (by kernel_rfl) (by kernel_rfl) (fun _ _ _ h => h) (Or.inl ⟨by rfl, ?_⟩) (by assumption) ?_
  rotate_left
  · (intro w hSw; (try dsimp only at hSw); first | (go_simp; done) | (go_simp; with_reducible rfl))
  simp only [Act.put, List.getElem_toArray, List.getElem_cons_zero, List.getElem_cons_succ, List.setIfInBounds_toArray, List.set_cons_zero, List.set_cons_succ]
  refine wpAnyH_take (i := 2) (v := ?_) rfl (by kernel_rfl) (by kernel_rfl) (by kernel_rfl) (fun _ _ _ h => h) (Or.inl ⟨by rfl, ?_⟩) (by assumption) ?_
  rotate_left
  · (intro w hSw; (try dsimp only at hSw); first | (go_simp; done) | (go_simp; with_reducible rfl))
  simp only [Act.put, List.getElem_toArray, List.getElem_cons_zero, List.getElem_cons_succ, List.setIfInBounds_toArray, List.set_cons_zero, List.set_cons_succ]
  refine wpAnyH_take (i := 3) (v := ?_) rfl (by kernel_rfl) (by kernel_rfl) (by kernel_rfl) (fun _ _ _ h => h) (Or.inl ⟨by rfl, ?_⟩) (by assumption) ?_
  rotate_left
  · (intro w hSw; (try dsimp only at hSw); first | (go_simp; done) | (go_simp; with_reducible rfl))
  simp only [Act.put, List.getElem_toArray, List.getElem_cons_zero, List.getElem_cons_succ, List.setIfInBounds_toArray, List.set_cons_zero, List.set_cons_succ]
  refine wpAnyH_take (i := 4) (v := ?_) rfl (by kernel_rfl) (by kernel_rfl) (by kernel_rfl) (fun _ _ _ h => h) (Or.inl ⟨by rfl, ?_⟩) (by assumption) ?_
  rotate_left
  · (intro w hSw; (try dsimp only at hSw); first | (go_simp; done) | (go_simp; with_reducible rfl))
  simp only [Act.put, List.getElem_toArray, List.getElem_cons_zero, List.getElem_cons_succ, List.setIfInBounds_toArray, List.set_cons_zero, List.set_cons_succ]
  refine wpAnyH_take (i := 5) (v := ?_) rfl (by kernel_rfl) (by kernel_rfl) (by kernel_rfl) (fun _ _ _ h => h) (Or.inl ⟨by rfl, ?_⟩) (by assumption) ?_
  rotate_left
  · (intro w hSw; (try dsimp only at hSw); first | (go_simp; done) | (go_simp; with_reducible rfl))
  simp only [Act.put, List.getElem_toArray, List.getElem_cons_zero, List.getElem_cons_succ, List.setIfInBounds_toArray, List.set_cons_zero, List.set_cons_succ]
  refine wpAnyH_take (i := 6) (v := ?_) rfl (by kernel_rfl) (by kernel_rfl) (by kernel_rfl) (fun _ _ _ h => h) (Or.inl ⟨by rfl, ?_⟩) (by assumption) ?_
  rotate_left
  · (intro w hSw; (try dsimp only at hSw); first | (go_simp; done) | (go_simp; with_reducible rfl))
  simp only [Act.put, List.getElem_toArray, List.getElem_cons_zero, List.getElem_cons_succ, List.setIfInBounds_toArray, List.set_cons_zero, List.set_cons_succ]
  refine wpAnyH_take (i := 7) (v := ?_) rfl (by kernel_rfl) (by kernel_rfl) (by kernel_rfl) (fun _ _ _ h => h) (Or.inl ⟨by rfl, ?_⟩) (by assumption) ?_
  rotate_left
  · (intro w hSw; (try dsimp only at hSw); first | (go_simp; done) | (go_simp; with_reducible rfl))
  simp only [Act.put, List.getElem_toArray, List.getElem_cons_zero, List.getElem_cons_succ, List.setIfInBounds_toArray, List.set_cons_zero, List.set_cons_succ]
  refine wpAnyH_take (i := 9) (v := ?_) rfl (by kernel_rfl) (by kernel_rfl) (by kernel_rfl) (fun _ _ _ h => h) (Or.inl ⟨by rfl, ?_⟩) (by assumption) ?_
  rotate_left
  · (intro w hSw; (try dsimp only at hSw); first | (go_simp; done) | (go_simp; with_reducible rfl))
  simp only [Act.put, List.getElem_toArray, List.getElem_cons_zero, List.getElem_cons_succ, List.setIfInBounds_toArray, List.set_cons_zero, List.set_cons_succ]
  refine wpAnyH_ready (rs := [8]) (by kernel_rfl) (by simp) ?_
  refine AllReadyH.cons rfl (fun K hK => ?_) AllReadyH.nil
  go_simp
  go_wp2_with (go_at_call 16; refine (PC.out w6 HX6.out HB6.out).mono ?_; rintro e w7 ⟨rfl, h7, c7⟩)
  have by7 := Chg.blk c7 BY.out rfl
  have bo7 := Chg.blk c7 BO6.out rfl
  have rz7 := Chg.blk c7 RZ6.out rfl
  have oa7 := Chg.own c7 OA.out (fun _ => rfl)
  have ob7 := Chg.own c7 OB.out (fun _ => rfl)
  obtain ⟨hx8, x0, x1, oa8, ob8, b8, f0, f1, y0, y1, far8⟩ := fin4 (B := B) h7 (B6.out.trans c7) rz7 HZ.out oa7 ob7
  have S7 := Lib.hid (show w7.cell? ⟨w4.heap.size, 0, none⟩ = some (.slice A4 T4.length c4) ∧ w7.cell? ⟨w4.heap.size, 1, none⟩ = some (.slice C4 G4.length e4) ∧ w7.cell? ⟨v1.heap.size, 1, none⟩ = some (.int .i64 k1) ∧ w7.cell? ⟨v1.heap.size, 2, none⟩ = some (.int .i64 k2) ∧ w7.cell? ⟨v1.heap.size, 3, none⟩ = some (.int .i64 k3) from ⟨by7.cell 0, by7.cell 1, bo7.cell 1, bo7.cell 2, bo7.cell 3⟩)
  have S8 := Lib.hid (show ((w7.setCell ⟨v2.heap.size, 0, none⟩ (.slice A4 T4.length c4)).setCell ⟨v2.heap.size, 1, none⟩ (.slice C4 G4.length e4)).cell? ⟨w4.heap.size, 0, none⟩ = some (.slice A4 T4.length c4) ∧ ((w7.setCell ⟨v2.heap.size, 0, none⟩ (.slice A4 T4.length c4)).setCell ⟨v2.heap.size, 1, none⟩ (.slice C4 G4.length e4)).cell? ⟨w4.heap.size, 1, none⟩ = some (.slice C4 G4.length e4) ∧ ((w7.setCell ⟨v2.heap.size, 0, none⟩ (.slice A4 T4.length c4)).setCell ⟨v2.heap.size, 1, none⟩ (.slice C4 G4.length e4)).cell? ⟨v1.heap.size, 1, none⟩ = some (.int .i64 k1) ∧ ((w7.setCell ⟨v2.heap.size, 0, none⟩ (.slice A4 T4.length c4)).setCell ⟨v2.heap.size, 1, none⟩ (.slice C4 G4.length e4)).cell? ⟨v1.heap.size, 2, none⟩ = some (.int .i64 k2) ∧ ((w7.setCell ⟨v2.heap.size, 0, none⟩ (.slice A4 T4.length c4)).setCell ⟨v2.heap.size, 1, none⟩ (.slice C4 G4.length e4)).cell? ⟨v1.heap.size, 3, none⟩ = some (.int .i64 k3) from ⟨(far8 _ _ _ by7 NZ.out).cell 0, (far8 _ _ _ by7 NZ.out).cell 1, (far8 _ _ _ bo7 NO.out).cell 1, (far8 _ _ _ bo7 NO.out).cell 2, (far8 _ _ _ bo7 NO.out).cell 3⟩)
  have R8 := Lib.hid (And.intro hx8 (And.intro oa8 (And.intro ob8 b8)))
  clear h7 c7 by7 bo7 rz7 oa7 ob7 hx8 oa8 ob8 b8 far8
  refine hK.out _ _ S7.out (fun hHeld2 => ?_)
  clear hK K hHeld
  have ez := EE.out
  refine wpAnyH_take (i := 10) (v := ?_) rfl (by kernel_rfl) (by kernel_rfl) (by kernel_rfl) (fun _ _ _ h => h) (Or.inl ⟨by rfl, ?_⟩) (by assumption) ?_
  rotate_left
  · (intro w hSw; (try dsimp only at hSw); first | (go_simp; done) | (go_simp; with_reducible rfl))
  simp only [Act.put, List.getElem_toArray, List.getElem_cons_zero, List.getElem_cons_succ, List.setIfInBounds_toArray, List.set_cons_zero, List.set_cons_succ]
  clear ez
  refine wpAnyH_ready (rs := [11]) (by kernel_rfl) (by simp) ?_
  refine AllReadyH.cons rfl (fun K hK => ?_) AllReadyH.nil
  go_simp
  refine hK.out _ _ S8.out (fun hHeld => ?_)
  clear hK K hHeld2
  refine wpAnyH_take (i := 12) (v := ?_) rfl (by kernel_rfl) (by kernel_rfl) (by kernel_rfl) (fun _ _ _ h => h) (Or.inl ⟨by rfl, ?_⟩) (by assumption) ?_
  rotate_left
  · (intro w hSw; (try dsimp only at hSw); first | (go_simp; done) | (go_simp; with_reducible rfl))
  simp only [Act.put, List.getElem_toArray, List.getElem_cons_zero, List.getElem_cons_succ, List.setIfInBounds_toArray, List.set_cons_zero, List.set_cons_succ]
  refine wpAnyH_done (by kernel_rfl) ?_ _
  clear hHeld f0 f1 y0 y1
  go_wp2_with fail
  refine bodyPost_ret (v := .tuple #[.agg #[.slice A4 T4.length c4, .slice C4 G4.length e4], .bool true]) (by simp [results, Try.results9, go_sem, x0, x1]) rfl ⟨_, _, rfl, R8.out.1, R8.out.2.1, R8.out.2.2.1, R8.out.2.2.2⟩

set_option maxRecDepth 100000 in
set_option maxHeartbeats 8000000 in
theorem step_3 (At : Option Addr) (ct : Nat) (T : List C2) (Ag : Option Addr) (cg : Nat) (G : List G3) (H : SX w B g bs bw s tot m) (R : Rel s (T, G)) (hm : m ≤ 900) (hl : T.length ≤ 900) (hg : G.length ≤ 900) (oT : Own E2 w C 71 (.slice At T.length ct) T) (oG : Own E3 w C 69 (.slice Ag G.length cg) G) (hB : B ≤ w.heap.size) (hC : C ≤ w.heap.size) (hwt : (Lit.int .i64 k2).wf = true) :
    Calls Try.prog 9 #[.pointer (some ⟨g, 0, none⟩), .agg #[.slice At T.length ct, .slice Ag G.length cg], .agg #[.int .i64 3, .int .i64 k1, .int .i64 k2, .int .i64 k3]] w (StepP B C g bs bw (takeR s k2) (rtakeL T G k2) tot m w) := by
  obtain ⟨v1, v2, v3, hw1, hw2, hw3, BX, BO, RZ, B3, hz1, hz2⟩ := boxes3 w (.slice At T.length ct) (.slice Ag G.length cg) #[.int .i64 3, .int .i64 k1, .int .i64 k2, .int .i64 k3]
  have HX := Lib.hid (H.below B3)
  have OT := Lib.hid (oT.below B3)
  have OG := Lib.hid (oG.below B3)
  have HB := Lib.hid (Nat.le_trans hB B3.size)
  have HC := Lib.hid (Nat.le_trans hC B3.size)
  replace B3 := Lib.hid (Chg.of_below B B3)
  have RR := Lib.hid R
  have b0 := BX.cell 0
  have b1 := BX.cell 1
  have o0 := BO.cell 0
  have o1 := BO.cell 1
  have o2 := BO.cell 2
  have o3 := BO.cell 3
  replace BX := Lib.hid BX
  replace BO := Lib.hid BO
  replace RZ := Lib.hid RZ
  have HZ := Lib.hid (show w.heap.size ≤ v2.heap.size from hz2)
  clear H R oT oG hB hC
  have RC := Lib.hid (rtake_any At ct T Ag cg G k2 v3 OT.out OG.out (by omega) (by omega) HC.out RR.out.rg)
  have EE := Lib.hid (rel_takeE RR.out k2)
  have PC := Lib.hid (fun W (h : SX W B g bs bw s tot m) (hb : B ≤ W.heap.size) => take_any k2 h (by omega) hwt)
  generalize takeR s k2 = s2 at *
  generalize hL : rtakeL T G k2 = ll at *
  obtain ⟨T4, G4⟩ := ll
  generalize hE : rtakeE G k2 = ee at *
  go_enter Try.func9, Try.ntmps9
  go_wp2_with (first | rw [hw1] | rw [hw2] | rw [hw3])
  refine RC.out.mono ?_
  rintro e w4 ⟨va, vb, rfl, oa, ob, hb4⟩
  dsimp only at oa ob
  obtain ⟨A4, c4, rfl, -⟩ := oa.open_
  obtain ⟨C4, e4, rfl, -⟩ := ob.open_
  have hm5 := made w4 (.cells #[.slice A4 T4.length c4, .slice C4 G4.length e4] 29)
  have h5 := up hb4 hm5 hb4.size
  have d6 := drewB (w4.alloc (.cells #[.slice A4 T4.length c4, .slice C4 G4.length e4] 29))
  have h6 := up h5 d6 h5.size
  have by5 := Blk.new w4 29 #[.slice A4 T4.length c4, .slice C4 G4.length e4]
  have BY := Lib.hid (by5.below d6 by5.lt)
  have BO6 := Lib.hid (BO.out.below h6 BO.out.lt)
  have RZ6 := Lib.hid (RZ.out.below h6 RZ.out.lt)
  have OA := Lib.hid ((oa.below hm5).below d6)
  have OB := Lib.hid ((ob.below hm5).below d6)
  have HX6 := Lib.hid (HX.out.below h6)
  have B6 := Lib.hid (B3.out.step h6)
  have HB6 := Lib.hid (Nat.le_trans HB.out h6.size)
  have NZ := Lib.hid (show w4.heap.size ≠ v2.heap.size from fun e => by have h1 := RZ.out.lt; have h2 := hb4.size; omega)
  have NO := Lib.hid (show v1.heap.size ≠ v2.heap.size from ne_of_ty BO.out RZ.out (by decide))
  clear oa ob hb4 hm5 h5 d6 h6 by5 b0 b1 o0 o1 o2 o3 hw1 hw2 hw3 RC
  go_upto_region 10 with fail
  have SS := Lib.hid (show (w4.alloc (.cells #[.slice A4 T4.length c4, .slice C4 G4.length e4] 29)).drew.cell? ⟨w4.heap.size, 0, none⟩ = some (.slice A4 T4.length c4) ∧ (w4.alloc (.cells #[.slice A4 T4.length c4, .slice C4 G4.length e4] 29)).drew.cell? ⟨w4.heap.size, 1, none⟩ = some (.slice C4 G4.length e4) ∧ (w4.alloc (.cells #[.slice A4 T4.length c4, .slice C4 G4.length e4] 29)).drew.cell? ⟨v1.heap.size, 2, none⟩ = some (.int .i64 k2) from ⟨BY.out.cell 0, BY.out.cell 1, BO6.out.cell 2⟩)
  refine wp_region_held_drew (S := fun W => W.cell? ⟨w4.heap.size, 0, none⟩ = some (.slice A4 T4.length c4) ∧ W.cell? ⟨w4.heap.size, 1, none⟩ = some (.slice C4 G4.length e4) ∧ W.cell? ⟨v1.heap.size, 2, none⟩ = some (.int .i64 k2)) (by kernel_rfl) SS.out (fun hHeld => ?_)
  generalize (w4.alloc (.cells #[.slice A4 T4.length c4, .slice C4 G4.length e4] 29)).drew = w6 at *
  refine wpAnyH_take (i := 0) (v := ?_) rfl (by kernel_rfl) (by kernel_rfl) (by kernel_rfl) (fun _ _ _ h => h) (Or.inl ⟨by rfl, ?_⟩) (by assumption) ?_
  rotate_left
  · (intro w hSw; (try dsimp only at hSw); first | (go_simp; done) | (go_simp; with_reducible rfl))
  simp only [Act.put, List.getElem_toArray, List.getElem_cons_zero, List.getElem_cons_succ, List.setIfInBounds_toArray, List.set_cons_zero, List.set_cons_succ]
  refine wpAnyH_take (i := 1) (v := ?_) rfl (by kernel_rfl) (by kernel_rfl) (by kernel_rfl) (fun _ _ _ h => h) (Or.inl ⟨by rfl, ?_⟩) (by assumption) ?_
  rotate_left
  · (intro w hSw; (try dsimp only at hSw); first | (go_simp; done) | (go_simp; with_reducible rfl))
  simp only [Act.put, List.getElem_toArray, List.getElem_cons_zero, List.getElem_cons_succ, List.setIfInBounds_toArray, List.set_cons_zero, List.set_cons_succ]
  refine wpAnyH_take (i := 2) (v := ?_) rfl (by kernel_rfl) (by kernel_rfl) (by kernel_rfl) (fun _ _ _ h => h) (Or.inl ⟨by rfl, ?_⟩) (by assumption) ?_
  rotate_left
  · (intro w hSw; (try dsimp only at hSw); first | (go_simp; done) | (go_simp; with_reducible rfl))
  simp only [Act.put, List.getElem_toArray, List.getElem_cons_zero, List.getElem_cons_succ, List.setIfInBounds_toArray, List.set_cons_zero, List.set_cons_succ]
  refine wpAnyH_take (i := 3) (v := ?_) rfl (by kernel_rfl) (by kernel_rfl) (by kernel_rfl) (fun _ _ _ h => h) (Or.inl ⟨by rfl, ?_⟩) (by assumption) ?_
  rotate_left
  · (intro w hSw; (try dsimp only at hSw); first | (go_simp; done) | (go_simp; with_reducible rfl))
  simp only [Act.put, List.getElem_toArray, List.getElem_cons_zero, List.getElem_cons_succ, List.setIfInBounds_toArray, List.set_cons_zero, List.set_cons_succ]
  refine wpAnyH_take (i := 5) (v := ?_) rfl (by kernel_rfl) (by kernel_rfl) (by kernel_rfl) (fun _ _ _ h => h) (Or.inl ⟨by rfl, ?_⟩) (by assumption) ?_
  rotate_left
  · (intro w hSw; (try dsimp only at hSw); first | (go_simp; done) | (go_simp; with_reducible rfl))
  simp only [Act.put, List.getElem_toArray, List.getElem_cons_zero, List.getElem_cons_succ, List.setIfInBounds_toArray, List.set_cons_zero, List.set_cons_succ]
  refine wpAnyH_ready (rs := [4]) (by kernel_rfl) (by simp) ?_
  refine AllReadyH.cons rfl (fun K hK => ?_) AllReadyH.nil
  go_simp
  go_wp2_with (go_at_call 17; refine (PC.out w6 HX6.out HB6.out).mono ?_; rintro e w7 ⟨rfl, h7, c7⟩)
  have by7 := Chg.blk c7 BY.out rfl
  have bo7 := Chg.blk c7 BO6.out rfl
  have rz7 := Chg.blk c7 RZ6.out rfl
  have oa7 := Chg.own c7 OA.out (fun _ => rfl)
  have ob7 := Chg.own c7 OB.out (fun _ => rfl)
  obtain ⟨hx8, x0, x1, oa8, ob8, b8, f0, f1, y0, y1, far8⟩ := fin4 (B := B) h7 (B6.out.trans c7) rz7 HZ.out oa7 ob7
  have S7 := Lib.hid (show w7.cell? ⟨w4.heap.size, 0, none⟩ = some (.slice A4 T4.length c4) ∧ w7.cell? ⟨w4.heap.size, 1, none⟩ = some (.slice C4 G4.length e4) ∧ w7.cell? ⟨v1.heap.size, 2, none⟩ = some (.int .i64 k2) from ⟨by7.cell 0, by7.cell 1, bo7.cell 2⟩)
  have S8 := Lib.hid (show ((w7.setCell ⟨v2.heap.size, 0, none⟩ (.slice A4 T4.length c4)).setCell ⟨v2.heap.size, 1, none⟩ (.slice C4 G4.length e4)).cell? ⟨w4.heap.size, 0, none⟩ = some (.slice A4 T4.length c4) ∧ ((w7.setCell ⟨v2.heap.size, 0, none⟩ (.slice A4 T4.length c4)).setCell ⟨v2.heap.size, 1, none⟩ (.slice C4 G4.length e4)).cell? ⟨w4.heap.size, 1, none⟩ = some (.slice C4 G4.length e4) ∧ ((w7.setCell ⟨v2.heap.size, 0, none⟩ (.slice A4 T4.length c4)).setCell ⟨v2.heap.size, 1, none⟩ (.slice C4 G4.length e4)).cell? ⟨v1.heap.size, 2, none⟩ = some (.int .i64 k2) from ⟨(far8 _ _ _ by7 NZ.out).cell 0, (far8 _ _ _ by7 NZ.out).cell 1, (far8 _ _ _ bo7 NO.out).cell 2⟩)
  have R8 := Lib.hid (And.intro hx8 (And.intro oa8 (And.intro ob8 b8)))
  clear h7 c7 by7 bo7 rz7 oa7 ob7 hx8 oa8 ob8 b8 far8
  refine hK.out _ _ S7.out (fun hHeld2 => ?_)
  clear hK K hHeld
  have ez := EE.out
  refine wpAnyH_take (i := 6) (v := ?_) rfl (by kernel_rfl) (by kernel_rfl) (by kernel_rfl) (fun _ _ _ h => h) (Or.inl ⟨by rfl, ?_⟩) (by assumption) ?_
  rotate_left
  · (intro w hSw; (try dsimp only at hSw); first | (go_simp; done) | (go_simp; with_reducible rfl))
  simp only [Act.put, List.getElem_toArray, List.getElem_cons_zero, List.getElem_cons_succ, List.setIfInBounds_toArray, List.set_cons_zero, List.set_cons_succ]
  clear ez
  refine wpAnyH_ready (rs := [7]) (by kernel_rfl) (by simp) ?_
  refine AllReadyH.cons rfl (fun K hK => ?_) AllReadyH.nil
  go_simp
  refine hK.out _ _ S8.out (fun hHeld => ?_)
  clear hK K hHeld2
  refine wpAnyH_take (i := 8) (v := ?_) rfl (by kernel_rfl) (by kernel_rfl) (by kernel_rfl) (fun _ _ _ h => h) (Or.inl ⟨by rfl, ?_⟩) (by assumption) ?_
  rotate_left
  · (intro w hSw; (try dsimp only at hSw); first | (go_simp; done) | (go_simp; with_reducible rfl))
  simp only [Act.put, List.getElem_toArray, List.getElem_cons_zero, List.getElem_cons_succ, List.setIfInBounds_toArray, List.set_cons_zero, List.set_cons_succ]
  refine wpAnyH_done (by kernel_rfl) ?_ _
  clear hHeld f0 f1 y0 y1
  go_wp2_with fail
  refine bodyPost_ret (v := .tuple #[.agg #[.slice A4 T4.length c4, .slice C4 G4.length e4], .bool true]) (by simp [results, Try.results9, go_sem, x0, x1]) rfl ⟨_, _, rfl, R8.out.1, R8.out.2.1, R8.out.2.2.1, R8.out.2.2.2⟩

set_option maxRecDepth 100000 in
set_option maxHeartbeats 8000000 in
theorem step_0 (At : Option Addr) (ct : Nat) (T : List C2) (Ag : Option Addr) (cg : Nat) (G : List G3) {k0 : Int} (H : SX w B g bs bw s tot m) (R : Rel s (T, G)) (hm : m ≤ 900) (hl : T.length ≤ 900) (hg : G.length ≤ 900) (oT : Own E2 w C 71 (.slice At T.length ct) T) (oG : Own E3 w C 69 (.slice Ag G.length cg) G) (hB : B ≤ w.heap.size) (hC : C ≤ w.heap.size) (q1 : k0 ≠ 1) (q2 : k0 ≠ 2) (q3 : k0 ≠ 3) (q4 : k0 ≠ 4) (q5 : k0 ≠ 5) (q6 : k0 ≠ 6) :
    Calls Try.prog 9 #[.pointer (some ⟨g, 0, none⟩), .agg #[.slice At T.length ct, .slice Ag G.length cg], .agg #[.int .i64 k0, .int .i64 k1, .int .i64 k2, .int .i64 k3]] w (StepP B C g bs bw s (T, G) tot m w) := by
  obtain ⟨v1, v2, v3, hw1, hw2, hw3, BX, BO, RZ, B3, hz1, hz2⟩ := boxes3 w (.slice At T.length ct) (.slice Ag G.length cg) #[.int .i64 k0, .int .i64 k1, .int .i64 k2, .int .i64 k3]
  have HX := Lib.hid (H.below B3)
  have OT := Lib.hid (oT.below B3)
  have OG := Lib.hid (oG.below B3)
  have HB := Lib.hid (Nat.le_trans hB B3.size)
  have HC := Lib.hid (Nat.le_trans hC B3.size)
  replace B3 := Lib.hid (Chg.of_below B B3)
  have RR := Lib.hid R
  have b0 := BX.cell 0
  have b1 := BX.cell 1
  have o0 := BO.cell 0
  have o1 := BO.cell 1
  have o2 := BO.cell 2
  have o3 := BO.cell 3
  replace BX := Lib.hid BX
  replace BO := Lib.hid BO
  replace RZ := Lib.hid RZ
  have HZ := Lib.hid (show w.heap.size ≤ v2.heap.size from hz2)
  clear H R oT oG hB hC
  have p1 : (k0 == 1) = false := by simpa using q1
  have p2 : (k0 == 2) = false := by simpa using q2
  have p3 : (k0 == 3) = false := by simpa using q3
  have p4 : (k0 == 4) = false := by simpa using q4
  have p5 : (k0 == 5) = false := by simpa using q5
  have p6 : (k0 == 6) = false := by simpa using q6
  obtain ⟨hx8, x0, x1, oa8, ob8, b8, f0, f1, y0, y1, far8⟩ := fin4 (B := B) HX.out B3.out RZ.out HZ.out OT.out OG.out
  have R8 := Lib.hid (And.intro hx8 (And.intro oa8 (And.intro ob8 b8)))
  clear q1 q2 q3 q4 q5 q6 hx8 oa8 ob8 b8 far8
  go_enter Try.func9, Try.ntmps9
  go_wp2_with (first | rw [hw1] | rw [hw2] | rw [hw3])
  refine bodyPost_ret (v := .tuple #[.agg #[.slice At T.length ct, .slice Ag G.length cg], .bool true]) (by simp [results, Try.results9, go_sem, x0, x1]) rfl ⟨_, _, rfl, R8.out.1, R8.out.2.1, R8.out.2.2.1, R8.out.2.2.2⟩
end Go.Proofs.Ythnjacfpnbhfpaa.st
