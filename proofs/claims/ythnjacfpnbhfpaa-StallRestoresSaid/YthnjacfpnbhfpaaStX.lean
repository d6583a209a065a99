/-
  Stalls: one call of both: Collect, Close.
-/
import Derived.Test.YthnjacfpnbhfpaaStW
namespace Go.Proofs.Ythnjacfpnbhfpaa.st
open Go.RowKit
open base (ret_bool ret_int made up Blk Only)
open rk mk
set_option linter.unusedVariables false
set_option linter.unusedSimpArgs false
variable {B C g bs bw : Nat} {w w1 w2 w5 w' : World} {s : S3} {tot k1 k2 k3 : Int} {m : Nat}

set_option maxRecDepth 100000 in
set_option maxHeartbeats 8000000 in
theorem step_5n (At : Option Addr) (ct : Nat) (T : List C2) (Ag : Option Addr) (cg : Nat) (G : List G3) (H : SX w B g bs bw s tot m) (R : Rel s (T, G)) (hm : m ≤ 900) (hl : T.length ≤ 900) (hg : G.length ≤ 900) (oT : Own E2 w C 71 (.slice At T.length ct) T) (oG : Own E3 w C 69 (.slice Ag G.length cg) G) (hB : B ≤ w.heap.size) (hC : C ≤ w.heap.size) (hw : (Lit.int .i64 k1).wf = true) (hT : s.T k1 = none) :
    Calls Try.prog 9 #[.pointer (some ⟨g, 0, none⟩), .agg #[.slice At T.length ct, .slice Ag G.length cg], .agg #[.int .i64 5, .int .i64 k1, .int .i64 k2, .int .i64 k3]] w (StepP B C g bs bw s (T, G) tot m w) := by
  obtain ⟨v1, v2, v3, hw1, hw2, hw3, BX, BO, RZ, B3, hz1, hz2⟩ := boxes3 w (.slice At T.length ct) (.slice Ag G.length cg) #[.int .i64 5, .int .i64 k1, .int .i64 k2, .int .i64 k3]
  have HX := Lib.hid (H.below B3)
  have OT := Lib.hid (oT.below B3)
  have OG := Lib.hid (oG.below B3)
  have HB := Lib.hid (Nat.le_trans hB B3.size)
  have HC := Lib.hid (Nat.le_trans hC B3.size)
  replace B3 := Lib.hid (Chg.of_below B B3)
  have RR := Lib.hid R
  have b0 := BX.cell 0
  have b1 := BX.cell 1
  have o0 := BO.cell 0
  have o1 := BO.cell 1
  have o2 := BO.cell 2
  have o3 := BO.cell 3
  replace BX := Lib.hid BX
  replace BO := Lib.hid BO
  replace RZ := Lib.hid RZ
  have HZ := Lib.hid (show w.heap.size ≤ v2.heap.size from hz2)
  clear H R oT oG hB hC
  have PC := Lib.hid (collect_none k1 HX.out hw hT)
  have FH := rhas_any At ct T Ag G.length cg k1 v3 (layE OT.out) (by omega)
  rw [RR.out.tnone.1 hT] at FH
  have FH := Lib.hid (show Calls Try.prog 14 #[.agg #[.slice At T.length ct, .slice Ag G.length cg], .int .i64 k1] v3 (fun e w' => e = .returned (.int .i64 (-1)) ∧ Below v3.heap.size v3 w') from FH)
  clear hT
  go_enter Try.func9, Try.ntmps9
  go_wp2_with (first | rw [hw1] | rw [hw2] | rw [hw3])
  refine PC.out.mono ?_
  rintro e w7 ⟨rfl, rfl⟩
  go_wp2_with fail
  refine FH.out.mono ?_
  rintro e w8 ⟨rfl, hb8⟩
  have b0 := (BX.out.below hb8 BX.out.lt).cell 0
  have b1 := (BX.out.below hb8 BX.out.lt).cell 1
  obtain ⟨hx8, x0, x1, oa8, ob8, b8, f0, f1, z0, z1, far8⟩ := fin4 (B := B) (HX.out.below hb8) (B3.out.step hb8) (RZ.out.below hb8 RZ.out.lt) HZ.out (OT.out.below hb8) (OG.out.below hb8)
  have R8 := Lib.hid (And.intro hx8 (And.intro oa8 (And.intro ob8 b8)))
  clear hx8 oa8 ob8 b8 far8 hb8
  go_wp2_with fail
  refine bodyPost_ret (v := .tuple #[.agg #[.slice At T.length ct, .slice Ag G.length cg], .bool true]) (by simp [results, Try.results9, go_sem, x0, x1]) rfl ⟨_, _, rfl, R8.out.1, R8.out.2.1, R8.out.2.2.1, R8.out.2.2.2⟩

set_option maxRecDepth 100000 in
set_option maxHeartbeats 8000000 in
theorem step_5s (At : Option Addr) (ct : Nat) (T : List C2) (Ag : Option Addr) (cg : Nat) (G : List G3) {u : Int} (H : SX w B g bs bw s tot m) (R : Rel s (T, G)) (hm : m ≤ 900) (hl : T.length ≤ 900) (hg : G.length ≤ 900) (oT : Own E2 w C 71 (.slice At T.length ct) T) (oG : Own E3 w C 69 (.slice Ag G.length cg) G) (hB : B ≤ w.heap.size) (hC : C ≤ w.heap.size) (hT : s.T k1 = some u) (ht : -1152921504606846976 ≤ tot ∧ tot ≤ 1152921504606846976) :
    Calls Try.prog 9 #[.pointer (some ⟨g, 0, none⟩), .agg #[.slice At T.length ct, .slice Ag G.length cg], .agg #[.int .i64 5, .int .i64 k1, .int .i64 k2, .int .i64 k3]] w (StepP B C g bs bw (setS s k1 0) (setL T k1 0, G) (tot - u) m w) := by
  obtain ⟨v1, v2, v3, hw1, hw2, hw3, BX, BO, RZ, B3, hz1, hz2⟩ := boxes3 w (.slice At T.length ct) (.slice Ag G.length cg) #[.int .i64 5, .int .i64 k1, .int .i64 k2, .int .i64 k3]
  have HX := Lib.hid (H.below B3)
  have OT := Lib.hid (oT.below B3)
  have OG := Lib.hid (oG.below B3)
  have HB := Lib.hid (Nat.le_trans hB B3.size)
  have HC := Lib.hid (Nat.le_trans hC B3.size)
  replace B3 := Lib.hid (Chg.of_below B B3)
  have RR := Lib.hid R
  have b0 := BX.cell 0
  have b1 := BX.cell 1
  have o0 := BO.cell 0
  have o1 := BO.cell 1
  have o2 := BO.cell 2
  have o3 := BO.cell 3
  replace BX := Lib.hid BX
  replace BO := Lib.hid BO
  replace RZ := Lib.hid RZ
  have HZ := Lib.hid (show w.heap.size ≤ v2.heap.size from hz2)
  clear H R oT oG hB hC
  obtain ⟨j, hj, q2, hu⟩ := RR.out.tfind hT
  have PC := Lib.hid (collect_some k1 u HX.out hT (by omega))
  have FH := Lib.hid (fun W (h : Own E2 W C 71 (.slice At T.length ct) T) => show Calls Try.prog 14 #[.agg #[.slice At T.length ct, .slice Ag G.length cg], .int .i64 k1] W (fun e w' => e = .returned (.int .i64 (j : Int)) ∧ Below W.heap.size W w') from by have := rhas_any At ct T Ag G.length cg k1 W (layE h) (by omega); rw [q2] at this; exact this)
  have HU := Lib.hid hu
  have zj : decide ((j : Int) < 0) = false := decide_eq_false (by omega)
  have hjn : (j : Int) < (T.length : Int) := by omega
  clear q2 hu hT ht
  generalize setS s k1 0 = s2 at *
  generalize tot - u = tot2 at *
  go_enter Try.func9, Try.ntmps9
  go_wp2_with (first | rw [hw1] | rw [hw2] | rw [hw3])
  refine PC.out.mono ?_
  rintro e w7 ⟨rfl, h7, c7⟩
  have HX7 := Lib.hid h7
  have BX7 := Lib.hid (Chg.blk c7 BX.out rfl)
  have BO7 := Lib.hid (Chg.blk c7 BO.out rfl)
  have RZ7 := Lib.hid (Chg.blk c7 RZ.out rfl)
  have OT7 := Lib.hid (Chg.own c7 OT.out (fun _ => rfl))
  have OG7 := Lib.hid (Chg.own c7 OG.out (fun _ => rfl))
  have B7 := Lib.hid (B3.out.trans c7)
  have HB7 := Lib.hid (Nat.le_trans HB.out (c7.to HB.out).size)
  have HC7 := Lib.hid (Nat.le_trans HC.out (c7.to HB.out).size)
  clear h7 c7 b0 b1 o0 o1 o2 o3 PC HX BX OT OG B3 HB hw1 hw2 hw3
  have b0 := BX7.out.cell 0
  have b1 := BX7.out.cell 1
  have o1 := BO7.out.cell 1
  go_wp2_with fail
  refine (FH.out w7 OT7.out).mono ?_
  rintro e w8 ⟨rfl, hb8⟩
  have D8 := Lib.hid (up hb8 (drewB w8) hb8.size)
  obtain ⟨bT, offT, eT, -⟩ := lay2 (layE OT7.out) hj
  subst eT
  have SF := Lib.hid (fun W (h : Below w7.heap.size w7 W) => show W.cell? ⟨w.heap.size, 0, none⟩ = some (.slice (some ⟨bT, offT, none⟩) T.length ct) ∧ W.cell? ⟨w.heap.size, 1, none⟩ = some (.slice Ag G.length cg) ∧ W.cell? ⟨v1.heap.size, 1, none⟩ = some (.int .i64 k1) ∧ W.cell? ⟨bT, offT + j * 2 + 1, none⟩ = some (.int .i64 u) from by
    have := (lay2c ((layE OT7.out).below h) hj).2
    rw [HU.out] at this
    exact ⟨(BX7.out.below h BX7.out.lt).cell 0, (BX7.out.below h BX7.out.lt).cell 1, (BO7.out.below h BO7.out.lt).cell 1, this⟩)
  clear hb8 b0 b1 o1 FH
  go_upto_region 23 with fail
  refine wp_region_held_drew (S := fun W => W.cell? ⟨w.heap.size, 0, none⟩ = some (.slice (some ⟨bT, offT, none⟩) T.length ct) ∧ W.cell? ⟨w.heap.size, 1, none⟩ = some (.slice Ag G.length cg) ∧ W.cell? ⟨v1.heap.size, 1, none⟩ = some (.int .i64 k1) ∧ W.cell? ⟨bT, offT + j * 2 + 1, none⟩ = some (.int .i64 u)) (by kernel_rfl) (SF.out _ D8.out) (fun hHeld => ?_)
  generalize w8.drew = w9 at *
  refine wpAnyH_take (i := 0) (v := ?_) rfl (by kernel_rfl) (by kernel_rfl) (by kernel_rfl) (fun _ _ _ h => h) (Or.inl ⟨by rfl, ?_⟩) (by assumption) ?_
  rotate_left
  · (intro w hSw; (try dsimp only at hSw); first | (go_simp; done) | (go_simp; with_reducible rfl))
  simp only [Act.put, List.getElem_toArray, List.getElem_cons_zero, List.getElem_cons_succ, List.setIfInBounds_toArray, List.set_cons_zero, List.set_cons_succ]
  refine wpAnyH_take (i := 1) (v := ?_) rfl (by kernel_rfl) (by kernel_rfl) (by kernel_rfl) (fun _ _ _ h => h) (Or.inl ⟨by rfl, ?_⟩) (by assumption) ?_
  rotate_left
  · (intro w hSw; (try dsimp only at hSw); first | (go_simp; done) | (go_simp; with_reducible rfl))
  simp only [Act.put, List.getElem_toArray, List.getElem_cons_zero, List.getElem_cons_succ, List.setIfInBounds_toArray, List.set_cons_zero, List.set_cons_succ]
  refine wpAnyH_take (i := 2) (v := ?_) rfl (by kernel_rfl) (by kernel_rfl) (by kernel_rfl) (fun _ _ _ h => h) (Or.inl ⟨by rfl, ?_⟩) (by assumption) ?_
  rotate_left
  · (intro w hSw; (try dsimp only at hSw); first | (go_simp; done) | (go_simp; with_reducible rfl))
  simp only [Act.put, List.getElem_toArray, List.getElem_cons_zero, List.getElem_cons_succ, List.setIfInBounds_toArray, List.set_cons_zero, List.set_cons_succ]
  refine wpAnyH_take (i := 4) (v := ?_) rfl (by kernel_rfl) (by kernel_rfl) (by kernel_rfl) (fun _ _ _ h => h) (Or.inl ⟨by rfl, ?_⟩) (by assumption) ?_
  rotate_left
  · (intro w hSw; (try dsimp only at hSw); first | (go_simp; done) | (go_simp; with_reducible rfl))
  simp only [Act.put, List.getElem_toArray, List.getElem_cons_zero, List.getElem_cons_succ, List.setIfInBounds_toArray, List.set_cons_zero, List.set_cons_succ]
  refine wpAnyH_take (i := 5) (v := ?_) rfl (by kernel_rfl) (by kernel_rfl) (by kernel_rfl) (fun _ _ _ h => h) (Or.inl ⟨by rfl, ?_⟩) (by assumption) ?_
  rotate_left
  · (intro w hSw; (try dsimp only at hSw); first | (go_simp; done) | (go_simp; with_reducible rfl))
  simp only [Act.put, List.getElem_toArray, List.getElem_cons_zero, List.getElem_cons_succ, List.setIfInBounds_toArray, List.set_cons_zero, List.set_cons_succ]
  refine wpAnyH_ready (rs := [3]) (by kernel_rfl) (by simp) ?_
  refine AllReadyH.cons rfl (fun K hK => ?_) AllReadyH.nil
  go_simp
  go_wp2_with (go_at_call 23; refine (rset_any (some ⟨bT, offT, none⟩) ct T Ag cg G k1 0 w9 (OT7.out.below D8.out) (OG7.out.below D8.out) (by omega) (Nat.le_trans HC7.out D8.out.size)).mono ?_; rintro e w10 ⟨va, vb, rfl, oa, ob, hb4⟩)
  obtain ⟨A4, c4, rfl, -⟩ := oa.open_
  obtain ⟨C4, e4, rfl, -⟩ := ob.open_
  have D10 := Lib.hid (up D8.out hb4 D8.out.size)
  have OA := Lib.hid oa
  have OB := Lib.hid ob
  clear oa ob hb4
  refine hK.out _ _ (SF.out _ D10.out) (fun hHeld2 => ?_)
  clear hK K hHeld
  refine wpAnyH_take (i := 6) (v := ?_) rfl (by kernel_rfl) (by kernel_rfl) (by kernel_rfl) (fun _ _ _ h => h) (Or.inl ⟨by rfl, ?_⟩) (by assumption) ?_
  rotate_left
  · (intro w hSw; (try dsimp only at hSw); first | (go_simp; done) | (go_simp; with_reducible rfl))
  simp only [Act.put, List.getElem_toArray, List.getElem_cons_zero, List.getElem_cons_succ, List.setIfInBounds_toArray, List.set_cons_zero, List.set_cons_succ]
  refine wpAnyH_take (i := 7) (v := ?_) rfl (by kernel_rfl) (by kernel_rfl) (by kernel_rfl) (fun _ _ _ h => h) (Or.inl ⟨by rfl, ?_⟩) (by assumption) ?_
  rotate_left
  · (intro w hSw; (try dsimp only at hSw); first | (go_simp; done) | (go_simp; with_reducible rfl))
  simp only [Act.put, List.getElem_toArray, List.getElem_cons_zero, List.getElem_cons_succ, List.setIfInBounds_toArray, List.set_cons_zero, List.set_cons_succ]
  refine wpAnyH_take (i := 8) (v := ?_) rfl (by kernel_rfl) (by kernel_rfl) (by kernel_rfl) (fun _ _ _ h => h) (Or.inl ⟨by rfl, ?_⟩) (by assumption) ?_
  rotate_left
  · (intro w hSw; (try dsimp only at hSw); first | (go_simp; done) | (go_simp; with_reducible rfl))
  simp only [Act.put, List.getElem_toArray, List.getElem_cons_zero, List.getElem_cons_succ, List.setIfInBounds_toArray, List.set_cons_zero, List.set_cons_succ]
  refine wpAnyH_take (i := 9) (v := ?_) rfl (by kernel_rfl) (by kernel_rfl) (by kernel_rfl) (fun _ _ _ h => h) (Or.inl ⟨by rfl, ?_⟩) (by assumption) ?_
  rotate_left
  · (intro w hSw; (try dsimp only at hSw); first | (go_simp; done) | (go_simp; with_reducible rfl))
  simp only [Act.put, List.getElem_toArray, List.getElem_cons_zero, List.getElem_cons_succ, List.setIfInBounds_toArray, List.set_cons_zero, List.set_cons_succ]
  refine wpAnyH_take (i := 10) (v := ?_) rfl (by kernel_rfl) (by kernel_rfl) (by kernel_rfl) (fun _ _ _ h => h) (Or.inl ⟨by rfl, ?_⟩) (by assumption) ?_
  rotate_left
  · (intro w hSw; (try dsimp only at hSw); first | (go_simp; done) | (go_simp; with_reducible rfl))
  simp only [Act.put, List.getElem_toArray, List.getElem_cons_zero, List.getElem_cons_succ, List.setIfInBounds_toArray, List.set_cons_zero, List.set_cons_succ]
  refine wpAnyH_take (i := 11) (v := ?_) rfl (by kernel_rfl) (by kernel_rfl) (by kernel_rfl) (fun _ _ _ h => h) (Or.inl ⟨by rfl, ?_⟩) (by assumption) ?_
  rotate_left
  · (intro w hSw; (try dsimp only at hSw); first | (go_simp; done) | (go_simp; with_reducible rfl))
  simp only [Act.put, List.getElem_toArray, List.getElem_cons_zero, List.getElem_cons_succ, List.setIfInBounds_toArray, List.set_cons_zero, List.set_cons_succ]
  refine wpAnyH_take (i := 12) (v := ?_) rfl (by kernel_rfl) (by kernel_rfl) (by kernel_rfl) (fun _ _ _ h => h) (Or.inl ⟨by rfl, ?_⟩) (by assumption) ?_
  rotate_left
  · (intro w hSw; (try dsimp only at hSw); first | (go_simp; done) | (go_simp; with_reducible rfl))
  simp only [Act.put, List.getElem_toArray, List.getElem_cons_zero, List.getElem_cons_succ, List.setIfInBounds_toArray, List.set_cons_zero, List.set_cons_succ]
  refine wpAnyH_take (i := 13) (v := ?_) rfl (by kernel_rfl) (by kernel_rfl) (by kernel_rfl) (fun _ _ _ h => h) (Or.inl ⟨by rfl, ?_⟩) (by assumption) ?_
  rotate_left
  · (intro w hSw; (try dsimp only at hSw); first | (go_simp; done) | (go_simp; with_reducible rfl))
  simp only [Act.put, List.getElem_toArray, List.getElem_cons_zero, List.getElem_cons_succ, List.setIfInBounds_toArray, List.set_cons_zero, List.set_cons_succ]
  refine wpAnyH_take (i := 14) (v := ?_) rfl (by kernel_rfl) (by kernel_rfl) (by kernel_rfl) (fun _ _ _ h => h) (Or.inl ⟨by rfl, ?_⟩) (by assumption) ?_
  rotate_left
  · (intro w hSw; (try dsimp only at hSw); first | (go_simp; done) | (go_simp; with_reducible rfl))
  simp only [Act.put, List.getElem_toArray, List.getElem_cons_zero, List.getElem_cons_succ, List.setIfInBounds_toArray, List.set_cons_zero, List.set_cons_succ]
  refine wpAnyH_take (i := 15) (v := ?_) rfl (by kernel_rfl) (by kernel_rfl) (by kernel_rfl) (fun _ _ _ h => h) (Or.inl ⟨by rfl, ?_⟩) (by assumption) ?_
  rotate_left
  · (intro w hSw; (try dsimp only at hSw); first | (go_simp; done) | (go_simp; with_reducible rfl))
  simp only [Act.put, List.getElem_toArray, List.getElem_cons_zero, List.getElem_cons_succ, List.setIfInBounds_toArray, List.set_cons_zero, List.set_cons_succ]
  clear zj hjn
  have rz10 := RZ7.out.below D10.out RZ7.out.lt
  obtain ⟨hx8, x0, x1, oa8, ob8, b8, f0, f1, z0, z1, far8⟩ := fin4 (B := B) (HX7.out.below D10.out) (B7.out.step D10.out) rz10 HZ.out OA.out OB.out
  have NX := Lib.hid (show w.heap.size ≠ v2.heap.size from fun e => by
    have h1 := BX7.out
    have h2 := RZ7.out
    rw [← e] at h2
    unfold Blk at h1 h2
    rw [h1] at h2
    injection h2 with h2
    injection h2 with h2
    injection h2 with h2
    injection h2 with h2 _
    cases h2)
  have NO := Lib.hid (show v1.heap.size ≠ v2.heap.size from ne_of_ty BO7.out RZ7.out (by decide))
  have bT_blk := OT7.out.below D10.out
  have S8 := Lib.hid (show ((w10.setCell ⟨v2.heap.size, 0, none⟩ (.slice A4 (setL T k1 0).length c4)).setCell ⟨v2.heap.size, 1, none⟩ (.slice C4 G.length e4)).cell? ⟨w.heap.size, 0, none⟩ = some (.slice (some ⟨bT, offT, none⟩) T.length ct) ∧ ((w10.setCell ⟨v2.heap.size, 0, none⟩ (.slice A4 (setL T k1 0).length c4)).setCell ⟨v2.heap.size, 1, none⟩ (.slice C4 G.length e4)).cell? ⟨w.heap.size, 1, none⟩ = some (.slice Ag G.length cg) ∧ ((w10.setCell ⟨v2.heap.size, 0, none⟩ (.slice A4 (setL T k1 0).length c4)).setCell ⟨v2.heap.size, 1, none⟩ (.slice C4 G.length e4)).cell? ⟨v1.heap.size, 1, none⟩ = some (.int .i64 k1) ∧ ((w10.setCell ⟨v2.heap.size, 0, none⟩ (.slice A4 (setL T k1 0).length c4)).setCell ⟨v2.heap.size, 1, none⟩ (.slice C4 G.length e4)).cell? ⟨bT, offT + j * 2 + 1, none⟩ = some (.int .i64 u) from by
    have m1 := (far8 _ _ _ (BX7.out.below D10.out BX7.out.lt) NX.out)
    have m2 := (far8 _ _ _ (BO7.out.below D10.out BO7.out.lt) NO.out)
    have m3 : Own E2 ((w10.setCell ⟨v2.heap.size, 0, none⟩ (.slice A4 (setL T k1 0).length c4)).setCell ⟨v2.heap.size, 1, none⟩ (.slice C4 G.length e4)) C 71 (.slice (some ⟨bT, offT, none⟩) T.length ct) T := bT_blk.keep (fun k hk => by
      obtain ⟨_, _, cs, h1⟩ := bT_blk.lt' k hk
      have hne : k ≠ v2.heap.size := ne_of_ty h1 rz10 (by decide)
      exact (far8 _ _ _ h1 hne).trans h1.symm)
    have := (lay2c (layE m3) hj).2
    rw [HU.out] at this
    exact ⟨m1.cell 0, m1.cell 1, m2.cell 1, this⟩)
  have R8 := Lib.hid (And.intro hx8 (And.intro oa8 (And.intro ob8 b8)))
  clear hx8 oa8 ob8 b8 far8 rz10 bT_blk SF
  refine wpAnyH_ready (rs := [16]) (by kernel_rfl) (by simp) ?_
  refine AllReadyH.cons rfl (fun K hK => ?_) AllReadyH.nil
  go_simp
  refine hK.out _ _ S8.out (fun hHeld => ?_)
  clear hK K hHeld2
  refine wpAnyH_take (i := 17) (v := ?_) rfl (by kernel_rfl) (by kernel_rfl) (by kernel_rfl) (fun _ _ _ h => h) (Or.inl ⟨by rfl, ?_⟩) (by assumption) ?_
  rotate_left
  · (intro w hSw; (try dsimp only at hSw); first | (go_simp; done) | (go_simp; with_reducible rfl))
  simp only [Act.put, List.getElem_toArray, List.getElem_cons_zero, List.getElem_cons_succ, List.setIfInBounds_toArray, List.set_cons_zero, List.set_cons_succ]
  refine wpAnyH_done (by kernel_rfl) ?_ _
  clear hHeld f0 f1 z0 z1
  go_wp2_with fail
  refine bodyPost_ret (v := .tuple #[.agg #[.slice A4 (setL T k1 0).length c4, .slice C4 G.length e4], .bool true]) (by simp [results, Try.results9, go_sem, x0, x1]) rfl ⟨_, _, rfl, R8.out.1, R8.out.2.1, R8.out.2.2.1, R8.out.2.2.2⟩
end Go.Proofs.Ythnjacfpnbhfpaa.st
