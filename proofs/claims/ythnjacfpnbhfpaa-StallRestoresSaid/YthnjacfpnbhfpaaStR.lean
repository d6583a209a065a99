/-
  Contracts of the reference's stalls: Sell; of the law: goods.
-/
import Derived.Test.YthnjacfpnbhfpaaStQ
namespace Go.Proofs.Ythnjacfpnbhfpaa.st
open Go.RowKit
open base (ret_bool ret_int made up Blk Only)
open rk mk
set_option linter.unusedVariables false
set_option linter.unusedSimpArgs false
variable {B : Nat} {w w1 w2 w5 w' : World}
theorem drewB (w : World) : Below w.heap.size w w.drew := (Below.refl _ _).drew
set_option maxRecDepth 100000 in
set_option maxHeartbeats 8000000 in
theorem rsell_none (At : Option Addr) (ct : Nat) (T : List C2) (Ag : Option Addr) (cg : Nat) (G : List G3) (t : Int) (w : World) (oT : Own E2 w B 71 (.slice At T.length ct) T) (oG : Own E3 w B 69 (.slice Ag G.length cg) G) (hl : T.length ≤ 1000) (hg : G.length ≤ 1000) (hB : B ≤ w.heap.size) (q : fi (isG t) G = none) :
    Calls Try.prog 31 #[.agg #[.slice At T.length ct, .slice Ag G.length cg], .int .i64 t] w (NewS B w (T, G) 14) := by
  obtain ⟨w1, w2, hw1, hw2, BX, RZ, B2, hz⟩ := boxes w (.slice At T.length ct) (.slice Ag G.length cg)
  have OT := Lib.hid (oT.below (B2.mono (Nat.le_refl _)))
  have OG := Lib.hid (oG.below (B2.mono (Nat.le_refl _)))
  have HB := Lib.hid (Nat.le_trans hB B2.size)
  replace BX := Lib.hid BX
  replace RZ := Lib.hid RZ
  replace B2 := Lib.hid B2
  have HZ := Lib.hid hz
  have b0 := BX.out.cell 0
  have b1 := BX.out.cell 1
  clear oT oG hz hB
  have FI := Lib.hid (rfind_any Ag cg G At T.length ct t w2 (layE OG.out) (by omega))
  rw [q] at FI
  replace FI := Lib.hid (show Calls Try.prog _ _ w2 (fun e w' => e = .returned (.int .i64 (-1)) ∧ Below w2.heap.size w2 w') from FI.out)
  clear q
  go_enter Try.func31, Try.ntmps31
  go_wp2_with (first | rw [hw1] | rw [hw2])
  refine FI.out.mono ?_
  rintro e w3 ⟨rfl, hb3⟩
  have B3 := Lib.hid hb3
  clear hb3 b0 b1 hw1 hw2
  obtain ⟨x0, x1, o1, o2, b9, f0, f1, y0, y1⟩ := fin2 (up B2.out B3.out B2.out.size) (RZ.out.below B3.out RZ.out.lt) HZ.out (OT.out.below B3.out) (OG.out.below B3.out)
  have d0 := (BX.out.below B3.out BX.out.lt).cell 0
  have d1 := (BX.out.below B3.out BX.out.lt).cell 1
  have R9 := Lib.hid (And.intro o1 (And.intro o2 b9))
  clear o1 o2 b9
  go_wp2_with fail
  refine bodyPost_ret (v := .tuple #[.agg #[.slice At T.length ct, .slice Ag G.length cg], .int .i64 14]) (by simp [results, Try.results31, go_sem, x0, x1]) rfl ⟨_, _, rfl, R9.out.1, R9.out.2.1, R9.out.2.2⟩
def sellL (T : List C2) (G : List G3) (t h v : Int) : LS := (setL T h v, woG G t)
set_option maxRecDepth 100000 in
set_option maxHeartbeats 16000000 in
theorem rsell_some (At : Option Addr) (ct : Nat) (T : List C2) (Ag : Option Addr) (cg : Nat) (G : List G3) (t : Int) (w : World) (oT : Own E2 w B 71 (.slice At T.length ct) T) (oG : Own E3 w B 69 (.slice Ag G.length cg) G) (hl : T.length ≤ 1000) (hg : G.length ≤ 1000) (hB : B ≤ w.heap.size) (hr : Rising kG G) (i j : Nat) (q : fi (isG t) G = some i) (d0 d1 d2 : Int) (hi : i < G.length) (hd : G[i] = (d0, d1, d2)) (q2 : fi (isT d0) T = some j) (hj : j < T.length) (u : Int) (hu : T[j].2 = u) (u0 : 0 ≤ u) (u1 : u ≤ 1099511627776) (p0 : 1 ≤ d2) (p1 : d2 ≤ 1099511627776) :
    Calls Try.prog 31 #[.agg #[.slice At T.length ct, .slice Ag G.length cg], .int .i64 t] w (fun e w' => (1099511627776 < u + d2 → NewS B w (T, G) 15 e w') ∧ (u + d2 ≤ 1099511627776 → NewS B w (sellL T G t d0 (u + d2)) 0 e w')) := by
  obtain ⟨w1, w2, hw1, hw2, BX, RZ, B2, hz⟩ := boxes w (.slice At T.length ct) (.slice Ag G.length cg)
  have OT := Lib.hid (oT.below (B2.mono (Nat.le_refl _)))
  have OG := Lib.hid (oG.below (B2.mono (Nat.le_refl _)))
  have HB := Lib.hid (Nat.le_trans hB B2.size)
  replace BX := Lib.hid BX
  replace RZ := Lib.hid RZ
  replace B2 := Lib.hid B2
  have HZ := Lib.hid hz
  have b0 := BX.out.cell 0
  have b1 := BX.out.cell 1
  clear oT oG hz hB
  have FI := Lib.hid (rfind_any Ag cg G At T.length ct t w2 (layE OG.out) (by omega))
  have FH := Lib.hid (fun W (h : Below w2.heap.size w2 W) => rhas_any At ct T Ag G.length cg d0 W ((layE OT.out).below h) (by omega))
  have TE := Lib.hid (show rtakeE G t = 0 by unfold rtakeE; rw [q]; rfl)
  have TL := Lib.hid (show rtakeL T G t = (T, woG G t) by unfold rtakeL; rw [q]; rfl)
  rw [q] at FI
  replace FI := Lib.hid (show Calls Try.prog _ _ w2 (fun e w' => e = .returned (.int .i64 (i : Int)) ∧ Below w2.heap.size w2 w') from FI.out)
  replace FH := Lib.hid (fun W (h : Below w2.heap.size w2 W) => show Calls Try.prog _ _ W (fun e w' => e = .returned (.int .i64 (j : Int)) ∧ Below W.heap.size W w') from by have := FH.out W h; rw [q2] at this; exact this)
  have RR := Lib.hid hr
  have HU := Lib.hid hu
  have HD := Lib.hid hd
  have hi1000 : i < 1000 := by omega
  have hj1000 : j < 1000 := by omega
  have iz : decide ((i : Int) < 0) = false := decide_eq_false (by omega)
  clear q q2 hr hu hd
  go_enter Try.func31, Try.ntmps31
  go_wp2_with (first | rw [hw1] | rw [hw2])
  refine FI.out.mono ?_
  rintro e w3 ⟨rfl, hb3⟩
  have B3 := Lib.hid hb3
  obtain ⟨bb, off, eA, -⟩ := lay3 ((layE OG.out).below hb3) hi
  obtain ⟨bT, offT, eT, -⟩ := lay2 ((layE OT.out).below hb3) hj
  subst eA eT
  have E3_ := (lay3c ((layE OG.out).below hb3) hi)
  rw [HD.out] at E3_
  obtain ⟨e0, e1, e2⟩ := E3_
  dsimp only at e0 e1 e2
  have d1c := (BX.out.below hb3 BX.out.lt).cell 1
  have hm := made w3 (.cells #[.int .i64 d0, .int .i64 d1, .int .i64 d2] 69)
  have B4 := Lib.hid (up hb3 hm hb3.size)
  have BG := Lib.hid (Blk.new w3 69 #[.int .i64 d0, .int .i64 d1, .int .i64 d2])
  clear hb3 b0 b1 hw1 hw2 hm
  go_upto_region 5 with fail
  generalize w3.alloc (.cells #[.int .i64 d0, .int .i64 d1, .int .i64 d2] 69) = w4 at *
  generalize w3.heap.size = gg at *
  clear e0 e1 e2 d1c iz
  have SF := Lib.hid (fun W (h : Below w2.heap.size w2 W) (hg : Blk W gg 69 #[.int .i64 d0, .int .i64 d1, .int .i64 d2]) => show W.cell? ⟨w.heap.size, 0, none⟩ = some (.slice (some ⟨bT, offT, none⟩) T.length ct) ∧ W.cell? ⟨w.heap.size, 1, none⟩ = some (.slice (some ⟨bb, off, none⟩) G.length cg) ∧ W.cell? ⟨gg, 0, none⟩ = some (.int .i64 d0) ∧ W.cell? ⟨bT, offT + j * 2 + 1, none⟩ = some (.int .i64 u) from ⟨(BX.out.below h BX.out.lt).cell 0, (BX.out.below h BX.out.lt).cell 1, hg.cell 0, by have := (lay2c ((layE OT.out).below h) hj).2; rw [HU.out] at this; exact this⟩)
  have D4 := Lib.hid (drewB w4)
  have B5 := Lib.hid (up B4.out (drewB w4) B4.out.size)
  have BG5 := Lib.hid (BG.out.below (drewB w4) BG.out.lt)
  refine wp_region_held_drew (S := fun W => W.cell? ⟨w.heap.size, 0, none⟩ = some (.slice (some ⟨bT, offT, none⟩) T.length ct) ∧ W.cell? ⟨w.heap.size, 1, none⟩ = some (.slice (some ⟨bb, off, none⟩) G.length cg) ∧ W.cell? ⟨gg, 0, none⟩ = some (.int .i64 d0) ∧ W.cell? ⟨bT, offT + j * 2 + 1, none⟩ = some (.int .i64 u)) (by kernel_rfl) (SF.out _ B5.out BG5.out) (fun hHeld => ?_)
  generalize w4.drew = w5 at *
  refine wpAnyH_take (i := 0) (v := ?_) rfl (by kernel_rfl) (by kernel_rfl) (by kernel_rfl) (fun _ _ _ h => h) (Or.inl ⟨by rfl, ?_⟩) (by assumption) ?_
  rotate_left
  · (intro w hSw; (try dsimp only at hSw); first | (go_simp; done) | (go_simp; with_reducible rfl))
  simp only [Act.put, List.getElem_toArray, List.getElem_cons_zero, List.getElem_cons_succ, List.setIfInBounds_toArray, List.set_cons_zero, List.set_cons_succ]
  refine wpAnyH_take (i := 1) (v := ?_) rfl (by kernel_rfl) (by kernel_rfl) (by kernel_rfl) (fun _ _ _ h => h) (Or.inl ⟨by rfl, ?_⟩) (by assumption) ?_
  rotate_left
  · (intro w hSw; (try dsimp only at hSw); first | (go_simp; done) | (go_simp; with_reducible rfl))
  simp only [Act.put, List.getElem_toArray, List.getElem_cons_zero, List.getElem_cons_succ, List.setIfInBounds_toArray, List.set_cons_zero, List.set_cons_succ]
  refine wpAnyH_take (i := 2) (v := ?_) rfl (by kernel_rfl) (by kernel_rfl) (by kernel_rfl) (fun _ _ _ h => h) (Or.inl ⟨by rfl, ?_⟩) (by assumption) ?_
  rotate_left
  · (intro w hSw; (try dsimp only at hSw); first | (go_simp; done) | (go_simp; with_reducible rfl))
  simp only [Act.put, List.getElem_toArray, List.getElem_cons_zero, List.getElem_cons_succ, List.setIfInBounds_toArray, List.set_cons_zero, List.set_cons_succ]
  refine wpAnyH_take (i := 3) (v := ?_) rfl (by kernel_rfl) (by kernel_rfl) (by kernel_rfl) (fun _ _ _ h => h) (Or.inl ⟨by rfl, ?_⟩) (by assumption) ?_
  rotate_left
  · (intro w hSw; (try dsimp only at hSw); first | (go_simp; done) | (go_simp; with_reducible rfl))
  simp only [Act.put, List.getElem_toArray, List.getElem_cons_zero, List.getElem_cons_succ, List.setIfInBounds_toArray, List.set_cons_zero, List.set_cons_succ]
  refine wpAnyH_take (i := 4) (v := ?_) rfl (by kernel_rfl) (by kernel_rfl) (by kernel_rfl) (fun _ _ _ h => h) (Or.inl ⟨by rfl, ?_⟩) (by assumption) ?_
  rotate_left
  · (intro w hSw; (try dsimp only at hSw); first | (go_simp; done) | (go_simp; with_reducible rfl))
  simp only [Act.put, List.getElem_toArray, List.getElem_cons_zero, List.getElem_cons_succ, List.setIfInBounds_toArray, List.set_cons_zero, List.set_cons_succ]
  refine wpAnyH_ready (rs := [5]) (by kernel_rfl) (by simp) ?_
  refine AllReadyH.cons rfl (fun K hK => ?_) AllReadyH.nil
  go_simp
  go_wp2_with (go_at_call 14; refine (FH.out _ B5.out).mono ?_; rintro e w6 ⟨rfl, hb6⟩)
  have B6 := Lib.hid (up B5.out hb6 B5.out.size)
  have BG6 := Lib.hid (BG5.out.below hb6 BG5.out.lt)
  clear hb6
  refine hK.out _ _ (SF.out _ B6.out BG6.out) (fun hHeld2 => ?_)
  clear hK K hHeld
  have hjn : (j : Int) < (T.length : Int) := by omega
  refine wpAnyH_take (i := 6) (v := ?_) rfl (by kernel_rfl) (by kernel_rfl) (by kernel_rfl) (fun _ _ _ h => h) (Or.inl ⟨by rfl, ?_⟩) (by assumption) ?_
  rotate_left
  · (intro w hSw; (try dsimp only at hSw); first | (go_simp; done) | (go_simp; with_reducible rfl))
  simp only [Act.put, List.getElem_toArray, List.getElem_cons_zero, List.getElem_cons_succ, List.setIfInBounds_toArray, List.set_cons_zero, List.set_cons_succ]
  refine wpAnyH_take (i := 7) (v := ?_) rfl (by kernel_rfl) (by kernel_rfl) (by kernel_rfl) (fun _ _ _ h => h) (Or.inl ⟨by rfl, ?_⟩) (by assumption) ?_
  rotate_left
  · (intro w hSw; (try dsimp only at hSw); first | (go_simp; done) | (go_simp; with_reducible rfl))
  simp only [Act.put, List.getElem_toArray, List.getElem_cons_zero, List.getElem_cons_succ, List.setIfInBounds_toArray, List.set_cons_zero, List.set_cons_succ]
  refine wpAnyH_take (i := 8) (v := ?_) rfl (by kernel_rfl) (by kernel_rfl) (by kernel_rfl) (fun _ _ _ h => h) (Or.inl ⟨by rfl, ?_⟩) (by assumption) ?_
  rotate_left
  · (intro w hSw; (try dsimp only at hSw); first | (go_simp; done) | (go_simp; with_reducible rfl))
  simp only [Act.put, List.getElem_toArray, List.getElem_cons_zero, List.getElem_cons_succ, List.setIfInBounds_toArray, List.set_cons_zero, List.set_cons_succ]
  refine wpAnyH_take (i := 9) (v := ?_) rfl (by kernel_rfl) (by kernel_rfl) (by kernel_rfl) (fun _ _ _ h => h) (Or.inl ⟨by rfl, ?_⟩) (by assumption) ?_
  rotate_left
  · (intro w hSw; (try dsimp only at hSw); first | (go_simp; done) | (go_simp; with_reducible rfl))
  simp only [Act.put, List.getElem_toArray, List.getElem_cons_zero, List.getElem_cons_succ, List.setIfInBounds_toArray, List.set_cons_zero, List.set_cons_succ]
  refine wpAnyH_done (by kernel_rfl) ?_ _
  clear hHeld2 SF hjn B5 BG5 B4 BG B3 FI FH
  have g0 := BG6.out.cell 0
  have g2 := BG6.out.cell 2
  have wr : IntKind.i64.wrap (1099511627776 - d2) = 1099511627776 - d2 := IntWalk.i64_in _ (by omega)
  by_cases ho : 1099511627776 < u + d2
  · have z1 : decide (u > 1099511627776 - d2) = true := decide_eq_true (by omega)
    have z2 : decide (1099511627776 - d2 < u) = true := decide_eq_true (by omega)
    obtain ⟨x0, x1, o1, o2, b9, f0, f1, y0, y1⟩ := fin2 (up B2.out B6.out B2.out.size) (RZ.out.below B6.out RZ.out.lt) HZ.out (OT.out.below B6.out) (OG.out.below B6.out)
    have c0 := (BX.out.below B6.out BX.out.lt).cell 0
    have c1 := (BX.out.below B6.out BX.out.lt).cell 1
    have R9 := Lib.hid (And.intro o1 (And.intro o2 b9))
    have HO := Lib.hid ho
    clear o1 o2 b9 ho
    go_wp2_with fail
    refine bodyPost_ret (v := .tuple #[.agg #[.slice (some ⟨bT, offT, none⟩) T.length ct, .slice (some ⟨bb, off, none⟩) G.length cg], .int .i64 15]) (by simp [results, Try.results31, go_sem, x0, x1]) rfl ⟨fun _ => ⟨_, _, rfl, R9.out.1, R9.out.2.1, R9.out.2.2⟩, fun h => absurd HO.out (by omega)⟩
  · have z1 : decide (u > 1099511627776 - d2) = false := decide_eq_false (by omega)
    have z2 : decide (1099511627776 - d2 < u) = false := decide_eq_false (by omega)
    have HO := Lib.hid ho
    have hsum : -9223372036854775808 ≤ u + d2 ∧ u + d2 ≤ 9223372036854775807 := by omega
    clear ho
    have c0 := (BX.out.below B6.out BX.out.lt).cell 0
    have c1 := (BX.out.below B6.out BX.out.lt).cell 1
    have TK := rtake_any (some ⟨bT, offT, none⟩) ct T (some ⟨bb, off, none⟩) cg G t w6 (OT.out.below B6.out) (OG.out.below B6.out) hl hg (Nat.le_trans HB.out B6.out.size) RR.out
    rw [TE.out, TL.out] at TK
    have TK := Lib.hid TK
    go_wp2_with fail
    refine TK.out.mono ?_
    rintro e w7 ⟨va, vb, rfl, oa, ob, hb7⟩
    obtain ⟨A7, c7, rfl, -⟩ := oa.open_
    obtain ⟨C7, e7, rfl, -⟩ := ob.open_
    have B7 := Lib.hid (up B6.out hb7 B6.out.size)
    obtain ⟨x0, x1, o1, o2, b9, f0, f1, y0, y1⟩ := fin2 (up B2.out B7.out B2.out.size) (BX.out.below B7.out BX.out.lt) (Nat.le_refl _) oa ob
    have hne : w1.heap.size ≠ w.heap.size := fun e => by
      have h1 := BX.out
      have h2 := RZ.out
      rw [e] at h2
      unfold Blk at h1 h2
      rw [h1] at h2
      injection h2 with h2
      injection h2 with h2
      injection h2 with h2
      injection h2 with h2 _
      cases h2
    have rz8 : Blk ((w7.setCell ⟨w.heap.size, 0, none⟩ (.slice A7 T.length c7)).setCell ⟨w.heap.size, 1, none⟩ (.slice C7 (woG G t).length e7)) w1.heap.size 29 #[.slice none 0 0, .slice none 0 0] := ((RZ.out.below B7.out RZ.out.lt).far (p := ⟨w.heap.size, 0, none⟩) hne _).far (p := ⟨w.heap.size, 1, none⟩) hne _
    have bg8 : Blk ((w7.setCell ⟨w.heap.size, 0, none⟩ (.slice A7 T.length c7)).setCell ⟨w.heap.size, 1, none⟩ (.slice C7 (woG G t).length e7)) gg 69 #[.int .i64 d0, .int .i64 d1, .int .i64 d2] := by
      have h1 := BG6.out.below hb7 BG6.out.lt
      have hgn : gg ≠ w.heap.size := ne_of_ty h1 (BX.out.below B7.out BX.out.lt) (by decide)
      exact (h1.far (p := ⟨w.heap.size, 0, none⟩) hgn _).far (p := ⟨w.heap.size, 1, none⟩) hgn _
    have ST := rset_any A7 c7 T C7 e7 (woG G t) d0 (u + d2) ((w7.setCell ⟨w.heap.size, 0, none⟩ (.slice A7 T.length c7)).setCell ⟨w.heap.size, 1, none⟩ (.slice C7 (woG G t).length e7)) o1 o2 (by omega) (Nat.le_trans (Nat.le_trans HB.out B7.out.size) (by simp [World.setCell]))
    have ST := Lib.hid ST
    have R8 := Lib.hid (And.intro b9 (And.intro rz8 bg8))
    clear oa ob hb7 o1 o2 b9 rz8 bg8 TK c0 c1 g0 g2 z1 z2 wr
    go_upto_region 9 with fail
    clear f0 f1 y0 y1
    generalize ((w7.setCell ⟨w.heap.size, 0, none⟩ (.slice A7 T.length c7)).setCell ⟨w.heap.size, 1, none⟩ (.slice C7 (woG G t).length e7)) = w8 at *
    have g0 := R8.out.2.2.cell 0
    have g2 := R8.out.2.2.cell 2
    have wr : IntKind.i64.wrap (u + d2) = u + d2 := IntWalk.i64_in _ hsum
    go_wp2_with fail
    refine ST.out.mono ?_
    rintro e w9 ⟨va, vb, rfl, oa, ob, hb9⟩
    obtain ⟨A9, c9, rfl, -⟩ := oa.open_
    obtain ⟨C9, e9, rfl, -⟩ := ob.open_
    obtain ⟨x0, x1, o1, o2, b9, f0, f1, y0, y1⟩ := fin2 (up R8.out.1 hb9 R8.out.1.size) (R8.out.2.1.below hb9 R8.out.2.1.lt) HZ.out oa ob
    have R9 := Lib.hid (And.intro o1 (And.intro o2 b9))
    clear o1 o2 b9 oa ob hb9 g0 g2
    go_wp2_with fail
    refine bodyPost_ret (v := .tuple #[.agg #[.slice A9 (setL T d0 (u + d2)).length c9, .slice C9 (woG G t).length e9], .int .i64 0]) (by simp [results, Try.results31, go_sem, x0, x1]) rfl ⟨fun h => absurd h (by have := HO.out; omega), fun _ => ⟨_, _, rfl, R9.out.1, R9.out.2.1, R9.out.2.2⟩⟩
end Go.Proofs.Ythnjacfpnbhfpaa.st
