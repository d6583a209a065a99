/-
  Stalls: do both tell the same?
-/
import Derived.Test.YthnjacfpnbhfpaaStT
namespace Go.Proofs.Ythnjacfpnbhfpaa.st
open Go.RowKit
open base (ret_bool ret_int made up Blk Only)
open rk mk
set_option linter.unusedVariables false
set_option linter.unusedSimpArgs false
variable {B C g bs bw : Nat} {w w1 w2 w' : World} {s : S3} {tot : Int} {nT nG m : Nat} {P M : Int → Nat} {T : List C2} {G : List G3}

theorem sum_take (T : List C2) {k : Nat} (hk : k < T.length) : sumT (T.take (k + 1)) = sumT (T.take k) + T[k].2 := by
  rw [List.take_succ_eq_append_getElem hk]
  simp only [sumT, List.map_append, List.sum_append, List.map_cons, List.map_nil, List.sum_cons, List.sum_nil]
  omega
theorem sum_bd (h : Gd s) (R : Rel s (T, G)) : ∀ k, k ≤ T.length → 0 ≤ sumT (T.take k) ∧ sumT (T.take k) ≤ 1099511627776 * k
  | 0, _ => by simp [sumT]
  | k + 1, hk => by
    have ih := sum_bd h R k (by omega)
    have hkl : k < T.length := by omega
    rw [sum_take T hkl]
    have := h.till T[k].1 T[k].2 ((R.t _ _).2 (List.getElem_mem hkl))
    omega
set_option maxRecDepth 100000 in
set_option maxHeartbeats 16000000 in
theorem same_any (At : Option Addr) (ct : Nat) (Ag : Option Addr) (cg : Nat) (H : SX w B g bs bw s tot m) (R : Rel s (T, G)) (hm : m ≤ 1000) (ht : tot = sumT T) (hl : T.length ≤ 1000) (hg : G.length ≤ 1000) (oT : Own E2 w C 71 (.slice At T.length ct) T) (oG : Own E3 w C 69 (.slice Ag G.length cg) G) :
    Calls Try.prog 10 #[.pointer (some ⟨g, 0, none⟩), .agg #[.slice At T.length ct, .slice Ag G.length cg]] w fun e w' => e = .returned (.bool true) ∧ Below w.heap.size w w' := by
  obtain ⟨nT, nG, P, M, h1, hnT, hnG⟩ := H
  have hm1 := made w (.cells #[.slice At T.length ct, .slice Ag G.length cg] 29)
  have BX := Lib.hid (Blk.new w 29 #[.slice At T.length ct, .slice Ag G.length cg])
  have HH := Lib.hid (h1.below hm1)
  have LT := Lib.hid (layE (oT.below hm1))
  have LG := Lib.hid (layE (oG.below hm1))
  have B1 := Lib.hid hm1
  have RR := Lib.hid R
  have GD := Lib.hid h1.gd
  have HT := Lib.hid ht
  clear hm1 h1 R oT oG ht
  generalize hw1 : w.alloc (.cells #[.slice At T.length ct, .slice Ag G.length cg] 29) = w1 at *
  have RO := Lib.hid (rows_any HH.out RR.out (by omega) hl)
  go_enter Try.func10, Try.ntmps10
  go_wp2_with (rw [hw1])
  refine RO.out.mono ?_
  rintro e w2 ⟨v2, RL, rfl, hR, ho, htold, hb⟩
  obtain ⟨A2, c2, rfl, hl2, -, -⟩ := ho.open_
  have L2 := Lib.hid hl2
  have T2 := Lib.hid htold
  have B2 := Lib.hid hb
  have RLN := Lib.hid hR
  have z1 : RL.length ≤ T.length := by omega
  have z2 : T.length ≤ RL.length := by omega
  have z3 : ((RL.length : Int) != (T.length : Int)) = false := by simp; omega
  have c0 := (BX.out.below hb BX.out.lt).cell 0
  clear ho htold hb hl2 RO hw1 hR
  go_wp2_with fail
  clear z3 c0
  go_loopw [6, 26] (fun t i wr => ∃ (k : Nat) (W : World), W = wr ∧ k ≤ T.length ∧ i = .int .i64 k ∧ t = .int .i64 (sumT (T.take k)) ∧ Below w2.heap.size w2 wr) (fun _ i _ => T.length - (intOf i).toNat)
  case atStart => exact ⟨0, _, rfl, by omega, rfl, rfl, Below.refl _ _⟩
  case round =>
  obtain ⟨k, w3, rfl, hk, rfl, rfl, hb⟩ := hrel
  have B3 := Lib.hid hb
  by_cases hkl : k < T.length
  · have hkr : k < RL.length := by omega
    obtain ⟨bb, off, rfl, e0, e1, e2⟩ := layR (L2.out.below hb) hkr
    obtain ⟨t0, t1, t2, t3⟩ := T2.out k hkr hkl
    have hTs := (RR.out.t T[k].1 T[k].2).2 (List.getElem_mem hkl)
    have HTS := Lib.hid hTs
    obtain ⟨bT, offT, eT, -⟩ := lay2 (LT.out.below (up B2.out hb B2.out.size)) hkl
    subst eT
    have CT := Lib.hid (fun W (h : Below w1.heap.size w1 W) => lay2c (LT.out.below h) hkl)
    have SK := Lib.hid (sum_take T hkl)
    have SB := sum_bd GD.out RR.out k hk
    have SB2 := GD.out.till _ _ hTs
    have GO3 := Lib.hid (t3.below hb)
    rw [t0] at e0
    rw [t1] at e1
    rw [t2] at e2 GO3
    clear t0 t1 t2 t3 hTs
    generalize RL[k].2.2.1 = Ar at *
    generalize RL[k].2.2.2.2 = cr at *
    generalize T[k] = d at *
    obtain ⟨n, u⟩ := d
    dsimp only at *
    generalize hsum : sumT (T.take k) = ss at *
    clear hsum
    have hm := made w3 (.cells #[.int .i64 n, .int .i64 u, .slice Ar (ofL G n).length cr] 47)
    have B4 := Lib.hid (up B3.out hm B3.out.size)
    have BR := Lib.hid (Blk.new w3 47 #[.int .i64 n, .int .i64 u, .slice Ar (ofL G n).length cr])
    have GO4 := Lib.hid (GO3.out.below hm)
    have OLEN := Lib.hid (show (ofL G n).length ≤ 1000 from Nat.le_trans (of_len G n) hg)
    clear hm hb GO3
    go_upto_region 8 with fail
    generalize w3.alloc (.cells #[.int .i64 n, .int .i64 u, .slice Ar (ofL G n).length cr] 47) = w4 at *
    generalize w3.heap.size = gr at *
    clear e0 e1 e2
    have D4 := Lib.hid (up B2.out B4.out B2.out.size)
    have r0 := BR.out.cell 0
    have TI := till_any n (HH.out.below D4.out) (GD.out.wfT HTS.out)
    rw [HTS.out] at TI
    have TI := Lib.hid (show Calls Try.prog _ _ w4 (fun e w' => e = .returned (.tuple #[.int .i64 u, .int .i64 0]) ∧ w4 = w') from TI)
    go_wp2_with fail
    refine TI.out.mono ?_
    rintro e w5 ⟨rfl, rfl⟩
    clear TI r0
    have D5 := Lib.hid (up D4.out (drewB w4) D4.out.size)
    have B5 := Lib.hid (up B4.out (drewB w4) B4.out.size)
    have BR5 := Lib.hid (BR.out.below (drewB w4) BR.out.lt)
    have GO5 := Lib.hid (GO4.out.below (drewB w4))
    have SF := Lib.hid (fun W (h : Below w1.heap.size w1 W) (hr : Blk W gr 47 #[.int .i64 n, .int .i64 u, .slice Ar (ofL G n).length cr]) => show W.cell? ⟨gr, 0, none⟩ = some (.int .i64 n) ∧ W.cell? ⟨gr, 1, none⟩ = some (.int .i64 u) ∧ W.cell? ⟨gr, 2, none⟩ = some (.slice Ar (ofL G n).length cr) ∧ W.cell? ⟨w.heap.size, 0, none⟩ = some (.slice (some ⟨bT, offT, none⟩) T.length ct) ∧ W.cell? ⟨w.heap.size, 1, none⟩ = some (.slice Ag G.length cg) ∧ W.cell? ⟨bT, offT + k * 2, none⟩ = some (.int .i64 n) ∧ W.cell? ⟨bT, offT + k * 2 + 1, none⟩ = some (.int .i64 u) from ⟨hr.cell 0, hr.cell 1, hr.cell 2, (BX.out.below h BX.out.lt).cell 0, (BX.out.below h BX.out.lt).cell 1, (CT.out W h).1, (CT.out W h).2⟩)
    have HS := has_any n (HH.out.below D5.out) (GD.out.wfT HTS.out)
    rw [HTS.out] at HS
    have HS := Lib.hid (show Calls Try.prog _ _ w4.drew (fun e w' => e = .returned (.bool true) ∧ w4.drew = w') from HS)
    go_upto_region 9 with fail
    refine wp_region_held_drew (S := fun W => W.cell? ⟨gr, 0, none⟩ = some (.int .i64 n) ∧ W.cell? ⟨gr, 1, none⟩ = some (.int .i64 u) ∧ W.cell? ⟨gr, 2, none⟩ = some (.slice Ar (ofL G n).length cr) ∧ W.cell? ⟨w.heap.size, 0, none⟩ = some (.slice (some ⟨bT, offT, none⟩) T.length ct) ∧ W.cell? ⟨w.heap.size, 1, none⟩ = some (.slice Ag G.length cg) ∧ W.cell? ⟨bT, offT + k * 2, none⟩ = some (.int .i64 n) ∧ W.cell? ⟨bT, offT + k * 2 + 1, none⟩ = some (.int .i64 u)) (by kernel_rfl) (SF.out _ D5.out BR5.out) (fun hHeld => ?_)
    clear D4 B4 GO4
    generalize w4.drew = w5 at *
    refine wpAnyH_take (i := 0) (v := ?_) rfl (by kernel_rfl) (by kernel_rfl) (by kernel_rfl) (fun _ _ _ h => h) (Or.inl ⟨by rfl, ?_⟩) (by assumption) ?_
    rotate_left
    · (intro w hSw; (try dsimp only at hSw); first | (go_simp; done) | (go_simp; with_reducible rfl))
    simp only [Act.put, List.getElem_toArray, List.getElem_cons_zero, List.getElem_cons_succ, List.setIfInBounds_toArray, List.set_cons_zero, List.set_cons_succ]
    refine wpAnyH_take (i := 1) (v := ?_) rfl (by kernel_rfl) (by kernel_rfl) (by kernel_rfl) (fun _ _ _ h => h) (Or.inl ⟨by rfl, ?_⟩) (by assumption) ?_
    rotate_left
    · (intro w hSw; (try dsimp only at hSw); first | (go_simp; done) | (go_simp; with_reducible rfl))
    simp only [Act.put, List.getElem_toArray, List.getElem_cons_zero, List.getElem_cons_succ, List.setIfInBounds_toArray, List.set_cons_zero, List.set_cons_succ]
    refine wpAnyH_take (i := 2) (v := ?_) rfl (by kernel_rfl) (by kernel_rfl) (by kernel_rfl) (fun _ _ _ h => h) (Or.inl ⟨by rfl, ?_⟩) (by assumption) ?_
    rotate_left
    · (intro w hSw; (try dsimp only at hSw); first | (go_simp; done) | (go_simp; with_reducible rfl))
    simp only [Act.put, List.getElem_toArray, List.getElem_cons_zero, List.getElem_cons_succ, List.setIfInBounds_toArray, List.set_cons_zero, List.set_cons_succ]
    refine wpAnyH_take (i := 3) (v := ?_) rfl (by kernel_rfl) (by kernel_rfl) (by kernel_rfl) (fun _ _ _ h => h) (Or.inl ⟨by rfl, ?_⟩) (by assumption) ?_
    rotate_left
    · (intro w hSw; (try dsimp only at hSw); first | (go_simp; done) | (go_simp; with_reducible rfl))
    simp only [Act.put, List.getElem_toArray, List.getElem_cons_zero, List.getElem_cons_succ, List.setIfInBounds_toArray, List.set_cons_zero, List.set_cons_succ]
    refine wpAnyH_take (i := 4) (v := ?_) rfl (by kernel_rfl) (by kernel_rfl) (by kernel_rfl) (fun _ _ _ h => h) (Or.inl ⟨by rfl, ?_⟩) (by assumption) ?_
    rotate_left
    · (intro w hSw; (try dsimp only at hSw); first | (go_simp; done) | (go_simp; with_reducible rfl))
    simp only [Act.put, List.getElem_toArray, List.getElem_cons_zero, List.getElem_cons_succ, List.setIfInBounds_toArray, List.set_cons_zero, List.set_cons_succ]
    refine wpAnyH_take (i := 5) (v := ?_) rfl (by kernel_rfl) (by kernel_rfl) (by kernel_rfl) (fun _ _ _ h => h) (Or.inl ⟨by rfl, ?_⟩) (by assumption) ?_
    rotate_left
    · (intro w hSw; (try dsimp only at hSw); first | (go_simp; done) | (go_simp; with_reducible rfl))
    simp only [Act.put, List.getElem_toArray, List.getElem_cons_zero, List.getElem_cons_succ, List.setIfInBounds_toArray, List.set_cons_zero, List.set_cons_succ]
    refine wpAnyH_take (i := 6) (v := ?_) rfl (by kernel_rfl) (by kernel_rfl) (by kernel_rfl) (fun _ _ _ h => h) (Or.inl ⟨by rfl, ?_⟩) (by assumption) ?_
    rotate_left
    · (intro w hSw; (try dsimp only at hSw); first | (go_simp; done) | (go_simp; with_reducible rfl))
    simp only [Act.put, List.getElem_toArray, List.getElem_cons_zero, List.getElem_cons_succ, List.setIfInBounds_toArray, List.set_cons_zero, List.set_cons_succ]
    refine wpAnyH_take (i := 7) (v := ?_) rfl (by kernel_rfl) (by kernel_rfl) (by kernel_rfl) (fun _ _ _ h => h) (Or.inl ⟨by rfl, ?_⟩) (by assumption) ?_
    rotate_left
    · (intro w hSw; (try dsimp only at hSw); first | (go_simp; done) | (go_simp; with_reducible rfl))
    simp only [Act.put, List.getElem_toArray, List.getElem_cons_zero, List.getElem_cons_succ, List.setIfInBounds_toArray, List.set_cons_zero, List.set_cons_succ]
    refine wpAnyH_take (i := 8) (v := ?_) rfl (by kernel_rfl) (by kernel_rfl) (by kernel_rfl) (fun _ _ _ h => h) (Or.inl ⟨by rfl, ?_⟩) (by assumption) ?_
    rotate_left
    · (intro w hSw; (try dsimp only at hSw); first | (go_simp; done) | (go_simp; with_reducible rfl))
    simp only [Act.put, List.getElem_toArray, List.getElem_cons_zero, List.getElem_cons_succ, List.setIfInBounds_toArray, List.set_cons_zero, List.set_cons_succ]
    refine wpAnyH_take (i := 9) (v := ?_) rfl (by kernel_rfl) (by kernel_rfl) (by kernel_rfl) (fun _ _ _ h => h) (Or.inl ⟨by rfl, ?_⟩) (by assumption) ?_
    rotate_left
    · (intro w hSw; (try dsimp only at hSw); first | (go_simp; done) | (go_simp; with_reducible rfl))
    simp only [Act.put, List.getElem_toArray, List.getElem_cons_zero, List.getElem_cons_succ, List.setIfInBounds_toArray, List.set_cons_zero, List.set_cons_succ]
    refine wpAnyH_take (i := 10) (v := ?_) rfl (by kernel_rfl) (by kernel_rfl) (by kernel_rfl) (fun _ _ _ h => h) (Or.inl ⟨by rfl, ?_⟩) (by assumption) ?_
    rotate_left
    · (intro w hSw; (try dsimp only at hSw); first | (go_simp; done) | (go_simp; with_reducible rfl))
    simp only [Act.put, List.getElem_toArray, List.getElem_cons_zero, List.getElem_cons_succ, List.setIfInBounds_toArray, List.set_cons_zero, List.set_cons_succ]
    refine wpAnyH_take (i := 11) (v := ?_) rfl (by kernel_rfl) (by kernel_rfl) (by kernel_rfl) (fun _ _ _ h => h) (Or.inl ⟨by rfl, ?_⟩) (by assumption) ?_
    rotate_left
    · (intro w hSw; (try dsimp only at hSw); first | (go_simp; done) | (go_simp; with_reducible rfl))
    simp only [Act.put, List.getElem_toArray, List.getElem_cons_zero, List.getElem_cons_succ, List.setIfInBounds_toArray, List.set_cons_zero, List.set_cons_succ]
    refine wpAnyH_take (i := 12) (v := ?_) rfl (by kernel_rfl) (by kernel_rfl) (by kernel_rfl) (fun _ _ _ h => h) (Or.inl ⟨by rfl, ?_⟩) (by assumption) ?_
    rotate_left
    · (intro w hSw; (try dsimp only at hSw); first | (go_simp; done) | (go_simp; with_reducible rfl))
    simp only [Act.put, List.getElem_toArray, List.getElem_cons_zero, List.getElem_cons_succ, List.setIfInBounds_toArray, List.set_cons_zero, List.set_cons_succ]
    refine wpAnyH_take (i := 13) (v := ?_) rfl (by kernel_rfl) (by kernel_rfl) (by kernel_rfl) (fun _ _ _ h => h) (Or.inl ⟨by rfl, ?_⟩) (by assumption) ?_
    rotate_left
    · (intro w hSw; (try dsimp only at hSw); first | (go_simp; done) | (go_simp; with_reducible rfl))
    simp only [Act.put, List.getElem_toArray, List.getElem_cons_zero, List.getElem_cons_succ, List.setIfInBounds_toArray, List.set_cons_zero, List.set_cons_succ]
    refine wpAnyH_take (i := 14) (v := ?_) rfl (by kernel_rfl) (by kernel_rfl) (by kernel_rfl) (fun _ _ _ h => h) (Or.inl ⟨by rfl, ?_⟩) (by assumption) ?_
    rotate_left
    · (intro w hSw; (try dsimp only at hSw); first | (go_simp; done) | (go_simp; with_reducible rfl))
    simp only [Act.put, List.getElem_toArray, List.getElem_cons_zero, List.getElem_cons_succ, List.setIfInBounds_toArray, List.set_cons_zero, List.set_cons_succ]
    refine wpAnyH_take (i := 15) (v := ?_) rfl (by kernel_rfl) (by kernel_rfl) (by kernel_rfl) (fun _ _ _ h => h) (Or.inl ⟨by rfl, ?_⟩) (by assumption) ?_
    rotate_left
    · (intro w hSw; (try dsimp only at hSw); first | (go_simp; done) | (go_simp; with_reducible rfl))
    simp only [Act.put, List.getElem_toArray, List.getElem_cons_zero, List.getElem_cons_succ, List.setIfInBounds_toArray, List.set_cons_zero, List.set_cons_succ]
    refine wpAnyH_take (i := 16) (v := ?_) rfl (by kernel_rfl) (by kernel_rfl) (by kernel_rfl) (fun _ _ _ h => h) (Or.inl ⟨by rfl, ?_⟩) (by assumption) ?_
    rotate_left
    · (intro w hSw; (try dsimp only at hSw); first | (go_simp; done) | (go_simp; with_reducible rfl))
    simp only [Act.put, List.getElem_toArray, List.getElem_cons_zero, List.getElem_cons_succ, List.setIfInBounds_toArray, List.set_cons_zero, List.set_cons_succ]
    refine wpAnyH_take (i := 17) (v := ?_) rfl (by kernel_rfl) (by kernel_rfl) (by kernel_rfl) (fun _ _ _ h => h) (Or.inl ⟨by rfl, ?_⟩) (by assumption) ?_
    rotate_left
    · (intro w hSw; (try dsimp only at hSw); first | (go_simp; done) | (go_simp; with_reducible rfl))
    simp only [Act.put, List.getElem_toArray, List.getElem_cons_zero, List.getElem_cons_succ, List.setIfInBounds_toArray, List.set_cons_zero, List.set_cons_succ]
    refine wpAnyH_take (i := 18) (v := ?_) rfl (by kernel_rfl) (by kernel_rfl) (by kernel_rfl) (fun _ _ _ h => h) (Or.inl ⟨by rfl, ?_⟩) (by assumption) ?_
    rotate_left
    · (intro w hSw; (try dsimp only at hSw); first | (go_simp; done) | (go_simp; with_reducible rfl))
    simp only [Act.put, List.getElem_toArray, List.getElem_cons_zero, List.getElem_cons_succ, List.setIfInBounds_toArray, List.set_cons_zero, List.set_cons_succ]
    refine wpAnyH_take (i := 19) (v := ?_) rfl (by kernel_rfl) (by kernel_rfl) (by kernel_rfl) (fun _ _ _ h => h) (Or.inl ⟨by rfl, ?_⟩) (by assumption) ?_
    rotate_left
    · (intro w hSw; (try dsimp only at hSw); first | (go_simp; done) | (go_simp; with_reducible rfl))
    simp only [Act.put, List.getElem_toArray, List.getElem_cons_zero, List.getElem_cons_succ, List.setIfInBounds_toArray, List.set_cons_zero, List.set_cons_succ]
    refine wpAnyH_take (i := 20) (v := ?_) rfl (by kernel_rfl) (by kernel_rfl) (by kernel_rfl) (fun _ _ _ h => h) (Or.inl ⟨by rfl, ?_⟩) (by assumption) ?_
    rotate_left
    · (intro w hSw; (try dsimp only at hSw); first | (go_simp; done) | (go_simp; with_reducible rfl))
    simp only [Act.put, List.getElem_toArray, List.getElem_cons_zero, List.getElem_cons_succ, List.setIfInBounds_toArray, List.set_cons_zero, List.set_cons_succ]
    refine wpAnyH_take (i := 21) (v := ?_) rfl (by kernel_rfl) (by kernel_rfl) (by kernel_rfl) (fun _ _ _ h => h) (Or.inl ⟨by rfl, ?_⟩) (by assumption) ?_
    rotate_left
    · (intro w hSw; (try dsimp only at hSw); first | (go_simp; done) | (go_simp; with_reducible rfl))
    simp only [Act.put, List.getElem_toArray, List.getElem_cons_zero, List.getElem_cons_succ, List.setIfInBounds_toArray, List.set_cons_zero, List.set_cons_succ]
    refine wpAnyH_take (i := 22) (v := ?_) rfl (by kernel_rfl) (by kernel_rfl) (by kernel_rfl) (fun _ _ _ h => h) (Or.inl ⟨by rfl, ?_⟩) (by assumption) ?_
    rotate_left
    · (intro w hSw; (try dsimp only at hSw); first | (go_simp; done) | (go_simp; with_reducible rfl))
    simp only [Act.put, List.getElem_toArray, List.getElem_cons_zero, List.getElem_cons_succ, List.setIfInBounds_toArray, List.set_cons_zero, List.set_cons_succ]
    refine wpAnyH_take (i := 23) (v := ?_) rfl (by kernel_rfl) (by kernel_rfl) (by kernel_rfl) (fun _ _ _ h => h) (Or.inl ⟨by rfl, ?_⟩) (by assumption) ?_
    rotate_left
    · (intro w hSw; (try dsimp only at hSw); first | (go_simp; done) | (go_simp; with_reducible rfl))
    simp only [Act.put, List.getElem_toArray, List.getElem_cons_zero, List.getElem_cons_succ, List.setIfInBounds_toArray, List.set_cons_zero, List.set_cons_succ]
    refine wpAnyH_take (i := 24) (v := ?_) rfl (by kernel_rfl) (by kernel_rfl) (by kernel_rfl) (fun _ _ _ h => h) (Or.inl ⟨by rfl, ?_⟩) (by assumption) ?_
    rotate_left
    · (intro w hSw; (try dsimp only at hSw); first | (go_simp; done) | (go_simp; with_reducible rfl))
    simp only [Act.put, List.getElem_toArray, List.getElem_cons_zero, List.getElem_cons_succ, List.setIfInBounds_toArray, List.set_cons_zero, List.set_cons_succ]
    refine wpAnyH_take (i := 25) (v := ?_) rfl (by kernel_rfl) (by kernel_rfl) (by kernel_rfl) (fun _ _ _ h => h) (Or.inl ⟨by rfl, ?_⟩) (by assumption) ?_
    rotate_left
    · (intro w hSw; (try dsimp only at hSw); first | (go_simp; done) | (go_simp; with_reducible rfl))
    simp only [Act.put, List.getElem_toArray, List.getElem_cons_zero, List.getElem_cons_succ, List.setIfInBounds_toArray, List.set_cons_zero, List.set_cons_succ]
    refine wpAnyH_take (i := 26) (v := ?_) rfl (by kernel_rfl) (by kernel_rfl) (by kernel_rfl) (fun _ _ _ h => h) (Or.inl ⟨by rfl, ?_⟩) (by assumption) ?_
    rotate_left
    · (intro w hSw; (try dsimp only at hSw); first | (go_simp; done) | (go_simp; with_reducible rfl))
    simp only [Act.put, List.getElem_toArray, List.getElem_cons_zero, List.getElem_cons_succ, List.setIfInBounds_toArray, List.set_cons_zero, List.set_cons_succ]
    refine wpAnyH_take (i := 27) (v := ?_) rfl (by kernel_rfl) (by kernel_rfl) (by kernel_rfl) (fun _ _ _ h => h) (Or.inl ⟨by rfl, ?_⟩) (by assumption) ?_
    rotate_left
    · (intro w hSw; (try dsimp only at hSw); first | (go_simp; done) | (go_simp; with_reducible rfl))
    simp only [Act.put, List.getElem_toArray, List.getElem_cons_zero, List.getElem_cons_succ, List.setIfInBounds_toArray, List.set_cons_zero, List.set_cons_succ]
    refine wpAnyH_take (i := 28) (v := ?_) rfl (by kernel_rfl) (by kernel_rfl) (by kernel_rfl) (fun _ _ _ h => h) (Or.inl ⟨by rfl, ?_⟩) (by assumption) ?_
    rotate_left
    · (intro w hSw; (try dsimp only at hSw); first | (go_simp; done) | (go_simp; with_reducible rfl))
    simp only [Act.put, List.getElem_toArray, List.getElem_cons_zero, List.getElem_cons_succ, List.setIfInBounds_toArray, List.set_cons_zero, List.set_cons_succ]
    refine wpAnyH_take (i := 29) (v := ?_) rfl (by kernel_rfl) (by kernel_rfl) (by kernel_rfl) (fun _ _ _ h => h) (Or.inl ⟨by rfl, ?_⟩) (by assumption) ?_
    rotate_left
    · (intro w hSw; (try dsimp only at hSw); first | (go_simp; done) | (go_simp; with_reducible rfl))
    simp only [Act.put, List.getElem_toArray, List.getElem_cons_zero, List.getElem_cons_succ, List.setIfInBounds_toArray, List.set_cons_zero, List.set_cons_succ]
    refine wpAnyH_take (i := 30) (v := ?_) rfl (by kernel_rfl) (by kernel_rfl) (by kernel_rfl) (fun _ _ _ h => h) (Or.inl ⟨by rfl, ?_⟩) (by assumption) ?_
    rotate_left
    · (intro w hSw; (try dsimp only at hSw); first | (go_simp; done) | (go_simp; with_reducible rfl))
    simp only [Act.put, List.getElem_toArray, List.getElem_cons_zero, List.getElem_cons_succ, List.setIfInBounds_toArray, List.set_cons_zero, List.set_cons_succ]
    refine wpAnyH_take (i := 31) (v := ?_) rfl (by kernel_rfl) (by kernel_rfl) (by kernel_rfl) (fun _ _ _ h => h) (Or.inl ⟨by rfl, ?_⟩) (by assumption) ?_
    rotate_left
    · (intro w hSw; (try dsimp only at hSw); first | (go_simp; done) | (go_simp; with_reducible rfl))
    simp only [Act.put, List.getElem_toArray, List.getElem_cons_zero, List.getElem_cons_succ, List.setIfInBounds_toArray, List.set_cons_zero, List.set_cons_succ]
    refine wpAnyH_take (i := 32) (v := ?_) rfl (by kernel_rfl) (by kernel_rfl) (by kernel_rfl) (fun _ _ _ h => h) (Or.inl ⟨by rfl, ?_⟩) (by assumption) ?_
    rotate_left
    · (intro w hSw; (try dsimp only at hSw); first | (go_simp; done) | (go_simp; with_reducible rfl))
    simp only [Act.put, List.getElem_toArray, List.getElem_cons_zero, List.getElem_cons_succ, List.setIfInBounds_toArray, List.set_cons_zero, List.set_cons_succ]
    refine wpAnyH_take (i := 33) (v := ?_) rfl (by kernel_rfl) (by kernel_rfl) (by kernel_rfl) (fun _ _ _ h => h) (Or.inl ⟨by rfl, ?_⟩) (by assumption) ?_
    rotate_left
    · (intro w hSw; (try dsimp only at hSw); first | (go_simp; done) | (go_simp; with_reducible rfl))
    simp only [Act.put, List.getElem_toArray, List.getElem_cons_zero, List.getElem_cons_succ, List.setIfInBounds_toArray, List.set_cons_zero, List.set_cons_succ]
    refine wpAnyH_ready (rs := [34]) (by kernel_rfl) (by simp) ?_
    refine AllReadyH.cons rfl (fun K hK => ?_) AllReadyH.nil
    go_simp
    go_wp2_with (go_at_call 13; refine HS.out.mono ?_; rintro e w6 ⟨rfl, rfl⟩)
    refine hK.out _ _ (SF.out _ D5.out BR5.out) (fun hHeld2 => ?_)
    clear hK K hHeld HS
    refine wpAnyH_take (i := 35) (v := ?_) rfl (by kernel_rfl) (by kernel_rfl) (by kernel_rfl) (fun _ _ _ h => h) (Or.inl ⟨by rfl, ?_⟩) (by assumption) ?_
    rotate_left
    · (intro w hSw; (try dsimp only at hSw); first | (go_simp; done) | (go_simp; with_reducible rfl))
    simp only [Act.put, List.getElem_toArray, List.getElem_cons_zero, List.getElem_cons_succ, List.setIfInBounds_toArray, List.set_cons_zero, List.set_cons_succ]
    refine wpAnyH_take (i := 36) (v := ?_) rfl (by kernel_rfl) (by kernel_rfl) (by kernel_rfl) (fun _ _ _ h => h) (Or.inl ⟨by rfl, ?_⟩) (by assumption) ?_
    rotate_left
    · (intro w hSw; (try dsimp only at hSw); first | (go_simp; done) | (go_simp; with_reducible rfl))
    simp only [Act.put, List.getElem_toArray, List.getElem_cons_zero, List.getElem_cons_succ, List.setIfInBounds_toArray, List.set_cons_zero, List.set_cons_succ]
    refine wpAnyH_take (i := 37) (v := ?_) rfl (by kernel_rfl) (by kernel_rfl) (by kernel_rfl) (fun _ _ _ h => h) (Or.inl ⟨by rfl, ?_⟩) (by assumption) ?_
    rotate_left
    · (intro w hSw; (try dsimp only at hSw); first | (go_simp; done) | (go_simp; with_reducible rfl))
    simp only [Act.put, List.getElem_toArray, List.getElem_cons_zero, List.getElem_cons_succ, List.setIfInBounds_toArray, List.set_cons_zero, List.set_cons_succ]
    refine wpAnyH_take (i := 38) (v := ?_) rfl (by kernel_rfl) (by kernel_rfl) (by kernel_rfl) (fun _ _ _ h => h) (Or.inl ⟨by rfl, ?_⟩) (by assumption) ?_
    rotate_left
    · (intro w hSw; (try dsimp only at hSw); first | (go_simp; done) | (go_simp; with_reducible rfl))
    simp only [Act.put, List.getElem_toArray, List.getElem_cons_zero, List.getElem_cons_succ, List.setIfInBounds_toArray, List.set_cons_zero, List.set_cons_succ]
    refine wpAnyH_take (i := 39) (v := ?_) rfl (by kernel_rfl) (by kernel_rfl) (by kernel_rfl) (fun _ _ _ h => h) (Or.inl ⟨by rfl, ?_⟩) (by assumption) ?_
    rotate_left
    · (intro w hSw; (try dsimp only at hSw); first | (go_simp; done) | (go_simp; with_reducible rfl))
    simp only [Act.put, List.getElem_toArray, List.getElem_cons_zero, List.getElem_cons_succ, List.setIfInBounds_toArray, List.set_cons_zero, List.set_cons_succ]
    refine wpAnyH_take (i := 40) (v := ?_) rfl (by kernel_rfl) (by kernel_rfl) (by kernel_rfl) (fun _ _ _ h => h) (Or.inl ⟨by rfl, ?_⟩) (by assumption) ?_
    rotate_left
    · (intro w hSw; (try dsimp only at hSw); first | (go_simp; done) | (go_simp; with_reducible rfl))
    simp only [Act.put, List.getElem_toArray, List.getElem_cons_zero, List.getElem_cons_succ, List.setIfInBounds_toArray, List.set_cons_zero, List.set_cons_succ]
    refine wpAnyH_take (i := 41) (v := ?_) rfl (by kernel_rfl) (by kernel_rfl) (by kernel_rfl) (fun _ _ _ h => h) (Or.inl ⟨by rfl, ?_⟩) (by assumption) ?_
    rotate_left
    · (intro w hSw; (try dsimp only at hSw); first | (go_simp; done) | (go_simp; with_reducible rfl))
    simp only [Act.put, List.getElem_toArray, List.getElem_cons_zero, List.getElem_cons_succ, List.setIfInBounds_toArray, List.set_cons_zero, List.set_cons_succ]
    refine wpAnyH_take (i := 42) (v := ?_) rfl (by kernel_rfl) (by kernel_rfl) (by kernel_rfl) (fun _ _ _ h => h) (Or.inl ⟨by rfl, ?_⟩) (by assumption) ?_
    rotate_left
    · (intro w hSw; (try dsimp only at hSw); first | (go_simp; done) | (go_simp; with_reducible rfl))
    simp only [Act.put, List.getElem_toArray, List.getElem_cons_zero, List.getElem_cons_succ, List.setIfInBounds_toArray, List.set_cons_zero, List.set_cons_succ]
    refine wpAnyH_ready (rs := [43]) (by kernel_rfl) (by simp) ?_
    refine AllReadyH.cons rfl (fun K hK => ?_) AllReadyH.nil
    go_simp
    go_wp2_with (go_at_call 34; refine (rof_any Ag cg G (some ⟨bT, offT, none⟩) T.length ct n w5 (LG.out.below D5.out) (by omega)).mono ?_; rintro e w6 ⟨v6, rfl, ho6, hb6⟩)
    obtain ⟨A6, c6, rfl, hl6, -⟩ := ho6.open_
    have D6 := Lib.hid (up D5.out hb6 D5.out.size)
    have B6 := Lib.hid (up B5.out hb6 B5.out.size)
    have BR6 := Lib.hid (BR5.out.below hb6 BR5.out.lt)
    have GQ := Lib.hid (goods_eq Ar cr A6 c6 (ofL G n) w6 (by have := (GO5.out.below hb6); rw [← tp_len (ofL G n)] at this; exact layE this) hl6 (by have := OLEN.out; omega))
    clear ho6 hb6 hl6
    refine hK.out _ _ (SF.out _ D6.out BR6.out) (fun hHeld => ?_)
    clear hK K hHeld2
    refine wpAnyH_ready (rs := [44]) (by kernel_rfl) (by simp) ?_
    refine AllReadyH.cons rfl (fun K hK => ?_) AllReadyH.nil
    go_simp
    go_wp2_with (go_at_call 33; refine GQ.out.mono ?_; rintro e w7 ⟨rfl, hb7⟩)
    have D7 := Lib.hid (up D6.out hb7 D6.out.size)
    have B7 := Lib.hid (up B6.out hb7 B6.out.size)
    have BR7 := Lib.hid (BR6.out.below hb7 BR6.out.lt)
    clear hb7
    refine hK.out _ _ (SF.out _ D7.out BR7.out) (fun hHeld2 => ?_)
    clear hK K hHeld
    refine wpAnyH_take (i := 45) (v := ?_) rfl (by kernel_rfl) (by kernel_rfl) (by kernel_rfl) (fun _ _ _ h => h) (Or.inl ⟨by rfl, ?_⟩) (by assumption) ?_
    rotate_left
    · (intro w hSw; (try dsimp only at hSw); first | (go_simp; done) | (go_simp; with_reducible rfl))
    simp only [Act.put, List.getElem_toArray, List.getElem_cons_zero, List.getElem_cons_succ, List.setIfInBounds_toArray, List.set_cons_zero, List.set_cons_succ]
    refine wpAnyH_take (i := 46) (v := ?_) rfl (by kernel_rfl) (by kernel_rfl) (by kernel_rfl) (fun _ _ _ h => h) (Or.inl ⟨by rfl, ?_⟩) (by assumption) ?_
    rotate_left
    · (intro w hSw; (try dsimp only at hSw); first | (go_simp; done) | (go_simp; with_reducible rfl))
    simp only [Act.put, List.getElem_toArray, List.getElem_cons_zero, List.getElem_cons_succ, List.setIfInBounds_toArray, List.set_cons_zero, List.set_cons_succ]
    refine wpAnyH_take (i := 47) (v := ?_) rfl (by kernel_rfl) (by kernel_rfl) (by kernel_rfl) (fun _ _ _ h => h) (Or.inl ⟨by rfl, ?_⟩) (by assumption) ?_
    rotate_left
    · (intro w hSw; (try dsimp only at hSw); first | (go_simp; done) | (go_simp; with_reducible rfl))
    simp only [Act.put, List.getElem_toArray, List.getElem_cons_zero, List.getElem_cons_succ, List.setIfInBounds_toArray, List.set_cons_zero, List.set_cons_succ]
    refine wpAnyH_take (i := 48) (v := ?_) rfl (by kernel_rfl) (by kernel_rfl) (by kernel_rfl) (fun _ _ _ h => h) (Or.inl ⟨by rfl, ?_⟩) (by assumption) ?_
    rotate_left
    · (intro w hSw; (try dsimp only at hSw); first | (go_simp; done) | (go_simp; with_reducible rfl))
    simp only [Act.put, List.getElem_toArray, List.getElem_cons_zero, List.getElem_cons_succ, List.setIfInBounds_toArray, List.set_cons_zero, List.set_cons_succ]
    refine wpAnyH_take (i := 49) (v := ?_) rfl (by kernel_rfl) (by kernel_rfl) (by kernel_rfl) (fun _ _ _ h => h) (Or.inl ⟨by rfl, ?_⟩) (by assumption) ?_
    rotate_left
    · (intro w hSw; (try dsimp only at hSw); first | (go_simp; done) | (go_simp; with_reducible rfl))
    simp only [Act.put, List.getElem_toArray, List.getElem_cons_zero, List.getElem_cons_succ, List.setIfInBounds_toArray, List.set_cons_zero, List.set_cons_succ]
    refine wpAnyH_take (i := 50) (v := ?_) rfl (by kernel_rfl) (by kernel_rfl) (by kernel_rfl) (fun _ _ _ h => h) (Or.inl ⟨by rfl, ?_⟩) (by assumption) ?_
    rotate_left
    · (intro w hSw; (try dsimp only at hSw); first | (go_simp; done) | (go_simp; with_reducible rfl))
    simp only [Act.put, List.getElem_toArray, List.getElem_cons_zero, List.getElem_cons_succ, List.setIfInBounds_toArray, List.set_cons_zero, List.set_cons_succ]
    refine wpAnyH_take (i := 52) (v := ?_) rfl (by kernel_rfl) (by kernel_rfl) (by kernel_rfl) (fun _ _ _ h => h) (Or.inl ⟨by rfl, ?_⟩) (by assumption) ?_
    rotate_left
    · (intro w hSw; (try dsimp only at hSw); first | (go_simp; done) | (go_simp; with_reducible rfl))
    simp only [Act.put, List.getElem_toArray, List.getElem_cons_zero, List.getElem_cons_succ, List.setIfInBounds_toArray, List.set_cons_zero, List.set_cons_succ]
    refine wpAnyH_take (i := 53) (v := ?_) rfl (by kernel_rfl) (by kernel_rfl) (by kernel_rfl) (fun _ _ _ h => h) (Or.inl ⟨by rfl, ?_⟩) (by assumption) ?_
    rotate_left
    · (intro w hSw; (try dsimp only at hSw); first | (go_simp; done) | (go_simp; with_reducible rfl))
    simp only [Act.put, List.getElem_toArray, List.getElem_cons_zero, List.getElem_cons_succ, List.setIfInBounds_toArray, List.set_cons_zero, List.set_cons_succ]
    refine wpAnyH_take (i := 54) (v := ?_) rfl (by kernel_rfl) (by kernel_rfl) (by kernel_rfl) (fun _ _ _ h => h) (Or.inl ⟨by rfl, ?_⟩) (by assumption) ?_
    rotate_left
    · (intro w hSw; (try dsimp only at hSw); first | (go_simp; done) | (go_simp; with_reducible rfl))
    simp only [Act.put, List.getElem_toArray, List.getElem_cons_zero, List.getElem_cons_succ, List.setIfInBounds_toArray, List.set_cons_zero, List.set_cons_succ]
    refine wpAnyH_ready (rs := [51]) (by kernel_rfl) (by simp) ?_
    refine AllReadyH.cons rfl (fun K hK => ?_) AllReadyH.nil
    go_simp
    go_wp2_with (go_at_call 27; refine (goods_some n u (HH.out.below D7.out) HTS.out).mono ?_; rintro e w8 ⟨v8, ts, rfl, hk8, -, ho8, hb8⟩)
    have egl := RR.out.gl GD.out hk8
    dsimp only at egl
    rw [show (ofL G n).map (fun d => (d.2.1, d.2.2)) = tp (ofL G n) from rfl] at egl
    rw [egl] at ho8
    obtain ⟨A8, c8, rfl, hl8, -⟩ := ho8.open_
    have L8 := Lib.hid hl8
    have D8 := Lib.hid (up D7.out hb8 D7.out.size)
    have B8 := Lib.hid (up B7.out hb8 B7.out.size)
    have BR8 := Lib.hid (BR7.out.below hb8 BR7.out.lt)
    clear ho8 hb8 hl8 egl hk8
    rw [tp_len] at *
    refine hK.out _ _ (SF.out _ D8.out BR8.out) (fun hHeld => ?_)
    clear hK K hHeld2
    refine wpAnyH_ready (rs := [55]) (by kernel_rfl) (by simp) ?_
    refine AllReadyH.cons rfl (fun K hK => ?_) AllReadyH.nil
    go_simp
    go_wp2_with (go_at_call 34; refine (rof_any Ag cg G (some ⟨bT, offT, none⟩) T.length ct n w8 (LG.out.below D8.out) (by omega)).mono ?_; rintro e w9 ⟨v9, rfl, ho9, hb9⟩)
    obtain ⟨A9, c9, rfl, hl9, -⟩ := ho9.open_
    have D9 := Lib.hid (up D8.out hb9 D8.out.size)
    have B9 := Lib.hid (up B8.out hb9 B8.out.size)
    have BR9 := Lib.hid (BR8.out.below hb9 BR8.out.lt)
    have GQ := Lib.hid (goods_eq A8 c8 A9 c9 (ofL G n) w9 (L8.out.below hb9) hl9 (by have := OLEN.out; omega))
    clear ho9 hb9 hl9
    refine hK.out _ _ (SF.out _ D9.out BR9.out) (fun hHeld2 => ?_)
    clear hK K hHeld
    refine wpAnyH_ready (rs := [56]) (by kernel_rfl) (by simp) ?_
    refine AllReadyH.cons rfl (fun K hK => ?_) AllReadyH.nil
    go_simp
    go_wp2_with (go_at_call 33; refine GQ.out.mono ?_; rintro e w10 ⟨rfl, hb10⟩)
    have D10 := Lib.hid (up D9.out hb10 D9.out.size)
    have B10 := Lib.hid (up B9.out hb10 B9.out.size)
    have BR10 := Lib.hid (BR9.out.below hb10 BR9.out.lt)
    clear hb10
    refine hK.out _ _ (SF.out _ D10.out BR10.out) (fun hHeld => ?_)
    clear hK K hHeld2
    refine wpAnyH_take (i := 57) (v := ?_) rfl (by kernel_rfl) (by kernel_rfl) (by kernel_rfl) (fun _ _ _ h => h) (Or.inl ⟨by rfl, ?_⟩) (by assumption) ?_
    rotate_left
    · (intro w hSw; (try dsimp only at hSw); first | (go_simp; done) | (go_simp; with_reducible rfl))
    simp only [Act.put, List.getElem_toArray, List.getElem_cons_zero, List.getElem_cons_succ, List.setIfInBounds_toArray, List.set_cons_zero, List.set_cons_succ]
    refine wpAnyH_take (i := 58) (v := ?_) rfl (by kernel_rfl) (by kernel_rfl) (by kernel_rfl) (fun _ _ _ h => h) (Or.inl ⟨by rfl, ?_⟩) (by assumption) ?_
    rotate_left
    · (intro w hSw; (try dsimp only at hSw); first | (go_simp; done) | (go_simp; with_reducible rfl))
    simp only [Act.put, List.getElem_toArray, List.getElem_cons_zero, List.getElem_cons_succ, List.setIfInBounds_toArray, List.set_cons_zero, List.set_cons_succ]
    refine wpAnyH_done (by kernel_rfl) ?_ _
    clear hHeld SF GQ B5 B6 B7 B8 B9 D5 D6 D7 D8 D9 BR5 BR6 BR7 BR8 BR9
    have r1 := BR10.out.cell 1
    have wr1 : IntKind.i64.wrap (ss + u) = ss + u := IntWalk.i64_in _ (by omega)
    go_wp2_with fail
    refine ⟨⟨k + 1, _, rfl, by omega, by go_num, by rw [SK.out], B10.out⟩, by simp [intOf]; omega⟩
  · obtain rfl : k = T.length := by omega
    rw [List.take_length, ← HT.out]
    have D3 := Lib.hid (up B2.out hb B2.out.size)
    have c1 := (BX.out.below D3.out BX.out.lt).cell 1
    clear hb hk hkl L2 T2 RLN
    go_wp2_with fail
    clear c1
    rw [show decide (T.length < RL.length) = false from decide_eq_false (by omega)]
    go_loopw [105] (fun i wr => ∃ (j : Nat) (W : World), W = wr ∧ j ≤ G.length ∧ i = .int .i64 j ∧ Below w1.heap.size w1 wr) (fun i _ => G.length - (intOf i).toNat)
    case atStart => exact ⟨0, _, rfl, by omega, rfl, D3.out⟩
    case round =>
    obtain ⟨j, w4, rfl, hj, rfl, hb⟩ := hrel
    have D4 := Lib.hid hb
    by_cases hjl : j < G.length
    · obtain ⟨bb, off, eA, -⟩ := lay3 (LG.out.below hb) hjl
      subst eA
      obtain ⟨e0, e1, e2⟩ := lay3c (LG.out.below hb) hjl
      have hGs := (RR.out.g G[j].2.1 G[j].1 G[j].2.2).2 (List.getElem_mem hjl)
      have HGS := Lib.hid hGs
      clear hGs hb
      generalize G[j] = d at *
      obtain ⟨h, t, p⟩ := d
      dsimp only at *
      have hm := made w4 (.cells #[.int .i64 h, .int .i64 t, .int .i64 p] 69)
      have D5 := Lib.hid (up D4.out hm D4.out.size)
      have BR := Lib.hid (Blk.new w4 69 #[.int .i64 h, .int .i64 t, .int .i64 p])
      clear hm
      go_upto_region 16 with fail
      generalize w4.alloc (.cells #[.int .i64 h, .int .i64 t, .int .i64 p] 69) = w5 at *
      generalize w4.heap.size = gr at *
      clear e0 e1 e2
      have r1 := BR.out.cell 1
      have PR := price_any t (HH.out.below D5.out) (GD.out.wfG HGS.out)
      have e1 : prA s t = h ∧ prB s t = p ∧ prE s t = 0 := by unfold prA prB prE; rw [HGS.out]; exact ⟨rfl, rfl, rfl⟩
      rw [e1.1, e1.2.1, e1.2.2] at PR
      have PR := Lib.hid PR
      clear e1
      go_wp2_with fail
      refine PR.out.mono ?_
      rintro e w6 ⟨rfl, hb6⟩
      have D6 := Lib.hid (up D5.out hb6 D5.out.size)
      have r0 := (BR.out.below hb6 BR.out.lt).cell 0
      have r2 := (BR.out.below hb6 BR.out.lt).cell 2
      clear hb6 r1 PR
      go_wp2_with fail
      refine ⟨⟨j + 1, _, rfl, by omega, by go_num, D6.out⟩, by simp [intOf]; omega⟩
    · obtain rfl : j = G.length := by omega
      have TO := Lib.hid (total_any (HH.out.below D4.out))
      have BB := Lib.hid (up B1.out D4.out B1.out.size)
      clear hb
      go_wp2_with fail
      refine TO.out.mono ?_
      rintro e w6 ⟨rfl, rfl⟩
      go_wp2_with fail
      go_ret
      exact ⟨rfl, BB.out⟩
end Go.Proofs.Ythnjacfpnbhfpaa.st
