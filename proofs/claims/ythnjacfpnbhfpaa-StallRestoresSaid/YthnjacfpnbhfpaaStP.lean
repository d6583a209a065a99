/-
  Contracts of the reference's stalls: Open, Put.
-/
import Derived.Test.YthnjacfpnbhfpaaStO
namespace Go.Proofs.Ythnjacfpnbhfpaa.st
open Go.RowKit
open base (ret_bool ret_int made up Blk Only)
open rk mk
set_option linter.unusedVariables false
set_option linter.unusedSimpArgs false
variable {B : Nat} {w w1 w2 w5 w' : World}

def ropenE (T : List C2) (n : Int) : Int := if n < 1 then 10 else if (fi (isT n) T).isSome then 13 else 0
def ropenL (T : List C2) (G : List G3) (n : Int) : LS := if ropenE T n = 0 then (ins kT (n, 0) T, G) else (T, G)
set_option maxRecDepth 100000 in
set_option maxHeartbeats 8000000 in
theorem ropen_any (At : Option Addr) (ct : Nat) (T : List C2) (Ag : Option Addr) (cg : Nat) (G : List G3) (n : Int) (w : World) (oT : Own E2 w B 71 (.slice At T.length ct) T) (oG : Own E3 w B 69 (.slice Ag G.length cg) G) (hl : T.length ≤ 1000) (hg : G.length ≤ 1000) (hB : B ≤ w.heap.size) :
    Calls Try.prog 22 #[.agg #[.slice At T.length ct, .slice Ag G.length cg], .int .i64 n] w (NewS B w (ropenL T G n) (ropenE T n)) := by
  obtain ⟨w1, w2, hw1, hw2, BX, RZ, B2, hz⟩ := boxes w (.slice At T.length ct) (.slice Ag G.length cg)
  have OT := Lib.hid (oT.below (B2.mono (Nat.le_refl _)))
  have OG := Lib.hid (oG.below (B2.mono (Nat.le_refl _)))
  have HB := Lib.hid (Nat.le_trans hB B2.size)
  replace BX := Lib.hid BX
  replace RZ := Lib.hid RZ
  replace B2 := Lib.hid B2
  have HZ := Lib.hid hz
  have b0 := BX.out.cell 0
  have b1 := BX.out.cell 1
  clear oT oG hz hB
  have FI := Lib.hid (rhas_any At ct T Ag G.length cg n w2 (layE OT.out) (by omega))
  by_cases q1 : n < 1
  · have e1 : ropenE T n = 10 := by unfold ropenE; rw [if_pos q1]
    have e2 : ropenL T G n = (T, G) := by unfold ropenL; rw [if_neg (by rw [e1]; decide)]
    rw [e1, e2]
    clear e1 e2 FI
    obtain ⟨x0, x1, o1, o2, b9, f0, f1, y0, y1⟩ := fin2 B2.out RZ.out HZ.out OT.out OG.out
    have R9 := Lib.hid (And.intro o1 (And.intro o2 b9))
    clear o1 o2 b9
    go_enter Try.func22, Try.ntmps22
    go_wp2_with (first | rw [hw1] | rw [hw2])
    refine bodyPost_ret (v := .tuple #[.agg #[.slice At T.length ct, .slice Ag G.length cg], .int .i64 10]) (by simp [results, Try.results22, go_sem, x0, x1]) rfl ⟨_, _, rfl, R9.out.1, R9.out.2.1, R9.out.2.2⟩
  cases q : fi (isT n) T with
  | some i =>
    have e1 : ropenE T n = 13 := by unfold ropenE; rw [if_neg q1, q]; rfl
    have e2 : ropenL T G n = (T, G) := by unfold ropenL; rw [if_neg (by rw [e1]; decide)]
    rw [e1, e2]
    rw [q] at FI
    replace FI := Lib.hid (show Calls Try.prog _ _ w2 (fun e w' => e = .returned (.int .i64 (i : Int)) ∧ Below w2.heap.size w2 w') from FI.out)
    clear q e1 e2
    go_enter Try.func22, Try.ntmps22
    go_wp2_with (first | rw [hw1] | rw [hw2])
    refine FI.out.mono ?_
    rintro e w3 ⟨rfl, hb3⟩
    have B3 := Lib.hid hb3
    clear hb3 b0 b1 hw1 hw2
    obtain ⟨x0, x1, o1, o2, b9, f0, f1, y0, y1⟩ := fin2 (up B2.out B3.out B2.out.size) (RZ.out.below B3.out RZ.out.lt) HZ.out (OT.out.below B3.out) (OG.out.below B3.out)
    have d0 := (BX.out.below B3.out BX.out.lt).cell 0
    have d1 := (BX.out.below B3.out BX.out.lt).cell 1
    have R9 := Lib.hid (And.intro o1 (And.intro o2 b9))
    clear o1 o2 b9
    go_wp2_with fail
    refine bodyPost_ret (v := .tuple #[.agg #[.slice At T.length ct, .slice Ag G.length cg], .int .i64 13]) (by simp [results, Try.results22, go_sem, x0, x1]) rfl ⟨_, _, rfl, R9.out.1, R9.out.2.1, R9.out.2.2⟩
  | none =>
    have e1 : ropenE T n = 0 := by unfold ropenE; rw [if_neg q1, q]; rfl
    have e2 : ropenL T G n = (ins kT (n, 0) T, G) := by unfold ropenL; rw [if_pos e1]
    rw [e1, e2]
    rw [q] at FI
    replace FI := Lib.hid (show Calls Try.prog _ _ w2 (fun e w' => e = .returned (.int .i64 (-1)) ∧ Below w2.heap.size w2 w') from FI.out)
    clear q e1 e2
    go_enter Try.func22, Try.ntmps22
    go_wp2_with (first | rw [hw1] | rw [hw2])
    refine FI.out.mono ?_
    rintro e w3 ⟨rfl, hb3⟩
    have B3 := Lib.hid hb3
    clear hb3 b0 b1 hw1 hw2
    go_wp2_with fail
    go_loopw [6, 7, 8] (fun o d j wr => ∃ (k : Nat) (W : World) (r : List _ × Bool), W = wr ∧ k ≤ T.length ∧ j = .int .i64 k ∧ r = ifold kT (n, 0) (T.take k) ∧ Own E2 wr w2.heap.size 71 o r.1 ∧ d = .bool r.2 ∧ Below w2.heap.size w2 wr) (fun _ _ j _ => T.length - (intOf j).toNat)
    case atStart => exact ⟨0, _, ([], false), rfl, by omega, rfl, rfl, Own.nil _ _ _, rfl, B3.out⟩
    case round =>
    obtain ⟨k, w4, r, rfl, hk, rfl, hr, ho, rfl, hb⟩ := hrel
    have LEN := Lib.hid (show r.1.length ≤ 1001 by have := ifold_len kT (n, 0) (T.take k); rw [← hr, List.length_take] at this; omega)
    obtain ⟨r1, r2⟩ := r
    dsimp only at ho LEN
    have O4 := Lib.hid ho
    have B4 := Lib.hid hb
    have c1 := (BX.out.below hb BX.out.lt).cell 0
    by_cases hkl : k < T.length
    · obtain ⟨bb, off, eA, -⟩ := lay2 ((layE OT.out).below hb) hkl
      subst eA
      have EE := Lib.hid (fun W (h : Below w2.heap.size w2 W) => lay2c ((layE OT.out).below h) hkl)
      have CC := Lib.hid (fun W (h : Below w2.heap.size w2 W) => (BX.out.below h BX.out.lt).cell 0)
      have TL := Lib.hid (show r1.length ≤ 1001 from LEN.out)
      have NX := ifold_snoc kT (n, 0) T hkl
      rw [← hr] at NX
      obtain ⟨e0, e1⟩ := EE.out w4 hb
      clear ho hb hr
      generalize T[k] = dd at *
      obtain ⟨d0, d1⟩ := dd
      dsimp only at *
      cases r2 with
      | true =>
        replace NX := Lib.hid (show ifold kT (n, 0) (T.take (k + 1)) = (r1 ++ [(d0, d1)], true) from NX.trans (if_neg (fun h => by cases h.1)))
        have hm := made w4 (.cells #[.int .i64 d0, .int .i64 d1] 71)
        have P5 := Lib.hid (O4.out.below hm)
        have Q5 := Lib.hid (up B4.out hm B4.out.size)
        have LY := Lib.hid (Lay.lit (E := E2) (w4.alloc (.cells #[.int .i64 d0, .int .i64 d1] 71)) (d0, d1) 71 w4.heap.size (Blk.new _ _ _))
        clear hm
        generalize hw5 : w4.alloc (.cells #[.int .i64 d0, .int .i64 d1] 71) = y5 at *
        go_wp2_with (first | rw [hw5] | ((with_reducible show wpList _ _ _ (⟨some 48, _, _, _, _, _⟩ :: _) _ _); go_must (refine wp_app TT (c := 1) (n := 1) rfl _ _ rfl rfl rfl rfl rfl P5.out LY.out (by simp; have := TL.out; omega) Q5.out.size ?_)))
        intro v5 w5 own5 gr5
        have B5 := Lib.hid (Q5.out.trans (gr5.below P5.out Q5.out.size))
        rw [show r1 ++ [(d0, d1)] = (ifold kT (n, 0) (T.take (k + 1))).1 by rw [NX.out]] at own5
        have O5 := Lib.hid own5
        obtain ⟨A5, c5, rfl, -⟩ := own5.open_
        clear own5 gr5 P5 Q5 LY hw5
        clear e0 e1 c1
        go_wp2_with fail
        refine ⟨⟨k + 1, _, _, rfl, by omega, by go_num, rfl, O5.out, by rw [NX.out], B5.out⟩, by simp [intOf]; omega⟩
      | false =>
        by_cases q : n < d0
        · replace NX := Lib.hid (show ifold kT (n, 0) (T.take (k + 1)) = (r1 ++ [(n, 0)] ++ [(d0, d1)], true) from NX.trans (if_pos ⟨rfl, q⟩))
          have z1 : decide (d0 > n) = true := decide_eq_true q
          have z2 : decide (n < d0) = true := decide_eq_true q
          have hm := made w4 (.cells #[.int .i64 n, .int .i64 0] 71)
          have P5 := Lib.hid (O4.out.below hm)
          have Q5 := Lib.hid (up B4.out hm B4.out.size)
          have LY := Lib.hid (Lay.lit (E := E2) (w4.alloc (.cells #[.int .i64 n, .int .i64 0] 71)) (n, 0) 71 w4.heap.size (Blk.new _ _ _))
          clear hm
          generalize hw5 : w4.alloc (.cells #[.int .i64 n, .int .i64 0] 71) = y5 at *
          go_wp2_with (first | rw [hw5] | ((with_reducible show wpList _ _ _ (⟨some 40, _, _, _, _, _⟩ :: _) _ _); go_must (refine wp_app TT (c := 1) (n := 1) rfl _ _ rfl rfl rfl rfl rfl P5.out LY.out (by simp; have := TL.out; omega) Q5.out.size ?_)))
          intro v5 w5 own5 gr5
          have B5 := Lib.hid (Q5.out.trans (gr5.below P5.out Q5.out.size))
          have O5 := Lib.hid own5
          obtain ⟨A5, c5, e5, -⟩ := own5.open_
          rw [show (r1 ++ [((n, 0) : C2)]).length = r1.length + 1 from by simp] at e5
          subst e5
          clear own5 gr5 P5 Q5 LY hw5
          clear e0 e1 c1
          obtain ⟨e0, e1⟩ := EE.out w5 B5.out
          have c1 := CC.out w5 B5.out
          have hm := made w5 (.cells #[.int .i64 d0, .int .i64 d1] 71)
          have P6 := Lib.hid (O5.out.below hm)
          have Q6 := Lib.hid (up B5.out hm B5.out.size)
          have LY := Lib.hid (Lay.lit (E := E2) (w5.alloc (.cells #[.int .i64 d0, .int .i64 d1] 71)) (d0, d1) 71 w5.heap.size (Blk.new _ _ _))
          clear hm
          generalize hw6 : w5.alloc (.cells #[.int .i64 d0, .int .i64 d1] 71) = y6 at *
          go_wp2_with (first | rw [hw6] | ((with_reducible show wpList _ _ _ (⟨some 48, _, _, _, _, _⟩ :: _) _ _); go_must (refine wp_app TT (c := 1) (n := 1) rfl _ _ rfl rfl rfl rfl rfl P6.out LY.out (by simp; have := TL.out; omega) Q6.out.size ?_)))
          intro v6 w6 own6 gr6
          have B6 := Lib.hid (Q6.out.trans (gr6.below P6.out Q6.out.size))
          first | rw [show r1 ++ [(n, 0)] ++ [(d0, d1)] = (ifold kT (n, 0) (T.take (k + 1))).1 by rw [NX.out]] at own6 | rw [show r1 ++ [(n, 0), (d0, d1)] = (ifold kT (n, 0) (T.take (k + 1))).1 by rw [NX.out]; simp] at own6
          have O6 := Lib.hid own6
          obtain ⟨A6, c6, rfl, -⟩ := own6.open_
          clear own6 gr6 P6 Q6 LY hw6
          clear e0 e1 c1
          go_wp2_with fail
          refine ⟨⟨k + 1, _, _, rfl, by omega, by go_num, rfl, O6.out, by rw [NX.out], B6.out⟩, by simp [intOf]; omega⟩
        · replace NX := Lib.hid (show ifold kT (n, 0) (T.take (k + 1)) = (r1 ++ [(d0, d1)], false) from NX.trans (if_neg (fun h => q h.2)))
          have z1 : decide (d0 > n) = false := decide_eq_false q
          have z2 : decide (n < d0) = false := decide_eq_false q
          have hm := made w4 (.cells #[.int .i64 d0, .int .i64 d1] 71)
          have P5 := Lib.hid (O4.out.below hm)
          have Q5 := Lib.hid (up B4.out hm B4.out.size)
          have LY := Lib.hid (Lay.lit (E := E2) (w4.alloc (.cells #[.int .i64 d0, .int .i64 d1] 71)) (d0, d1) 71 w4.heap.size (Blk.new _ _ _))
          clear hm
          generalize hw5 : w4.alloc (.cells #[.int .i64 d0, .int .i64 d1] 71) = y5 at *
          go_wp2_with (first | rw [hw5] | ((with_reducible show wpList _ _ _ (⟨some 48, _, _, _, _, _⟩ :: _) _ _); go_must (refine wp_app TT (c := 1) (n := 1) rfl _ _ rfl rfl rfl rfl rfl P5.out LY.out (by simp; have := TL.out; omega) Q5.out.size ?_)))
          intro v5 w5 own5 gr5
          have B5 := Lib.hid (Q5.out.trans (gr5.below P5.out Q5.out.size))
          rw [show r1 ++ [(d0, d1)] = (ifold kT (n, 0) (T.take (k + 1))).1 by rw [NX.out]] at own5
          have O5 := Lib.hid own5
          obtain ⟨A5, c5, rfl, -⟩ := own5.open_
          clear own5 gr5 P5 Q5 LY hw5
          clear e0 e1 c1
          go_wp2_with fail
          refine ⟨⟨k + 1, _, _, rfl, by omega, by go_num, rfl, O5.out, by rw [NX.out], B5.out⟩, by simp [intOf]; omega⟩
    · obtain rfl : k = T.length := by omega
      rw [List.take_length] at hr
      have IA := ifin_all kT (n, 0) T
      rw [← hr] at IA
      have IA := Lib.hid IA
      have TL := Lib.hid (show r1.length ≤ 1001 from LEN.out)
      clear hr
      cases r2 with
      | true =>
        have EQ := Lib.hid (show r1 = ins kT (n, 0) T from IA.out)
        rw [EQ.out] at ho O4
        obtain ⟨A6, c6, rfl, -⟩ := ho.open_
        have B6 := B4
        have O6 := O4
        clear ho hb O4 B4
        obtain ⟨x0, x1, o1, o2, b9, f0, f1, y0, y1⟩ := fin2 (up B2.out B6.out B2.out.size) (RZ.out.below B6.out RZ.out.lt) HZ.out (O6.out.mono HB.out) (OG.out.below B6.out)
        have d0 := (BX.out.below B6.out BX.out.lt).cell 0
        have d1 := (BX.out.below B6.out BX.out.lt).cell 1
        have R9 := Lib.hid (And.intro o1 (And.intro o2 b9))
        clear o1 o2 b9
        go_wp2_with fail
        refine bodyPost_ret (v := .tuple #[.agg #[.slice A6 (ins kT (n, 0) T).length c6, .slice Ag G.length cg], .int .i64 0]) (by simp [results, Try.results22, go_sem, x0, x1]) rfl ⟨_, _, rfl, R9.out.1, R9.out.2.1, R9.out.2.2⟩
      | false =>
        have EQ := Lib.hid (show r1 ++ [(n, 0)] = ins kT (n, 0) T from IA.out)
        clear ho hb
        have hm := made w4 (.cells #[.int .i64 n, .int .i64 0] 71)
        have P6 := Lib.hid (O4.out.below hm)
        have Q6 := Lib.hid (up B4.out hm B4.out.size)
        have LY := Lib.hid (Lay.lit (E := E2) (w4.alloc (.cells #[.int .i64 n, .int .i64 0] 71)) (n, 0) 71 w4.heap.size (Blk.new _ _ _))
        clear hm
        generalize hw6 : w4.alloc (.cells #[.int .i64 n, .int .i64 0] 71) = y6 at *
        go_wp2_with (first | rw [hw6] | ((with_reducible show wpList _ _ _ (⟨some 55, _, _, _, _, _⟩ :: _) _ _); go_must (refine wp_app TT (c := 1) (n := 1) rfl _ _ rfl rfl rfl rfl rfl P6.out LY.out (by simp; have := TL.out; omega) Q6.out.size ?_)))
        intro v6 w6 own6 gr6
        have B6 := Lib.hid (Q6.out.trans (gr6.below P6.out Q6.out.size))
        rw [EQ.out] at own6
        have O6 := Lib.hid own6
        obtain ⟨A6, c6, rfl, -⟩ := own6.open_
        clear own6 gr6 P6 Q6 LY hw6
        obtain ⟨x0, x1, o1, o2, b9, f0, f1, y0, y1⟩ := fin2 (up B2.out B6.out B2.out.size) (RZ.out.below B6.out RZ.out.lt) HZ.out (O6.out.mono HB.out) (OG.out.below B6.out)
        have d0 := (BX.out.below B6.out BX.out.lt).cell 0
        have d1 := (BX.out.below B6.out BX.out.lt).cell 1
        have R9 := Lib.hid (And.intro o1 (And.intro o2 b9))
        clear o1 o2 b9
        go_wp2_with fail
        refine bodyPost_ret (v := .tuple #[.agg #[.slice A6 (ins kT (n, 0) T).length c6, .slice Ag G.length cg], .int .i64 0]) (by simp [results, Try.results22, go_sem, x0, x1]) rfl ⟨_, _, rfl, R9.out.1, R9.out.2.1, R9.out.2.2⟩

def rputE (T : List C2) (G : List G3) (n t p : Int) : Int := if (fi (isT n) T).isSome = false then 14 else if t < 1 then 10 else if p < 1 ∨ 1099511627776 < p then 11 else if (fi (isG t) G).isSome then 13 else if 16 ≤ (ofL G n).length then 12 else 0
def rputL (T : List C2) (G : List G3) (n t p : Int) : LS := if rputE T G n t p = 0 then (T, ins kG (n, t, p) G) else (T, G)
set_option maxRecDepth 100000 in
set_option maxHeartbeats 16000000 in
theorem rput_any (At : Option Addr) (ct : Nat) (T : List C2) (Ag : Option Addr) (cg : Nat) (G : List G3) (n t p : Int) (w : World) (oT : Own E2 w B 71 (.slice At T.length ct) T) (oG : Own E3 w B 69 (.slice Ag G.length cg) G) (hl : T.length ≤ 1000) (hg : G.length ≤ 1000) (hB : B ≤ w.heap.size) :
    Calls Try.prog 24 #[.agg #[.slice At T.length ct, .slice Ag G.length cg], .int .i64 n, .int .i64 t, .int .i64 p] w (NewS B w (rputL T G n t p) (rputE T G n t p)) := by
  obtain ⟨w1, w2, hw1, hw2, BX, RZ, B2, hz⟩ := boxes w (.slice At T.length ct) (.slice Ag G.length cg)
  have OT := Lib.hid (oT.below (B2.mono (Nat.le_refl _)))
  have OG := Lib.hid (oG.below (B2.mono (Nat.le_refl _)))
  have HB := Lib.hid (Nat.le_trans hB B2.size)
  replace BX := Lib.hid BX
  replace RZ := Lib.hid RZ
  replace B2 := Lib.hid B2
  have HZ := Lib.hid hz
  have b0 := BX.out.cell 0
  have b1 := BX.out.cell 1
  clear oT oG hz hB
  have HA := Lib.hid (fun W (h : Below w2.heap.size w2 W) => rhas_any At ct T Ag G.length cg n W ((layE OT.out).below h) (by omega))
  have FI := Lib.hid (fun W (h : Below w2.heap.size w2 W) => rfind_any Ag cg G At T.length ct t W ((layE OG.out).below h) (by omega))
  have OF := Lib.hid (fun W (h : Below w2.heap.size w2 W) => rof_any Ag cg G At T.length ct n W ((layE OG.out).below h) (by omega))
  cases q : fi (isT n) T with
  | none =>
    have e1 : rputE T G n t p = 14 := by unfold rputE; rw [if_pos (by rw [q]; rfl)]
    have e2 : rputL T G n t p = (T, G) := by unfold rputL; rw [if_neg (by rw [e1]; decide)]
    rw [e1, e2]
    rw [q] at HA
    replace HA := Lib.hid (fun W (h : Below w2.heap.size w2 W) => show Calls Try.prog _ _ W (fun e w' => e = .returned (.int .i64 (-1)) ∧ Below W.heap.size W w') from HA.out W h)
    clear q e1 e2 FI OF
    go_enter Try.func24, Try.ntmps24
    go_wp2_with (first | rw [hw1] | rw [hw2])
    refine (HA.out _ (Below.refl _ _)).mono ?_
    rintro e w3 ⟨rfl, hb3⟩
    have B3 := Lib.hid hb3
    clear hb3 b0 b1 hw1 hw2
    obtain ⟨x0, x1, o1, o2, b9, f0, f1, y0, y1⟩ := fin2 (up B2.out B3.out B2.out.size) (RZ.out.below B3.out RZ.out.lt) HZ.out (OT.out.below B3.out) (OG.out.below B3.out)
    have d0 := (BX.out.below B3.out BX.out.lt).cell 0
    have d1 := (BX.out.below B3.out BX.out.lt).cell 1
    have R9 := Lib.hid (And.intro o1 (And.intro o2 b9))
    clear o1 o2 b9
    go_wp2_with fail
    refine bodyPost_ret (v := .tuple #[.agg #[.slice At T.length ct, .slice Ag G.length cg], .int .i64 14]) (by simp [results, Try.results24, go_sem, x0, x1]) rfl ⟨_, _, rfl, R9.out.1, R9.out.2.1, R9.out.2.2⟩
  | some i =>
  have eT : ¬ (fi (isT n) T).isSome = false := by rw [q]; simp
  rw [q] at HA
  replace HA := Lib.hid (fun W (h : Below w2.heap.size w2 W) => show Calls Try.prog _ _ W (fun e w' => e = .returned (.int .i64 ((i : Int))) ∧ Below W.heap.size W w') from HA.out W h)
  have iz : decide ((i : Int) < 0) = false := decide_eq_false (by omega)
  clear q
  by_cases q1 : t < 1
  · have e1 : rputE T G n t p = 10 := by unfold rputE; rw [if_neg eT, if_pos q1]
    have e2 : rputL T G n t p = (T, G) := by unfold rputL; rw [if_neg (by rw [e1]; decide)]
    rw [e1, e2]
    clear e1 e2 FI OF eT
    go_enter Try.func24, Try.ntmps24
    go_wp2_with (first | rw [hw1] | rw [hw2])
    refine (HA.out _ (Below.refl _ _)).mono ?_
    rintro e w3 ⟨rfl, hb3⟩
    have B3 := Lib.hid hb3
    clear hb3 b0 b1 hw1 hw2
    obtain ⟨x0, x1, o1, o2, b9, f0, f1, y0, y1⟩ := fin2 (up B2.out B3.out B2.out.size) (RZ.out.below B3.out RZ.out.lt) HZ.out (OT.out.below B3.out) (OG.out.below B3.out)
    have d0 := (BX.out.below B3.out BX.out.lt).cell 0
    have d1 := (BX.out.below B3.out BX.out.lt).cell 1
    have R9 := Lib.hid (And.intro o1 (And.intro o2 b9))
    clear o1 o2 b9
    go_wp2_with fail
    refine bodyPost_ret (v := .tuple #[.agg #[.slice At T.length ct, .slice Ag G.length cg], .int .i64 10]) (by simp [results, Try.results24, go_sem, x0, x1]) rfl ⟨_, _, rfl, R9.out.1, R9.out.2.1, R9.out.2.2⟩
  by_cases q2 : p < 1
  · have e1 : rputE T G n t p = 11 := by unfold rputE; rw [if_neg eT, if_neg q1, if_pos (.inl q2)]
    have e2 : rputL T G n t p = (T, G) := by unfold rputL; rw [if_neg (by rw [e1]; decide)]
    rw [e1, e2]
    clear e1 e2 FI OF eT
    go_enter Try.func24, Try.ntmps24
    go_wp2_with (first | rw [hw1] | rw [hw2])
    refine (HA.out _ (Below.refl _ _)).mono ?_
    rintro e w3 ⟨rfl, hb3⟩
    have B3 := Lib.hid hb3
    clear hb3 b0 b1 hw1 hw2
    obtain ⟨x0, x1, o1, o2, b9, f0, f1, y0, y1⟩ := fin2 (up B2.out B3.out B2.out.size) (RZ.out.below B3.out RZ.out.lt) HZ.out (OT.out.below B3.out) (OG.out.below B3.out)
    have d0 := (BX.out.below B3.out BX.out.lt).cell 0
    have d1 := (BX.out.below B3.out BX.out.lt).cell 1
    have R9 := Lib.hid (And.intro o1 (And.intro o2 b9))
    clear o1 o2 b9
    go_wp2_with fail
    refine bodyPost_ret (v := .tuple #[.agg #[.slice At T.length ct, .slice Ag G.length cg], .int .i64 11]) (by simp [results, Try.results24, go_sem, x0, x1]) rfl ⟨_, _, rfl, R9.out.1, R9.out.2.1, R9.out.2.2⟩
  by_cases q3 : 1099511627776 < p
  · have e1 : rputE T G n t p = 11 := by unfold rputE; rw [if_neg eT, if_neg q1, if_pos (.inr q3)]
    have e2 : rputL T G n t p = (T, G) := by unfold rputL; rw [if_neg (by rw [e1]; decide)]
    rw [e1, e2]
    clear e1 e2 FI OF eT
    go_enter Try.func24, Try.ntmps24
    go_wp2_with (first | rw [hw1] | rw [hw2])
    refine (HA.out _ (Below.refl _ _)).mono ?_
    rintro e w3 ⟨rfl, hb3⟩
    have B3 := Lib.hid hb3
    clear hb3 b0 b1 hw1 hw2
    obtain ⟨x0, x1, o1, o2, b9, f0, f1, y0, y1⟩ := fin2 (up B2.out B3.out B2.out.size) (RZ.out.below B3.out RZ.out.lt) HZ.out (OT.out.below B3.out) (OG.out.below B3.out)
    have d0 := (BX.out.below B3.out BX.out.lt).cell 0
    have d1 := (BX.out.below B3.out BX.out.lt).cell 1
    have R9 := Lib.hid (And.intro o1 (And.intro o2 b9))
    clear o1 o2 b9
    go_wp2_with fail
    refine bodyPost_ret (v := .tuple #[.agg #[.slice At T.length ct, .slice Ag G.length cg], .int .i64 11]) (by simp [results, Try.results24, go_sem, x0, x1]) rfl ⟨_, _, rfl, R9.out.1, R9.out.2.1, R9.out.2.2⟩
  have eP : ¬ (p < 1 ∨ 1099511627776 < p) := by omega
  cases q : fi (isG t) G with
  | some j =>
    have e1 : rputE T G n t p = 13 := by unfold rputE; rw [if_neg eT, if_neg q1, if_neg eP, if_pos (by rw [q]; rfl)]
    have e2 : rputL T G n t p = (T, G) := by unfold rputL; rw [if_neg (by rw [e1]; decide)]
    rw [e1, e2]
    rw [q] at FI
    replace FI := Lib.hid (fun W (h : Below w2.heap.size w2 W) => show Calls Try.prog _ _ W (fun e w' => e = .returned (.int .i64 ((j : Int))) ∧ Below W.heap.size W w') from FI.out W h)
    clear q e1 e2 OF eT eP
    go_enter Try.func24, Try.ntmps24
    go_wp2_with (first | rw [hw1] | rw [hw2])
    refine (HA.out _ (Below.refl _ _)).mono ?_
    rintro e w3 ⟨rfl, hb3⟩
    have B3 := Lib.hid hb3
    clear hb3 b0 b1 hw1 hw2
    have d0 := (BX.out.below B3.out BX.out.lt).cell 0
    have d1 := (BX.out.below B3.out BX.out.lt).cell 1
    go_wp2_with fail
    refine (FI.out _ B3.out).mono ?_
    rintro e w4 ⟨rfl, hb4⟩
    have B4 := Lib.hid (up B3.out hb4 B3.out.size)
    clear hb4 d0 d1
    obtain ⟨x0, x1, o1, o2, b9, f0, f1, y0, y1⟩ := fin2 (up B2.out B4.out B2.out.size) (RZ.out.below B4.out RZ.out.lt) HZ.out (OT.out.below B4.out) (OG.out.below B4.out)
    have d0 := (BX.out.below B4.out BX.out.lt).cell 0
    have d1 := (BX.out.below B4.out BX.out.lt).cell 1
    have R9 := Lib.hid (And.intro o1 (And.intro o2 b9))
    clear o1 o2 b9
    go_wp2_with fail
    refine bodyPost_ret (v := .tuple #[.agg #[.slice At T.length ct, .slice Ag G.length cg], .int .i64 13]) (by simp [results, Try.results24, go_sem, x0, x1]) rfl ⟨_, _, rfl, R9.out.1, R9.out.2.1, R9.out.2.2⟩
  | none =>
  have eG : ¬ (fi (isG t) G).isSome = true := by rw [q]; simp
  rw [q] at FI
  replace FI := Lib.hid (fun W (h : Below w2.heap.size w2 W) => show Calls Try.prog _ _ W (fun e w' => e = .returned (.int .i64 (-1)) ∧ Below W.heap.size W w') from FI.out W h)
  clear q
  by_cases q4 : 16 ≤ (ofL G n).length
  · have e1 : rputE T G n t p = 12 := by unfold rputE; rw [if_neg eT, if_neg q1, if_neg eP, if_neg eG, if_pos q4]
    have e2 : rputL T G n t p = (T, G) := by unfold rputL; rw [if_neg (by rw [e1]; decide)]
    rw [e1, e2]
    have z1 : decide (((ofL G n).length : Int) ≥ 16) = true := decide_eq_true (by omega)
    have z2 : decide (16 ≤ ((ofL G n).length : Int)) = true := decide_eq_true (by omega)
    clear e1 e2 eT eP eG
    go_enter Try.func24, Try.ntmps24
    go_wp2_with (first | rw [hw1] | rw [hw2])
    refine (HA.out _ (Below.refl _ _)).mono ?_
    rintro e w3 ⟨rfl, hb3⟩
    have B3 := Lib.hid hb3
    clear hb3 b0 b1 hw1 hw2
    have d0 := (BX.out.below B3.out BX.out.lt).cell 0
    have d1 := (BX.out.below B3.out BX.out.lt).cell 1
    go_wp2_with fail
    refine (FI.out _ B3.out).mono ?_
    rintro e w4 ⟨rfl, hb4⟩
    have B4 := Lib.hid (up B3.out hb4 B3.out.size)
    clear hb4 d0 d1
    have d0 := (BX.out.below B4.out BX.out.lt).cell 0
    have d1 := (BX.out.below B4.out BX.out.lt).cell 1
    go_wp2_with fail
    refine (OF.out _ B4.out).mono ?_
    rintro e w5 ⟨vo, rfl, ho, hb5⟩
    obtain ⟨Ao, co, rfl, -⟩ := ho.open_
    clear ho
    have B5 := Lib.hid (up B4.out hb5 B4.out.size)
    clear hb5 d0 d1
    obtain ⟨x0, x1, o1, o2, b9, f0, f1, y0, y1⟩ := fin2 (up B2.out B5.out B2.out.size) (RZ.out.below B5.out RZ.out.lt) HZ.out (OT.out.below B5.out) (OG.out.below B5.out)
    have d0 := (BX.out.below B5.out BX.out.lt).cell 0
    have d1 := (BX.out.below B5.out BX.out.lt).cell 1
    have R9 := Lib.hid (And.intro o1 (And.intro o2 b9))
    clear o1 o2 b9
    go_wp2_with fail
    refine bodyPost_ret (v := .tuple #[.agg #[.slice At T.length ct, .slice Ag G.length cg], .int .i64 12]) (by simp [results, Try.results24, go_sem, x0, x1]) rfl ⟨_, _, rfl, R9.out.1, R9.out.2.1, R9.out.2.2⟩
  · have e1 : rputE T G n t p = 0 := by unfold rputE; rw [if_neg eT, if_neg q1, if_neg eP, if_neg eG, if_neg q4]
    have e2 : rputL T G n t p = (T, ins kG (n, t, p) G) := by unfold rputL; rw [if_pos e1]
    rw [e1, e2]
    have z1 : decide (((ofL G n).length : Int) ≥ 16) = false := decide_eq_false (by omega)
    have z2 : decide (16 ≤ ((ofL G n).length : Int)) = false := decide_eq_false (by omega)
    clear e1 e2 eT eP eG
    go_enter Try.func24, Try.ntmps24
    go_wp2_with (first | rw [hw1] | rw [hw2])
    refine (HA.out _ (Below.refl _ _)).mono ?_
    rintro e w3 ⟨rfl, hb3⟩
    have B3 := Lib.hid hb3
    clear hb3 b0 b1 hw1 hw2
    have d0 := (BX.out.below B3.out BX.out.lt).cell 0
    have d1 := (BX.out.below B3.out BX.out.lt).cell 1
    go_wp2_with fail
    refine (FI.out _ B3.out).mono ?_
    rintro e w4 ⟨rfl, hb4⟩
    have B4 := Lib.hid (up B3.out hb4 B3.out.size)
    clear hb4 d0 d1
    have d0 := (BX.out.below B4.out BX.out.lt).cell 0
    have d1 := (BX.out.below B4.out BX.out.lt).cell 1
    go_wp2_with fail
    refine (OF.out _ B4.out).mono ?_
    rintro e w5 ⟨vo, rfl, ho, hb5⟩
    obtain ⟨Ao, co, rfl, -⟩ := ho.open_
    clear ho
    have B5 := Lib.hid (up B4.out hb5 B4.out.size)
    clear hb5 d0 d1
    have d0 := (BX.out.below B5.out BX.out.lt).cell 0
    have d1 := (BX.out.below B5.out BX.out.lt).cell 1
    go_wp2_with fail
    go_loopw [10, 11, 12] (fun o d j wr => ∃ (k : Nat) (W : World) (r : List _ × Bool), W = wr ∧ k ≤ G.length ∧ j = .int .i64 k ∧ r = ifold kG (n, t, p) (G.take k) ∧ Own E3 wr w2.heap.size 69 o r.1 ∧ d = .bool r.2 ∧ Below w2.heap.size w2 wr) (fun _ _ j _ => G.length - (intOf j).toNat)
    case atStart => exact ⟨0, _, ([], false), rfl, by omega, rfl, rfl, Own.nil _ _ _, rfl, B5.out⟩
    case round =>
    obtain ⟨k, w4, r, rfl, hk, rfl, hr, ho, rfl, hb⟩ := hrel
    have LEN := Lib.hid (show r.1.length ≤ 1001 by have := ifold_len kG (n, t, p) (G.take k); rw [← hr, List.length_take] at this; omega)
    obtain ⟨r1, r2⟩ := r
    dsimp only at ho LEN
    have O4 := Lib.hid ho
    have B4 := Lib.hid hb
    have c1 := (BX.out.below hb BX.out.lt).cell 1
    by_cases hkl : k < G.length
    · obtain ⟨bb, off, eA, -⟩ := lay3 ((layE OG.out).below hb) hkl
      subst eA
      have EE := Lib.hid (fun W (h : Below w2.heap.size w2 W) => lay3c ((layE OG.out).below h) hkl)
      have CC := Lib.hid (fun W (h : Below w2.heap.size w2 W) => (BX.out.below h BX.out.lt).cell 1)
      have TL := Lib.hid (show r1.length ≤ 1001 from LEN.out)
      have NX := ifold_snoc kG (n, t, p) G hkl
      rw [← hr] at NX
      obtain ⟨e0, e1, e2⟩ := EE.out w4 hb
      clear ho hb hr
      generalize G[k] = dd at *
      obtain ⟨d0, d1, d2⟩ := dd
      dsimp only at *
      cases r2 with
      | true =>
        replace NX := Lib.hid (show ifold kG (n, t, p) (G.take (k + 1)) = (r1 ++ [(d0, d1, d2)], true) from NX.trans (if_neg (fun h => by cases h.1)))
        have hm := made w4 (.cells #[.int .i64 d0, .int .i64 d1, .int .i64 d2] 69)
        have P5 := Lib.hid (O4.out.below hm)
        have Q5 := Lib.hid (up B4.out hm B4.out.size)
        have LY := Lib.hid (Lay.lit (E := E3) (w4.alloc (.cells #[.int .i64 d0, .int .i64 d1, .int .i64 d2] 69)) (d0, d1, d2) 69 w4.heap.size (Blk.new _ _ _))
        clear hm
        generalize hw5 : w4.alloc (.cells #[.int .i64 d0, .int .i64 d1, .int .i64 d2] 69) = y5 at *
        go_wp2_with (first | rw [hw5] | ((with_reducible show wpList _ _ _ (⟨some 72, _, _, _, _, _⟩ :: _) _ _); go_must (refine wp_app TR (c := 1) (n := 1) rfl _ _ rfl rfl rfl rfl rfl P5.out LY.out (by simp; have := TL.out; omega) Q5.out.size ?_)))
        intro v5 w5 own5 gr5
        have B5 := Lib.hid (Q5.out.trans (gr5.below P5.out Q5.out.size))
        rw [show r1 ++ [(d0, d1, d2)] = (ifold kG (n, t, p) (G.take (k + 1))).1 by rw [NX.out]] at own5
        have O5 := Lib.hid own5
        obtain ⟨A5, c5, rfl, -⟩ := own5.open_
        clear own5 gr5 P5 Q5 LY hw5
        clear e0 e1 e2 c1
        go_wp2_with fail
        refine ⟨⟨k + 1, _, _, rfl, by omega, by go_num, rfl, O5.out, by rw [NX.out], B5.out⟩, by simp [intOf]; omega⟩
      | false =>
        by_cases q : t < d1
        · replace NX := Lib.hid (show ifold kG (n, t, p) (G.take (k + 1)) = (r1 ++ [(n, t, p)] ++ [(d0, d1, d2)], true) from NX.trans (if_pos ⟨rfl, q⟩))
          have z1 : decide (d1 > t) = true := decide_eq_true q
          have z2 : decide (t < d1) = true := decide_eq_true q
          have hm := made w4 (.cells #[.int .i64 n, .int .i64 t, .int .i64 p] 69)
          have P5 := Lib.hid (O4.out.below hm)
          have Q5 := Lib.hid (up B4.out hm B4.out.size)
          have LY := Lib.hid (Lay.lit (E := E3) (w4.alloc (.cells #[.int .i64 n, .int .i64 t, .int .i64 p] 69)) (n, t, p) 69 w4.heap.size (Blk.new _ _ _))
          clear hm
          generalize hw5 : w4.alloc (.cells #[.int .i64 n, .int .i64 t, .int .i64 p] 69) = y5 at *
          go_wp2_with (first | rw [hw5] | ((with_reducible show wpList _ _ _ (⟨some 64, _, _, _, _, _⟩ :: _) _ _); go_must (refine wp_app TR (c := 1) (n := 1) rfl _ _ rfl rfl rfl rfl rfl P5.out LY.out (by simp; have := TL.out; omega) Q5.out.size ?_)))
          intro v5 w5 own5 gr5
          have B5 := Lib.hid (Q5.out.trans (gr5.below P5.out Q5.out.size))
          have O5 := Lib.hid own5
          obtain ⟨A5, c5, e5, -⟩ := own5.open_
          rw [show (r1 ++ [((n, t, p) : G3)]).length = r1.length + 1 from by simp] at e5
          subst e5
          clear own5 gr5 P5 Q5 LY hw5
          clear e0 e1 e2 c1
          obtain ⟨e0, e1, e2⟩ := EE.out w5 B5.out
          have c1 := CC.out w5 B5.out
          have hm := made w5 (.cells #[.int .i64 d0, .int .i64 d1, .int .i64 d2] 69)
          have P6 := Lib.hid (O5.out.below hm)
          have Q6 := Lib.hid (up B5.out hm B5.out.size)
          have LY := Lib.hid (Lay.lit (E := E3) (w5.alloc (.cells #[.int .i64 d0, .int .i64 d1, .int .i64 d2] 69)) (d0, d1, d2) 69 w5.heap.size (Blk.new _ _ _))
          clear hm
          generalize hw6 : w5.alloc (.cells #[.int .i64 d0, .int .i64 d1, .int .i64 d2] 69) = y6 at *
          go_wp2_with (first | rw [hw6] | ((with_reducible show wpList _ _ _ (⟨some 72, _, _, _, _, _⟩ :: _) _ _); go_must (refine wp_app TR (c := 1) (n := 1) rfl _ _ rfl rfl rfl rfl rfl P6.out LY.out (by simp; have := TL.out; omega) Q6.out.size ?_)))
          intro v6 w6 own6 gr6
          have B6 := Lib.hid (Q6.out.trans (gr6.below P6.out Q6.out.size))
          first | rw [show r1 ++ [(n, t, p)] ++ [(d0, d1, d2)] = (ifold kG (n, t, p) (G.take (k + 1))).1 by rw [NX.out]] at own6 | rw [show r1 ++ [(n, t, p), (d0, d1, d2)] = (ifold kG (n, t, p) (G.take (k + 1))).1 by rw [NX.out]; simp] at own6
          have O6 := Lib.hid own6
          obtain ⟨A6, c6, rfl, -⟩ := own6.open_
          clear own6 gr6 P6 Q6 LY hw6
          clear e0 e1 e2 c1
          go_wp2_with fail
          refine ⟨⟨k + 1, _, _, rfl, by omega, by go_num, rfl, O6.out, by rw [NX.out], B6.out⟩, by simp [intOf]; omega⟩
        · replace NX := Lib.hid (show ifold kG (n, t, p) (G.take (k + 1)) = (r1 ++ [(d0, d1, d2)], false) from NX.trans (if_neg (fun h => q h.2)))
          have z1 : decide (d1 > t) = false := decide_eq_false q
          have z2 : decide (t < d1) = false := decide_eq_false q
          have hm := made w4 (.cells #[.int .i64 d0, .int .i64 d1, .int .i64 d2] 69)
          have P5 := Lib.hid (O4.out.below hm)
          have Q5 := Lib.hid (up B4.out hm B4.out.size)
          have LY := Lib.hid (Lay.lit (E := E3) (w4.alloc (.cells #[.int .i64 d0, .int .i64 d1, .int .i64 d2] 69)) (d0, d1, d2) 69 w4.heap.size (Blk.new _ _ _))
          clear hm
          generalize hw5 : w4.alloc (.cells #[.int .i64 d0, .int .i64 d1, .int .i64 d2] 69) = y5 at *
          go_wp2_with (first | rw [hw5] | ((with_reducible show wpList _ _ _ (⟨some 72, _, _, _, _, _⟩ :: _) _ _); go_must (refine wp_app TR (c := 1) (n := 1) rfl _ _ rfl rfl rfl rfl rfl P5.out LY.out (by simp; have := TL.out; omega) Q5.out.size ?_)))
          intro v5 w5 own5 gr5
          have B5 := Lib.hid (Q5.out.trans (gr5.below P5.out Q5.out.size))
          rw [show r1 ++ [(d0, d1, d2)] = (ifold kG (n, t, p) (G.take (k + 1))).1 by rw [NX.out]] at own5
          have O5 := Lib.hid own5
          obtain ⟨A5, c5, rfl, -⟩ := own5.open_
          clear own5 gr5 P5 Q5 LY hw5
          clear e0 e1 e2 c1
          go_wp2_with fail
          refine ⟨⟨k + 1, _, _, rfl, by omega, by go_num, rfl, O5.out, by rw [NX.out], B5.out⟩, by simp [intOf]; omega⟩
    · obtain rfl : k = G.length := by omega
      rw [List.take_length] at hr
      have IA := ifin_all kG (n, t, p) G
      rw [← hr] at IA
      have IA := Lib.hid IA
      have TL := Lib.hid (show r1.length ≤ 1001 from LEN.out)
      clear hr
      cases r2 with
      | true =>
        have EQ := Lib.hid (show r1 = ins kG (n, t, p) G from IA.out)
        rw [EQ.out] at ho O4
        obtain ⟨A6, c6, rfl, -⟩ := ho.open_
        have B6 := B4
        have O6 := O4
        clear ho hb O4 B4
        obtain ⟨x0, x1, o1, o2, b9, f0, f1, y0, y1⟩ := fin2 (up B2.out B6.out B2.out.size) (RZ.out.below B6.out RZ.out.lt) HZ.out (OT.out.below B6.out) (O6.out.mono HB.out)
        have d0 := (BX.out.below B6.out BX.out.lt).cell 0
        have d1 := (BX.out.below B6.out BX.out.lt).cell 1
        have R9 := Lib.hid (And.intro o1 (And.intro o2 b9))
        clear o1 o2 b9
        go_wp2_with fail
        refine bodyPost_ret (v := .tuple #[.agg #[.slice At T.length ct, .slice A6 (ins kG (n, t, p) G).length c6], .int .i64 0]) (by simp [results, Try.results24, go_sem, x0, x1]) rfl ⟨_, _, rfl, R9.out.1, R9.out.2.1, R9.out.2.2⟩
      | false =>
        have EQ := Lib.hid (show r1 ++ [(n, t, p)] = ins kG (n, t, p) G from IA.out)
        clear ho hb
        have hm := made w4 (.cells #[.int .i64 n, .int .i64 t, .int .i64 p] 69)
        have P6 := Lib.hid (O4.out.below hm)
        have Q6 := Lib.hid (up B4.out hm B4.out.size)
        have LY := Lib.hid (Lay.lit (E := E3) (w4.alloc (.cells #[.int .i64 n, .int .i64 t, .int .i64 p] 69)) (n, t, p) 69 w4.heap.size (Blk.new _ _ _))
        clear hm
        generalize hw6 : w4.alloc (.cells #[.int .i64 n, .int .i64 t, .int .i64 p] 69) = y6 at *
        go_wp2_with (first | rw [hw6] | ((with_reducible show wpList _ _ _ (⟨some 81, _, _, _, _, _⟩ :: _) _ _); go_must (refine wp_app TR (c := 1) (n := 1) rfl _ _ rfl rfl rfl rfl rfl P6.out LY.out (by simp; have := TL.out; omega) Q6.out.size ?_)))
        intro v6 w6 own6 gr6
        have B6 := Lib.hid (Q6.out.trans (gr6.below P6.out Q6.out.size))
        rw [EQ.out] at own6
        have O6 := Lib.hid own6
        obtain ⟨A6, c6, rfl, -⟩ := own6.open_
        clear own6 gr6 P6 Q6 LY hw6
        obtain ⟨x0, x1, o1, o2, b9, f0, f1, y0, y1⟩ := fin2 (up B2.out B6.out B2.out.size) (RZ.out.below B6.out RZ.out.lt) HZ.out (OT.out.below B6.out) (O6.out.mono HB.out)
        have d0 := (BX.out.below B6.out BX.out.lt).cell 0
        have d1 := (BX.out.below B6.out BX.out.lt).cell 1
        have R9 := Lib.hid (And.intro o1 (And.intro o2 b9))
        clear o1 o2 b9
        go_wp2_with fail
        refine bodyPost_ret (v := .tuple #[.agg #[.slice At T.length ct, .slice A6 (ins kG (n, t, p) G).length c6], .int .i64 0]) (by simp [results, Try.results24, go_sem, x0, x1]) rfl ⟨_, _, rfl, R9.out.1, R9.out.2.1, R9.out.2.2⟩
end Go.Proofs.Ythnjacfpnbhfpaa.st
