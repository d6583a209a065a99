/-
  Contracts of the reference's stalls: Close.
-/
import Derived.Test.YthnjacfpnbhfpaaStP
namespace Go.Proofs.Ythnjacfpnbhfpaa.st
open Go.RowKit
open base (ret_bool ret_int made up Blk Only)
open rk mk
set_option linter.unusedVariables false
set_option linter.unusedSimpArgs false
variable {B : Nat} {w w1 w2 w5 w' : World}

def woT (T : List C2) (n : Int) : List C2 := T.filter (fun d => !(d.1 == n))
theorem woT_snoc (T : List C2) (n : Int) {k : Nat} (hk : k < T.length) : woT (T.take (k + 1)) n = if T[k].1 = n then woT (T.take k) n else woT (T.take k) n ++ [T[k]] := by
  unfold woT
  rw [List.take_succ_eq_append_getElem hk, List.filter_append]
  by_cases e : T[k].1 = n
  · rw [if_pos e]; simp [e]
  · rw [if_neg e]; simp [e]
theorem woT_len (T : List C2) (n : Int) : (woT T n).length ≤ T.length := List.length_filter_le _ _
def woH (G : List G3) (n : Int) : List G3 := G.filter (fun d => !(d.1 == n))
theorem woH_snoc (G : List G3) (n : Int) {k : Nat} (hk : k < G.length) : woH (G.take (k + 1)) n = if G[k].1 = n then woH (G.take k) n else woH (G.take k) n ++ [G[k]] := by
  unfold woH
  rw [List.take_succ_eq_append_getElem hk, List.filter_append]
  by_cases e : G[k].1 = n
  · rw [if_pos e]; simp [e]
  · rw [if_neg e]; simp [e]
theorem woH_len (G : List G3) (n : Int) : (woH G n).length ≤ G.length := List.length_filter_le _ _
def rcloseE (T : List C2) (n : Int) : Int := if (fi (isT n) T).isSome then 0 else 14
def rcloseL (T : List C2) (G : List G3) (n : Int) : LS := if (fi (isT n) T).isSome then (woT T n, woH G n) else (T, G)
set_option maxRecDepth 100000 in
set_option maxHeartbeats 8000000 in
theorem rclose_any (At : Option Addr) (ct : Nat) (T : List C2) (Ag : Option Addr) (cg : Nat) (G : List G3) (n : Int) (w : World) (oT : Own E2 w B 71 (.slice At T.length ct) T) (oG : Own E3 w B 69 (.slice Ag G.length cg) G) (hl : T.length ≤ 1000) (hg : G.length ≤ 1000) (hB : B ≤ w.heap.size) :
    Calls Try.prog 32 #[.agg #[.slice At T.length ct, .slice Ag G.length cg], .int .i64 n] w (NewS B w (rcloseL T G n) (rcloseE T n)) := by
  obtain ⟨w1, w2, hw1, hw2, BX, RZ, B2, hz⟩ := boxes w (.slice At T.length ct) (.slice Ag G.length cg)
  have OT := Lib.hid (oT.below (B2.mono (Nat.le_refl _)))
  have OG := Lib.hid (oG.below (B2.mono (Nat.le_refl _)))
  have HB := Lib.hid (Nat.le_trans hB B2.size)
  replace BX := Lib.hid BX
  replace RZ := Lib.hid RZ
  replace B2 := Lib.hid B2
  have HZ := Lib.hid hz
  have b0 := BX.out.cell 0
  have b1 := BX.out.cell 1
  clear oT oG hz hB
  have FI := Lib.hid (rhas_any At ct T Ag G.length cg n w2 (layE OT.out) (by omega))
  cases q : fi (isT n) T with
  | none =>
    rw [show rcloseE T n = 14 by unfold rcloseE; rw [q]; rfl, show rcloseL T G n = (T, G) by unfold rcloseL; rw [q]; rfl]
    rw [q] at FI
    replace FI := Lib.hid (show Calls Try.prog _ _ w2 (fun e w' => e = .returned (.int .i64 (-1)) ∧ Below w2.heap.size w2 w') from FI.out)
    clear q
    go_enter Try.func32, Try.ntmps32
    go_wp2_with (first | rw [hw1] | rw [hw2])
    refine FI.out.mono ?_
    rintro e w3 ⟨rfl, hb3⟩
    have B3 := Lib.hid hb3
    clear hb3 b0 b1 hw1 hw2
    obtain ⟨x0, x1, o1, o2, b9, f0, f1, y0, y1⟩ := fin2 (up B2.out B3.out B2.out.size) (RZ.out.below B3.out RZ.out.lt) HZ.out (OT.out.below B3.out) (OG.out.below B3.out)
    have d0 := (BX.out.below B3.out BX.out.lt).cell 0
    have d1 := (BX.out.below B3.out BX.out.lt).cell 1
    have R9 := Lib.hid (And.intro o1 (And.intro o2 b9))
    clear o1 o2 b9
    go_wp2_with fail
    refine bodyPost_ret (v := .tuple #[.agg #[.slice At T.length ct, .slice Ag G.length cg], .int .i64 14]) (by simp [results, Try.results32, go_sem, x0, x1]) rfl ⟨_, _, rfl, R9.out.1, R9.out.2.1, R9.out.2.2⟩
  | some i =>
    rw [show rcloseE T n = 0 by unfold rcloseE; rw [q]; rfl, show rcloseL T G n = (woT T n, woH G n) by unfold rcloseL; rw [q]; rfl]
    rw [q] at FI
    replace FI := Lib.hid (show Calls Try.prog _ _ w2 (fun e w' => e = .returned (.int .i64 (i : Int)) ∧ Below w2.heap.size w2 w') from FI.out)
    have iz : decide ((i : Int) < 0) = false := decide_eq_false (by omega)
    clear q
    go_enter Try.func32, Try.ntmps32
    go_wp2_with (first | rw [hw1] | rw [hw2])
    refine FI.out.mono ?_
    rintro e w3 ⟨rfl, hb3⟩
    have B3 := Lib.hid hb3
    clear hb3 b0 b1 hw1 hw2
    go_wp2_with fail
    clear iz
    go_loopw [6, 7] (fun o j wr => ∃ (k : Nat) (W : World), W = wr ∧ k ≤ T.length ∧ j = .int .i64 k ∧ Own E2 wr w3.heap.size 71 o (woT (T.take k) n) ∧ Below w3.heap.size w3 wr ∧ Below w2.heap.size w2 wr) (fun _ j _ => T.length - (intOf j).toNat)
    case atStart => exact ⟨0, _, rfl, by omega, rfl, Own.nil _ _ _, Below.refl _ _, B3.out⟩
    case round =>
    obtain ⟨k, w4, rfl, hk, rfl, ho, hbb, hb⟩ := hrel
    have O4 := Lib.hid ho
    have B4 := Lib.hid hbb
    have D4 := Lib.hid hb
    have c1 := (BX.out.below hb BX.out.lt).cell 0
    by_cases hkl : k < T.length
    · obtain ⟨bb, off, eA, -⟩ := lay2 ((layE OT.out).below hb) hkl
      subst eA
      obtain ⟨e0, e1⟩ := lay2c ((layE OT.out).below hb) hkl
      have TK := Lib.hid (woT_snoc T n hkl)
      have TL := Lib.hid (show (woT (T.take k) n).length ≤ 1000 by have := woT_len (T.take k) n; rw [List.length_take] at this; omega)
      clear ho hb hbb
      generalize T[k] = d at *
      obtain ⟨d0, d1⟩ := d
      dsimp only at *
      by_cases qk : d0 = n
      · rw [if_pos qk] at TK
        have z1 : (d0 != n) = false := by simp; omega
        have z2 : (d0 == n) = true := by simp; omega
        clear qk
        go_wp2_with fail
        refine ⟨⟨k + 1, _, rfl, by omega, by go_num, by rw [TK.out]; exact O4.out, B4.out, D4.out⟩, by simp [intOf]; omega⟩
      · rw [if_neg qk] at TK
        have z1 : (d0 != n) = true := by simp; omega
        have z2 : (d0 == n) = false := by simp; omega
        clear qk
        have BZ := Lib.hid (show w2.heap.size ≤ w3.heap.size from B3.out.size)
        have hm := made w4 (.cells #[.int .i64 d0, .int .i64 d1] 71)
        have P5 := Lib.hid (O4.out.below hm)
        have Q5 := Lib.hid (up B4.out hm B4.out.size)
        have LY := Lib.hid (Lay.lit (E := E2) (w4.alloc (.cells #[.int .i64 d0, .int .i64 d1] 71)) (d0, d1) 71 w4.heap.size (Blk.new _ _ _))
        clear hm
        generalize hw5 : w4.alloc (.cells #[.int .i64 d0, .int .i64 d1] 71) = y5 at *
        go_wp2_with (first | rw [hw5] | ((with_reducible show wpList _ _ _ (⟨some 37, _, _, _, _, _⟩ :: _) _ _); go_must (refine wp_app TT (c := 1) (n := 1) rfl _ _ rfl rfl rfl rfl rfl P5.out LY.out (by simp; have := TL.out; omega) Q5.out.size ?_)))
        intro v5 w5 own5 gr5
        have B5 := Lib.hid (Q5.out.trans (gr5.below P5.out Q5.out.size))
        rw [← TK.out] at own5
        have O5 := Lib.hid own5
        obtain ⟨A5, c5, rfl, -⟩ := own5.open_
        clear own5 gr5 P5 Q5 LY hw5
        clear e0 e1 c1
        have D5 := Lib.hid (show Below w2.heap.size w2 w5 from B3.out.trans (B5.out.mono BZ.out))
        go_wp2_with fail
        refine ⟨⟨k + 1, _, rfl, by omega, by go_num, O5.out, B5.out, D5.out⟩, by simp [intOf]; omega⟩
    · obtain rfl : k = T.length := by omega
      rw [List.take_length] at ho O4
      obtain ⟨AT, cT, rfl, -⟩ := ho.open_
      have OA := O4
      have BA := D4
      clear ho hb hbb O4 B4 D4
      go_wp2_with fail
      clear c1
      generalize hwA : w4 = wA at *
      go_loopw [8, 9] (fun o j wr => ∃ (k : Nat) (W : World), W = wr ∧ k ≤ G.length ∧ j = .int .i64 k ∧ Own E3 wr wA.heap.size 69 o (woH (G.take k) n) ∧ Below wA.heap.size wA wr ∧ Below w2.heap.size w2 wr) (fun _ j _ => G.length - (intOf j).toNat)
      case atStart => exact ⟨0, _, rfl, by omega, rfl, Own.nil _ _ _, Below.refl _ _, BA.out⟩
      case round =>
      obtain ⟨k, w4, rfl, hk, rfl, ho, hbb, hb⟩ := hrel
      have O4 := Lib.hid ho
      have B4 := Lib.hid hbb
      have D4 := Lib.hid hb
      have c1 := (BX.out.below hb BX.out.lt).cell 1
      by_cases hkl : k < G.length
      · obtain ⟨bb, off, eA, -⟩ := lay3 ((layE OG.out).below hb) hkl
        subst eA
        obtain ⟨e0, e1, e2⟩ := lay3c ((layE OG.out).below hb) hkl
        have TK := Lib.hid (woH_snoc G n hkl)
        have TL := Lib.hid (show (woH (G.take k) n).length ≤ 1000 by have := woH_len (G.take k) n; rw [List.length_take] at this; omega)
        clear ho hb hbb
        generalize G[k] = d at *
        obtain ⟨d0, d1, d2⟩ := d
        dsimp only at *
        by_cases qk : d0 = n
        · rw [if_pos qk] at TK
          have z1 : (d0 != n) = false := by simp; omega
          have z2 : (d0 == n) = true := by simp; omega
          clear qk
          go_wp2_with fail
          refine ⟨⟨k + 1, _, rfl, by omega, by go_num, by rw [TK.out]; exact O4.out, B4.out, D4.out⟩, by simp [intOf]; omega⟩
        · rw [if_neg qk] at TK
          have z1 : (d0 != n) = true := by simp; omega
          have z2 : (d0 == n) = false := by simp; omega
          clear qk
          have BZ := Lib.hid (show w2.heap.size ≤ wA.heap.size from BA.out.size)
          have hm := made w4 (.cells #[.int .i64 d0, .int .i64 d1, .int .i64 d2] 69)
          have P5 := Lib.hid (O4.out.below hm)
          have Q5 := Lib.hid (up B4.out hm B4.out.size)
          have LY := Lib.hid (Lay.lit (E := E3) (w4.alloc (.cells #[.int .i64 d0, .int .i64 d1, .int .i64 d2] 69)) (d0, d1, d2) 69 w4.heap.size (Blk.new _ _ _))
          clear hm
          generalize hw5 : w4.alloc (.cells #[.int .i64 d0, .int .i64 d1, .int .i64 d2] 69) = y5 at *
          go_wp2_with (first | rw [hw5] | ((with_reducible show wpList _ _ _ (⟨some 60, _, _, _, _, _⟩ :: _) _ _); go_must (refine wp_app TR (c := 1) (n := 1) rfl _ _ rfl rfl rfl rfl rfl P5.out LY.out (by simp; have := TL.out; omega) Q5.out.size ?_)))
          intro v5 w5 own5 gr5
          have B5 := Lib.hid (Q5.out.trans (gr5.below P5.out Q5.out.size))
          rw [← TK.out] at own5
          have O5 := Lib.hid own5
          obtain ⟨A5, c5, rfl, -⟩ := own5.open_
          clear own5 gr5 P5 Q5 LY hw5
          clear e0 e1 e2 c1
          have D5 := Lib.hid (show Below w2.heap.size w2 w5 from BA.out.trans (B5.out.mono BZ.out))
          go_wp2_with fail
          refine ⟨⟨k + 1, _, rfl, by omega, by go_num, O5.out, B5.out, D5.out⟩, by simp [intOf]; omega⟩
      · obtain rfl : k = G.length := by omega
        rw [List.take_length] at ho O4
        obtain ⟨AG, cG, rfl, -⟩ := ho.open_
        obtain ⟨x0, x1, o1, o2, b9, f0, f1, y0, y1⟩ := fin2 (up B2.out hb B2.out.size) (RZ.out.below hb RZ.out.lt) HZ.out ((OA.out.below hbb).mono (Nat.le_trans HB.out B3.out.size)) (ho.mono (Nat.le_trans HB.out BA.out.size))
        have R9 := Lib.hid (And.intro o1 (And.intro o2 b9))
        clear ho hb hbb o1 o2 b9
        go_wp2_with fail
        refine bodyPost_ret (v := .tuple #[.agg #[.slice AT (woT T n).length cT, .slice AG (woH G n).length cG], .int .i64 0]) (by simp [results, Try.results32, go_sem, x0, x1]) rfl ⟨_, _, rfl, R9.out.1, R9.out.2.1, R9.out.2.2⟩
end Go.Proofs.Ythnjacfpnbhfpaa.st
