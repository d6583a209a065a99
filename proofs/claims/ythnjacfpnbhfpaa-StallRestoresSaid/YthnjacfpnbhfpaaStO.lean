/-
  Contracts of the reference's stalls: Take, Open, Put, Close.
-/
import Derived.Test.YthnjacfpnbhfpaaStN
namespace Go.Proofs.Ythnjacfpnbhfpaa.st
open Go.RowKit
open base (ret_bool ret_int made up Blk Only)
open rk mk
set_option linter.unusedVariables false
set_option linter.unusedSimpArgs false
variable {B : Nat} {w w1 w2 w5 w' : World}

theorem lay2c {b off : Nat} {L : List C2} (h : Lay E2 w (some ⟨b, off, none⟩) L) {k : Nat} (hk : k < L.length) : w.cell? ⟨b, off + k * 2, none⟩ = some (.int .i64 L[k].1) ∧ w.cell? ⟨b, off + k * 2 + 1, none⟩ = some (.int .i64 L[k].2) := by
  obtain ⟨b', off', e, h1, h2⟩ := lay2 h hk
  injection e with e
  injection e with e1 e2
  subst e1 e2
  exact ⟨h1, h2⟩
theorem lay3c {b off : Nat} {L : List G3} (h : Lay E3 w (some ⟨b, off, none⟩) L) {k : Nat} (hk : k < L.length) : w.cell? ⟨b, off + k * 3, none⟩ = some (.int .i64 L[k].1) ∧ w.cell? ⟨b, off + k * 3 + 1, none⟩ = some (.int .i64 L[k].2.1) ∧ w.cell? ⟨b, off + k * 3 + 2, none⟩ = some (.int .i64 L[k].2.2) := by
  obtain ⟨b', off', e, h1, h2, h3⟩ := lay3 h hk
  injection e with e
  injection e with e1 e2
  subst e1 e2
  exact ⟨h1, h2, h3⟩
def woG (G : List G3) (t : Int) : List G3 := G.filter (fun d => !(d.2.1 == t))
theorem woG_snoc (G : List G3) (t : Int) {k : Nat} (hk : k < G.length) : woG (G.take (k + 1)) t = if G[k].2.1 = t then woG (G.take k) t else woG (G.take k) t ++ [G[k]] := by
  unfold woG
  rw [List.take_succ_eq_append_getElem hk, List.filter_append]
  by_cases e : G[k].2.1 = t
  · rw [if_pos e]; simp [e]
  · rw [if_neg e]; simp [e]
theorem woG_len (G : List G3) (t : Int) : (woG G t).length ≤ G.length := List.length_filter_le _ _
def rtakeE (G : List G3) (t : Int) : Int := if (fi (isG t) G).isSome then 0 else 14
def rtakeL (T : List C2) (G : List G3) (t : Int) : LS := if (fi (isG t) G).isSome then (T, woG G t) else (T, G)
set_option maxRecDepth 100000 in
set_option maxHeartbeats 8000000 in
theorem rtake_any (At : Option Addr) (ct : Nat) (T : List C2) (Ag : Option Addr) (cg : Nat) (G : List G3) (t : Int) (w : World) (oT : Own E2 w B 71 (.slice At T.length ct) T) (oG : Own E3 w B 69 (.slice Ag G.length cg) G) (hl : T.length ≤ 1000) (hg : G.length ≤ 1000) (hB : B ≤ w.heap.size) (hr : Rising kG G) :
    Calls Try.prog 30 #[.agg #[.slice At T.length ct, .slice Ag G.length cg], .int .i64 t] w (NewS B w (rtakeL T G t) (rtakeE G t)) := by
  obtain ⟨w1, w2, hw1, hw2, BX, RZ, B2, hz⟩ := boxes w (.slice At T.length ct) (.slice Ag G.length cg)
  have OT := Lib.hid (oT.below (B2.mono (Nat.le_refl _)))
  have OG := Lib.hid (oG.below (B2.mono (Nat.le_refl _)))
  have HB := Lib.hid (Nat.le_trans hB B2.size)
  replace BX := Lib.hid BX
  replace RZ := Lib.hid RZ
  replace B2 := Lib.hid B2
  have HZ := Lib.hid hz
  have b0 := BX.out.cell 0
  have b1 := BX.out.cell 1
  clear oT oG hz hB
  have FI := Lib.hid (rfind_any Ag cg G At T.length ct t w2 (layE OG.out) (by omega))
  cases q : fi (isG t) G with
  | none =>
    rw [show rtakeE G t = 14 by unfold rtakeE; rw [q]; rfl, show rtakeL T G t = (T, G) by unfold rtakeL; rw [q]; rfl]
    rw [q] at FI
    replace FI := Lib.hid (show Calls Try.prog _ _ w2 (fun e w' => e = .returned (.int .i64 (-1)) ∧ Below w2.heap.size w2 w') from FI.out)
    clear q
    go_enter Try.func30, Try.ntmps30
    go_wp2_with (first | rw [hw1] | rw [hw2])
    refine FI.out.mono ?_
    rintro e w3 ⟨rfl, hb3⟩
    have B3 := Lib.hid hb3
    clear hb3 b0 b1 hw1 hw2
    obtain ⟨x0, x1, o1, o2, b9, f0, f1, y0, y1⟩ := fin2 (up B2.out B3.out B2.out.size) (RZ.out.below B3.out RZ.out.lt) HZ.out (OT.out.below B3.out) (OG.out.below B3.out)
    have d0 := (BX.out.below B3.out BX.out.lt).cell 0
    have d1 := (BX.out.below B3.out BX.out.lt).cell 1
    have R9 := Lib.hid (And.intro o1 (And.intro o2 b9))
    clear o1 o2 b9
    go_wp2_with fail
    refine bodyPost_ret (v := .tuple #[.agg #[.slice At T.length ct, .slice Ag G.length cg], .int .i64 14]) (by simp [results, Try.results30, go_sem, x0, x1]) rfl ⟨_, _, rfl, R9.out.1, R9.out.2.1, R9.out.2.2⟩
  | some i =>
    rw [show rtakeE G t = 0 by unfold rtakeE; rw [q]; rfl, show rtakeL T G t = (T, woG G t) by unfold rtakeL; rw [q]; rfl]
    obtain ⟨hi, hp⟩ := fi_lt q
    have HI := Lib.hid (fun (k : Nat) (hk : k < G.length) => show (k = i ↔ G[k].2.1 = t) from by
      have e1 : G[i].2.1 = t := by simpa [isG] using hp
      constructor
      · rintro rfl; exact e1
      · intro e2; exact hr.at_ hk hi (e2.trans e1.symm))
    rw [q] at FI
    replace FI := Lib.hid (show Calls Try.prog _ _ w2 (fun e w' => e = .returned (.int .i64 (i : Int)) ∧ Below w2.heap.size w2 w') from FI.out)
    have hi1000 : i < 1000 := by omega
    clear q hp hr
    go_enter Try.func30, Try.ntmps30
    go_wp2_with (first | rw [hw1] | rw [hw2])
    refine FI.out.mono ?_
    rintro e w3 ⟨rfl, hb3⟩
    have B3 := Lib.hid hb3
    clear hb3 b0 b1 hw1 hw2
    go_wp2_with fail
    go_loopw [7, 8] (fun o j wr => ∃ (k : Nat) (W : World), W = wr ∧ k ≤ G.length ∧ j = .int .i64 k ∧ Own E3 wr w2.heap.size 69 o (woG (G.take k) t) ∧ Below w2.heap.size w2 wr) (fun _ j _ => G.length - (intOf j).toNat)
    case atStart => exact ⟨0, _, rfl, by omega, rfl, Own.nil _ _ _, B3.out⟩
    case round =>
    obtain ⟨k, w4, rfl, hk, rfl, ho, hb⟩ := hrel
    have O4 := Lib.hid ho
    have B4 := Lib.hid hb
    have c1 := (BX.out.below hb BX.out.lt).cell 1
    by_cases hkl : k < G.length
    · obtain ⟨bb, off, eA, -⟩ := lay3 ((layE OG.out).below hb) hkl
      subst eA
      obtain ⟨e0, e1, e2⟩ := lay3c ((layE OG.out).below hb) hkl
      have TK := Lib.hid (woG_snoc G t hkl)
      have TL := Lib.hid (show (woG (G.take k) t).length ≤ 1000 by have := woG_len (G.take k) t; rw [List.length_take] at this; omega)
      have HK := Lib.hid (HI.out k hkl)
      clear ho hb
      by_cases qk : k = i
      · rw [if_pos (HK.out.1 qk)] at TK
        have z1 : ((k : Int) != (i : Int)) = false := by simp; omega
        have z2 : ((k : Int) == (i : Int)) = true := by simp; omega
        clear qk e0 e1 e2
        go_wp2_with fail
        refine ⟨⟨k + 1, _, rfl, by omega, by go_num, by rw [TK.out]; exact O4.out, B4.out⟩, by simp [intOf]; omega⟩
      · rw [if_neg (fun e => qk (HK.out.2 e))] at TK
        have z1 : ((k : Int) != (i : Int)) = true := by simp; omega
        have z2 : ((k : Int) == (i : Int)) = false := by simp; omega
        clear qk HK
        generalize G[k] = d at *
        obtain ⟨d0, d1, d2⟩ := d
        dsimp only at *
        have hm := made w4 (.cells #[.int .i64 d0, .int .i64 d1, .int .i64 d2] 69)
        have P5 := Lib.hid (O4.out.below hm)
        have Q5 := Lib.hid (up B4.out hm B4.out.size)
        have LY := Lib.hid (Lay.lit (E := E3) (w4.alloc (.cells #[.int .i64 d0, .int .i64 d1, .int .i64 d2] 69)) (d0, d1, d2) 69 w4.heap.size (Blk.new _ _ _))
        clear hm
        generalize hw5 : w4.alloc (.cells #[.int .i64 d0, .int .i64 d1, .int .i64 d2] 69) = y5 at *
        go_wp2_with (first | rw [hw5] | ((with_reducible show wpList _ _ _ (⟨some 32, _, _, _, _, _⟩ :: _) _ _); go_must (refine wp_app TR (c := 1) (n := 1) rfl _ _ rfl rfl rfl rfl rfl P5.out LY.out (by simp; have := TL.out; omega) Q5.out.size ?_)))
        intro v5 w5 own5 gr5
        have B5 := Lib.hid (Q5.out.trans (gr5.below P5.out Q5.out.size))
        rw [← TK.out] at own5
        have O5 := Lib.hid own5
        obtain ⟨A5, c5, rfl, -⟩ := own5.open_
        clear own5 gr5 P5 Q5 LY hw5
        clear e0 e1 e2 c1
        go_wp2_with fail
        refine ⟨⟨k + 1, _, rfl, by omega, by go_num, O5.out, B5.out⟩, by simp [intOf]; omega⟩
    · obtain rfl : k = G.length := by omega
      rw [List.take_length] at ho O4
      obtain ⟨A5, c5, rfl, -⟩ := ho.open_
      have c0 := (BX.out.below hb BX.out.lt).cell 0
      obtain ⟨x0, x1, o1, o2, b9, f0, f1, y0, y1⟩ := fin2 (up B2.out hb B2.out.size) (RZ.out.below hb RZ.out.lt) HZ.out (OT.out.below hb) (O4.out.mono HB.out)
      have R9 := Lib.hid (And.intro o1 (And.intro o2 b9))
      clear ho hb o1 o2 b9
      go_wp2_with fail
      refine bodyPost_ret (v := .tuple #[.agg #[.slice At T.length ct, .slice A5 (woG G t).length c5], .int .i64 0]) (by simp [results, Try.results30, go_sem, x0, x1]) rfl ⟨_, _, rfl, R9.out.1, R9.out.2.1, R9.out.2.2⟩
end Go.Proofs.Ythnjacfpnbhfpaa.st
