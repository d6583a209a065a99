/-
  Contracts of package bid: Bid, where the amount is refused.
-/
import Derived.Test.YtlklfolpcebahaaAucP
namespace Go.Proofs.Ytlklfolpcebahaa.bb
open Go.RowKit
open base (ret_bool ret_int made up Blk Only Nums)
open rk
set_option linter.unusedVariables false
set_option linter.unusedSimpArgs false

set_option maxRecDepth 100000 in
set_option maxHeartbeats 4000000 in
theorem bid_range (B g i : Nat) (L : List D) (nx n who z : Int) (w : World) (hd : DAt w B g L nx) (hl : L.length ≤ 100000) (hB : B ≤ w.heap.size) (ho : fi (isId n) L = some i) (d : D) (hdd : d = L.getD i (0, 0, 0, 0, 0, 0, 0)) (hw : 1 ≤ who) (hs : who ≠ d.2.2.1) (hz : ¬ amt z) :
    Calls Try.prog 17 #[.pointer (some ⟨g, 0, none⟩), .int .i64 n, .int .i64 who, .int .i64 z] w (CloseP B g (L, nx) (0, 0, 0, 0, 0, 0, 0) 11 w) := by
  have hm1 := made w (.cells #[.int .i64 0, .int .i64 0, .int .i64 0, .int .i64 0, .int .i64 0, .int .i64 0, .int .i64 0] 35)
  have NB := Lib.hid (numbered_any B g L nx n _ (hd.below hm1) hl)
  have hil := fi_lt ho
  rw [ho] at NB
  dsimp only [ix, Option.isSome_some] at NB
  have M1 := Lib.hid hm1
  have HD := Lib.hid hd
  have HB := Lib.hid hB
  have BR := Lib.hid (Blk.new w 35 #[.int .i64 0, .int .i64 0, .int .i64 0, .int .i64 0, .int .i64 0, .int .i64 0, .int .i64 0])
  have DV := Lib.hid (show L[i] = d by rw [hdd]; simp [List.getD, hil])
  have RA := Lib.hid (fun ws => bd.right_any z ws)
  rw [isNR hz] at RA
  clear hd hB hm1 ho hdd
  go_enter Try.func17, Try.ntmps17
  go_wp2_with fail
  generalize w.alloc (.cells #[.int .i64 0, .int .i64 0, .int .i64 0, .int .i64 0, .int .i64 0, .int .i64 0, .int .i64 0] 35) = w1 at *
  refine NB.out.mono ?_
  rintro e w2 ⟨rfl, hb2⟩
  have B2 := Lib.hid (up M1.out hb2 M1.out.size)
  have BR2 := Lib.hid (BR.out.below hb2 BR.out.lt)
  have D2 := Lib.hid (HD.out.below B2.out)
  obtain ⟨A, c, hbk, -, hla, -⟩ := D2.out.open_
  have c0 := hbk.cell 0
  obtain ⟨bb, off, rfl, e0, e1, e2, e3, e4, e5, e6⟩ := lay7 hla hil
  rw [DV.out] at e0 e1 e2 e3 e4 e5 e6
  obtain ⟨d0, d1, d2, d3, d4, d5, d6⟩ := d
  dsimp only at e0 e1 e2 e3 e4 e5 e6 hs
  have hm3 := made w2 (.cells #[.int .i64 d0, .int .i64 d1, .int .i64 d2, .int .i64 d3, .int .i64 d4, .int .i64 d5, .int .i64 d6] 35)
  have B3 := Lib.hid (up B2.out hm3 B2.out.size)
  have BR3 := Lib.hid (BR2.out.below hm3 BR2.out.lt)
  have BX3 := Lib.hid (Blk.new w2 35 #[.int .i64 d0, .int .i64 d1, .int .i64 d2, .int .i64 d3, .int .i64 d4, .int .i64 d5, .int .i64 d6])
  have D3 := Lib.hid (HD.out.below B3.out)
  have NS3 := Lib.hid (not_takes HD.out B3.out)
  clear hb2 NB BR hm3 hbk hla DV
  go_upto_region 5 with fail
  generalize w2.alloc (.cells #[.int .i64 d0, .int .i64 d1, .int .i64 d2, .int .i64 d3, .int .i64 d4, .int .i64 d5, .int .i64 d6] 35) = w3 at *
  clear c0 e0 e1 e2 e3 e4 e5 e6 BR2
  have x2 := BX3.out.cell 2
  have q2 : (who == d2) = false := by simpa using hs
  clear hs hz
  go_wp2_with fail
  refine (RA.out _).mono ?_
  rintro e w4 ⟨rfl, rfl⟩
  clear x2
  have r0 := BR3.out.cell 0
  have f0 := BR3.out.free 0
  have r1 := BR3.out.cell 1
  have f1 := BR3.out.free 1
  have r2 := BR3.out.cell 2
  have f2 := BR3.out.free 2
  have r3 := BR3.out.cell 3
  have f3 := BR3.out.free 3
  have r4 := BR3.out.cell 4
  have f4 := BR3.out.free 4
  have r5 := BR3.out.cell 5
  have f5 := BR3.out.free 5
  have r6 := BR3.out.cell 6
  have f6 := BR3.out.free 6
  go_wp2_with fail
  have K := blk7 BR3.out (.int .i64 0) (.int .i64 0) (.int .i64 0) (.int .i64 0) (.int .i64 0) (.int .i64 0) (.int .i64 0)
  have k0 := K.cell 0
  have k1 := K.cell 1
  have k2 := K.cell 2
  have k3 := K.cell 3
  have k4 := K.cell 4
  have k5 := K.cell 5
  have k6 := K.cell 6
  refine bodyPost_ret (v := .tuple #[(.agg #[.int .i64 0, .int .i64 0, .int .i64 0, .int .i64 0, .int .i64 0, .int .i64 0, .int .i64 0]), .int .i64 11]) (by simp [results, Try.results17, go_sem, k0, k1, k2, k3, k4, k5, k6]) rfl ⟨rfl, D3.out.far7 NS3.out _ _ _ _ _ _ _, below7 (r := w.heap.size) (B3.out.mono HB.out) HB.out _ _ _ _ _ _ _, only7 (Tch.of_below B3.out) (Nat.le_refl _) _ _ _ _ _ _ _⟩
set_option maxRecDepth 100000 in
set_option maxHeartbeats 4000000 in
theorem bid_low (B g i : Nat) (L : List D) (nx n who z : Int) (w : World) (hd : DAt w B g L nx) (hl : L.length ≤ 100000) (hB : B ≤ w.heap.size) (ho : fi (isId n) L = some i) (d : D) (hdd : d = L.getD i (0, 0, 0, 0, 0, 0, 0)) (hw : 1 ≤ who) (hs : who ≠ d.2.2.1) (hz : amt z) (hb : 0 ≤ best d ∧ best d ≤ 1099511627776) (hlo : z < bd.askOf d.2.2.2.1 (best d) d.2.2.2.2.2.1) :
    Calls Try.prog 17 #[.pointer (some ⟨g, 0, none⟩), .int .i64 n, .int .i64 who, .int .i64 z] w (CloseP B g (L, nx) (0, 0, 0, 0, 0, 0, 0) 36 w) := by
  have hm1 := made w (.cells #[.int .i64 0, .int .i64 0, .int .i64 0, .int .i64 0, .int .i64 0, .int .i64 0, .int .i64 0] 35)
  have NB := Lib.hid (numbered_any B g L nx n _ (hd.below hm1) hl)
  have hil := fi_lt ho
  rw [ho] at NB
  dsimp only [ix, Option.isSome_some] at NB
  have M1 := Lib.hid hm1
  have HD := Lib.hid hd
  have HB := Lib.hid hB
  have BR := Lib.hid (Blk.new w 35 #[.int .i64 0, .int .i64 0, .int .i64 0, .int .i64 0, .int .i64 0, .int .i64 0, .int .i64 0])
  have DV := Lib.hid (show L[i] = d by rw [hdd]; simp [List.getD, hil])
  have RA := Lib.hid (fun ws => bd.right_any z ws)
  rw [isR hz] at RA
  clear hd hB hm1 ho hdd
  go_enter Try.func17, Try.ntmps17
  go_wp2_with fail
  generalize w.alloc (.cells #[.int .i64 0, .int .i64 0, .int .i64 0, .int .i64 0, .int .i64 0, .int .i64 0, .int .i64 0] 35) = w1 at *
  refine NB.out.mono ?_
  rintro e w2 ⟨rfl, hb2⟩
  have B2 := Lib.hid (up M1.out hb2 M1.out.size)
  have BR2 := Lib.hid (BR.out.below hb2 BR.out.lt)
  have D2 := Lib.hid (HD.out.below B2.out)
  obtain ⟨A, c, hbk, -, hla, -⟩ := D2.out.open_
  have c0 := hbk.cell 0
  obtain ⟨bb, off, rfl, e0, e1, e2, e3, e4, e5, e6⟩ := lay7 hla hil
  rw [DV.out] at e0 e1 e2 e3 e4 e5 e6
  obtain ⟨d0, d1, d2, d3, d4, d5, d6⟩ := d
  dsimp only [best] at e0 e1 e2 e3 e4 e5 e6 hs hb hlo
  have hm3 := made w2 (.cells #[.int .i64 d0, .int .i64 d1, .int .i64 d2, .int .i64 d3, .int .i64 d4, .int .i64 d5, .int .i64 d6] 35)
  have B3 := Lib.hid (up B2.out hm3 B2.out.size)
  have BR3 := Lib.hid (BR2.out.below hm3 BR2.out.lt)
  have BX3 := Lib.hid (Blk.new w2 35 #[.int .i64 d0, .int .i64 d1, .int .i64 d2, .int .i64 d3, .int .i64 d4, .int .i64 d5, .int .i64 d6])
  have D3 := Lib.hid (HD.out.below B3.out)
  have NS3 := Lib.hid (not_takes HD.out B3.out)
  clear hb2 NB BR hm3 hbk hla DV
  go_upto_region 5 with fail
  generalize w2.alloc (.cells #[.int .i64 d0, .int .i64 d1, .int .i64 d2, .int .i64 d3, .int .i64 d4, .int .i64 d5, .int .i64 d6] 35) = w3 at *
  clear c0 e0 e1 e2 e3 e4 e5 e6 BR2
  have AK := Lib.hid (fun ws => asks_any d0 d1 d2 d3 d4 d5 d6 ws hb)
  generalize bd.askOf d3 d4 d5 = ak at *
  have x0 := BX3.out.cell 0
  have x1 := BX3.out.cell 1
  have x2 := BX3.out.cell 2
  have x3 := BX3.out.cell 3
  have x4 := BX3.out.cell 4
  have x5 := BX3.out.cell 5
  have x6 := BX3.out.cell 6
  have q2 : (who == d2) = false := by simpa using hs
  clear hs hz hb
  go_wp2_with fail
  refine (RA.out _).mono ?_
  rintro e w4 ⟨rfl, rfl⟩
  go_wp2_with fail
  refine (AK.out _).mono ?_
  rintro e w5 ⟨rfl, hb5⟩
  have B5 := Lib.hid (up B3.out hb5 B3.out.size)
  have BR5 := Lib.hid (BR3.out.below hb5 BR3.out.lt)
  have D5 := Lib.hid (HD.out.below B5.out)
  have NS5 := Lib.hid (not_takes HD.out B5.out)
  clear hb5 BR3 x0 x1 x2 x3 x4 x5 x6
  have r0 := BR5.out.cell 0
  have f0 := BR5.out.free 0
  have r1 := BR5.out.cell 1
  have f1 := BR5.out.free 1
  have r2 := BR5.out.cell 2
  have f2 := BR5.out.free 2
  have r3 := BR5.out.cell 3
  have f3 := BR5.out.free 3
  have r4 := BR5.out.cell 4
  have f4 := BR5.out.free 4
  have r5 := BR5.out.cell 5
  have f5 := BR5.out.free 5
  have r6 := BR5.out.cell 6
  have f6 := BR5.out.free 6
  go_wp2_with fail
  have K := blk7 BR5.out (.int .i64 0) (.int .i64 0) (.int .i64 0) (.int .i64 0) (.int .i64 0) (.int .i64 0) (.int .i64 0)
  have k0 := K.cell 0
  have k1 := K.cell 1
  have k2 := K.cell 2
  have k3 := K.cell 3
  have k4 := K.cell 4
  have k5 := K.cell 5
  have k6 := K.cell 6
  refine bodyPost_ret (v := .tuple #[(.agg #[.int .i64 0, .int .i64 0, .int .i64 0, .int .i64 0, .int .i64 0, .int .i64 0, .int .i64 0]), .int .i64 36]) (by simp [results, Try.results17, go_sem, k0, k1, k2, k3, k4, k5, k6]) rfl ⟨rfl, D5.out.far7 NS5.out _ _ _ _ _ _ _, below7 (r := w.heap.size) (B5.out.mono HB.out) HB.out _ _ _ _ _ _ _, only7 (Tch.of_below B5.out) (Nat.le_refl _) _ _ _ _ _ _ _⟩
end Go.Proofs.Ytlklfolpcebahaa.bb
