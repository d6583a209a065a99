/-
  Contracts of package bid: Bid, where it is refused.
-/
import Derived.Test.YtlklfolpcebahaaAucM
namespace Go.Proofs.Ytlklfolpcebahaa.bb
open Go.RowKit
open base (ret_bool ret_int made up Blk Only Nums)
open rk
set_option linter.unusedVariables false
set_option linter.unusedSimpArgs false

theorem not_takes {w w' : World} {B g : Nat} {L : List D} {nx : Int} (h : DAt w B g L nx) (hb : Below w.heap.size w w') : ¬ TakeS g w' w.heap.size := fun hs => by
  obtain ⟨v, h1, h2⟩ := h.ex
  rcases hs with e | ⟨u, hu, hk⟩
  · have := h1.lt; omega
  · have h3 := (h1.below hb h1.lt).cell 0
    rw [h3] at hu
    simp at hu
    subst hu
    have := (h2.lt' _ hk).2.1
    omega
def BidP (B g : Nat) (s : St) (d : D) (er : Int) (w : World) (e : Ending) (w' : World) : Prop := CloseP B g s d er w e w'
set_option maxRecDepth 100000 in
set_option maxHeartbeats 4000000 in
theorem bid_none (B g : Nat) (L : List D) (nx n who z : Int) (w : World) (hd : DAt w B g L nx) (hl : L.length ≤ 100000) (hB : B ≤ w.heap.size) (hno : fi (isId n) L = none) :
    Calls Try.prog 17 #[.pointer (some ⟨g, 0, none⟩), .int .i64 n, .int .i64 who, .int .i64 z] w (CloseP B g (L, nx) (0, 0, 0, 0, 0, 0, 0) 14 w) := by
  have hm1 := made w (.cells #[.int .i64 0, .int .i64 0, .int .i64 0, .int .i64 0, .int .i64 0, .int .i64 0, .int .i64 0] 35)
  have NB := Lib.hid (numbered_any B g L nx n _ (hd.below hm1) hl)
  rw [hno] at NB
  dsimp only [ix, Option.isSome_none] at NB
  have M1 := Lib.hid hm1
  have HD := Lib.hid hd
  have HB := Lib.hid hB
  have BR := Lib.hid (Blk.new w 35 #[.int .i64 0, .int .i64 0, .int .i64 0, .int .i64 0, .int .i64 0, .int .i64 0, .int .i64 0])
  clear hd hB hm1 hno
  go_enter Try.func17, Try.ntmps17
  go_wp2_with fail
  generalize w.alloc (.cells #[.int .i64 0, .int .i64 0, .int .i64 0, .int .i64 0, .int .i64 0, .int .i64 0, .int .i64 0] 35) = w1 at *
  refine NB.out.mono ?_
  rintro e w2 ⟨rfl, hb2⟩
  have B2 := Lib.hid (up M1.out hb2 M1.out.size)
  have BR2 := Lib.hid (BR.out.below hb2 BR.out.lt)
  have D2 := Lib.hid (HD.out.below B2.out)
  have NS := Lib.hid (not_takes HD.out B2.out)
  clear hb2 NB BR
  have r0 := BR2.out.cell 0
  have f0 := BR2.out.free 0
  have r1 := BR2.out.cell 1
  have f1 := BR2.out.free 1
  have r2 := BR2.out.cell 2
  have f2 := BR2.out.free 2
  have r3 := BR2.out.cell 3
  have f3 := BR2.out.free 3
  have r4 := BR2.out.cell 4
  have f4 := BR2.out.free 4
  have r5 := BR2.out.cell 5
  have f5 := BR2.out.free 5
  have r6 := BR2.out.cell 6
  have f6 := BR2.out.free 6
  go_wp2_with fail
  have K := blk7 BR2.out (.int .i64 0) (.int .i64 0) (.int .i64 0) (.int .i64 0) (.int .i64 0) (.int .i64 0) (.int .i64 0)
  have k0 := K.cell 0
  have k1 := K.cell 1
  have k2 := K.cell 2
  have k3 := K.cell 3
  have k4 := K.cell 4
  have k5 := K.cell 5
  have k6 := K.cell 6
  refine bodyPost_ret (v := .tuple #[(.agg #[.int .i64 0, .int .i64 0, .int .i64 0, .int .i64 0, .int .i64 0, .int .i64 0, .int .i64 0]), .int .i64 14]) (by simp [results, Try.results17, go_sem, k0, k1, k2, k3, k4, k5, k6]) rfl ⟨rfl, D2.out.far7 NS.out _ _ _ _ _ _ _, below7 (r := w.heap.size) (B2.out.mono HB.out) HB.out _ _ _ _ _ _ _, only7 (Tch.of_below B2.out) (Nat.le_refl _) _ _ _ _ _ _ _⟩
set_option maxRecDepth 100000 in
set_option maxHeartbeats 4000000 in
theorem bid_form (B g i : Nat) (L : List D) (nx n who z : Int) (w : World) (hd : DAt w B g L nx) (hl : L.length ≤ 100000) (hB : B ≤ w.heap.size) (ho : fi (isId n) L = some i) (d : D) (hdd : d = L.getD i (0, 0, 0, 0, 0, 0, 0)) (hw : who < 1) :
    Calls Try.prog 17 #[.pointer (some ⟨g, 0, none⟩), .int .i64 n, .int .i64 who, .int .i64 z] w (CloseP B g (L, nx) (0, 0, 0, 0, 0, 0, 0) 10 w) := by
  have hm1 := made w (.cells #[.int .i64 0, .int .i64 0, .int .i64 0, .int .i64 0, .int .i64 0, .int .i64 0, .int .i64 0] 35)
  have NB := Lib.hid (numbered_any B g L nx n _ (hd.below hm1) hl)
  have hil := fi_lt ho
  rw [ho] at NB
  dsimp only [ix, Option.isSome_some] at NB
  have M1 := Lib.hid hm1
  have HD := Lib.hid hd
  have HB := Lib.hid hB
  have BR := Lib.hid (Blk.new w 35 #[.int .i64 0, .int .i64 0, .int .i64 0, .int .i64 0, .int .i64 0, .int .i64 0, .int .i64 0])
  have DV := Lib.hid (show L[i] = d by rw [hdd]; simp [List.getD, hil])

  clear hd hB hm1 ho hdd
  go_enter Try.func17, Try.ntmps17
  go_wp2_with fail
  generalize w.alloc (.cells #[.int .i64 0, .int .i64 0, .int .i64 0, .int .i64 0, .int .i64 0, .int .i64 0, .int .i64 0] 35) = w1 at *
  refine NB.out.mono ?_
  rintro e w2 ⟨rfl, hb2⟩
  have B2 := Lib.hid (up M1.out hb2 M1.out.size)
  have BR2 := Lib.hid (BR.out.below hb2 BR.out.lt)
  have D2 := Lib.hid (HD.out.below B2.out)
  obtain ⟨A, c, hbk, -, hla, -⟩ := D2.out.open_
  have c0 := hbk.cell 0
  obtain ⟨bb, off, rfl, e0, e1, e2, e3, e4, e5, e6⟩ := lay7 hla hil
  rw [DV.out] at e0 e1 e2 e3 e4 e5 e6
  obtain ⟨d0, d1, d2, d3, d4, d5, d6⟩ := d
  dsimp only at e0 e1 e2 e3 e4 e5 e6 
  have hm3 := made w2 (.cells #[.int .i64 d0, .int .i64 d1, .int .i64 d2, .int .i64 d3, .int .i64 d4, .int .i64 d5, .int .i64 d6] 35)
  have B3 := Lib.hid (up B2.out hm3 B2.out.size)
  have BR3 := Lib.hid (BR2.out.below hm3 BR2.out.lt)
  have BX3 := Lib.hid (Blk.new w2 35 #[.int .i64 d0, .int .i64 d1, .int .i64 d2, .int .i64 d3, .int .i64 d4, .int .i64 d5, .int .i64 d6])
  have D3 := Lib.hid (HD.out.below B3.out)
  have NS3 := Lib.hid (not_takes HD.out B3.out)
  clear hb2 NB BR hm3 hbk hla DV
  go_upto_region 5 with fail
  generalize w2.alloc (.cells #[.int .i64 d0, .int .i64 d1, .int .i64 d2, .int .i64 d3, .int .i64 d4, .int .i64 d5, .int .i64 d6] 35) = w3 at *
  clear c0 e0 e1 e2 e3 e4 e5 e6 BR2
  have r0 := BR3.out.cell 0
  have f0 := BR3.out.free 0
  have r1 := BR3.out.cell 1
  have f1 := BR3.out.free 1
  have r2 := BR3.out.cell 2
  have f2 := BR3.out.free 2
  have r3 := BR3.out.cell 3
  have f3 := BR3.out.free 3
  have r4 := BR3.out.cell 4
  have f4 := BR3.out.free 4
  have r5 := BR3.out.cell 5
  have f5 := BR3.out.free 5
  have r6 := BR3.out.cell 6
  have f6 := BR3.out.free 6
  go_wp2_with fail
  have K := blk7 BR3.out (.int .i64 0) (.int .i64 0) (.int .i64 0) (.int .i64 0) (.int .i64 0) (.int .i64 0) (.int .i64 0)
  have k0 := K.cell 0
  have k1 := K.cell 1
  have k2 := K.cell 2
  have k3 := K.cell 3
  have k4 := K.cell 4
  have k5 := K.cell 5
  have k6 := K.cell 6
  refine bodyPost_ret (v := .tuple #[(.agg #[.int .i64 0, .int .i64 0, .int .i64 0, .int .i64 0, .int .i64 0, .int .i64 0, .int .i64 0]), .int .i64 10]) (by simp [results, Try.results17, go_sem, k0, k1, k2, k3, k4, k5, k6]) rfl ⟨rfl, D3.out.far7 NS3.out _ _ _ _ _ _ _, below7 (r := w.heap.size) (B3.out.mono HB.out) HB.out _ _ _ _ _ _ _, only7 (Tch.of_below B3.out) (Nat.le_refl _) _ _ _ _ _ _ _⟩
set_option maxRecDepth 100000 in
set_option maxHeartbeats 4000000 in
theorem bid_own (B g i : Nat) (L : List D) (nx n who z : Int) (w : World) (hd : DAt w B g L nx) (hl : L.length ≤ 100000) (hB : B ≤ w.heap.size) (ho : fi (isId n) L = some i) (d : D) (hdd : d = L.getD i (0, 0, 0, 0, 0, 0, 0)) (hw : 1 ≤ who) (hs : who = d.2.2.1) :
    Calls Try.prog 17 #[.pointer (some ⟨g, 0, none⟩), .int .i64 n, .int .i64 who, .int .i64 z] w (CloseP B g (L, nx) (0, 0, 0, 0, 0, 0, 0) 38 w) := by
  have hm1 := made w (.cells #[.int .i64 0, .int .i64 0, .int .i64 0, .int .i64 0, .int .i64 0, .int .i64 0, .int .i64 0] 35)
  have NB := Lib.hid (numbered_any B g L nx n _ (hd.below hm1) hl)
  have hil := fi_lt ho
  rw [ho] at NB
  dsimp only [ix, Option.isSome_some] at NB
  have M1 := Lib.hid hm1
  have HD := Lib.hid hd
  have HB := Lib.hid hB
  have BR := Lib.hid (Blk.new w 35 #[.int .i64 0, .int .i64 0, .int .i64 0, .int .i64 0, .int .i64 0, .int .i64 0, .int .i64 0])
  have DV := Lib.hid (show L[i] = d by rw [hdd]; simp [List.getD, hil])

  clear hd hB hm1 ho hdd
  go_enter Try.func17, Try.ntmps17
  go_wp2_with fail
  generalize w.alloc (.cells #[.int .i64 0, .int .i64 0, .int .i64 0, .int .i64 0, .int .i64 0, .int .i64 0, .int .i64 0] 35) = w1 at *
  refine NB.out.mono ?_
  rintro e w2 ⟨rfl, hb2⟩
  have B2 := Lib.hid (up M1.out hb2 M1.out.size)
  have BR2 := Lib.hid (BR.out.below hb2 BR.out.lt)
  have D2 := Lib.hid (HD.out.below B2.out)
  obtain ⟨A, c, hbk, -, hla, -⟩ := D2.out.open_
  have c0 := hbk.cell 0
  obtain ⟨bb, off, rfl, e0, e1, e2, e3, e4, e5, e6⟩ := lay7 hla hil
  rw [DV.out] at e0 e1 e2 e3 e4 e5 e6
  obtain ⟨d0, d1, d2, d3, d4, d5, d6⟩ := d
  dsimp only at e0 e1 e2 e3 e4 e5 e6 hs
  have hm3 := made w2 (.cells #[.int .i64 d0, .int .i64 d1, .int .i64 d2, .int .i64 d3, .int .i64 d4, .int .i64 d5, .int .i64 d6] 35)
  have B3 := Lib.hid (up B2.out hm3 B2.out.size)
  have BR3 := Lib.hid (BR2.out.below hm3 BR2.out.lt)
  have BX3 := Lib.hid (Blk.new w2 35 #[.int .i64 d0, .int .i64 d1, .int .i64 d2, .int .i64 d3, .int .i64 d4, .int .i64 d5, .int .i64 d6])
  have D3 := Lib.hid (HD.out.below B3.out)
  have NS3 := Lib.hid (not_takes HD.out B3.out)
  clear hb2 NB BR hm3 hbk hla DV
  go_upto_region 5 with fail
  generalize w2.alloc (.cells #[.int .i64 d0, .int .i64 d1, .int .i64 d2, .int .i64 d3, .int .i64 d4, .int .i64 d5, .int .i64 d6] 35) = w3 at *
  clear c0 e0 e1 e2 e3 e4 e5 e6 BR2
  subst hs
  have x2 := BX3.out.cell 2
  have r0 := BR3.out.cell 0
  have f0 := BR3.out.free 0
  have r1 := BR3.out.cell 1
  have f1 := BR3.out.free 1
  have r2 := BR3.out.cell 2
  have f2 := BR3.out.free 2
  have r3 := BR3.out.cell 3
  have f3 := BR3.out.free 3
  have r4 := BR3.out.cell 4
  have f4 := BR3.out.free 4
  have r5 := BR3.out.cell 5
  have f5 := BR3.out.free 5
  have r6 := BR3.out.cell 6
  have f6 := BR3.out.free 6
  go_wp2_with fail
  have K := blk7 BR3.out (.int .i64 0) (.int .i64 0) (.int .i64 0) (.int .i64 0) (.int .i64 0) (.int .i64 0) (.int .i64 0)
  have k0 := K.cell 0
  have k1 := K.cell 1
  have k2 := K.cell 2
  have k3 := K.cell 3
  have k4 := K.cell 4
  have k5 := K.cell 5
  have k6 := K.cell 6
  refine bodyPost_ret (v := .tuple #[(.agg #[.int .i64 0, .int .i64 0, .int .i64 0, .int .i64 0, .int .i64 0, .int .i64 0, .int .i64 0]), .int .i64 38]) (by simp [results, Try.results17, go_sem, k0, k1, k2, k3, k4, k5, k6]) rfl ⟨rfl, D3.out.far7 NS3.out _ _ _ _ _ _ _, below7 (r := w.heap.size) (B3.out.mono HB.out) HB.out _ _ _ _ _ _ _, only7 (Tch.of_below B3.out) (Nat.le_refl _) _ _ _ _ _ _ _⟩
end Go.Proofs.Ytlklfolpcebahaa.bb
