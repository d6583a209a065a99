/-
  Contracts of package deed: the one with a number, the one of a plot.
-/
import Derived.Test.YtmnkkdalobdabaaDeedA
namespace Go.Proofs.Ytmnkkdalobdabaa.dd
open Go.RowKit
open base (ret_bool ret_int made up Blk Only Nums)
open rk
set_option linter.unusedVariables false
set_option linter.unusedSimpArgs false

theorem blk3 {w : World} {r : Nat} {t : TypeId} {a0 a1 a2 : Value} (h : Blk w r t #[a0, a1, a2]) (v0 v1 v2 : Value) :
    Blk (((w.setCell ⟨r, 0, none⟩ v0).setCell ⟨r, 1, none⟩ v1).setCell ⟨r, 2, none⟩ v2) r t #[v0, v1, v2] := by
  have h7 := ((h.put 0 v0).put 1 v1).put 2 v2
  simp only [List.setIfInBounds_toArray, List.set_cons_zero, List.set_cons_succ] at h7
  exact h7
theorem below3 {B : Nat} {w w' : World} {r : Nat} (h : Below B w w') (hB : B ≤ r) (v0 v1 v2 : Value) :
    Below B w (((w'.setCell ⟨r, 0, none⟩ v0).setCell ⟨r, 1, none⟩ v1).setCell ⟨r, 2, none⟩ v2) :=
  ((h.setCell (p := ⟨r, 0, none⟩) hB _).setCell (p := ⟨r, 1, none⟩) hB _).setCell (p := ⟨r, 2, none⟩) hB _
def dAt (L : List D) : Option Nat → D
  | some i => L.getD i (0, 0, 0)
  | none => (0, 0, 0)
set_option maxHeartbeats 1000000 in
theorem numbered_any (B g : Nat) (L : List D) (nx n : Int) (w : World) (h : DAt w B g L nx) (hl : L.length ≤ 100000) :
    Calls Try.prog 32 #[.pointer (some ⟨g, 0, none⟩), .int .i64 n] w fun e w' => e = .returned (.tuple #[.int .i64 (ix (fi (isId n) L)), .bool (fi (isId n) L).isSome]) ∧ Below w.heap.size w w' := by
  have hm : Below w.heap.size w (w.alloc (.cells #[.int .i64 n] 3)) := made w _
  have FO := Lib.hid (find_id B g L nx n w.heap.size (w.alloc (.cells #[.int .i64 n] 3)) (h.below hm) (Blk.new _ _ _) hl)
  have M := Lib.hid hm
  clear h hm
  generalize fi (isId n) L = o at *
  go_enter Try.func32, Try.ntmps32
  go_wp2_with fail
  refine FO.out.mono ?_
  rintro e w' ⟨rfl, hb⟩
  have B := Lib.hid (up M.out hb M.out.size)
  clear hb FO M
  go_wp2_with fail
  go_ret2
  exact ⟨rfl, B.out⟩

set_option maxRecDepth 100000 in
set_option maxHeartbeats 2000000 in
theorem of_any (B g : Nat) (L : List D) (nx n : Int) (w : World) (h : DAt w B g L nx) (hl : L.length ≤ 100000) :
    Calls Try.prog 16 #[.pointer (some ⟨g, 0, none⟩), .int .i64 n] w fun e w' => e = .returned (.tuple #[(.agg #[.int .i64 ((dAt L (fi (isPlot n) L)).1), .int .i64 ((dAt L (fi (isPlot n) L)).2.1), .int .i64 ((dAt L (fi (isPlot n) L)).2.2)]), .bool (fi (isPlot n) L).isSome]) ∧ Below w.heap.size w w' := by
  have hm1 : Below w.heap.size w (w.alloc (.cells #[.int .i64 n] 3)) := made w _
  have hm2 : Below w.heap.size w ((w.alloc (.cells #[.int .i64 n] 3)).alloc (.cells #[.int .i64 0, .int .i64 0, .int .i64 0] 40)) := hm1.alloc (by rw [asz]; omega) _
  have br : Blk ((w.alloc (.cells #[.int .i64 n] 3)).alloc (.cells #[.int .i64 0, .int .i64 0, .int .i64 0] 40)) (w.heap.size + 1) 40 #[.int .i64 0, .int .i64 0, .int .i64 0] := by
    have := Blk.new (w.alloc (.cells #[.int .i64 n] 3)) 40 #[.int .i64 0, .int .i64 0, .int .i64 0]
    rw [asz] at this
    exact this
  have bb : Blk ((w.alloc (.cells #[.int .i64 n] 3)).alloc (.cells #[.int .i64 0, .int .i64 0, .int .i64 0] 40)) w.heap.size 3 #[.int .i64 n] := (Blk.new _ _ _).alloc _
  have FN := Lib.hid (find_plot B g L nx n w.heap.size _ (h.below hm2) bb hl)
  have H2 := Lib.hid hm2
  have HD := Lib.hid (h.below hm2)
  have BR := Lib.hid br
  clear h hm1 hm2 br bb
  have FL := Lib.hid (fun i (h : fi (isPlot n) L = some i) => fi_lt h)
  generalize fi (isPlot n) L = o at *
  go_enter Try.func16, Try.ntmps16
  go_wp2_with fail
  refine FN.out.mono ?_
  rintro e w2 ⟨rfl, hb2⟩
  have BR2 := Lib.hid (BR.out.below hb2 BR.out.lt)
  have B2 := Lib.hid (up H2.out hb2 H2.out.size)
  have HD2 := Lib.hid (HD.out.below hb2)
  clear hb2 FN HD BR
  have r0 := BR2.out.cell 0
  have r1 := BR2.out.cell 1
  have r2 := BR2.out.cell 2
  have f0 := BR2.out.free 0
  have f1 := BR2.out.free 1
  have f2 := BR2.out.free 2
  cases o with
  | none =>
    dsimp only [ix, Option.isSome_none, dAt]
    go_wp2_with fail
    have K := blk3 BR2.out (.int .i64 0) (.int .i64 0) (.int .i64 0)
    have g0 := K.cell 0
    have g1 := K.cell 1
    have g2 := K.cell 2
    refine bodyPost_ret (v := .tuple #[(.agg #[.int .i64 0, .int .i64 0, .int .i64 0]), .bool false]) (by simp [results, Try.results16, go_sem, g0, g1, g2]) rfl ⟨rfl, below3 B2.out (Nat.le_succ _) _ _ _⟩
  | some i =>
    have hil := FL.out i rfl
    obtain ⟨A, c, hb, _, hla, hle, hmx⟩ := HD2.out.open_
    obtain ⟨bb, off, rfl, e0, e1, e2⟩ := lay3 hla hil
    have c0 := hb.cell 0
    have DV := Lib.hid (show dAt L (some i) = L[i] by simp [dAt, List.getD, hil])
    clear hb hla
    generalize L[i] = d at *
    obtain ⟨d0, d1, d2⟩ := d
    dsimp only [ix, Option.isSome_some] at e0 e1 e2 ⊢
    go_wp2_with fail
    have K := blk3 BR2.out (.int .i64 d0) (.int .i64 d1) (.int .i64 d2)
    have g0 := K.cell 0
    have g1 := K.cell 1
    have g2 := K.cell 2
    refine bodyPost_ret (v := .tuple #[(.agg #[.int .i64 d0, .int .i64 d1, .int .i64 d2]), .bool true]) (by simp [results, Try.results16, go_sem, g0, g1, g2]) rfl ⟨by first | (rw [DV.out]; rfl) | rw [DV.out], below3 B2.out (Nat.le_succ _) _ _ _⟩

set_option maxRecDepth 100000 in
set_option maxHeartbeats 2000000 in
theorem get_any (B g : Nat) (L : List D) (nx n : Int) (w : World) (h : DAt w B g L nx) (hl : L.length ≤ 100000) :
    Calls Try.prog 14 #[.pointer (some ⟨g, 0, none⟩), .int .i64 n] w fun e w' => e = .returned (.tuple #[(.agg #[.int .i64 ((dAt L (fi (isId n) L)).1), .int .i64 ((dAt L (fi (isId n) L)).2.1), .int .i64 ((dAt L (fi (isId n) L)).2.2)]), .int .i64 (if (fi (isId n) L).isSome then 0 else 14)]) ∧ Below w.heap.size w w' := by
  have hm1 : Below w.heap.size w (w.alloc (.cells #[.int .i64 0, .int .i64 0, .int .i64 0] 40)) := made w _
  have NB := Lib.hid (numbered_any B g L nx n _ (h.below hm1) hl)
  have H2 := Lib.hid hm1
  have HD := Lib.hid (h.below hm1)
  have BR := Lib.hid (Blk.new w 40 #[.int .i64 0, .int .i64 0, .int .i64 0])
  clear h hm1
  have FL := Lib.hid (fun i (h : fi (isId n) L = some i) => fi_lt h)
  generalize fi (isId n) L = o at *
  go_enter Try.func14, Try.ntmps14
  go_wp2_with fail
  refine NB.out.mono ?_
  rintro e w2 ⟨rfl, hb2⟩
  have BR2 := Lib.hid (BR.out.below hb2 BR.out.lt)
  have B2 := Lib.hid (up H2.out hb2 H2.out.size)
  have HD2 := Lib.hid (HD.out.below hb2)
  clear hb2 NB HD BR
  have r0 := BR2.out.cell 0
  have r1 := BR2.out.cell 1
  have r2 := BR2.out.cell 2
  have f0 := BR2.out.free 0
  have f1 := BR2.out.free 1
  have f2 := BR2.out.free 2
  cases o with
  | none =>
    dsimp only [ix, Option.isSome_none, dAt]
    go_wp2_with fail
    have K := blk3 BR2.out (.int .i64 0) (.int .i64 0) (.int .i64 0)
    have g0 := K.cell 0
    have g1 := K.cell 1
    have g2 := K.cell 2
    refine bodyPost_ret (v := .tuple #[(.agg #[.int .i64 0, .int .i64 0, .int .i64 0]), .int .i64 14]) (by simp [results, Try.results14, go_sem, g0, g1, g2]) rfl ⟨rfl, below3 B2.out (Nat.le_refl _) _ _ _⟩
  | some i =>
    have hil := FL.out i rfl
    obtain ⟨A, c, hb, _, hla, hle, hmx⟩ := HD2.out.open_
    obtain ⟨bb, off, rfl, e0, e1, e2⟩ := lay3 hla hil
    have c0 := hb.cell 0
    have DV := Lib.hid (show dAt L (some i) = L[i] by simp [dAt, List.getD, hil])
    clear hb hla
    generalize L[i] = d at *
    obtain ⟨d0, d1, d2⟩ := d
    dsimp only [ix, Option.isSome_some] at e0 e1 e2 ⊢
    go_wp2_with fail
    have K := blk3 BR2.out (.int .i64 d0) (.int .i64 d1) (.int .i64 d2)
    have g0 := K.cell 0
    have g1 := K.cell 1
    have g2 := K.cell 2
    refine bodyPost_ret (v := .tuple #[(.agg #[.int .i64 d0, .int .i64 d1, .int .i64 d2]), .int .i64 0]) (by simp [results, Try.results14, go_sem, g0, g1, g2]) rfl ⟨by first | (rw [DV.out]; done) | (rw [DV.out]; rfl), below3 B2.out (Nat.le_refl _) _ _ _⟩

set_option maxRecDepth 100000 in
set_option maxHeartbeats 2000000 in
theorem held_any (B g : Nat) (L : List D) (nx n : Int) (w : World) (h : DAt w B g L nx) (hl : L.length ≤ 100000) :
    Calls Try.prog 18 #[.pointer (some ⟨g, 0, none⟩), .int .i64 n] w fun e w' => ∃ v, e = .returned v ∧ Own E1 w' w.heap.size 3 v (held L n) ∧ Below w.heap.size w w' := by
  obtain ⟨A, c, hb, _, hla, hle, hmx⟩ := h.open_
  have c0 := hb.cell 0
  have HA := Lib.hid hla
  clear h hb hla
  go_enter Try.func18, Try.ntmps18
  go_wp2_with fail
  go_loopw [5, 13] (fun o i wr => ∃ (k : Nat) (W : World), W = wr ∧ k ≤ L.length ∧ i = .int .i64 k ∧ Own E1 wr w.heap.size 3 o (held (L.take k) n) ∧ Below w.heap.size w wr) (fun _ i _ => L.length - (intOf i).toNat)
  case atStart => exact ⟨0, _, rfl, by omega, rfl, Own.nil _ _ _, Below.refl _ _⟩
  case round =>
    obtain ⟨k, w2, rfl, hk, rfl, ho, hb2⟩ := hrel
    have B2 := Lib.hid hb2
    have O2 := Lib.hid ho
    by_cases hkl : k < L.length
    · obtain ⟨b, off, rfl, e0, e1, e2⟩ := lay3 (HA.out.below hb2) hkl
      have SN := Lib.hid (held_snoc L n hkl)
      have SL := Lib.hid (show (held (L.take k) n).length ≤ 100000 by have := held_le (L.take k) n; rw [List.length_take] at this; omega)
      generalize L[k] = d at *
      obtain ⟨d0, d1, d2⟩ := d
      dsimp only at e0 e1 e2 SN
      have hm3 := made w2 (.cells #[.int .i64 d0, .int .i64 d1, .int .i64 d2] 40)
      have B3 := Lib.hid (up B2.out hm3 B2.out.size)
      have O3 := Lib.hid (O2.out.below hm3)
      have bx : Blk (w2.alloc (.cells #[.int .i64 d0, .int .i64 d1, .int .i64 d2] 40)) w2.heap.size 40 #[.int .i64 d0, .int .i64 d1, .int .i64 d2] := Blk.new _ _ _
      have b0 := bx.cell 0
      have b2 := bx.cell 2
      clear hb2 ho hm3 bx
      cases q : (d2 == n) with
      | true =>
        rw [q, if_pos rfl] at SN
        generalize hw3 : w2.alloc (.cells #[.int .i64 d0, .int .i64 d1, .int .i64 d2] 40) = w3 at *
        have O4 := Lib.hid (O3.out.below (made w3 (.cells #[.int .i64 d0] 3)))
        have LY := Lib.hid (Lay.lit (E := E1) (w3.alloc (.cells #[.int .i64 d0] 3)) d0 3 w3.heap.size (Blk.new _ _ _))
        have B4 := Lib.hid (up B3.out (made w3 (.cells #[.int .i64 d0] 3)) B3.out.size)
        go_wp2_with (first | rw [hw3] | ((with_reducible show wpList _ _ _ (⟨some 25, _, _, _, _, _⟩ :: _) _ _); go_must (refine wp_app TI (c := 1) (n := 1) rfl _ _ rfl rfl rfl rfl rfl O4.out LY.out (by simp; have := SL.out; omega) B4.out.size ?_)))
        intro v2 w5 own2 grew2
        have B5 := Lib.hid (B4.out.trans (grew2.below O4.out B4.out.size))
        have O5 := Lib.hid own2
        obtain ⟨A2, c2, rfl, -⟩ := O5.out.open_
        clear own2 grew2 O4 LY B4 e0 e1 e2 b0 b2
        go_wp2_with fail
        refine ⟨⟨k + 1, _, rfl, by omega, by go_num, by rw [SN.out]; exact O5.out, B5.out⟩, by simp [intOf]; omega⟩
      | false =>
        rw [q, if_neg (by simp)] at SN
        generalize hw3 : w2.alloc (.cells #[.int .i64 d0, .int .i64 d1, .int .i64 d2] 40) = w3 at *
        go_wp2_with (rw [hw3])
        refine ⟨⟨k + 1, _, rfl, by omega, by go_num, by rw [SN.out]; exact O3.out, B3.out⟩, by simp [intOf]; omega⟩
    · obtain rfl : k = L.length := by omega
      rw [List.take_length] at ho
      clear hb2 O2
      obtain ⟨A2, c2, rfl, -⟩ := ho.open_
      go_wp2_with fail
      go_ret
      exact ⟨_, rfl, ho, B2.out⟩
theorem held_short (L : List D) (n : Int) : (held L n).length ≤ L.length := held_le L n
set_option maxHeartbeats 1000000 in
theorem may_any (B g : Nat) (L : List D) (nx n : Int) (w : World) (h : DAt w B g L nx) (hl : L.length ≤ 100000) :
    Calls Try.prog 9 #[.pointer (some ⟨g, 0, none⟩), .int .i64 n] w fun e w' => e = .returned (.int .i64 (may L n)) ∧ Below w.heap.size w w' := by
  have HE := Lib.hid (held_any B g L nx n w h hl)
  have MA := Lib.hid (show may L n = if n < 1 then 10 else if 3 ≤ (held L n).length then 34 else 0 from rfl)
  have HS := held_short L n
  generalize may L n = m at *
  clear h
  by_cases q : n < 1
  · rw [if_pos q] at MA
    go_enter Try.func9, Try.ntmps9
    go_wp2_with fail
    go_ret
    exact ⟨ret_int MA.out.symm, Below.refl _ _⟩
  · rw [if_neg q] at MA
    go_enter Try.func9, Try.ntmps9
    go_wp2_with fail
    refine HE.out.mono ?_
    rintro e w2 ⟨v, rfl, ho, hb2⟩
    obtain ⟨A2, c2, rfl, -, h1, h2⟩ := ho.open_
    have B2 := Lib.hid hb2
    clear ho hb2 HE
    generalize (held L n).length = hn at *
    by_cases q3 : 3 ≤ hn
    · rw [if_pos q3] at MA
      go_wp2_with fail
      go_ret
      exact ⟨ret_int MA.out.symm, B2.out⟩
    · rw [if_neg q3] at MA
      go_wp2_with fail
      go_ret
      exact ⟨ret_int MA.out.symm, B2.out⟩
end Go.Proofs.Ytmnkkdalobdabaa.dd
