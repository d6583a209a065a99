/-
  Contracts of package bid: the one with a number, the one of a deed.
-/
import Derived.Test.YtlklfolpcebahaaAucA
namespace Go.Proofs.Ytlklfolpcebahaa.bb
open Go.RowKit
open base (ret_bool ret_int made up Blk Only Nums)
open rk
set_option linter.unusedVariables false
set_option linter.unusedSimpArgs false

theorem blk7 {w : World} {r : Nat} {t : TypeId} {a0 a1 a2 a3 a4 a5 a6 : Value} (h : Blk w r t #[a0, a1, a2, a3, a4, a5, a6]) (v0 v1 v2 v3 v4 v5 v6 : Value) :
    Blk (((((((w.setCell ⟨r, 0, none⟩ v0).setCell ⟨r, 1, none⟩ v1).setCell ⟨r, 2, none⟩ v2).setCell ⟨r, 3, none⟩ v3).setCell ⟨r, 4, none⟩ v4).setCell ⟨r, 5, none⟩ v5).setCell ⟨r, 6, none⟩ v6) r t #[v0, v1, v2, v3, v4, v5, v6] := by
  have h7 := ((((((h.put 0 v0).put 1 v1).put 2 v2).put 3 v3).put 4 v4).put 5 v5).put 6 v6
  simp only [List.setIfInBounds_toArray, List.set_cons_zero, List.set_cons_succ] at h7
  exact h7
theorem below7 {B : Nat} {w w' : World} {r : Nat} (h : Below B w w') (hB : B ≤ r) (v0 v1 v2 v3 v4 v5 v6 : Value) :
    Below B w (((((((w'.setCell ⟨r, 0, none⟩ v0).setCell ⟨r, 1, none⟩ v1).setCell ⟨r, 2, none⟩ v2).setCell ⟨r, 3, none⟩ v3).setCell ⟨r, 4, none⟩ v4).setCell ⟨r, 5, none⟩ v5).setCell ⟨r, 6, none⟩ v6) :=
  (((((((h.setCell (p := ⟨r, 0, none⟩) hB _).setCell (p := ⟨r, 1, none⟩) hB _).setCell (p := ⟨r, 2, none⟩) hB _).setCell (p := ⟨r, 3, none⟩) hB _).setCell (p := ⟨r, 4, none⟩) hB _).setCell (p := ⟨r, 5, none⟩) hB _).setCell (p := ⟨r, 6, none⟩) hB _)
def dAt (L : List D) : Option Nat → D
  | some i => L.getD i (0, 0, 0, 0, 0, 0, 0)
  | none => (0, 0, 0, 0, 0, 0, 0)
set_option maxHeartbeats 1000000 in
theorem numbered_any (B g : Nat) (L : List D) (nx n : Int) (w : World) (h : DAt w B g L nx) (hl : L.length ≤ 100000) :
    Calls Try.prog 29 #[.pointer (some ⟨g, 0, none⟩), .int .i64 n] w fun e w' => e = .returned (.tuple #[.int .i64 (ix (fi (isId n) L)), .bool (fi (isId n) L).isSome]) ∧ Below w.heap.size w w' := by
  have hm : Below w.heap.size w (w.alloc (.cells #[.int .i64 n] 3)) := made w _
  have FO := Lib.hid (find_id B g L nx n w.heap.size (w.alloc (.cells #[.int .i64 n] 3)) (h.below hm) (Blk.new _ _ _) hl)
  have M := Lib.hid hm
  clear h hm
  generalize fi (isId n) L = o at *
  go_enter Try.func29, Try.ntmps29
  go_wp2_with fail
  refine FO.out.mono ?_
  rintro e w' ⟨rfl, hb⟩
  have B := Lib.hid (up M.out hb M.out.size)
  clear hb FO M
  go_wp2_with fail
  go_ret2
  exact ⟨rfl, B.out⟩

set_option maxRecDepth 100000 in
set_option maxHeartbeats 2000000 in
theorem of_any (B g : Nat) (L : List D) (nx n : Int) (w : World) (h : DAt w B g L nx) (hl : L.length ≤ 100000) :
    Calls Try.prog 12 #[.pointer (some ⟨g, 0, none⟩), .int .i64 n] w fun e w' => e = .returned (.tuple #[(.agg #[.int .i64 ((dAt L (fi (isDeed n) L)).1), .int .i64 ((dAt L (fi (isDeed n) L)).2.1), .int .i64 ((dAt L (fi (isDeed n) L)).2.2.1), .int .i64 ((dAt L (fi (isDeed n) L)).2.2.2.1), .int .i64 ((dAt L (fi (isDeed n) L)).2.2.2.2.1), .int .i64 ((dAt L (fi (isDeed n) L)).2.2.2.2.2.1), .int .i64 ((dAt L (fi (isDeed n) L)).2.2.2.2.2.2)]), .bool (fi (isDeed n) L).isSome]) ∧ Below w.heap.size w w' := by
  have hm1 : Below w.heap.size w (w.alloc (.cells #[.int .i64 n] 3)) := made w _
  have hm2 : Below w.heap.size w ((w.alloc (.cells #[.int .i64 n] 3)).alloc (.cells #[.int .i64 0, .int .i64 0, .int .i64 0, .int .i64 0, .int .i64 0, .int .i64 0, .int .i64 0] 35)) := hm1.alloc (by rw [asz]; omega) _
  have br : Blk ((w.alloc (.cells #[.int .i64 n] 3)).alloc (.cells #[.int .i64 0, .int .i64 0, .int .i64 0, .int .i64 0, .int .i64 0, .int .i64 0, .int .i64 0] 35)) (w.heap.size + 1) 35 #[.int .i64 0, .int .i64 0, .int .i64 0, .int .i64 0, .int .i64 0, .int .i64 0, .int .i64 0] := by
    have := Blk.new (w.alloc (.cells #[.int .i64 n] 3)) 35 #[.int .i64 0, .int .i64 0, .int .i64 0, .int .i64 0, .int .i64 0, .int .i64 0, .int .i64 0]
    rw [asz] at this
    exact this
  have bb : Blk ((w.alloc (.cells #[.int .i64 n] 3)).alloc (.cells #[.int .i64 0, .int .i64 0, .int .i64 0, .int .i64 0, .int .i64 0, .int .i64 0, .int .i64 0] 35)) w.heap.size 3 #[.int .i64 n] := (Blk.new _ _ _).alloc _
  have FN := Lib.hid (find_deed B g L nx n w.heap.size _ (h.below hm2) bb hl)
  have H2 := Lib.hid hm2
  have HD := Lib.hid (h.below hm2)
  have BR := Lib.hid br
  clear h hm1 hm2 br bb
  have FL := Lib.hid (fun i (h : fi (isDeed n) L = some i) => fi_lt h)
  generalize fi (isDeed n) L = o at *
  go_enter Try.func12, Try.ntmps12
  go_wp2_with fail
  refine FN.out.mono ?_
  rintro e w2 ⟨rfl, hb2⟩
  have BR2 := Lib.hid (BR.out.below hb2 BR.out.lt)
  have B2 := Lib.hid (up H2.out hb2 H2.out.size)
  have HD2 := Lib.hid (HD.out.below hb2)
  clear hb2 FN HD BR
  have r0 := BR2.out.cell 0
  have r1 := BR2.out.cell 1
  have r2 := BR2.out.cell 2
  have r3 := BR2.out.cell 3
  have r4 := BR2.out.cell 4
  have r5 := BR2.out.cell 5
  have r6 := BR2.out.cell 6
  have f0 := BR2.out.free 0
  have f1 := BR2.out.free 1
  have f2 := BR2.out.free 2
  have f3 := BR2.out.free 3
  have f4 := BR2.out.free 4
  have f5 := BR2.out.free 5
  have f6 := BR2.out.free 6
  cases o with
  | none =>
    dsimp only [ix, Option.isSome_none, dAt]
    go_wp2_with fail
    have K := blk7 BR2.out (.int .i64 0) (.int .i64 0) (.int .i64 0) (.int .i64 0) (.int .i64 0) (.int .i64 0) (.int .i64 0)
    have g0 := K.cell 0
    have g1 := K.cell 1
    have g2 := K.cell 2
    have g3 := K.cell 3
    have g4 := K.cell 4
    have g5 := K.cell 5
    have g6 := K.cell 6
    refine bodyPost_ret (v := .tuple #[(.agg #[.int .i64 0, .int .i64 0, .int .i64 0, .int .i64 0, .int .i64 0, .int .i64 0, .int .i64 0]), .bool false]) (by simp [results, Try.results12, go_sem, g0, g1, g2, g3, g4, g5, g6]) rfl ⟨rfl, below7 B2.out (Nat.le_succ _) _ _ _ _ _ _ _⟩
  | some i =>
    have hil := FL.out i rfl
    obtain ⟨A, c, hb, _, hla, hle, hmx⟩ := HD2.out.open_
    obtain ⟨bb, off, rfl, e0, e1, e2, e3, e4, e5, e6⟩ := lay7 hla hil
    have c0 := hb.cell 0
    have DV := Lib.hid (show dAt L (some i) = L[i] by simp [dAt, List.getD, hil])
    clear hb hla
    generalize L[i] = d at *
    obtain ⟨d0, d1, d2, d3, d4, d5, d6⟩ := d
    dsimp only [ix, Option.isSome_some] at e0 e1 e2 e3 e4 e5 e6 ⊢
    go_wp2_with fail
    have K := blk7 BR2.out (.int .i64 d0) (.int .i64 d1) (.int .i64 d2) (.int .i64 d3) (.int .i64 d4) (.int .i64 d5) (.int .i64 d6)
    have g0 := K.cell 0
    have g1 := K.cell 1
    have g2 := K.cell 2
    have g3 := K.cell 3
    have g4 := K.cell 4
    have g5 := K.cell 5
    have g6 := K.cell 6
    refine bodyPost_ret (v := .tuple #[(.agg #[.int .i64 d0, .int .i64 d1, .int .i64 d2, .int .i64 d3, .int .i64 d4, .int .i64 d5, .int .i64 d6]), .bool true]) (by simp [results, Try.results12, go_sem, g0, g1, g2, g3, g4, g5, g6]) rfl ⟨by first | (rw [DV.out]; rfl) | rw [DV.out], below7 B2.out (Nat.le_succ _) _ _ _ _ _ _ _⟩

set_option maxRecDepth 100000 in
set_option maxHeartbeats 2000000 in
theorem get_any (B g : Nat) (L : List D) (nx n : Int) (w : World) (h : DAt w B g L nx) (hl : L.length ≤ 100000) :
    Calls Try.prog 11 #[.pointer (some ⟨g, 0, none⟩), .int .i64 n] w fun e w' => e = .returned (.tuple #[(.agg #[.int .i64 ((dAt L (fi (isId n) L)).1), .int .i64 ((dAt L (fi (isId n) L)).2.1), .int .i64 ((dAt L (fi (isId n) L)).2.2.1), .int .i64 ((dAt L (fi (isId n) L)).2.2.2.1), .int .i64 ((dAt L (fi (isId n) L)).2.2.2.2.1), .int .i64 ((dAt L (fi (isId n) L)).2.2.2.2.2.1), .int .i64 ((dAt L (fi (isId n) L)).2.2.2.2.2.2)]), .int .i64 (if (fi (isId n) L).isSome then 0 else 14)]) ∧ Below w.heap.size w w' := by
  have hm1 : Below w.heap.size w (w.alloc (.cells #[.int .i64 0, .int .i64 0, .int .i64 0, .int .i64 0, .int .i64 0, .int .i64 0, .int .i64 0] 35)) := made w _
  have NB := Lib.hid (numbered_any B g L nx n _ (h.below hm1) hl)
  have H2 := Lib.hid hm1
  have HD := Lib.hid (h.below hm1)
  have BR := Lib.hid (Blk.new w 35 #[.int .i64 0, .int .i64 0, .int .i64 0, .int .i64 0, .int .i64 0, .int .i64 0, .int .i64 0])
  clear h hm1
  have FL := Lib.hid (fun i (h : fi (isId n) L = some i) => fi_lt h)
  generalize fi (isId n) L = o at *
  go_enter Try.func11, Try.ntmps11
  go_wp2_with fail
  refine NB.out.mono ?_
  rintro e w2 ⟨rfl, hb2⟩
  have BR2 := Lib.hid (BR.out.below hb2 BR.out.lt)
  have B2 := Lib.hid (up H2.out hb2 H2.out.size)
  have HD2 := Lib.hid (HD.out.below hb2)
  clear hb2 NB HD BR
  have r0 := BR2.out.cell 0
  have r1 := BR2.out.cell 1
  have r2 := BR2.out.cell 2
  have r3 := BR2.out.cell 3
  have r4 := BR2.out.cell 4
  have r5 := BR2.out.cell 5
  have r6 := BR2.out.cell 6
  have f0 := BR2.out.free 0
  have f1 := BR2.out.free 1
  have f2 := BR2.out.free 2
  have f3 := BR2.out.free 3
  have f4 := BR2.out.free 4
  have f5 := BR2.out.free 5
  have f6 := BR2.out.free 6
  cases o with
  | none =>
    dsimp only [ix, Option.isSome_none, dAt]
    go_wp2_with fail
    have K := blk7 BR2.out (.int .i64 0) (.int .i64 0) (.int .i64 0) (.int .i64 0) (.int .i64 0) (.int .i64 0) (.int .i64 0)
    have g0 := K.cell 0
    have g1 := K.cell 1
    have g2 := K.cell 2
    have g3 := K.cell 3
    have g4 := K.cell 4
    have g5 := K.cell 5
    have g6 := K.cell 6
    refine bodyPost_ret (v := .tuple #[(.agg #[.int .i64 0, .int .i64 0, .int .i64 0, .int .i64 0, .int .i64 0, .int .i64 0, .int .i64 0]), .int .i64 14]) (by simp [results, Try.results11, go_sem, g0, g1, g2, g3, g4, g5, g6]) rfl ⟨rfl, below7 B2.out (Nat.le_refl _) _ _ _ _ _ _ _⟩
  | some i =>
    have hil := FL.out i rfl
    obtain ⟨A, c, hb, _, hla, hle, hmx⟩ := HD2.out.open_
    obtain ⟨bb, off, rfl, e0, e1, e2, e3, e4, e5, e6⟩ := lay7 hla hil
    have c0 := hb.cell 0
    have DV := Lib.hid (show dAt L (some i) = L[i] by simp [dAt, List.getD, hil])
    clear hb hla
    generalize L[i] = d at *
    obtain ⟨d0, d1, d2, d3, d4, d5, d6⟩ := d
    dsimp only [ix, Option.isSome_some] at e0 e1 e2 e3 e4 e5 e6 ⊢
    go_wp2_with fail
    have K := blk7 BR2.out (.int .i64 d0) (.int .i64 d1) (.int .i64 d2) (.int .i64 d3) (.int .i64 d4) (.int .i64 d5) (.int .i64 d6)
    have g0 := K.cell 0
    have g1 := K.cell 1
    have g2 := K.cell 2
    have g3 := K.cell 3
    have g4 := K.cell 4
    have g5 := K.cell 5
    have g6 := K.cell 6
    refine bodyPost_ret (v := .tuple #[(.agg #[.int .i64 d0, .int .i64 d1, .int .i64 d2, .int .i64 d3, .int .i64 d4, .int .i64 d5, .int .i64 d6]), .int .i64 0]) (by simp [results, Try.results11, go_sem, g0, g1, g2, g3, g4, g5, g6]) rfl ⟨by first | (rw [DV.out]; done) | (rw [DV.out]; rfl), below7 B2.out (Nat.le_refl _) _ _ _ _ _ _ _⟩

end Go.Proofs.Ytlklfolpcebahaa.bb
