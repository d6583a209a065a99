/-
  The reference's Bid.
-/
import Derived.Test.YtlklfolpcebahaaAucM
namespace Go.Proofs.Ytlklfolpcebahaa.bb
open Go.RowKit
open base (ret_bool ret_int made up Blk Only Nums)
open rk
set_option linter.unusedVariables false
set_option linter.unusedSimpArgs false

def stepOf (b : Int) : Int := if b / 20 < 1 then 1 else b / 20
theorem asks_two (d : D) : asks d = if bidder d = 0 then least d else best d + stepOf (best d) := rfl
theorem set_snoc (L : List D) (i : Nat) (x : D) {k : Nat} (hk : k < L.length) : (L.set i x).take (k + 1) = (L.set i x).take k ++ [if k = i then x else L[k]] := by
  rw [List.take_succ_eq_append_getElem (by rw [List.length_set]; exact hk), List.getElem_set]
  by_cases e : i = k
  · rw [if_pos e, if_pos e.symm]
  · rw [if_neg e, if_neg (fun q => e q.symm)]
set_option maxRecDepth 100000 in
set_option maxHeartbeats 8000000 in
theorem rbid_any (A : Option Addr) (c : Nat) (L : List D) (nx id who n : Int) (B : Nat) (w : World) (ho : Own E7 w B 52 (.slice A L.length c) L) (hl : L.length ≤ 100000) (hB : B ≤ w.heap.size) (hok : ∀ d, d ∈ L → Ok nx d) :
    Calls Try.prog 24 #[.agg #[.slice A L.length c, .int .i64 nx], .int .i64 id, .int .i64 who, .int .i64 n] w (ROP B (bid (L, nx) id who n) w) := by
  have IS := Lib.hid (show bid (L, nx) id who n = match fi (isId id) L with | none => ((L, nx), 14) | some i => if bidErr (L.getD i (0, 0, 0, 0, 0, 0, 0)) who n ≠ 0 then ((L, nx), bidErr (L.getD i (0, 0, 0, 0, 0, 0, 0)) who n) else ((L.set i ((L.getD i (0, 0, 0, 0, 0, 0, 0)).1, (L.getD i (0, 0, 0, 0, 0, 0, 0)).2.1, (L.getD i (0, 0, 0, 0, 0, 0, 0)).2.2.1, (L.getD i (0, 0, 0, 0, 0, 0, 0)).2.2.2.1, n, who, (L.getD i (0, 0, 0, 0, 0, 0, 0)).2.2.2.2.2.2), nx), 0) from rfl)
  generalize bid (L, nx) id who n = r at *
  have hm1 : Below w.heap.size w (w.alloc (.cells #[.slice A L.length c, .int .i64 nx] 28)) := made w _
  have hm2 : Below w.heap.size w ((w.alloc (.cells #[.slice A L.length c, .int .i64 nx] 28)).alloc (.cells #[.slice none 0 0, .int .i64 0] 28)) := hm1.alloc (by rw [asz]; omega) _
  have bx : Blk ((w.alloc (.cells #[.slice A L.length c, .int .i64 nx] 28)).alloc (.cells #[.slice none 0 0, .int .i64 0] 28)) w.heap.size 28 #[.slice A L.length c, .int .i64 nx] := (Blk.new _ _ _).alloc _
  have br : Blk ((w.alloc (.cells #[.slice A L.length c, .int .i64 nx] 28)).alloc (.cells #[.slice none 0 0, .int .i64 0] 28)) (w.heap.size + 1) 28 #[.slice none 0 0, .int .i64 0] := by
    have := Blk.new (w.alloc (.cells #[.slice A L.length c, .int .i64 nx] 28)) 28 #[.slice none 0 0, .int .i64 0]
    rw [asz] at this
    exact this
  have BX := Lib.hid bx
  have BR := Lib.hid br
  have M := Lib.hid hm2
  have HO := Lib.hid (ho.below hm2)
  have HB := Lib.hid hB
  have b0 := bx.cell 0
  have b1 := bx.cell 1
  have r0 := br.cell 0
  have r1 := br.cell 1
  have f0 := br.free 0
  have f1 := br.free 1
  have LAY := Lib.hid (show ∀ ws B', Own E7 ws B' 52 (.slice A L.length c) L → Lay E7 ws A L from fun ws B' h => by
    obtain ⟨A', c', e, h2, _⟩ := h.open_
    injection e with e1 e2 e3
    subst e1
    exact h2)
  have OF := Lib.hid (fun ws (h : Lay E7 ws A L) => rfind_any A c L nx id ws h hl)
  have AM := Lib.hid (fun ws => amount_any n ws)
  have FL := Lib.hid (fun i (h : fi (isId id) L = some i) => fi_lt h)
  have OK := Lib.hid hok
  clear ho hB hm1 hm2 bx br hok
  generalize hw2 : (w.alloc (.cells #[.slice A L.length c, .int .i64 nx] 28)).alloc (.cells #[.slice none 0 0, .int .i64 0] 28) = w2 at *
  generalize fi (isId id) L = o at *
  cases o with
  | none =>
    obtain rfl := IS.out
    dsimp only [ix] at OF
    go_enter Try.func24, Try.ntmps24
    go_wp2_with (rw [hw2])
    refine (OF.out _ (LAY.out _ _ HO.out)).mono ?_
    rintro e w3 ⟨rfl, hb3⟩
    have B3 := Lib.hid (up M.out hb3 M.out.size)
    have BX3 := Lib.hid (BX.out.below hb3 BX.out.lt)
    have BR3 := Lib.hid (BR.out.below hb3 BR.out.lt)
    have HO3 := Lib.hid (HO.out.below hb3)
    clear hb3 b0 b1 r0 r1 f0 f1
    have b0 := BX3.out.cell 0
    have b1 := BX3.out.cell 1
    have r0 := BR3.out.cell 0
    have r1 := BR3.out.cell 1
    have f0 := BR3.out.free 0
    have f1 := BR3.out.free 1
    go_wp2_with fail
    have K := blk2 BR3.out (.slice A L.length c) (.int .i64 nx)
    have g0 := K.cell 0
    have g1 := K.cell 1
    refine bodyPost_ret (v := .tuple #[.agg #[.slice A L.length c, .int .i64 nx], .int .i64 14]) (by simp [results, Try.results24, go_sem, g0, g1]) rfl ?_
    exact ⟨_, rfl, own2 HO3.out BR3.out (by decide) _ _, below2 B3.out (Nat.le_succ _) _ _⟩

  | some i =>
    dsimp only [ix] at OF IS
    have hil := FL.out i rfl
    have hge : L.getD i (0, 0, 0, 0, 0, 0, 0) = L[i] := by simp [List.getD, hil]
    have hok := OK.out _ (List.getElem_mem hil)
    obtain ⟨dd, hdd⟩ : ∃ dd, dd = L.getD i (0, 0, 0, 0, 0, 0, 0) := ⟨_, rfl⟩
    rw [← hdd] at IS
    rw [hge] at hdd
    rw [← hdd] at hok
    have DD := Lib.hid hdd
    have IL := Lib.hid hil
    clear hdd hge
    obtain ⟨a0, a1, a2, a3, a4, a5, a6⟩ := dd
    obtain ⟨k1, k2, k3, k4, k5, k6, k7, k8⟩ := hok
    have hbst : 0 ≤ a4 ∧ a4 ≤ 1099511627776 := by
      rcases k8 with ⟨_, e⟩ | ⟨_, _, e, _⟩
      · have e : a4 = 0 := e
        omega
      · exact e
    have hbd : a5 = 0 ∨ 1 ≤ a5 ∧ a3 ≤ a4 := by
      rcases k8 with ⟨e, _⟩ | ⟨e, _, _, e2⟩
      · exact .inl e
      · exact .inr ⟨e, e2⟩
    clear k1 k2 k3 k4 k5 k6 k7 k8 OK
    dsimp only at IS
    have BE := Lib.hid (show bidErr (a0, a1, a2, a3, a4, a5, a6) who n = if who < 1 then 10 else if who = a2 then 38 else if ¬ amt n then 11 else if n < asks (a0, a1, a2, a3, a4, a5, a6) then 36 else 0 from rfl)
    have AE := Lib.hid (show asks (a0, a1, a2, a3, a4, a5, a6) = if a5 = 0 then a3 else a4 + stepOf a4 from rfl)
    generalize asks (a0, a1, a2, a3, a4, a5, a6) = ak at *
    generalize bidErr (a0, a1, a2, a3, a4, a5, a6) who n = be at *
    obtain ⟨hb0, hb1⟩ := hbst
    by_cases q1 : who < 1
    · have hbe : be = 10 := by
        rw [BE.out]
        rw [if_pos q1]
      rw [hbe, if_pos (by decide)] at IS
      obtain rfl := IS.out
      clear hbe BE IS AE
      go_enter Try.func24, Try.ntmps24
      go_wp2_with (rw [hw2])
      refine (OF.out _ (LAY.out _ _ HO.out)).mono ?_
      rintro e w3 ⟨rfl, hb3⟩
      have B3 := Lib.hid (up M.out hb3 M.out.size)
      have BX3 := Lib.hid (BX.out.below hb3 BX.out.lt)
      have BR3 := Lib.hid (BR.out.below hb3 BR.out.lt)
      have HO3 := Lib.hid (HO.out.below hb3)
      clear hb3 b0 b1 r0 r1 f0 f1
      have b0 := BX3.out.cell 0
      have b1 := BX3.out.cell 1
      have r0 := BR3.out.cell 0
      have r1 := BR3.out.cell 1
      have f0 := BR3.out.free 0
      have f1 := BR3.out.free 1
      obtain ⟨bb, off, rfl, x0, x1, x2, x3, x4, x5, x6⟩ := lay7 (LAY.out _ _ HO3.out) IL.out
      rw [← DD.out] at x0 x1 x2 x3 x4 x5 x6
      dsimp only at x0 x1 x2 x3 x4 x5 x6
      have hm4 := made w3 (.cells #[.int .i64 a0, .int .i64 a1, .int .i64 a2, .int .i64 a3, .int .i64 a4, .int .i64 a5, .int .i64 a6] 52)
      have B4 := Lib.hid (up B3.out hm4 B3.out.size)
      have BX4 := Lib.hid (BX3.out.below hm4 BX3.out.lt)
      have BR4 := Lib.hid (BR3.out.below hm4 BR3.out.lt)
      have HO4 := Lib.hid (HO3.out.below hm4)
      have BA4 := Lib.hid (Blk.new w3 52 #[.int .i64 a0, .int .i64 a1, .int .i64 a2, .int .i64 a3, .int .i64 a4, .int .i64 a5, .int .i64 a6])
      clear hm4
      go_upto_region 5 with fail
      generalize w3.alloc (.cells #[.int .i64 a0, .int .i64 a1, .int .i64 a2, .int .i64 a3, .int .i64 a4, .int .i64 a5, .int .i64 a6] 52) = w4 at *
      clear b0 b1 r0 r1 f0 f1 x0 x1 x2 x3 x4 x5 x6
      have b0 := BX4.out.cell 0
      have b1 := BX4.out.cell 1
      have r0 := BR4.out.cell 0
      have r1 := BR4.out.cell 1
      have f0 := BR4.out.free 0
      have f1 := BR4.out.free 1
      have a0_ := BA4.out.cell 0
      have a2_ := BA4.out.cell 2
      have a3_ := BA4.out.cell 3
      have a4_ := BA4.out.cell 4
      have a5_ := BA4.out.cell 5
      have q1b : decide (who < 1) = true := by simpa using q1
      clear q1
      go_wp2_with fail
      have K := blk2 BR4.out (.slice (some ⟨bb, off, none⟩) L.length c) (.int .i64 nx)
      have g0 := K.cell 0
      have g1 := K.cell 1
      refine bodyPost_ret (v := .tuple #[.agg #[.slice (some ⟨bb, off, none⟩) L.length c, .int .i64 nx], .int .i64 10]) (by simp [results, Try.results24, go_sem, g0, g1]) rfl ?_
      exact ⟨_, rfl, own2 HO4.out BR4.out (by decide) _ _, below2 B4.out (Nat.le_succ _) _ _⟩

    by_cases q2 : who = a2
    · subst q2
      have q1b : decide (who < 1) = false := by simpa using q1
      have hbe : be = 38 := by
        rw [BE.out]
        rw [if_neg q1, if_pos rfl]
      rw [hbe, if_pos (by decide)] at IS
      obtain rfl := IS.out
      clear hbe BE IS AE
      go_enter Try.func24, Try.ntmps24
      go_wp2_with (rw [hw2])
      refine (OF.out _ (LAY.out _ _ HO.out)).mono ?_
      rintro e w3 ⟨rfl, hb3⟩
      have B3 := Lib.hid (up M.out hb3 M.out.size)
      have BX3 := Lib.hid (BX.out.below hb3 BX.out.lt)
      have BR3 := Lib.hid (BR.out.below hb3 BR.out.lt)
      have HO3 := Lib.hid (HO.out.below hb3)
      clear hb3 b0 b1 r0 r1 f0 f1
      have b0 := BX3.out.cell 0
      have b1 := BX3.out.cell 1
      have r0 := BR3.out.cell 0
      have r1 := BR3.out.cell 1
      have f0 := BR3.out.free 0
      have f1 := BR3.out.free 1
      obtain ⟨bb, off, rfl, x0, x1, x2, x3, x4, x5, x6⟩ := lay7 (LAY.out _ _ HO3.out) IL.out
      rw [← DD.out] at x0 x1 x2 x3 x4 x5 x6
      dsimp only at x0 x1 x2 x3 x4 x5 x6
      have hm4 := made w3 (.cells #[.int .i64 a0, .int .i64 a1, .int .i64 who, .int .i64 a3, .int .i64 a4, .int .i64 a5, .int .i64 a6] 52)
      have B4 := Lib.hid (up B3.out hm4 B3.out.size)
      have BX4 := Lib.hid (BX3.out.below hm4 BX3.out.lt)
      have BR4 := Lib.hid (BR3.out.below hm4 BR3.out.lt)
      have HO4 := Lib.hid (HO3.out.below hm4)
      have BA4 := Lib.hid (Blk.new w3 52 #[.int .i64 a0, .int .i64 a1, .int .i64 who, .int .i64 a3, .int .i64 a4, .int .i64 a5, .int .i64 a6])
      clear hm4
      go_upto_region 5 with fail
      generalize w3.alloc (.cells #[.int .i64 a0, .int .i64 a1, .int .i64 who, .int .i64 a3, .int .i64 a4, .int .i64 a5, .int .i64 a6] 52) = w4 at *
      clear b0 b1 r0 r1 f0 f1 x0 x1 x2 x3 x4 x5 x6
      have b0 := BX4.out.cell 0
      have b1 := BX4.out.cell 1
      have r0 := BR4.out.cell 0
      have r1 := BR4.out.cell 1
      have f0 := BR4.out.free 0
      have f1 := BR4.out.free 1
      have a0_ := BA4.out.cell 0
      have who_ := BA4.out.cell 2
      have a3_ := BA4.out.cell 3
      have a4_ := BA4.out.cell 4
      have a5_ := BA4.out.cell 5
      go_wp2_with fail
      have K := blk2 BR4.out (.slice (some ⟨bb, off, none⟩) L.length c) (.int .i64 nx)
      have g0 := K.cell 0
      have g1 := K.cell 1
      refine bodyPost_ret (v := .tuple #[.agg #[.slice (some ⟨bb, off, none⟩) L.length c, .int .i64 nx], .int .i64 38]) (by simp [results, Try.results24, go_sem, g0, g1]) rfl ?_
      exact ⟨_, rfl, own2 HO4.out BR4.out (by decide) _ _, below2 B4.out (Nat.le_succ _) _ _⟩

    by_cases q3 : ¬ amt n
    · rw [isNR q3] at AM
      have hbe : be = 11 := by
        rw [BE.out]
        rw [if_neg q1, if_neg q2, if_pos q3]
      rw [hbe, if_pos (by decide)] at IS
      obtain rfl := IS.out
      clear hbe BE IS AE
      go_enter Try.func24, Try.ntmps24
      go_wp2_with (rw [hw2])
      refine (OF.out _ (LAY.out _ _ HO.out)).mono ?_
      rintro e w3 ⟨rfl, hb3⟩
      have B3 := Lib.hid (up M.out hb3 M.out.size)
      have BX3 := Lib.hid (BX.out.below hb3 BX.out.lt)
      have BR3 := Lib.hid (BR.out.below hb3 BR.out.lt)
      have HO3 := Lib.hid (HO.out.below hb3)
      clear hb3 b0 b1 r0 r1 f0 f1
      have b0 := BX3.out.cell 0
      have b1 := BX3.out.cell 1
      have r0 := BR3.out.cell 0
      have r1 := BR3.out.cell 1
      have f0 := BR3.out.free 0
      have f1 := BR3.out.free 1
      obtain ⟨bb, off, rfl, x0, x1, x2, x3, x4, x5, x6⟩ := lay7 (LAY.out _ _ HO3.out) IL.out
      rw [← DD.out] at x0 x1 x2 x3 x4 x5 x6
      dsimp only at x0 x1 x2 x3 x4 x5 x6
      have hm4 := made w3 (.cells #[.int .i64 a0, .int .i64 a1, .int .i64 a2, .int .i64 a3, .int .i64 a4, .int .i64 a5, .int .i64 a6] 52)
      have B4 := Lib.hid (up B3.out hm4 B3.out.size)
      have BX4 := Lib.hid (BX3.out.below hm4 BX3.out.lt)
      have BR4 := Lib.hid (BR3.out.below hm4 BR3.out.lt)
      have HO4 := Lib.hid (HO3.out.below hm4)
      have BA4 := Lib.hid (Blk.new w3 52 #[.int .i64 a0, .int .i64 a1, .int .i64 a2, .int .i64 a3, .int .i64 a4, .int .i64 a5, .int .i64 a6])
      clear hm4
      go_upto_region 5 with fail
      generalize w3.alloc (.cells #[.int .i64 a0, .int .i64 a1, .int .i64 a2, .int .i64 a3, .int .i64 a4, .int .i64 a5, .int .i64 a6] 52) = w4 at *
      clear b0 b1 r0 r1 f0 f1 x0 x1 x2 x3 x4 x5 x6
      have b0 := BX4.out.cell 0
      have b1 := BX4.out.cell 1
      have r0 := BR4.out.cell 0
      have r1 := BR4.out.cell 1
      have f0 := BR4.out.free 0
      have f1 := BR4.out.free 1
      have a0_ := BA4.out.cell 0
      have a2_ := BA4.out.cell 2
      have a3_ := BA4.out.cell 3
      have a4_ := BA4.out.cell 4
      have a5_ := BA4.out.cell 5
      have q1b : decide (who < 1) = false := by simpa using q1
      have q2b : (who == a2) = false := by simpa using q2
      clear q1 q2 q3
      go_wp2_with fail
      refine (AM.out _).mono ?_
      rintro e w5 ⟨rfl, hw5⟩
      have hw5 := hw5.symm
      subst hw5
      go_wp2_with fail
      have K := blk2 BR4.out (.slice (some ⟨bb, off, none⟩) L.length c) (.int .i64 nx)
      have g0 := K.cell 0
      have g1 := K.cell 1
      refine bodyPost_ret (v := .tuple #[.agg #[.slice (some ⟨bb, off, none⟩) L.length c, .int .i64 nx], .int .i64 11]) (by simp [results, Try.results24, go_sem, g0, g1]) rfl ?_
      exact ⟨_, rfl, own2 HO4.out BR4.out (by decide) _ _, below2 B4.out (Nat.le_succ _) _ _⟩

    rw [isR (Classical.not_not.1 q3)] at AM
    have q5 := Classical.not_not.1 q3
    unfold amt at q5
    obtain ⟨q5a, q5b⟩ := q5
    by_cases q4 : n < a3
    · have hbe : be = 36 := by
        rw [BE.out]
        rw [if_neg q1, if_neg q2, if_neg q3, if_pos (by rw [AE.out]; split; omega; unfold stepOf; split <;> omega)]
      rw [hbe, if_pos (by decide)] at IS
      obtain rfl := IS.out
      clear hbe BE IS AE
      go_enter Try.func24, Try.ntmps24
      go_wp2_with (rw [hw2])
      refine (OF.out _ (LAY.out _ _ HO.out)).mono ?_
      rintro e w3 ⟨rfl, hb3⟩
      have B3 := Lib.hid (up M.out hb3 M.out.size)
      have BX3 := Lib.hid (BX.out.below hb3 BX.out.lt)
      have BR3 := Lib.hid (BR.out.below hb3 BR.out.lt)
      have HO3 := Lib.hid (HO.out.below hb3)
      clear hb3 b0 b1 r0 r1 f0 f1
      have b0 := BX3.out.cell 0
      have b1 := BX3.out.cell 1
      have r0 := BR3.out.cell 0
      have r1 := BR3.out.cell 1
      have f0 := BR3.out.free 0
      have f1 := BR3.out.free 1
      obtain ⟨bb, off, rfl, x0, x1, x2, x3, x4, x5, x6⟩ := lay7 (LAY.out _ _ HO3.out) IL.out
      rw [← DD.out] at x0 x1 x2 x3 x4 x5 x6
      dsimp only at x0 x1 x2 x3 x4 x5 x6
      have hm4 := made w3 (.cells #[.int .i64 a0, .int .i64 a1, .int .i64 a2, .int .i64 a3, .int .i64 a4, .int .i64 a5, .int .i64 a6] 52)
      have B4 := Lib.hid (up B3.out hm4 B3.out.size)
      have BX4 := Lib.hid (BX3.out.below hm4 BX3.out.lt)
      have BR4 := Lib.hid (BR3.out.below hm4 BR3.out.lt)
      have HO4 := Lib.hid (HO3.out.below hm4)
      have BA4 := Lib.hid (Blk.new w3 52 #[.int .i64 a0, .int .i64 a1, .int .i64 a2, .int .i64 a3, .int .i64 a4, .int .i64 a5, .int .i64 a6])
      clear hm4
      go_upto_region 5 with fail
      generalize w3.alloc (.cells #[.int .i64 a0, .int .i64 a1, .int .i64 a2, .int .i64 a3, .int .i64 a4, .int .i64 a5, .int .i64 a6] 52) = w4 at *
      clear b0 b1 r0 r1 f0 f1 x0 x1 x2 x3 x4 x5 x6
      have b0 := BX4.out.cell 0
      have b1 := BX4.out.cell 1
      have r0 := BR4.out.cell 0
      have r1 := BR4.out.cell 1
      have f0 := BR4.out.free 0
      have f1 := BR4.out.free 1
      have a0_ := BA4.out.cell 0
      have a2_ := BA4.out.cell 2
      have a3_ := BA4.out.cell 3
      have a4_ := BA4.out.cell 4
      have a5_ := BA4.out.cell 5
      have q1b : decide (who < 1) = false := by simpa using q1
      have q2b : (who == a2) = false := by simpa using q2
      clear q1 q2 q3
      have q4b : decide (n < a3) = true := by simpa using q4
      clear q4
      go_wp2_with fail
      refine (AM.out _).mono ?_
      rintro e w5 ⟨rfl, hw5⟩
      have hw5 := hw5.symm
      subst hw5
      go_wp2_with fail
      have K := blk2 BR4.out (.slice (some ⟨bb, off, none⟩) L.length c) (.int .i64 nx)
      have g0 := K.cell 0
      have g1 := K.cell 1
      refine bodyPost_ret (v := .tuple #[.agg #[.slice (some ⟨bb, off, none⟩) L.length c, .int .i64 nx], .int .i64 36]) (by simp [results, Try.results24, go_sem, g0, g1]) rfl ?_
      exact ⟨_, rfl, own2 HO4.out BR4.out (by decide) _ _, below2 B4.out (Nat.le_succ _) _ _⟩

    by_cases q6 : a5 = 0
    · have hbe : be = 0 := by
        rw [BE.out, if_neg q1, if_neg q2, if_neg q3, if_neg (by rw [AE.out]; rw [if_pos q6]; exact q4)]
      rw [hbe, if_neg (by decide)] at IS
      have hr := IS.out
      clear hbe BE IS AE
      obtain ⟨L', hL'⟩ : ∃ L', L' = L.set i ((a0, a1, a2, a3, n, who, a6) : D) := ⟨_, rfl⟩
      rw [← hL'] at hr
      subst hr
      have SG := Lib.hid (fun k (hk : k < L.length) => set_snoc L i ((a0, a1, a2, a3, n, who, a6) : D) hk)
      rw [← hL'] at SG
      have HLL := Lib.hid (show L'.length = L.length by rw [hL', List.length_set])
      clear hL'
      have q1b : decide (who < 1) = false := by simpa using q1
      have q2b : (who == a2) = false := by simpa using q2
      clear q1 q2 q3
      have q4b : decide (n < a3) = false := by simpa using q4
      have q6b : decide (0 < a5) = false := by simp; omega
      clear q4 q6
      go_enter Try.func24, Try.ntmps24
      go_wp2_with (rw [hw2])
      refine (OF.out _ (LAY.out _ _ HO.out)).mono ?_
      rintro e w3 ⟨rfl, hb3⟩
      have B3 := Lib.hid (up M.out hb3 M.out.size)
      have BX3 := Lib.hid (BX.out.below hb3 BX.out.lt)
      have BR3 := Lib.hid (BR.out.below hb3 BR.out.lt)
      have HO3 := Lib.hid (HO.out.below hb3)
      clear hb3 b0 b1 r0 r1 f0 f1
      have b0 := BX3.out.cell 0
      have b1 := BX3.out.cell 1
      have r0 := BR3.out.cell 0
      have r1 := BR3.out.cell 1
      have f0 := BR3.out.free 0
      have f1 := BR3.out.free 1
      obtain ⟨bb, off, rfl, x0, x1, x2, x3, x4, x5, x6⟩ := lay7 (LAY.out _ _ HO3.out) IL.out
      rw [← DD.out] at x0 x1 x2 x3 x4 x5 x6
      dsimp only at x0 x1 x2 x3 x4 x5 x6
      have hm4 := made w3 (.cells #[.int .i64 a0, .int .i64 a1, .int .i64 a2, .int .i64 a3, .int .i64 a4, .int .i64 a5, .int .i64 a6] 52)
      have B4 := Lib.hid (up B3.out hm4 B3.out.size)
      have BX4 := Lib.hid (BX3.out.below hm4 BX3.out.lt)
      have BR4 := Lib.hid (BR3.out.below hm4 BR3.out.lt)
      have HO4 := Lib.hid (HO3.out.below hm4)
      have BA4 := Lib.hid (Blk.new w3 52 #[.int .i64 a0, .int .i64 a1, .int .i64 a2, .int .i64 a3, .int .i64 a4, .int .i64 a5, .int .i64 a6])
      clear hm4
      go_upto_region 5 with fail
      generalize w3.alloc (.cells #[.int .i64 a0, .int .i64 a1, .int .i64 a2, .int .i64 a3, .int .i64 a4, .int .i64 a5, .int .i64 a6] 52) = w4 at *
      clear b0 b1 r0 r1 f0 f1 x0 x1 x2 x3 x4 x5 x6
      have b0 := BX4.out.cell 0
      have b1 := BX4.out.cell 1
      have r0 := BR4.out.cell 0
      have r1 := BR4.out.cell 1
      have f0 := BR4.out.free 0
      have f1 := BR4.out.free 1
      have a0_ := BA4.out.cell 0
      have a2_ := BA4.out.cell 2
      have a3_ := BA4.out.cell 3
      have a4_ := BA4.out.cell 4
      have a5_ := BA4.out.cell 5
      go_wp2_with fail
      refine (AM.out _).mono ?_
      rintro e w5 ⟨rfl, hw5⟩
      have hw5 := hw5.symm
      subst hw5
      go_wp2_with fail
      clear b0 b1 r0 r1 f0 f1 a0_ a2_ a3_ a4_ a5_
      go_loopw [13, 14] (fun o j wr => ∃ (k : Nat) (W : World), W = wr ∧ k ≤ L.length ∧ j = .int .i64 k ∧ Own E7 wr w4.heap.size 52 o (L'.take k) ∧ Below w4.heap.size w4 wr) (fun _ j _ => L.length - (intOf j).toNat)
      case atStart => exact ⟨0, _, rfl, by omega, rfl, Own.nil _ _ _, Below.refl _ _⟩
      case round =>
        obtain ⟨k, w5, rfl, hk, rfl, hown, hb5⟩ := hrel
        have O5 := Lib.hid hown
        have B5 := Lib.hid hb5
        have b0 := (BX4.out.below hb5 BX4.out.lt).cell 0
        have b1 := (BX4.out.below hb5 BX4.out.lt).cell 1
        by_cases hkl : k < L.length
        · have TK := Lib.hid (SG.out k hkl)
          obtain ⟨b2, off2, hAe, e0, e1, e2, e3, e4, e5, e6⟩ := lay7 (LAY.out _ _ (HO4.out.below hb5)) hkl
          injection hAe with hAe
          injection hAe with h1 h2
          subst h1 h2
          have HT := Lib.hid (show (L'.take k).length + 1 ≤ 100000000 by rw [List.length_take]; omega)
          have DK := Lib.hid (show k = i → L[k] = (a0, a1, a2, a3, a4, a5, a6) from fun e => by subst e; exact DD.out.symm)
          clear hown hb5
          by_cases hki : k = i
          · have q : ((k : Int) == (i : Int)) = true := by simp; omega
            rw [if_pos hki] at TK
            have dk := DK.out hki
            rw [dk] at e0 e1 e2 e3 e4 e5 e6
            dsimp only at e0 e1 e2 e3 e4 e5 e6
            clear hki DK dk
            have hmA := made w5 (.cells #[.int .i64 a0, .int .i64 a1, .int .i64 a2, .int .i64 a3, .int .i64 n, .int .i64 who, .int .i64 a6] 52)
            have BA := Lib.hid (up B5.out hmA B5.out.size)
            have OA := Lib.hid (O5.out.below hmA)
            have bn : Blk ((w5.alloc (.cells #[.int .i64 a0, .int .i64 a1, .int .i64 a2, .int .i64 a3, .int .i64 n, .int .i64 who, .int .i64 a6] 52)).alloc (.cells #[.int .i64 a0, .int .i64 a1, .int .i64 a2, .int .i64 a3, .int .i64 n, .int .i64 who, .int .i64 a6] 52)) (w5.heap.size + 1) 52 #[.int .i64 a0, .int .i64 a1, .int .i64 a2, .int .i64 a3, .int .i64 n, .int .i64 who, .int .i64 a6] := by
              have := Blk.new (w5.alloc (.cells #[.int .i64 a0, .int .i64 a1, .int .i64 a2, .int .i64 a3, .int .i64 n, .int .i64 who, .int .i64 a6] 52)) 52 #[.int .i64 a0, .int .i64 a1, .int .i64 a2, .int .i64 a3, .int .i64 n, .int .i64 who, .int .i64 a6]
              rw [asz] at this
              exact this
            have O6 := Lib.hid (OA.out.below (made _ (.cells #[.int .i64 a0, .int .i64 a1, .int .i64 a2, .int .i64 a3, .int .i64 n, .int .i64 who, .int .i64 a6] 52)))
            have LY := Lib.hid (Lay.lit (E := E7) _ (a0, a1, a2, a3, n, who, a6) 52 (w5.heap.size + 1) bn)
            have B6 := Lib.hid (up BA.out (made _ (.cells #[.int .i64 a0, .int .i64 a1, .int .i64 a2, .int .i64 a3, .int .i64 n, .int .i64 who, .int .i64 a6] 52)) BA.out.size)
            clear hmA bn
            go_wp2_with ((with_reducible show wpList _ _ _ (⟨some 81, _, _, _, _, _⟩ :: _) _ _); go_must (refine wp_app TR (c := 1) (n := 1) rfl _ _ rfl rfl rfl rfl rfl O6.out LY.out HT.out B6.out.size ?_))
            intro v7 w7 own7 gr7
            have B7 := Lib.hid (B6.out.trans (gr7.below O6.out B6.out.size))
            rw [← TK.out] at own7
            have O7 := Lib.hid own7
            obtain ⟨A2, c2, rfl, -⟩ := own7.open_
            clear own7 gr7 O6 LY B6 e0 e1 e2 e3 e4 e5 e6 b0 b1 HT
            go_wp2_with fail
            refine ⟨⟨k + 1, _, rfl, by omega, by go_num, O7.out, B7.out⟩, by simp [intOf]; omega⟩

          · have q : ((k : Int) == (i : Int)) = false := by simp; omega
            rw [if_neg hki] at TK
            clear hki DK
            generalize L[k] = d at *
            obtain ⟨d0, d1, d2, d3, d4, d5, d6⟩ := d
            dsimp only at e0 e1 e2 e3 e4 e5 e6 TK
            skip
            have hmA := made w5 (.cells #[.int .i64 d0, .int .i64 d1, .int .i64 d2, .int .i64 d3, .int .i64 d4, .int .i64 d5, .int .i64 d6] 52)
            have BA := Lib.hid (up B5.out hmA B5.out.size)
            have OA := Lib.hid (O5.out.below hmA)
            have bn : Blk ((w5.alloc (.cells #[.int .i64 d0, .int .i64 d1, .int .i64 d2, .int .i64 d3, .int .i64 d4, .int .i64 d5, .int .i64 d6] 52)).alloc (.cells #[.int .i64 d0, .int .i64 d1, .int .i64 d2, .int .i64 d3, .int .i64 d4, .int .i64 d5, .int .i64 d6] 52)) (w5.heap.size + 1) 52 #[.int .i64 d0, .int .i64 d1, .int .i64 d2, .int .i64 d3, .int .i64 d4, .int .i64 d5, .int .i64 d6] := by
              have := Blk.new (w5.alloc (.cells #[.int .i64 d0, .int .i64 d1, .int .i64 d2, .int .i64 d3, .int .i64 d4, .int .i64 d5, .int .i64 d6] 52)) 52 #[.int .i64 d0, .int .i64 d1, .int .i64 d2, .int .i64 d3, .int .i64 d4, .int .i64 d5, .int .i64 d6]
              rw [asz] at this
              exact this
            have O6 := Lib.hid (OA.out.below (made _ (.cells #[.int .i64 d0, .int .i64 d1, .int .i64 d2, .int .i64 d3, .int .i64 d4, .int .i64 d5, .int .i64 d6] 52)))
            have LY := Lib.hid (Lay.lit (E := E7) _ (d0, d1, d2, d3, d4, d5, d6) 52 (w5.heap.size + 1) bn)
            have B6 := Lib.hid (up BA.out (made _ (.cells #[.int .i64 d0, .int .i64 d1, .int .i64 d2, .int .i64 d3, .int .i64 d4, .int .i64 d5, .int .i64 d6] 52)) BA.out.size)
            clear hmA bn
            go_wp2_with ((with_reducible show wpList _ _ _ (⟨some 81, _, _, _, _, _⟩ :: _) _ _); go_must (refine wp_app TR (c := 1) (n := 1) rfl _ _ rfl rfl rfl rfl rfl O6.out LY.out HT.out B6.out.size ?_))
            intro v7 w7 own7 gr7
            have B7 := Lib.hid (B6.out.trans (gr7.below O6.out B6.out.size))
            rw [← TK.out] at own7
            have O7 := Lib.hid own7
            obtain ⟨A2, c2, rfl, -⟩ := own7.open_
            clear own7 gr7 O6 LY B6 e0 e1 e2 e3 e4 e5 e6 b0 b1 HT
            go_wp2_with fail
            refine ⟨⟨k + 1, _, rfl, by omega, by go_num, O7.out, B7.out⟩, by simp [intOf]; omega⟩

        · obtain rfl : k = L.length := by omega
          rw [show L'.take L.length = L' by rw [← HLL.out]; exact List.take_length] at O5
          have br5 := BR4.out.below hb5 BR4.out.lt
          have bx5 := BX4.out.below hb5 BX4.out.lt
          have B0 := Lib.hid (up B4.out hb5 B4.out.size)
          have BR5 := Lib.hid br5
          obtain ⟨Av, cv, rfl, -⟩ := O5.out.open_
          clear hown hb5 b0 b1
          have b0 := bx5.cell 0
          have b1 := bx5.cell 1
          have r0 := br5.cell 0
          have r1 := br5.cell 1
          have f0 := br5.free 0
          have f1 := br5.free 1
          clear br5 bx5
          go_wp2_with fail
          have K := blk2 BR5.out (.slice Av L'.length cv) (.int .i64 nx)
          have g0 := K.cell 0
          have g1 := K.cell 1
          have HBB := Lib.hid (show B ≤ w4.heap.size from Nat.le_trans HB.out B4.out.size)
          refine bodyPost_ret (v := .tuple #[.agg #[.slice Av L'.length cv, .int .i64 nx], .int .i64 0]) (by simp [results, Try.results24, go_sem, g0, g1]) rfl ?_
          exact ⟨_, rfl, (own2 O5.out BR5.out (by decide) _ _).mono HBB.out, below2 B0.out (Nat.le_succ _) _ _⟩

    have q7 : 1 ≤ a5 := by omega
    by_cases q8 : a4 / 20 < 1
    · have q9 : n - 1 < a4 ∨ ¬ n - 1 < a4 := by omega
      rcases q9 with q9 | q9
      · have hbe : be = 36 := by
          rw [BE.out]
          rw [if_neg q1, if_neg q2, if_neg q3, if_pos (by rw [AE.out, if_neg q6]; unfold stepOf; rw [if_pos q8]; omega)]
        rw [hbe, if_pos (by decide)] at IS
        obtain rfl := IS.out
        clear hbe BE IS AE
        go_enter Try.func24, Try.ntmps24
        go_wp2_with (rw [hw2])
        refine (OF.out _ (LAY.out _ _ HO.out)).mono ?_
        rintro e w3 ⟨rfl, hb3⟩
        have B3 := Lib.hid (up M.out hb3 M.out.size)
        have BX3 := Lib.hid (BX.out.below hb3 BX.out.lt)
        have BR3 := Lib.hid (BR.out.below hb3 BR.out.lt)
        have HO3 := Lib.hid (HO.out.below hb3)
        clear hb3 b0 b1 r0 r1 f0 f1
        have b0 := BX3.out.cell 0
        have b1 := BX3.out.cell 1
        have r0 := BR3.out.cell 0
        have r1 := BR3.out.cell 1
        have f0 := BR3.out.free 0
        have f1 := BR3.out.free 1
        obtain ⟨bb, off, rfl, x0, x1, x2, x3, x4, x5, x6⟩ := lay7 (LAY.out _ _ HO3.out) IL.out
        rw [← DD.out] at x0 x1 x2 x3 x4 x5 x6
        dsimp only at x0 x1 x2 x3 x4 x5 x6
        have hm4 := made w3 (.cells #[.int .i64 a0, .int .i64 a1, .int .i64 a2, .int .i64 a3, .int .i64 a4, .int .i64 a5, .int .i64 a6] 52)
        have B4 := Lib.hid (up B3.out hm4 B3.out.size)
        have BX4 := Lib.hid (BX3.out.below hm4 BX3.out.lt)
        have BR4 := Lib.hid (BR3.out.below hm4 BR3.out.lt)
        have HO4 := Lib.hid (HO3.out.below hm4)
        have BA4 := Lib.hid (Blk.new w3 52 #[.int .i64 a0, .int .i64 a1, .int .i64 a2, .int .i64 a3, .int .i64 a4, .int .i64 a5, .int .i64 a6])
        clear hm4
        go_upto_region 5 with fail
        generalize w3.alloc (.cells #[.int .i64 a0, .int .i64 a1, .int .i64 a2, .int .i64 a3, .int .i64 a4, .int .i64 a5, .int .i64 a6] 52) = w4 at *
        clear b0 b1 r0 r1 f0 f1 x0 x1 x2 x3 x4 x5 x6
        have b0 := BX4.out.cell 0
        have b1 := BX4.out.cell 1
        have r0 := BR4.out.cell 0
        have r1 := BR4.out.cell 1
        have f0 := BR4.out.free 0
        have f1 := BR4.out.free 1
        have a0_ := BA4.out.cell 0
        have a2_ := BA4.out.cell 2
        have a3_ := BA4.out.cell 3
        have a4_ := BA4.out.cell 4
        have a5_ := BA4.out.cell 5
        have q1b : decide (who < 1) = false := by simpa using q1
        have q2b : (who == a2) = false := by simpa using q2
        clear q1 q2 q3
        have q4b : decide (n < a3) = false := by simpa using q4
        have q6b : decide (0 < a5) = true := by simp; omega
        clear q4 q6
        have q8b : decide (a4 / 20 < 1) = true := by simpa using q8
        have q9b : decide (n - 1 < a4) = true := by simpa using q9
        clear q8 q9
        go_wp2_with fail
        refine (AM.out _).mono ?_
        rintro e w5 ⟨rfl, hw5⟩
        have hw5 := hw5.symm
        subst hw5
        go_wp2_with fail
        have K := blk2 BR4.out (.slice (some ⟨bb, off, none⟩) L.length c) (.int .i64 nx)
        have g0 := K.cell 0
        have g1 := K.cell 1
        refine bodyPost_ret (v := .tuple #[.agg #[.slice (some ⟨bb, off, none⟩) L.length c, .int .i64 nx], .int .i64 36]) (by simp [results, Try.results24, go_sem, g0, g1]) rfl ?_
        exact ⟨_, rfl, own2 HO4.out BR4.out (by decide) _ _, below2 B4.out (Nat.le_succ _) _ _⟩

      · have hbe : be = 0 := by
          rw [BE.out, if_neg q1, if_neg q2, if_neg q3, if_neg (by rw [AE.out]; rw [if_neg q6]; unfold stepOf; rw [if_pos q8]; omega)]
        rw [hbe, if_neg (by decide)] at IS
        have hr := IS.out
        clear hbe BE IS AE
        obtain ⟨L', hL'⟩ : ∃ L', L' = L.set i ((a0, a1, a2, a3, n, who, a6) : D) := ⟨_, rfl⟩
        rw [← hL'] at hr
        subst hr
        have SG := Lib.hid (fun k (hk : k < L.length) => set_snoc L i ((a0, a1, a2, a3, n, who, a6) : D) hk)
        rw [← hL'] at SG
        have HLL := Lib.hid (show L'.length = L.length by rw [hL', List.length_set])
        clear hL'
        have q1b : decide (who < 1) = false := by simpa using q1
        have q2b : (who == a2) = false := by simpa using q2
        clear q1 q2 q3
        have q4b : decide (n < a3) = false := by simpa using q4
        have q6b : decide (0 < a5) = true := by simp; omega
        clear q4 q6
        have q8b : decide (a4 / 20 < 1) = true := by simpa using q8
        have q9b : decide (n - 1 < a4) = false := by simpa using q9
        clear q8 q9
        go_enter Try.func24, Try.ntmps24
        go_wp2_with (rw [hw2])
        refine (OF.out _ (LAY.out _ _ HO.out)).mono ?_
        rintro e w3 ⟨rfl, hb3⟩
        have B3 := Lib.hid (up M.out hb3 M.out.size)
        have BX3 := Lib.hid (BX.out.below hb3 BX.out.lt)
        have BR3 := Lib.hid (BR.out.below hb3 BR.out.lt)
        have HO3 := Lib.hid (HO.out.below hb3)
        clear hb3 b0 b1 r0 r1 f0 f1
        have b0 := BX3.out.cell 0
        have b1 := BX3.out.cell 1
        have r0 := BR3.out.cell 0
        have r1 := BR3.out.cell 1
        have f0 := BR3.out.free 0
        have f1 := BR3.out.free 1
        obtain ⟨bb, off, rfl, x0, x1, x2, x3, x4, x5, x6⟩ := lay7 (LAY.out _ _ HO3.out) IL.out
        rw [← DD.out] at x0 x1 x2 x3 x4 x5 x6
        dsimp only at x0 x1 x2 x3 x4 x5 x6
        have hm4 := made w3 (.cells #[.int .i64 a0, .int .i64 a1, .int .i64 a2, .int .i64 a3, .int .i64 a4, .int .i64 a5, .int .i64 a6] 52)
        have B4 := Lib.hid (up B3.out hm4 B3.out.size)
        have BX4 := Lib.hid (BX3.out.below hm4 BX3.out.lt)
        have BR4 := Lib.hid (BR3.out.below hm4 BR3.out.lt)
        have HO4 := Lib.hid (HO3.out.below hm4)
        have BA4 := Lib.hid (Blk.new w3 52 #[.int .i64 a0, .int .i64 a1, .int .i64 a2, .int .i64 a3, .int .i64 a4, .int .i64 a5, .int .i64 a6])
        clear hm4
        go_upto_region 5 with fail
        generalize w3.alloc (.cells #[.int .i64 a0, .int .i64 a1, .int .i64 a2, .int .i64 a3, .int .i64 a4, .int .i64 a5, .int .i64 a6] 52) = w4 at *
        clear b0 b1 r0 r1 f0 f1 x0 x1 x2 x3 x4 x5 x6
        have b0 := BX4.out.cell 0
        have b1 := BX4.out.cell 1
        have r0 := BR4.out.cell 0
        have r1 := BR4.out.cell 1
        have f0 := BR4.out.free 0
        have f1 := BR4.out.free 1
        have a0_ := BA4.out.cell 0
        have a2_ := BA4.out.cell 2
        have a3_ := BA4.out.cell 3
        have a4_ := BA4.out.cell 4
        have a5_ := BA4.out.cell 5
        go_wp2_with fail
        refine (AM.out _).mono ?_
        rintro e w5 ⟨rfl, hw5⟩
        have hw5 := hw5.symm
        subst hw5
        go_wp2_with fail
        clear b0 b1 r0 r1 f0 f1 a0_ a2_ a3_ a4_ a5_
        go_loopw [13, 14] (fun o j wr => ∃ (k : Nat) (W : World), W = wr ∧ k ≤ L.length ∧ j = .int .i64 k ∧ Own E7 wr w4.heap.size 52 o (L'.take k) ∧ Below w4.heap.size w4 wr) (fun _ j _ => L.length - (intOf j).toNat)
        case atStart => exact ⟨0, _, rfl, by omega, rfl, Own.nil _ _ _, Below.refl _ _⟩
        case round =>
          obtain ⟨k, w5, rfl, hk, rfl, hown, hb5⟩ := hrel
          have O5 := Lib.hid hown
          have B5 := Lib.hid hb5
          have b0 := (BX4.out.below hb5 BX4.out.lt).cell 0
          have b1 := (BX4.out.below hb5 BX4.out.lt).cell 1
          by_cases hkl : k < L.length
          · have TK := Lib.hid (SG.out k hkl)
            obtain ⟨b2, off2, hAe, e0, e1, e2, e3, e4, e5, e6⟩ := lay7 (LAY.out _ _ (HO4.out.below hb5)) hkl
            injection hAe with hAe
            injection hAe with h1 h2
            subst h1 h2
            have HT := Lib.hid (show (L'.take k).length + 1 ≤ 100000000 by rw [List.length_take]; omega)
            have DK := Lib.hid (show k = i → L[k] = (a0, a1, a2, a3, a4, a5, a6) from fun e => by subst e; exact DD.out.symm)
            clear hown hb5
            by_cases hki : k = i
            · have q : ((k : Int) == (i : Int)) = true := by simp; omega
              rw [if_pos hki] at TK
              have dk := DK.out hki
              rw [dk] at e0 e1 e2 e3 e4 e5 e6
              dsimp only at e0 e1 e2 e3 e4 e5 e6
              clear hki DK dk
              have hmA := made w5 (.cells #[.int .i64 a0, .int .i64 a1, .int .i64 a2, .int .i64 a3, .int .i64 n, .int .i64 who, .int .i64 a6] 52)
              have BA := Lib.hid (up B5.out hmA B5.out.size)
              have OA := Lib.hid (O5.out.below hmA)
              have bn : Blk ((w5.alloc (.cells #[.int .i64 a0, .int .i64 a1, .int .i64 a2, .int .i64 a3, .int .i64 n, .int .i64 who, .int .i64 a6] 52)).alloc (.cells #[.int .i64 a0, .int .i64 a1, .int .i64 a2, .int .i64 a3, .int .i64 n, .int .i64 who, .int .i64 a6] 52)) (w5.heap.size + 1) 52 #[.int .i64 a0, .int .i64 a1, .int .i64 a2, .int .i64 a3, .int .i64 n, .int .i64 who, .int .i64 a6] := by
                have := Blk.new (w5.alloc (.cells #[.int .i64 a0, .int .i64 a1, .int .i64 a2, .int .i64 a3, .int .i64 n, .int .i64 who, .int .i64 a6] 52)) 52 #[.int .i64 a0, .int .i64 a1, .int .i64 a2, .int .i64 a3, .int .i64 n, .int .i64 who, .int .i64 a6]
                rw [asz] at this
                exact this
              have O6 := Lib.hid (OA.out.below (made _ (.cells #[.int .i64 a0, .int .i64 a1, .int .i64 a2, .int .i64 a3, .int .i64 n, .int .i64 who, .int .i64 a6] 52)))
              have LY := Lib.hid (Lay.lit (E := E7) _ (a0, a1, a2, a3, n, who, a6) 52 (w5.heap.size + 1) bn)
              have B6 := Lib.hid (up BA.out (made _ (.cells #[.int .i64 a0, .int .i64 a1, .int .i64 a2, .int .i64 a3, .int .i64 n, .int .i64 who, .int .i64 a6] 52)) BA.out.size)
              clear hmA bn
              go_wp2_with ((with_reducible show wpList _ _ _ (⟨some 81, _, _, _, _, _⟩ :: _) _ _); go_must (refine wp_app TR (c := 1) (n := 1) rfl _ _ rfl rfl rfl rfl rfl O6.out LY.out HT.out B6.out.size ?_))
              intro v7 w7 own7 gr7
              have B7 := Lib.hid (B6.out.trans (gr7.below O6.out B6.out.size))
              rw [← TK.out] at own7
              have O7 := Lib.hid own7
              obtain ⟨A2, c2, rfl, -⟩ := own7.open_
              clear own7 gr7 O6 LY B6 e0 e1 e2 e3 e4 e5 e6 b0 b1 HT
              go_wp2_with fail
              refine ⟨⟨k + 1, _, rfl, by omega, by go_num, O7.out, B7.out⟩, by simp [intOf]; omega⟩

            · have q : ((k : Int) == (i : Int)) = false := by simp; omega
              rw [if_neg hki] at TK
              clear hki DK
              generalize L[k] = d at *
              obtain ⟨d0, d1, d2, d3, d4, d5, d6⟩ := d
              dsimp only at e0 e1 e2 e3 e4 e5 e6 TK
              skip
              have hmA := made w5 (.cells #[.int .i64 d0, .int .i64 d1, .int .i64 d2, .int .i64 d3, .int .i64 d4, .int .i64 d5, .int .i64 d6] 52)
              have BA := Lib.hid (up B5.out hmA B5.out.size)
              have OA := Lib.hid (O5.out.below hmA)
              have bn : Blk ((w5.alloc (.cells #[.int .i64 d0, .int .i64 d1, .int .i64 d2, .int .i64 d3, .int .i64 d4, .int .i64 d5, .int .i64 d6] 52)).alloc (.cells #[.int .i64 d0, .int .i64 d1, .int .i64 d2, .int .i64 d3, .int .i64 d4, .int .i64 d5, .int .i64 d6] 52)) (w5.heap.size + 1) 52 #[.int .i64 d0, .int .i64 d1, .int .i64 d2, .int .i64 d3, .int .i64 d4, .int .i64 d5, .int .i64 d6] := by
                have := Blk.new (w5.alloc (.cells #[.int .i64 d0, .int .i64 d1, .int .i64 d2, .int .i64 d3, .int .i64 d4, .int .i64 d5, .int .i64 d6] 52)) 52 #[.int .i64 d0, .int .i64 d1, .int .i64 d2, .int .i64 d3, .int .i64 d4, .int .i64 d5, .int .i64 d6]
                rw [asz] at this
                exact this
              have O6 := Lib.hid (OA.out.below (made _ (.cells #[.int .i64 d0, .int .i64 d1, .int .i64 d2, .int .i64 d3, .int .i64 d4, .int .i64 d5, .int .i64 d6] 52)))
              have LY := Lib.hid (Lay.lit (E := E7) _ (d0, d1, d2, d3, d4, d5, d6) 52 (w5.heap.size + 1) bn)
              have B6 := Lib.hid (up BA.out (made _ (.cells #[.int .i64 d0, .int .i64 d1, .int .i64 d2, .int .i64 d3, .int .i64 d4, .int .i64 d5, .int .i64 d6] 52)) BA.out.size)
              clear hmA bn
              go_wp2_with ((with_reducible show wpList _ _ _ (⟨some 81, _, _, _, _, _⟩ :: _) _ _); go_must (refine wp_app TR (c := 1) (n := 1) rfl _ _ rfl rfl rfl rfl rfl O6.out LY.out HT.out B6.out.size ?_))
              intro v7 w7 own7 gr7
              have B7 := Lib.hid (B6.out.trans (gr7.below O6.out B6.out.size))
              rw [← TK.out] at own7
              have O7 := Lib.hid own7
              obtain ⟨A2, c2, rfl, -⟩ := own7.open_
              clear own7 gr7 O6 LY B6 e0 e1 e2 e3 e4 e5 e6 b0 b1 HT
              go_wp2_with fail
              refine ⟨⟨k + 1, _, rfl, by omega, by go_num, O7.out, B7.out⟩, by simp [intOf]; omega⟩

          · obtain rfl : k = L.length := by omega
            rw [show L'.take L.length = L' by rw [← HLL.out]; exact List.take_length] at O5
            have br5 := BR4.out.below hb5 BR4.out.lt
            have bx5 := BX4.out.below hb5 BX4.out.lt
            have B0 := Lib.hid (up B4.out hb5 B4.out.size)
            have BR5 := Lib.hid br5
            obtain ⟨Av, cv, rfl, -⟩ := O5.out.open_
            clear hown hb5 b0 b1
            have b0 := bx5.cell 0
            have b1 := bx5.cell 1
            have r0 := br5.cell 0
            have r1 := br5.cell 1
            have f0 := br5.free 0
            have f1 := br5.free 1
            clear br5 bx5
            go_wp2_with fail
            have K := blk2 BR5.out (.slice Av L'.length cv) (.int .i64 nx)
            have g0 := K.cell 0
            have g1 := K.cell 1
            have HBB := Lib.hid (show B ≤ w4.heap.size from Nat.le_trans HB.out B4.out.size)
            refine bodyPost_ret (v := .tuple #[.agg #[.slice Av L'.length cv, .int .i64 nx], .int .i64 0]) (by simp [results, Try.results24, go_sem, g0, g1]) rfl ?_
            exact ⟨_, rfl, (own2 O5.out BR5.out (by decide) _ _).mono HBB.out, below2 B0.out (Nat.le_succ _) _ _⟩

    · have q9 : n - a4 / 20 < a4 ∨ ¬ n - a4 / 20 < a4 := by omega
      rcases q9 with q9 | q9
      · have hbe : be = 36 := by
          rw [BE.out]
          rw [if_neg q1, if_neg q2, if_neg q3, if_pos (by rw [AE.out, if_neg q6]; unfold stepOf; rw [if_neg q8]; omega)]
        rw [hbe, if_pos (by decide)] at IS
        obtain rfl := IS.out
        clear hbe BE IS AE
        go_enter Try.func24, Try.ntmps24
        go_wp2_with (rw [hw2])
        refine (OF.out _ (LAY.out _ _ HO.out)).mono ?_
        rintro e w3 ⟨rfl, hb3⟩
        have B3 := Lib.hid (up M.out hb3 M.out.size)
        have BX3 := Lib.hid (BX.out.below hb3 BX.out.lt)
        have BR3 := Lib.hid (BR.out.below hb3 BR.out.lt)
        have HO3 := Lib.hid (HO.out.below hb3)
        clear hb3 b0 b1 r0 r1 f0 f1
        have b0 := BX3.out.cell 0
        have b1 := BX3.out.cell 1
        have r0 := BR3.out.cell 0
        have r1 := BR3.out.cell 1
        have f0 := BR3.out.free 0
        have f1 := BR3.out.free 1
        obtain ⟨bb, off, rfl, x0, x1, x2, x3, x4, x5, x6⟩ := lay7 (LAY.out _ _ HO3.out) IL.out
        rw [← DD.out] at x0 x1 x2 x3 x4 x5 x6
        dsimp only at x0 x1 x2 x3 x4 x5 x6
        have hm4 := made w3 (.cells #[.int .i64 a0, .int .i64 a1, .int .i64 a2, .int .i64 a3, .int .i64 a4, .int .i64 a5, .int .i64 a6] 52)
        have B4 := Lib.hid (up B3.out hm4 B3.out.size)
        have BX4 := Lib.hid (BX3.out.below hm4 BX3.out.lt)
        have BR4 := Lib.hid (BR3.out.below hm4 BR3.out.lt)
        have HO4 := Lib.hid (HO3.out.below hm4)
        have BA4 := Lib.hid (Blk.new w3 52 #[.int .i64 a0, .int .i64 a1, .int .i64 a2, .int .i64 a3, .int .i64 a4, .int .i64 a5, .int .i64 a6])
        clear hm4
        go_upto_region 5 with fail
        generalize w3.alloc (.cells #[.int .i64 a0, .int .i64 a1, .int .i64 a2, .int .i64 a3, .int .i64 a4, .int .i64 a5, .int .i64 a6] 52) = w4 at *
        clear b0 b1 r0 r1 f0 f1 x0 x1 x2 x3 x4 x5 x6
        have b0 := BX4.out.cell 0
        have b1 := BX4.out.cell 1
        have r0 := BR4.out.cell 0
        have r1 := BR4.out.cell 1
        have f0 := BR4.out.free 0
        have f1 := BR4.out.free 1
        have a0_ := BA4.out.cell 0
        have a2_ := BA4.out.cell 2
        have a3_ := BA4.out.cell 3
        have a4_ := BA4.out.cell 4
        have a5_ := BA4.out.cell 5
        have q1b : decide (who < 1) = false := by simpa using q1
        have q2b : (who == a2) = false := by simpa using q2
        clear q1 q2 q3
        have q4b : decide (n < a3) = false := by simpa using q4
        have q6b : decide (0 < a5) = true := by simp; omega
        clear q4 q6
        have q8b : decide (a4 / 20 < 1) = false := by simpa using q8
        have q9b : decide (n - a4 / 20 < a4) = true := by simpa using q9
        clear q8 q9
        go_wp2_with fail
        refine (AM.out _).mono ?_
        rintro e w5 ⟨rfl, hw5⟩
        have hw5 := hw5.symm
        subst hw5
        go_wp2_with fail
        have K := blk2 BR4.out (.slice (some ⟨bb, off, none⟩) L.length c) (.int .i64 nx)
        have g0 := K.cell 0
        have g1 := K.cell 1
        refine bodyPost_ret (v := .tuple #[.agg #[.slice (some ⟨bb, off, none⟩) L.length c, .int .i64 nx], .int .i64 36]) (by simp [results, Try.results24, go_sem, g0, g1]) rfl ?_
        exact ⟨_, rfl, own2 HO4.out BR4.out (by decide) _ _, below2 B4.out (Nat.le_succ _) _ _⟩

      · have hbe : be = 0 := by
          rw [BE.out, if_neg q1, if_neg q2, if_neg q3, if_neg (by rw [AE.out]; rw [if_neg q6]; unfold stepOf; rw [if_neg q8]; omega)]
        rw [hbe, if_neg (by decide)] at IS
        have hr := IS.out
        clear hbe BE IS AE
        obtain ⟨L', hL'⟩ : ∃ L', L' = L.set i ((a0, a1, a2, a3, n, who, a6) : D) := ⟨_, rfl⟩
        rw [← hL'] at hr
        subst hr
        have SG := Lib.hid (fun k (hk : k < L.length) => set_snoc L i ((a0, a1, a2, a3, n, who, a6) : D) hk)
        rw [← hL'] at SG
        have HLL := Lib.hid (show L'.length = L.length by rw [hL', List.length_set])
        clear hL'
        have q1b : decide (who < 1) = false := by simpa using q1
        have q2b : (who == a2) = false := by simpa using q2
        clear q1 q2 q3
        have q4b : decide (n < a3) = false := by simpa using q4
        have q6b : decide (0 < a5) = true := by simp; omega
        clear q4 q6
        have q8b : decide (a4 / 20 < 1) = false := by simpa using q8
        have q9b : decide (n - a4 / 20 < a4) = false := by simpa using q9
        clear q8 q9
        go_enter Try.func24, Try.ntmps24
        go_wp2_with (rw [hw2])
        refine (OF.out _ (LAY.out _ _ HO.out)).mono ?_
        rintro e w3 ⟨rfl, hb3⟩
        have B3 := Lib.hid (up M.out hb3 M.out.size)
        have BX3 := Lib.hid (BX.out.below hb3 BX.out.lt)
        have BR3 := Lib.hid (BR.out.below hb3 BR.out.lt)
        have HO3 := Lib.hid (HO.out.below hb3)
        clear hb3 b0 b1 r0 r1 f0 f1
        have b0 := BX3.out.cell 0
        have b1 := BX3.out.cell 1
        have r0 := BR3.out.cell 0
        have r1 := BR3.out.cell 1
        have f0 := BR3.out.free 0
        have f1 := BR3.out.free 1
        obtain ⟨bb, off, rfl, x0, x1, x2, x3, x4, x5, x6⟩ := lay7 (LAY.out _ _ HO3.out) IL.out
        rw [← DD.out] at x0 x1 x2 x3 x4 x5 x6
        dsimp only at x0 x1 x2 x3 x4 x5 x6
        have hm4 := made w3 (.cells #[.int .i64 a0, .int .i64 a1, .int .i64 a2, .int .i64 a3, .int .i64 a4, .int .i64 a5, .int .i64 a6] 52)
        have B4 := Lib.hid (up B3.out hm4 B3.out.size)
        have BX4 := Lib.hid (BX3.out.below hm4 BX3.out.lt)
        have BR4 := Lib.hid (BR3.out.below hm4 BR3.out.lt)
        have HO4 := Lib.hid (HO3.out.below hm4)
        have BA4 := Lib.hid (Blk.new w3 52 #[.int .i64 a0, .int .i64 a1, .int .i64 a2, .int .i64 a3, .int .i64 a4, .int .i64 a5, .int .i64 a6])
        clear hm4
        go_upto_region 5 with fail
        generalize w3.alloc (.cells #[.int .i64 a0, .int .i64 a1, .int .i64 a2, .int .i64 a3, .int .i64 a4, .int .i64 a5, .int .i64 a6] 52) = w4 at *
        clear b0 b1 r0 r1 f0 f1 x0 x1 x2 x3 x4 x5 x6
        have b0 := BX4.out.cell 0
        have b1 := BX4.out.cell 1
        have r0 := BR4.out.cell 0
        have r1 := BR4.out.cell 1
        have f0 := BR4.out.free 0
        have f1 := BR4.out.free 1
        have a0_ := BA4.out.cell 0
        have a2_ := BA4.out.cell 2
        have a3_ := BA4.out.cell 3
        have a4_ := BA4.out.cell 4
        have a5_ := BA4.out.cell 5
        go_wp2_with fail
        refine (AM.out _).mono ?_
        rintro e w5 ⟨rfl, hw5⟩
        have hw5 := hw5.symm
        subst hw5
        go_wp2_with fail
        clear b0 b1 r0 r1 f0 f1 a0_ a2_ a3_ a4_ a5_
        go_loopw [13, 14] (fun o j wr => ∃ (k : Nat) (W : World), W = wr ∧ k ≤ L.length ∧ j = .int .i64 k ∧ Own E7 wr w4.heap.size 52 o (L'.take k) ∧ Below w4.heap.size w4 wr) (fun _ j _ => L.length - (intOf j).toNat)
        case atStart => exact ⟨0, _, rfl, by omega, rfl, Own.nil _ _ _, Below.refl _ _⟩
        case round =>
          obtain ⟨k, w5, rfl, hk, rfl, hown, hb5⟩ := hrel
          have O5 := Lib.hid hown
          have B5 := Lib.hid hb5
          have b0 := (BX4.out.below hb5 BX4.out.lt).cell 0
          have b1 := (BX4.out.below hb5 BX4.out.lt).cell 1
          by_cases hkl : k < L.length
          · have TK := Lib.hid (SG.out k hkl)
            obtain ⟨b2, off2, hAe, e0, e1, e2, e3, e4, e5, e6⟩ := lay7 (LAY.out _ _ (HO4.out.below hb5)) hkl
            injection hAe with hAe
            injection hAe with h1 h2
            subst h1 h2
            have HT := Lib.hid (show (L'.take k).length + 1 ≤ 100000000 by rw [List.length_take]; omega)
            have DK := Lib.hid (show k = i → L[k] = (a0, a1, a2, a3, a4, a5, a6) from fun e => by subst e; exact DD.out.symm)
            clear hown hb5
            by_cases hki : k = i
            · have q : ((k : Int) == (i : Int)) = true := by simp; omega
              rw [if_pos hki] at TK
              have dk := DK.out hki
              rw [dk] at e0 e1 e2 e3 e4 e5 e6
              dsimp only at e0 e1 e2 e3 e4 e5 e6
              clear hki DK dk
              have hmA := made w5 (.cells #[.int .i64 a0, .int .i64 a1, .int .i64 a2, .int .i64 a3, .int .i64 n, .int .i64 who, .int .i64 a6] 52)
              have BA := Lib.hid (up B5.out hmA B5.out.size)
              have OA := Lib.hid (O5.out.below hmA)
              have bn : Blk ((w5.alloc (.cells #[.int .i64 a0, .int .i64 a1, .int .i64 a2, .int .i64 a3, .int .i64 n, .int .i64 who, .int .i64 a6] 52)).alloc (.cells #[.int .i64 a0, .int .i64 a1, .int .i64 a2, .int .i64 a3, .int .i64 n, .int .i64 who, .int .i64 a6] 52)) (w5.heap.size + 1) 52 #[.int .i64 a0, .int .i64 a1, .int .i64 a2, .int .i64 a3, .int .i64 n, .int .i64 who, .int .i64 a6] := by
                have := Blk.new (w5.alloc (.cells #[.int .i64 a0, .int .i64 a1, .int .i64 a2, .int .i64 a3, .int .i64 n, .int .i64 who, .int .i64 a6] 52)) 52 #[.int .i64 a0, .int .i64 a1, .int .i64 a2, .int .i64 a3, .int .i64 n, .int .i64 who, .int .i64 a6]
                rw [asz] at this
                exact this
              have O6 := Lib.hid (OA.out.below (made _ (.cells #[.int .i64 a0, .int .i64 a1, .int .i64 a2, .int .i64 a3, .int .i64 n, .int .i64 who, .int .i64 a6] 52)))
              have LY := Lib.hid (Lay.lit (E := E7) _ (a0, a1, a2, a3, n, who, a6) 52 (w5.heap.size + 1) bn)
              have B6 := Lib.hid (up BA.out (made _ (.cells #[.int .i64 a0, .int .i64 a1, .int .i64 a2, .int .i64 a3, .int .i64 n, .int .i64 who, .int .i64 a6] 52)) BA.out.size)
              clear hmA bn
              go_wp2_with ((with_reducible show wpList _ _ _ (⟨some 81, _, _, _, _, _⟩ :: _) _ _); go_must (refine wp_app TR (c := 1) (n := 1) rfl _ _ rfl rfl rfl rfl rfl O6.out LY.out HT.out B6.out.size ?_))
              intro v7 w7 own7 gr7
              have B7 := Lib.hid (B6.out.trans (gr7.below O6.out B6.out.size))
              rw [← TK.out] at own7
              have O7 := Lib.hid own7
              obtain ⟨A2, c2, rfl, -⟩ := own7.open_
              clear own7 gr7 O6 LY B6 e0 e1 e2 e3 e4 e5 e6 b0 b1 HT
              go_wp2_with fail
              refine ⟨⟨k + 1, _, rfl, by omega, by go_num, O7.out, B7.out⟩, by simp [intOf]; omega⟩

            · have q : ((k : Int) == (i : Int)) = false := by simp; omega
              rw [if_neg hki] at TK
              clear hki DK
              generalize L[k] = d at *
              obtain ⟨d0, d1, d2, d3, d4, d5, d6⟩ := d
              dsimp only at e0 e1 e2 e3 e4 e5 e6 TK
              skip
              have hmA := made w5 (.cells #[.int .i64 d0, .int .i64 d1, .int .i64 d2, .int .i64 d3, .int .i64 d4, .int .i64 d5, .int .i64 d6] 52)
              have BA := Lib.hid (up B5.out hmA B5.out.size)
              have OA := Lib.hid (O5.out.below hmA)
              have bn : Blk ((w5.alloc (.cells #[.int .i64 d0, .int .i64 d1, .int .i64 d2, .int .i64 d3, .int .i64 d4, .int .i64 d5, .int .i64 d6] 52)).alloc (.cells #[.int .i64 d0, .int .i64 d1, .int .i64 d2, .int .i64 d3, .int .i64 d4, .int .i64 d5, .int .i64 d6] 52)) (w5.heap.size + 1) 52 #[.int .i64 d0, .int .i64 d1, .int .i64 d2, .int .i64 d3, .int .i64 d4, .int .i64 d5, .int .i64 d6] := by
                have := Blk.new (w5.alloc (.cells #[.int .i64 d0, .int .i64 d1, .int .i64 d2, .int .i64 d3, .int .i64 d4, .int .i64 d5, .int .i64 d6] 52)) 52 #[.int .i64 d0, .int .i64 d1, .int .i64 d2, .int .i64 d3, .int .i64 d4, .int .i64 d5, .int .i64 d6]
                rw [asz] at this
                exact this
              have O6 := Lib.hid (OA.out.below (made _ (.cells #[.int .i64 d0, .int .i64 d1, .int .i64 d2, .int .i64 d3, .int .i64 d4, .int .i64 d5, .int .i64 d6] 52)))
              have LY := Lib.hid (Lay.lit (E := E7) _ (d0, d1, d2, d3, d4, d5, d6) 52 (w5.heap.size + 1) bn)
              have B6 := Lib.hid (up BA.out (made _ (.cells #[.int .i64 d0, .int .i64 d1, .int .i64 d2, .int .i64 d3, .int .i64 d4, .int .i64 d5, .int .i64 d6] 52)) BA.out.size)
              clear hmA bn
              go_wp2_with ((with_reducible show wpList _ _ _ (⟨some 81, _, _, _, _, _⟩ :: _) _ _); go_must (refine wp_app TR (c := 1) (n := 1) rfl _ _ rfl rfl rfl rfl rfl O6.out LY.out HT.out B6.out.size ?_))
              intro v7 w7 own7 gr7
              have B7 := Lib.hid (B6.out.trans (gr7.below O6.out B6.out.size))
              rw [← TK.out] at own7
              have O7 := Lib.hid own7
              obtain ⟨A2, c2, rfl, -⟩ := own7.open_
              clear own7 gr7 O6 LY B6 e0 e1 e2 e3 e4 e5 e6 b0 b1 HT
              go_wp2_with fail
              refine ⟨⟨k + 1, _, rfl, by omega, by go_num, O7.out, B7.out⟩, by simp [intOf]; omega⟩

          · obtain rfl : k = L.length := by omega
            rw [show L'.take L.length = L' by rw [← HLL.out]; exact List.take_length] at O5
            have br5 := BR4.out.below hb5 BR4.out.lt
            have bx5 := BX4.out.below hb5 BX4.out.lt
            have B0 := Lib.hid (up B4.out hb5 B4.out.size)
            have BR5 := Lib.hid br5
            obtain ⟨Av, cv, rfl, -⟩ := O5.out.open_
            clear hown hb5 b0 b1
            have b0 := bx5.cell 0
            have b1 := bx5.cell 1
            have r0 := br5.cell 0
            have r1 := br5.cell 1
            have f0 := br5.free 0
            have f1 := br5.free 1
            clear br5 bx5
            go_wp2_with fail
            have K := blk2 BR5.out (.slice Av L'.length cv) (.int .i64 nx)
            have g0 := K.cell 0
            have g1 := K.cell 1
            have HBB := Lib.hid (show B ≤ w4.heap.size from Nat.le_trans HB.out B4.out.size)
            refine bodyPost_ret (v := .tuple #[.agg #[.slice Av L'.length cv, .int .i64 nx], .int .i64 0]) (by simp [results, Try.results24, go_sem, g0, g1]) rfl ?_
            exact ⟨_, rfl, (own2 O5.out BR5.out (by decide) _ _).mono HBB.out, below2 B0.out (Nat.le_succ _) _ _⟩

end Go.Proofs.Ytlklfolpcebahaa.bb
