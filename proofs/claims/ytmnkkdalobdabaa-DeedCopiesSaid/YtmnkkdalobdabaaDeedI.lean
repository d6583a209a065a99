/-
  The reference's deeds: Void, Move.
-/
import Derived.Test.YtmnkkdalobdabaaDeedG
namespace Go.Proofs.Ytmnkkdalobdabaa.dd
open Go.RowKit
open base (ret_bool ret_int made up Blk Only Nums)
open rk
set_option linter.unusedVariables false
set_option linter.unusedSimpArgs false


set_option maxRecDepth 100000 in
set_option maxHeartbeats 8000000 in
theorem rmove_any (A : Option Addr) (c : Nat) (L : List D) (nx n h : Int) (B : Nat) (w : World) (ho : Own E3 w B 45 (.slice A L.length c) L) (hl : L.length ≤ 100000) (hB : B ≤ w.heap.size) :
    Calls Try.prog 28 #[.agg #[.slice A L.length c, .int .i64 nx], .int .i64 n, .int .i64 h] w (ROP B (move (L, nx) n h) w) := by
  have IS := Lib.hid (show move (L, nx) n h = match fi (isId n) L with | none => ((L, nx), 14) | some i => if h < 1 then ((L, nx), 10) else if (L.getD i (0, 0, 0)).2.2 = h then ((L, nx), 0) else if may L h ≠ 0 then ((L, nx), may L h) else ((L.set i ((L.getD i (0, 0, 0)).1, (L.getD i (0, 0, 0)).2.1, h), nx), 0) from rfl)
  generalize move (L, nx) n h = r at *
  have hm1 : Below w.heap.size w (w.alloc (.cells #[.slice A L.length c, .int .i64 nx] 28)) := made w _
  have hm2 : Below w.heap.size w ((w.alloc (.cells #[.slice A L.length c, .int .i64 nx] 28)).alloc (.cells #[.slice none 0 0, .int .i64 0] 28)) := hm1.alloc (by rw [asz]; omega) _
  have bx : Blk ((w.alloc (.cells #[.slice A L.length c, .int .i64 nx] 28)).alloc (.cells #[.slice none 0 0, .int .i64 0] 28)) w.heap.size 28 #[.slice A L.length c, .int .i64 nx] := (Blk.new _ _ _).alloc _
  have br : Blk ((w.alloc (.cells #[.slice A L.length c, .int .i64 nx] 28)).alloc (.cells #[.slice none 0 0, .int .i64 0] 28)) (w.heap.size + 1) 28 #[.slice none 0 0, .int .i64 0] := by
    have := Blk.new (w.alloc (.cells #[.slice A L.length c, .int .i64 nx] 28)) 28 #[.slice none 0 0, .int .i64 0]
    rw [asz] at this
    exact this
  have hs2 : ((w.alloc (.cells #[.slice A L.length c, .int .i64 nx] 28)).alloc (.cells #[.slice none 0 0, .int .i64 0] 28)).heap.size = w.heap.size + 2 := by rw [asz, asz]
  have BX := Lib.hid bx
  have BR := Lib.hid br
  have M := Lib.hid hm2
  have Z2 := Lib.hid hs2
  have HO := Lib.hid (ho.below hm2)
  have HB := Lib.hid hB
  have b0 := bx.cell 0
  have b1 := bx.cell 1
  have r0 := br.cell 0
  have r1 := br.cell 1
  have f0 := br.free 0
  have f1 := br.free 1
  have LAY := Lib.hid (show ∀ ws B', Own E3 ws B' 45 (.slice A L.length c) L → Lay E3 ws A L from fun ws B' h => by
    obtain ⟨A', c', e, h2, _⟩ := h.open_
    injection e with e1 e2 e3
    subst e1
    exact h2)
  have OF := Lib.hid (fun ws (h : Lay E3 ws A L) => rfind_any A c L nx n ws h hl)
  have MA := Lib.hid (fun ws (hh : Lay E3 ws A L) => rmay_any A c L nx h ws hh hl)
  have FL := Lib.hid (fun i (h : fi (isId n) L = some i) => fi_lt h)
  clear ho hB hm1 hm2 bx br hs2
  generalize hw2 : (w.alloc (.cells #[.slice A L.length c, .int .i64 nx] 28)).alloc (.cells #[.slice none 0 0, .int .i64 0] 28) = w2 at *
  generalize fi (isId n) L = o at *
  cases o with
  | none =>
    obtain rfl := IS.out
    dsimp only [ix] at OF
    go_enter Try.func28, Try.ntmps28
    go_wp2_with (rw [hw2])
    refine (OF.out _ (LAY.out _ _ HO.out)).mono ?_
    rintro e w3 ⟨rfl, hb3⟩
    have B3 := Lib.hid (up M.out hb3 M.out.size)
    have BX3 := Lib.hid (BX.out.below hb3 BX.out.lt)
    have BR3 := Lib.hid (BR.out.below hb3 BR.out.lt)
    have HO3 := Lib.hid (HO.out.below hb3)
    clear hb3 b0 b1 r0 r1 f0 f1
    have b0 := BX3.out.cell 0
    have b1 := BX3.out.cell 1
    have r0 := BR3.out.cell 0
    have r1 := BR3.out.cell 1
    have f0 := BR3.out.free 0
    have f1 := BR3.out.free 1
    go_wp2_with fail
    have K := blk2 BR3.out (.slice A L.length c) (.int .i64 nx)
    have g0 := K.cell 0
    have g1 := K.cell 1
    refine bodyPost_ret (v := .tuple #[.agg #[.slice A L.length c, .int .i64 nx], .int .i64 14]) (by simp [results, Try.results28, go_sem, g0, g1]) rfl ?_
    exact ⟨_, rfl, own2 HO3.out BR3.out (by decide) _ _, below2 B3.out (Nat.le_succ _) _ _⟩
  | some i =>
    dsimp only [ix] at OF IS
    have hil := FL.out i rfl
    by_cases q1 : h < 1
    · rw [if_pos q1] at IS
      obtain rfl := IS.out
      go_enter Try.func28, Try.ntmps28
      go_wp2_with (rw [hw2])
      refine (OF.out _ (LAY.out _ _ HO.out)).mono ?_
      rintro e w3 ⟨rfl, hb3⟩
      have B3 := Lib.hid (up M.out hb3 M.out.size)
      have BX3 := Lib.hid (BX.out.below hb3 BX.out.lt)
      have BR3 := Lib.hid (BR.out.below hb3 BR.out.lt)
      have HO3 := Lib.hid (HO.out.below hb3)
      clear hb3 b0 b1 r0 r1 f0 f1
      have b0 := BX3.out.cell 0
      have b1 := BX3.out.cell 1
      have r0 := BR3.out.cell 0
      have r1 := BR3.out.cell 1
      have f0 := BR3.out.free 0
      have f1 := BR3.out.free 1
      go_wp2_with fail
      have K := blk2 BR3.out (.slice A L.length c) (.int .i64 nx)
      have g0 := K.cell 0
      have g1 := K.cell 1
      refine bodyPost_ret (v := .tuple #[.agg #[.slice A L.length c, .int .i64 nx], .int .i64 10]) (by simp [results, Try.results28, go_sem, g0, g1]) rfl ?_
      exact ⟨_, rfl, own2 HO3.out BR3.out (by decide) _ _, below2 B3.out (Nat.le_succ _) _ _⟩
    rw [if_neg q1] at IS
    have hge : L.getD i (0, 0, 0) = L[i] := by simp [List.getD, hil]
    obtain ⟨dd, hdd⟩ : ∃ dd, dd = L.getD i (0, 0, 0) := ⟨_, rfl⟩
    rw [← hdd] at IS
    rw [hge] at hdd
    have DD := Lib.hid hdd
    have IL := Lib.hid hil
    clear hdd hge
    obtain ⟨a0, a1, a2⟩ := dd
    dsimp only at IS
    by_cases q2 : a2 = h
    · rw [if_pos q2] at IS
      obtain rfl := IS.out
      have q3 : (a2 == h) = true := by simpa using q2
      clear q2 IS MA
      go_enter Try.func28, Try.ntmps28
      go_wp2_with (rw [hw2])
      refine (OF.out _ (LAY.out _ _ HO.out)).mono ?_
      rintro e w3 ⟨rfl, hb3⟩
      have B3 := Lib.hid (up M.out hb3 M.out.size)
      have BX3 := Lib.hid (BX.out.below hb3 BX.out.lt)
      have BR3 := Lib.hid (BR.out.below hb3 BR.out.lt)
      have HO3 := Lib.hid (HO.out.below hb3)
      clear hb3 b0 b1 r0 r1 f0 f1
      have b0 := BX3.out.cell 0
      have b1 := BX3.out.cell 1
      have r0 := BR3.out.cell 0
      have r1 := BR3.out.cell 1
      have f0 := BR3.out.free 0
      have f1 := BR3.out.free 1
      obtain ⟨bb, off, rfl, x0, x1, x2⟩ := lay3 (LAY.out _ _ HO3.out) IL.out
      rw [← DD.out] at x2
      dsimp only at x2
      clear x0 x1
      go_wp2_with fail
      have K := blk2 BR3.out (.slice (some ⟨bb, off, none⟩) L.length c) (.int .i64 nx)
      have g0 := K.cell 0
      have g1 := K.cell 1
      refine bodyPost_ret (v := .tuple #[.agg #[.slice (some ⟨bb, off, none⟩) L.length c, .int .i64 nx], .int .i64 0]) (by simp [results, Try.results28, go_sem, g0, g1]) rfl ?_
      exact ⟨_, rfl, own2 HO3.out BR3.out (by decide) _ _, below2 B3.out (Nat.le_succ _) _ _⟩
    have q3 : (a2 == h) = false := by simpa using q2
    rw [if_neg q2] at IS
    clear q2
    by_cases q4 : may L h = 0
    · rw [if_neg (by omega)] at IS
      rw [q4] at MA
      obtain rfl := IS.out
      clear IS q4
      obtain ⟨L', hL'⟩ : ∃ L', L' = L.set i (a0, a1, h) := ⟨_, rfl⟩
      have hll : L'.length = L.length := by rw [hL', List.length_set]
      have SG := Lib.hid (show ∀ k (hk : k < L.length), L'.take (k + 1) = L'.take k ++ [if k = i then ((L[k]'hk).1, (L[k]'hk).2.1, h) else L[k]'hk] from fun k hk => by
        rw [List.take_succ_eq_append_getElem (by omega)]
        congr 2
        subst hL'
        rw [List.getElem_set]
        by_cases e : i = k
        · subst e
          rw [if_pos rfl, if_pos rfl, ← DD.out]
        · rw [if_neg e, if_neg (fun q => e q.symm)])
      have HLL := Lib.hid hll
      have HL' := Lib.hid hL'
      clear hL' hll
      go_enter Try.func28, Try.ntmps28
      go_wp2_with (rw [hw2])
      refine (OF.out _ (LAY.out _ _ HO.out)).mono ?_
      rintro e w3 ⟨rfl, hb3⟩
      have B3 := Lib.hid (up M.out hb3 M.out.size)
      have BX3 := Lib.hid (BX.out.below hb3 BX.out.lt)
      have BR3 := Lib.hid (BR.out.below hb3 BR.out.lt)
      have HO3 := Lib.hid (HO.out.below hb3)
      clear hb3 b0 b1 r0 r1 f0 f1
      have b0 := BX3.out.cell 0
      have b1 := BX3.out.cell 1
      have r0 := BR3.out.cell 0
      have r1 := BR3.out.cell 1
      have f0 := BR3.out.free 0
      have f1 := BR3.out.free 1
      obtain ⟨bb, off, rfl, x0, x1, x2⟩ := lay3 (LAY.out _ _ HO3.out) IL.out
      rw [← DD.out] at x2
      dsimp only at x2
      clear x0 x1
      go_wp2_with fail
      clear x2
      refine (MA.out _ (LAY.out _ _ HO3.out)).mono ?_
      rintro e w4 ⟨rfl, hb4⟩
      have B4 := Lib.hid (up B3.out hb4 B3.out.size)
      have BX4 := Lib.hid (BX3.out.below hb4 BX3.out.lt)
      have BR4 := Lib.hid (BR3.out.below hb4 BR3.out.lt)
      have HO4 := Lib.hid (HO3.out.below hb4)
      clear hb4 b0 b1 r0 r1 f0 f1
      have b0 := BX4.out.cell 0
      have b1 := BX4.out.cell 1
      have r0 := BR4.out.cell 0
      have r1 := BR4.out.cell 1
      have f0 := BR4.out.free 0
      have f1 := BR4.out.free 1
      go_wp2_with fail
      clear b0 b1 r0 r1 f0 f1 OF MA BX3 BR3 HO3
      go_loopw [10, 11] (fun o j wr => ∃ (k : Nat) (W : World), W = wr ∧ k ≤ L.length ∧ j = .int .i64 k ∧ Own E3 wr w4.heap.size 45 o (L'.take k) ∧ Below w4.heap.size w4 wr) (fun _ j _ => L.length - (intOf j).toNat)
      case atStart => exact ⟨0, _, rfl, by omega, rfl, Own.nil _ _ _, Below.refl _ _⟩
      case round =>
        obtain ⟨k, w5, rfl, hk, rfl, hown, hb5⟩ := hrel
        have O5 := Lib.hid hown
        have B5 := Lib.hid hb5
        have b0 := (BX4.out.below hb5 BX4.out.lt).cell 0
        have b1 := (BX4.out.below hb5 BX4.out.lt).cell 1
        by_cases hkl : k < L.length
        · have TK := Lib.hid (SG.out k hkl)
          obtain ⟨b2, off2, hAe, e0, e1, e2⟩ := lay3 (LAY.out _ _ (HO4.out.below hb5)) hkl
          injection hAe with hAe
          injection hAe with h1 h2
          subst h1 h2
          have HT := Lib.hid (show (L'.take k).length + 1 ≤ 100000000 by rw [List.length_take]; omega)
          clear hown hb5
          generalize L[k] = d at *
          obtain ⟨d0, d1, d2⟩ := d
          dsimp only at e0 e1 e2 TK
          by_cases hki : k = i
          · have q : ((k : Int) == (i : Int)) = true := by simp; omega
            rw [if_pos hki] at TK
            clear hki
            have hmA := made w5 (.cells #[.int .i64 d0, .int .i64 d1, .int .i64 h] 45)
            have BA := Lib.hid (up B5.out hmA B5.out.size)
            have OA := Lib.hid (O5.out.below hmA)
            have hzA := asz w5 (.cells #[.int .i64 d0, .int .i64 d1, .int .i64 h] 45)
            have bn : Blk ((w5.alloc (.cells #[.int .i64 d0, .int .i64 d1, .int .i64 h] 45)).alloc (.cells #[.int .i64 d0, .int .i64 d1, .int .i64 h] 45)) (w5.heap.size + 1) 45 #[.int .i64 d0, .int .i64 d1, .int .i64 h] := by
              have := Blk.new (w5.alloc (.cells #[.int .i64 d0, .int .i64 d1, .int .i64 h] 45)) 45 #[.int .i64 d0, .int .i64 d1, .int .i64 h]
              rw [asz] at this
              exact this
            have O6 := Lib.hid (OA.out.below (made _ (.cells #[.int .i64 d0, .int .i64 d1, .int .i64 h] 45)))
            have LY := Lib.hid (Lay.lit (E := E3) _ (d0, d1, h) 45 (w5.heap.size + 1) bn)
            have B6 := Lib.hid (up BA.out (made _ (.cells #[.int .i64 d0, .int .i64 d1, .int .i64 h] 45)) BA.out.size)
            clear hmA bn hzA
            go_wp2_with ((with_reducible show wpList _ _ _ (⟨some 58, _, _, _, _, _⟩ :: _) _ _); go_must (refine wp_app TR (c := 1) (n := 1) rfl _ _ rfl rfl rfl rfl rfl O6.out LY.out HT.out B6.out.size ?_))
            intro v7 w7 own7 gr7
            have B7 := Lib.hid (B6.out.trans (gr7.below O6.out B6.out.size))
            rw [← TK.out] at own7
            have O7 := Lib.hid own7
            obtain ⟨A2, c2, rfl, -⟩ := own7.open_
            clear own7 gr7 O6 LY B6 e0 e1 e2 b0 b1 HT
            go_wp2_with fail
            refine ⟨⟨k + 1, _, rfl, by omega, by go_num, O7.out, B7.out⟩, by simp [intOf]; omega⟩
          · have q : ((k : Int) == (i : Int)) = false := by simp; omega
            rw [if_neg hki] at TK
            clear hki
            have hmA := made w5 (.cells #[.int .i64 d0, .int .i64 d1, .int .i64 d2] 45)
            have BA := Lib.hid (up B5.out hmA B5.out.size)
            have OA := Lib.hid (O5.out.below hmA)
            have hzA := asz w5 (.cells #[.int .i64 d0, .int .i64 d1, .int .i64 d2] 45)
            have bn : Blk ((w5.alloc (.cells #[.int .i64 d0, .int .i64 d1, .int .i64 d2] 45)).alloc (.cells #[.int .i64 d0, .int .i64 d1, .int .i64 d2] 45)) (w5.heap.size + 1) 45 #[.int .i64 d0, .int .i64 d1, .int .i64 d2] := by
              have := Blk.new (w5.alloc (.cells #[.int .i64 d0, .int .i64 d1, .int .i64 d2] 45)) 45 #[.int .i64 d0, .int .i64 d1, .int .i64 d2]
              rw [asz] at this
              exact this
            have O6 := Lib.hid (OA.out.below (made _ (.cells #[.int .i64 d0, .int .i64 d1, .int .i64 d2] 45)))
            have LY := Lib.hid (Lay.lit (E := E3) _ (d0, d1, d2) 45 (w5.heap.size + 1) bn)
            have B6 := Lib.hid (up BA.out (made _ (.cells #[.int .i64 d0, .int .i64 d1, .int .i64 d2] 45)) BA.out.size)
            clear hmA bn hzA
            go_wp2_with ((with_reducible show wpList _ _ _ (⟨some 58, _, _, _, _, _⟩ :: _) _ _); go_must (refine wp_app TR (c := 1) (n := 1) rfl _ _ rfl rfl rfl rfl rfl O6.out LY.out HT.out B6.out.size ?_))
            intro v7 w7 own7 gr7
            have B7 := Lib.hid (B6.out.trans (gr7.below O6.out B6.out.size))
            rw [← TK.out] at own7
            have O7 := Lib.hid own7
            obtain ⟨A2, c2, rfl, -⟩ := own7.open_
            clear own7 gr7 O6 LY B6 e0 e1 e2 b0 b1 HT
            go_wp2_with fail
            refine ⟨⟨k + 1, _, rfl, by omega, by go_num, O7.out, B7.out⟩, by simp [intOf]; omega⟩
        · obtain rfl : k = L.length := by omega
          rw [show L'.take L.length = L' by rw [← HLL.out]; exact List.take_length] at O5
          have br5 := BR4.out.below hb5 BR4.out.lt
          have bx5 := BX4.out.below hb5 BX4.out.lt
          have B0 := Lib.hid (up B4.out hb5 B4.out.size)
          have BR5 := Lib.hid br5
          obtain ⟨Av, cv, rfl, -⟩ := O5.out.open_
          clear hown hb5 b0 b1
          have b0 := bx5.cell 0
          have b1 := bx5.cell 1
          have r0 := br5.cell 0
          have r1 := br5.cell 1
          have f0 := br5.free 0
          have f1 := br5.free 1
          clear br5 bx5
          go_wp2_with fail
          have K := blk2 BR5.out (.slice Av L'.length cv) (.int .i64 nx)
          have g0 := K.cell 0
          have g1 := K.cell 1
          have HBB := Lib.hid (show B ≤ w4.heap.size from Nat.le_trans HB.out B4.out.size)
          refine bodyPost_ret (v := .tuple #[.agg #[.slice Av L'.length cv, .int .i64 nx], .int .i64 0]) (by simp [results, Try.results28, go_sem, g0, g1]) rfl ?_
          obtain rfl := HL'.out
          exact ⟨_, rfl, (own2 O5.out BR5.out (by decide) _ _).mono HBB.out, below2 B0.out (Nat.le_succ _) _ _⟩
    · rw [if_pos (by omega)] at IS
      obtain rfl := IS.out
      clear IS
      generalize may L h = m at *
      have q5 : (m != 0) = true := by simpa using q4
      clear q4
      go_enter Try.func28, Try.ntmps28
      go_wp2_with (rw [hw2])
      refine (OF.out _ (LAY.out _ _ HO.out)).mono ?_
      rintro e w3 ⟨rfl, hb3⟩
      have B3 := Lib.hid (up M.out hb3 M.out.size)
      have BX3 := Lib.hid (BX.out.below hb3 BX.out.lt)
      have BR3 := Lib.hid (BR.out.below hb3 BR.out.lt)
      have HO3 := Lib.hid (HO.out.below hb3)
      clear hb3 b0 b1 r0 r1 f0 f1
      have b0 := BX3.out.cell 0
      have b1 := BX3.out.cell 1
      have r0 := BR3.out.cell 0
      have r1 := BR3.out.cell 1
      have f0 := BR3.out.free 0
      have f1 := BR3.out.free 1
      obtain ⟨bb, off, rfl, x0, x1, x2⟩ := lay3 (LAY.out _ _ HO3.out) IL.out
      rw [← DD.out] at x2
      dsimp only at x2
      clear x0 x1
      go_wp2_with fail
      clear x2
      refine (MA.out _ (LAY.out _ _ HO3.out)).mono ?_
      rintro e w4 ⟨rfl, hb4⟩
      have B4 := Lib.hid (up B3.out hb4 B3.out.size)
      have BX4 := Lib.hid (BX3.out.below hb4 BX3.out.lt)
      have BR4 := Lib.hid (BR3.out.below hb4 BR3.out.lt)
      have HO4 := Lib.hid (HO3.out.below hb4)
      clear hb4 b0 b1 r0 r1 f0 f1
      have b0 := BX4.out.cell 0
      have b1 := BX4.out.cell 1
      have r0 := BR4.out.cell 0
      have r1 := BR4.out.cell 1
      have f0 := BR4.out.free 0
      have f1 := BR4.out.free 1
      go_wp2_with fail
      have K := blk2 BR4.out (.slice (some ⟨bb, off, none⟩) L.length c) (.int .i64 nx)
      have g0 := K.cell 0
      have g1 := K.cell 1
      refine bodyPost_ret (v := .tuple #[.agg #[.slice (some ⟨bb, off, none⟩) L.length c, .int .i64 nx], .int .i64 m]) (by simp [results, Try.results28, go_sem, g0, g1]) rfl ?_
      exact ⟨_, rfl, own2 HO4.out BR4.out (by decide) _ _, below2 B4.out (Nat.le_succ _) _ _⟩
end Go.Proofs.Ytmnkkdalobdabaa.dd
