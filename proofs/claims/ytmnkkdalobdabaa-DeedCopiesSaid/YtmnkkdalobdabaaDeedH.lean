/-
  The reference's deeds: Void, Move.
-/
import Derived.Test.YtmnkkdalobdabaaDeedG
namespace Go.Proofs.Ytmnkkdalobdabaa.dd
open Go.RowKit
open base (ret_bool ret_int made up Blk Only Nums)
open rk
set_option linter.unusedVariables false
set_option linter.unusedSimpArgs false


set_option maxRecDepth 100000 in
set_option maxHeartbeats 4000000 in
theorem rvoid_any (A : Option Addr) (c : Nat) (L : List D) (nx n : Int) (B : Nat) (w : World) (ho : Own E3 w B 45 (.slice A L.length c) L) (hl : L.length ≤ 100000) (hB : B ≤ w.heap.size) :
    Calls Try.prog 30 #[.agg #[.slice A L.length c, .int .i64 nx], .int .i64 n] w (ROP B (void (L, nx) n) w) := by
  have IS := Lib.hid (show void (L, nx) n = match fi (isId n) L with | none => ((L, nx), 14) | some i => ((L.eraseIdx i, nx), 0) from rfl)
  generalize void (L, nx) n = r at *
  have hm1 : Below w.heap.size w (w.alloc (.cells #[.slice A L.length c, .int .i64 nx] 28)) := made w _
  have hm2 : Below w.heap.size w ((w.alloc (.cells #[.slice A L.length c, .int .i64 nx] 28)).alloc (.cells #[.slice none 0 0, .int .i64 0] 28)) := hm1.alloc (by rw [asz]; omega) _
  have bx : Blk ((w.alloc (.cells #[.slice A L.length c, .int .i64 nx] 28)).alloc (.cells #[.slice none 0 0, .int .i64 0] 28)) w.heap.size 28 #[.slice A L.length c, .int .i64 nx] := (Blk.new _ _ _).alloc _
  have br : Blk ((w.alloc (.cells #[.slice A L.length c, .int .i64 nx] 28)).alloc (.cells #[.slice none 0 0, .int .i64 0] 28)) (w.heap.size + 1) 28 #[.slice none 0 0, .int .i64 0] := by
    have := Blk.new (w.alloc (.cells #[.slice A L.length c, .int .i64 nx] 28)) 28 #[.slice none 0 0, .int .i64 0]
    rw [asz] at this
    exact this
  have hs2 : ((w.alloc (.cells #[.slice A L.length c, .int .i64 nx] 28)).alloc (.cells #[.slice none 0 0, .int .i64 0] 28)).heap.size = w.heap.size + 2 := by rw [asz, asz]
  have BX := Lib.hid bx
  have BR := Lib.hid br
  have M := Lib.hid hm2
  have Z2 := Lib.hid hs2
  have HO := Lib.hid (ho.below hm2)
  have HB := Lib.hid hB
  have b0 := bx.cell 0
  have b1 := bx.cell 1
  have r0 := br.cell 0
  have r1 := br.cell 1
  have f0 := br.free 0
  have f1 := br.free 1
  have LAY := Lib.hid (show ∀ ws B', Own E3 ws B' 45 (.slice A L.length c) L → Lay E3 ws A L from fun ws B' h => by
    obtain ⟨A', c', e, h2, _⟩ := h.open_
    injection e with e1 e2 e3
    subst e1
    exact h2)
  have OF := Lib.hid (fun ws (h : Lay E3 ws A L) => rfind_any A c L nx n ws h hl)
  have FL := Lib.hid (fun i (h : fi (isId n) L = some i) => fi_lt h)
  clear ho hB hm1 hm2 bx br hs2
  generalize hw2 : (w.alloc (.cells #[.slice A L.length c, .int .i64 nx] 28)).alloc (.cells #[.slice none 0 0, .int .i64 0] 28) = w2 at *
  generalize fi (isId n) L = o at *
  cases o with
  | none =>
    obtain rfl := IS.out
    dsimp only [ix] at OF
    go_enter Try.func30, Try.ntmps30
    go_wp2_with (rw [hw2])
    refine (OF.out _ (LAY.out _ _ HO.out)).mono ?_
    rintro e w3 ⟨rfl, hb3⟩
    have B3 := Lib.hid (up M.out hb3 M.out.size)
    have BX3 := Lib.hid (BX.out.below hb3 BX.out.lt)
    have BR3 := Lib.hid (BR.out.below hb3 BR.out.lt)
    have HO3 := Lib.hid (HO.out.below hb3)
    clear hb3 b0 b1 r0 r1 f0 f1
    have b0 := BX3.out.cell 0
    have b1 := BX3.out.cell 1
    have r0 := BR3.out.cell 0
    have r1 := BR3.out.cell 1
    have f0 := BR3.out.free 0
    have f1 := BR3.out.free 1
    go_wp2_with fail
    have K := blk2 BR3.out (.slice A L.length c) (.int .i64 nx)
    have g0 := K.cell 0
    have g1 := K.cell 1
    refine bodyPost_ret (v := .tuple #[.agg #[.slice A L.length c, .int .i64 nx], .int .i64 14]) (by simp [results, Try.results30, go_sem, g0, g1]) rfl ?_
    exact ⟨_, rfl, own2 HO3.out BR3.out (by decide) _ _, below2 B3.out (Nat.le_succ _) _ _⟩
  | some i =>
    obtain rfl := IS.out
    dsimp only [ix] at OF
    have hil := FL.out i rfl
    go_enter Try.func30, Try.ntmps30
    go_wp2_with (rw [hw2])
    refine (OF.out _ (LAY.out _ _ HO.out)).mono ?_
    rintro e w3 ⟨rfl, hb3⟩
    have B3 := Lib.hid (up M.out hb3 M.out.size)
    have BX3 := Lib.hid (BX.out.below hb3 BX.out.lt)
    have BR3 := Lib.hid (BR.out.below hb3 BR.out.lt)
    have HO3 := Lib.hid (HO.out.below hb3)
    clear hb3 b0 b1 r0 r1 f0 f1
    have b0 := BX3.out.cell 0
    have b1 := BX3.out.cell 1
    have r0 := BR3.out.cell 0
    have r1 := BR3.out.cell 1
    have f0 := BR3.out.free 0
    have f1 := BR3.out.free 1
    go_wp2_with fail
    clear b0 b1 r0 r1 f0 f1 OF
    go_loopw [7, 8] (fun o j wr => ∃ (k : Nat) (W : World), W = wr ∧ k ≤ L.length ∧ j = .int .i64 k ∧ Own E3 wr w3.heap.size 45 o ((L.take k).eraseIdx i) ∧ Below w3.heap.size w3 wr) (fun _ j _ => L.length - (intOf j).toNat)
    case atStart => exact ⟨0, _, rfl, by omega, rfl, Own.nil _ _ _, Below.refl _ _⟩
    case round =>
      obtain ⟨k, w5, rfl, hk, rfl, hown, hb5⟩ := hrel
      have O5 := Lib.hid hown
      have B5 := Lib.hid hb5
      have b0 := (BX3.out.below hb5 BX3.out.lt).cell 0
      have b1 := (BX3.out.below hb5 BX3.out.lt).cell 1
      by_cases hkl : k < L.length
      · have TK := Lib.hid (erase_snoc L i hkl)
        by_cases hki : k = i
        · have q : ((k : Int) != (i : Int)) = false := by simp; omega
          rw [if_pos hki] at TK
          clear hown hb5 hki
          go_wp2_with fail
          refine ⟨⟨k + 1, _, rfl, by omega, by go_num, by rw [TK.out]; exact O5.out, B5.out⟩, by simp [intOf]; omega⟩
        · have q : ((k : Int) != (i : Int)) = true := by simp; omega
          rw [if_neg hki] at TK
          obtain ⟨bb, off, rfl, e0, e1, e2⟩ := lay3 (LAY.out _ _ (HO3.out.below hb5)) hkl
          clear hown hb5 hki
          generalize L[k] = d at *
          obtain ⟨d0, d1, d2⟩ := d
          dsimp only at e0 e1 e2
          have O6 := Lib.hid (O5.out.below (made w5 (.cells #[.int .i64 d0, .int .i64 d1, .int .i64 d2] 45)))
          have LY := Lib.hid (Lay.lit (E := E3) (w5.alloc (.cells #[.int .i64 d0, .int .i64 d1, .int .i64 d2] 45)) (d0, d1, d2) 45 w5.heap.size (Blk.new _ _ _))
          have B6 := Lib.hid (up B5.out (made w5 (.cells #[.int .i64 d0, .int .i64 d1, .int .i64 d2] 45)) B5.out.size)
          have HT := Lib.hid (show ((L.take k).eraseIdx i).length + 1 ≤ 100000000 by have := List.length_eraseIdx_le (L.take k) i; rw [List.length_take] at this; omega)
          go_wp2_with ((with_reducible show wpList _ _ _ (⟨some 32, _, _, _, _, _⟩ :: _) _ _); go_must (refine wp_app TR (c := 1) (n := 1) rfl _ _ rfl rfl rfl rfl rfl O6.out LY.out HT.out B6.out.size ?_))
          intro v7 w7 own7 gr7
          have B7 := Lib.hid (B6.out.trans (gr7.below O6.out B6.out.size))
          rw [← TK.out] at own7
          have O7 := Lib.hid own7
          obtain ⟨A2, c2, rfl, -⟩ := own7.open_
          clear own7 gr7 O6 LY B6 e0 e1 e2 b0 b1 HT
          go_wp2_with fail
          refine ⟨⟨k + 1, _, rfl, by omega, by go_num, O7.out, B7.out⟩, by simp [intOf]; omega⟩
      · obtain rfl : k = L.length := by omega
        rw [List.take_length] at O5
        have br5 := BR3.out.below hb5 BR3.out.lt
        have bx5 := BX3.out.below hb5 BX3.out.lt
        have B0 := Lib.hid (up B3.out hb5 B3.out.size)
        have BR5 := Lib.hid br5
        obtain ⟨Av, cv, rfl, -⟩ := O5.out.open_
        clear hown hb5 b0 b1
        have b0 := bx5.cell 0
        have b1 := bx5.cell 1
        have r0 := br5.cell 0
        have r1 := br5.cell 1
        have f0 := br5.free 0
        have f1 := br5.free 1
        clear br5 bx5
        go_wp2_with fail
        have K := blk2 BR5.out (.slice Av (L.eraseIdx i).length cv) (.int .i64 nx)
        have g0 := K.cell 0
        have g1 := K.cell 1
        have HBB := Lib.hid (show B ≤ w3.heap.size from Nat.le_trans HB.out B3.out.size)
        refine bodyPost_ret (v := .tuple #[.agg #[.slice Av (L.eraseIdx i).length cv, .int .i64 nx], .int .i64 0]) (by simp [results, Try.results30, go_sem, g0, g1]) rfl ?_
        exact ⟨_, rfl, (own2 O5.out BR5.out (by decide) _ _).mono HBB.out, below2 B0.out (Nat.le_succ _) _ _⟩
end Go.Proofs.Ytmnkkdalobdabaa.dd
