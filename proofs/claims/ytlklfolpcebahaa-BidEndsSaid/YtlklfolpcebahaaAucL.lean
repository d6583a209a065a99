/-
  The reference's Without.
-/
import Derived.Test.YtlklfolpcebahaaAucK
namespace Go.Proofs.Ytlklfolpcebahaa.bb
open Go.RowKit
open base (ret_bool ret_int made up Blk Only Nums)
open rk
set_option linter.unusedVariables false
set_option linter.unusedSimpArgs false

def RWP (B : Nat) (s : St) (w : World) (e : Ending) (w' : World) : Prop :=
  ∃ v, e = .returned (.agg #[v, .int .i64 s.2]) ∧ Own E7 w' B 52 v s.1 ∧ Below w.heap.size w w'
set_option maxRecDepth 100000 in
set_option maxHeartbeats 4000000 in
theorem rwithout_any (A : Option Addr) (c : Nat) (L : List D) (nx : Int) (i B : Nat) (w : World) (ho : Own E7 w B 52 (.slice A L.length c) L) (hl : L.length ≤ 100000) (hB : B ≤ w.heap.size) :
    Calls Try.prog 21 #[.agg #[.slice A L.length c, .int .i64 nx], .int .i64 (i : Nat)] w (RWP B (L.eraseIdx i, nx) w) := by
  have hm1 : Below w.heap.size w (w.alloc (.cells #[.slice A L.length c, .int .i64 nx] 28)) := made w _
  have hm2 : Below w.heap.size w ((w.alloc (.cells #[.slice A L.length c, .int .i64 nx] 28)).alloc (.cells #[.slice none 0 0, .int .i64 0] 28)) := hm1.alloc (by rw [asz]; omega) _
  have bx : Blk ((w.alloc (.cells #[.slice A L.length c, .int .i64 nx] 28)).alloc (.cells #[.slice none 0 0, .int .i64 0] 28)) w.heap.size 28 #[.slice A L.length c, .int .i64 nx] := (Blk.new _ _ _).alloc _
  have br : Blk ((w.alloc (.cells #[.slice A L.length c, .int .i64 nx] 28)).alloc (.cells #[.slice none 0 0, .int .i64 0] 28)) (w.heap.size + 1) 28 #[.slice none 0 0, .int .i64 0] := by
    have := Blk.new (w.alloc (.cells #[.slice A L.length c, .int .i64 nx] 28)) 28 #[.slice none 0 0, .int .i64 0]
    rw [asz] at this
    exact this
  have hs2 : ((w.alloc (.cells #[.slice A L.length c, .int .i64 nx] 28)).alloc (.cells #[.slice none 0 0, .int .i64 0] 28)).heap.size = w.heap.size + 2 := by rw [asz, asz]
  have BX := Lib.hid bx
  have BR := Lib.hid br
  have M := Lib.hid hm2
  have Z2 := Lib.hid hs2
  have HO := Lib.hid (ho.below hm2)
  have HB := Lib.hid hB
  have b0 := bx.cell 0
  have b1 := bx.cell 1
  have r0 := br.cell 0
  have r1 := br.cell 1
  have f0 := br.free 0
  have f1 := br.free 1
  have LAY := Lib.hid (show ∀ ws B', Own E7 ws B' 52 (.slice A L.length c) L → Lay E7 ws A L from fun ws B' h => by
    obtain ⟨A', c', e, h2, _⟩ := h.open_
    injection e with e1 e2 e3
    subst e1
    exact h2)
  clear ho hB hm1 hm2 bx br hs2
  generalize hw2 : (w.alloc (.cells #[.slice A L.length c, .int .i64 nx] 28)).alloc (.cells #[.slice none 0 0, .int .i64 0] 28) = w2 at *
  go_enter Try.func21, Try.ntmps21
  go_wp2_with (rw [hw2])
  clear b0 b1 r0 r1 f0 f1
  go_loopw [5, 6] (fun o j wr => ∃ (k : Nat) (W : World), W = wr ∧ k ≤ L.length ∧ j = .int .i64 k ∧ Own E7 wr w2.heap.size 52 o ((L.take k).eraseIdx i) ∧ Below w2.heap.size w2 wr) (fun _ j _ => L.length - (intOf j).toNat)
  case atStart => exact ⟨0, _, rfl, by omega, rfl, Own.nil _ _ _, Below.refl _ _⟩
  case round =>
    obtain ⟨k, w5, rfl, hk, rfl, hown, hb5⟩ := hrel
    have O5 := Lib.hid hown
    have B5 := Lib.hid hb5
    have b0 := (BX.out.below hb5 BX.out.lt).cell 0
    have b1 := (BX.out.below hb5 BX.out.lt).cell 1
    by_cases hkl : k < L.length
    · have TK := Lib.hid (erase_snoc L i hkl)
      by_cases hki : k = i
      · have q : ((k : Int) != (i : Int)) = false := by simp; omega
        rw [if_pos hki] at TK
        clear hown hb5 hki
        go_wp2_with fail
        refine ⟨⟨k + 1, _, rfl, by omega, by go_num, by rw [TK.out]; exact O5.out, B5.out⟩, by simp [intOf]; omega⟩
      · have q : ((k : Int) != (i : Int)) = true := by simp; omega
        rw [if_neg hki] at TK
        obtain ⟨bb, off, rfl, e0, e1, e2, e3, e4, e5, e6⟩ := lay7 (LAY.out _ _ (HO.out.below hb5)) hkl
        clear hown hb5 hki
        generalize L[k] = d at *
        obtain ⟨d0, d1, d2, d3, d4, d5, d6⟩ := d
        dsimp only at e0 e1 e2 e3 e4 e5 e6
        have O6 := Lib.hid (O5.out.below (made w5 (.cells #[.int .i64 d0, .int .i64 d1, .int .i64 d2, .int .i64 d3, .int .i64 d4, .int .i64 d5, .int .i64 d6] 52)))
        have LY := Lib.hid (Lay.lit (E := E7) (w5.alloc (.cells #[.int .i64 d0, .int .i64 d1, .int .i64 d2, .int .i64 d3, .int .i64 d4, .int .i64 d5, .int .i64 d6] 52)) (d0, d1, d2, d3, d4, d5, d6) 52 w5.heap.size (Blk.new _ _ _))
        have B6 := Lib.hid (up B5.out (made w5 (.cells #[.int .i64 d0, .int .i64 d1, .int .i64 d2, .int .i64 d3, .int .i64 d4, .int .i64 d5, .int .i64 d6] 52)) B5.out.size)
        have HT := Lib.hid (show ((L.take k).eraseIdx i).length + 1 ≤ 100000000 by have := List.length_eraseIdx_le (L.take k) i; rw [List.length_take] at this; omega)
        go_wp2_with ((with_reducible show wpList _ _ _ (⟨some 24, _, _, _, _, _⟩ :: _) _ _); go_must (refine wp_app TR (c := 1) (n := 1) rfl _ _ rfl rfl rfl rfl rfl O6.out LY.out HT.out B6.out.size ?_))
        intro v7 w7 own7 gr7
        have B7 := Lib.hid (B6.out.trans (gr7.below O6.out B6.out.size))
        rw [← TK.out] at own7
        have O7 := Lib.hid own7
        obtain ⟨A2, c2, rfl, -⟩ := own7.open_
        clear own7 gr7 O6 LY B6 e0 e1 e2 e3 e4 e5 e6 b0 b1 HT
        go_wp2_with fail
        refine ⟨⟨k + 1, _, rfl, by omega, by go_num, O7.out, B7.out⟩, by simp [intOf]; omega⟩
    · obtain rfl : k = L.length := by omega
      rw [List.take_length] at O5
      have br5 := BR.out.below hb5 BR.out.lt
      have bx5 := BX.out.below hb5 BX.out.lt
      have B0 := Lib.hid (up M.out hb5 M.out.size)
      have BR5 := Lib.hid br5
      obtain ⟨Av, cv, rfl, -⟩ := O5.out.open_
      clear hown hb5 b0 b1
      have b0 := bx5.cell 0
      have b1 := bx5.cell 1
      have r0 := br5.cell 0
      have r1 := br5.cell 1
      have f0 := br5.free 0
      have f1 := br5.free 1
      clear br5 bx5
      go_wp2_with fail
      have K := blk2 BR5.out (.slice Av (L.eraseIdx i).length cv) (.int .i64 nx)
      have g0 := K.cell 0
      have g1 := K.cell 1
      have HBB := Lib.hid (show B ≤ w2.heap.size from Nat.le_trans HB.out M.out.size)
      refine bodyPost_ret (v := .agg #[.slice Av (L.eraseIdx i).length cv, .int .i64 nx]) (by simp [results, Try.results21, go_sem, g0, g1]) rfl ?_
      exact ⟨_, rfl, (own2 O5.out BR5.out (by decide) _ _).mono HBB.out, below2 B0.out (Nat.le_succ _) _ _⟩
end Go.Proofs.Ytlklfolpcebahaa.bb
