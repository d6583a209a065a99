/-
  Contracts of package bid: Open, where there is none; what is held; the one with number 1.
-/
import Derived.Test.YtlklfolpcebahaaBidB
namespace Go.Proofs.Ytlklfolpcebahaa.bd
open Go.RowKit
open base (ret_bool ret_int made up Blk Only Nums)
set_option linter.unusedVariables false
set_option linter.unusedSimpArgs false

set_option maxRecDepth 100000 in
set_option maxHeartbeats 2000000 in
theorem open_any (g : Nat) (d l n : Int) (B : Nat) (w : World) (hB : B ≤ g) (hd : 1 ≤ d) (hl : 0 ≤ l ∧ l ≤ 1099511627776) (hn : 0 ≤ n ∧ n ≤ 4398046511104) (h : Blk w g 58 #[.slice none 0 0, .int .i64 1]) :
    Calls Try.prog 16 #[.pointer (some ⟨g, 0, none⟩), .int .i64 d, .int .i64 1, .int .i64 l, .int .i64 n] w fun e w' => e = .returned (.tuple #[.int .i64 1, .int .i64 0]) ∧ Below B w w' ∧ ∃ gl cap, One w' g gl cap d l 0 0 n ∧ B ≤ gl := by
  obtain ⟨hl0, hl1⟩ := hl
  obtain ⟨hn0, hn1⟩ := hn
  have RI := Lib.hid (right_any l w)
  rw [right_mk hl0 hl1] at RI
  have OF := Lib.hid (of_none g d 1 w h)
  have H := Lib.hid h
  have HB := Lib.hid hB
  clear h hB
  go_enter Try.func16, Try.ntmps16
  go_wp2_with fail
  refine RI.out.mono ?_
  rintro e w1 ⟨rfl, rfl⟩
  go_wp2_with fail
  refine OF.out.mono ?_
  rintro e w2 ⟨rfl, hb2⟩
  have B2 := Lib.hid (up hb2 (made w2 (.cells #[.int .i64 0, .int .i64 0, .int .i64 0, .int .i64 0, .int .i64 0, .int .i64 0, .int .i64 0] 35)) hb2.size)
  have H3 := Lib.hid (H.out.below B2.out H.out.lt)
  have S3 := Lib.hid (asz w2 (.cells #[.int .i64 0, .int .i64 0, .int .i64 0, .int .i64 0, .int .i64 0, .int .i64 0, .int .i64 0] 35))
  have c0 := H3.out.cell 0
  have c1 := H3.out.cell 1
  have f0 := H3.out.free 0
  have f1 := H3.out.free 1
  clear hb2 RI OF
  have h4 : Blk (((w2.alloc (.cells #[.int .i64 0, .int .i64 0, .int .i64 0, .int .i64 0, .int .i64 0, .int .i64 0, .int .i64 0] 35)).setCell ⟨g, 1, none⟩ (.int .i64 2)).alloc (.cells #[.int .i64 1, .int .i64 d, .int .i64 1, .int .i64 l, .int .i64 0, .int .i64 0, .int .i64 n] 35)) g 58 #[.slice none 0 0, .int .i64 2] := (H3.out.put 1 (.int .i64 2)).alloc _
  have bn : Blk (((w2.alloc (.cells #[.int .i64 0, .int .i64 0, .int .i64 0, .int .i64 0, .int .i64 0, .int .i64 0, .int .i64 0] 35)).setCell ⟨g, 1, none⟩ (.int .i64 2)).alloc (.cells #[.int .i64 1, .int .i64 d, .int .i64 1, .int .i64 l, .int .i64 0, .int .i64 0, .int .i64 n] 35)) (w2.heap.size + 1) 35 #[.int .i64 1, .int .i64 d, .int .i64 1, .int .i64 l, .int .i64 0, .int .i64 0, .int .i64 n] := by
    have := Blk.new ((w2.alloc (.cells #[.int .i64 0, .int .i64 0, .int .i64 0, .int .i64 0, .int .i64 0, .int .i64 0, .int .i64 0] 35)).setCell ⟨g, 1, none⟩ (.int .i64 2)) 35 #[.int .i64 1, .int .i64 d, .int .i64 1, .int .i64 l, .int .i64 0, .int .i64 0, .int .i64 n]
    rw [show ((w2.alloc (.cells #[.int .i64 0, .int .i64 0, .int .i64 0, .int .i64 0, .int .i64 0, .int .i64 0, .int .i64 0] 35)).setCell ⟨g, 1, none⟩ (.int .i64 2)).heap.size = w2.heap.size + 1 by simp [World.setCell]] at this
    exact this
  have BN := Lib.hid bn
  have H4 := Lib.hid h4
  have B4 := Lib.hid (show Below B w1 (((w2.alloc (.cells #[.int .i64 0, .int .i64 0, .int .i64 0, .int .i64 0, .int .i64 0, .int .i64 0, .int .i64 0] 35)).setCell ⟨g, 1, none⟩ (.int .i64 2)).alloc (.cells #[.int .i64 1, .int .i64 d, .int .i64 1, .int .i64 l, .int .i64 0, .int .i64 0, .int .i64 n] 35)) from by
    have hB := HB.out
    have hlt := H.out.lt
    have h1 : Below B w1 (w2.alloc (.cells #[.int .i64 0, .int .i64 0, .int .i64 0, .int .i64 0, .int .i64 0, .int .i64 0, .int .i64 0] 35)) := (Below.refl B w1).trans (B2.out.mono (by omega))
    refine (h1.setCell (p := ⟨g, 1, none⟩) hB _).alloc ?_ _
    have := H3.out.lt
    simp [World.setCell]
    have := B2.out.size
    have := S3.out
    omega)
  clear h4 bn
  go_wp2_with ((with_reducible show wpList _ _ _ (⟨some 68, _, _, _, _, _⟩ :: _) _ _); go_must (refine wp_app1 (c := 1) rfl _ _ rfl rfl rfl BN.out ?_))
  intro gl cap w3 hgl hc1 hc2 hrow hg
  have H5 := Lib.hid (H4.out.grown hg (by simp))
  have hgl2 : w2.heap.size + 1 + 1 ≤ gl := by simpa [World.setCell] using hgl
  have hg2 : g < w2.heap.size + 1 := by have := H3.out.lt; have := S3.out; omega
  have hne : gl ≠ g := by omega
  have ON := Lib.hid (show One (w3.setCell ⟨g, 0, none⟩ (.slice (some ⟨gl, 0, none⟩) 1 cap)) g gl cap d l 0 0 n from ⟨H5.out.put 0 _, hrow.far hne _, hc1, hc2⟩)
  have B5 := Lib.hid (show Below B w1 (w3.setCell ⟨g, 0, none⟩ (.slice (some ⟨gl, 0, none⟩) 1 cap)) from by
    refine (B4.out.grown hg ?_ (fun k e => by cases e)).setCell (p := ⟨g, 0, none⟩) HB.out _
    exact Nat.le_trans HB.out (Nat.le_of_lt H4.out.lt))
  have GL := Lib.hid (show B ≤ gl by have := HB.out; omega)
  clear hgl hgl2 hg2 hrow hg c0 c1 f0 f1
  have f0 := H5.out.free 0
  have c0 := H5.out.cell 0
  go_wp2_with fail
  go_ret2
  exact ⟨rfl, B5.out, gl, cap, ON.out, GL.out⟩

set_option maxRecDepth 100000 in
set_option maxHeartbeats 2000000 in
theorem held_any (g gl cap : Nat) (d l b p n : Int) (w : World) (h : One w g gl cap d l b p n) (hb : 0 ≤ b ∧ b ≤ 1099511627776) :
    Calls Try.prog 18 #[.pointer (some ⟨g, 0, none⟩)] w fun e w' => e = .returned (.int .i64 b) ∧ Below w.heap.size w w' := by
  obtain ⟨hb0, hb1⟩ := hb
  have c0 := h.blk.cell 0
  have H := Lib.hid h
  clear h
  go_enter Try.func18, Try.ntmps18
  go_wp2_with fail
  go_loopw [3, 11] (fun s i wr => ∃ (k : Nat) (W : World), W = wr ∧ k ≤ 1 ∧ i = .int .i64 k ∧ s = .int .i64 (if k = 0 then 0 else b) ∧ Below w.heap.size w wr) (fun _ i _ => 1 - (intOf i).toNat)
  case atStart => exact ⟨0, _, rfl, by omega, rfl, rfl, Below.refl _ _⟩
  case round =>
    obtain ⟨k, w2, rfl, hk, rfl, rfl, hb2⟩ := hrel
    have B2 := Lib.hid hb2
    have r := H.out.row.below hb2 H.out.row.lt
    have d0 := r.cell (j := 0) (by omega)
    have d1 := r.cell (j := 1) (by omega)
    have d2 := r.cell (j := 2) (by omega)
    have d3 := r.cell (j := 3) (by omega)
    have d4 := r.cell (j := 4) (by omega)
    have d5 := r.cell (j := 5) (by omega)
    have d6 := r.cell (j := 6) (by omega)
    simp only [List.getD_cons_zero, List.getD_cons_succ] at d0 d1 d2 d3 d4 d5 d6
    have B3 := Lib.hid (hb2.alloc hb2.size (.cells #[.int .i64 1, .int .i64 d, .int .i64 1, .int .i64 l, .int .i64 b, .int .i64 p, .int .i64 n] 35))
    clear hb2 r
    by_cases hk0 : k = 0
    · subst hk0
      rw [if_pos rfl]
      have e0 : ((0 : Nat) : Int) = 0 := rfl
      rw [e0]
      go_wp2_with fail
      refine ⟨⟨1, _, rfl, by omega, by go_num, ?_, B3.out⟩, by simp [intOf]⟩
      simp
    · obtain rfl : k = 1 := by omega
      rw [if_neg (by omega)]
      clear d0 d1 d2 d3 d4 d5 d6
      go_wp2_with fail
      go_ret
      exact ⟨rfl, B2.out⟩
end Go.Proofs.Ytlklfolpcebahaa.bd
