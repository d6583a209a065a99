/-
  Contracts of package bid: Bid, refused or not.
-/
import Derived.Test.YtlklfolpcebahaaBidD
namespace Go.Proofs.Ytlklfolpcebahaa.bd
open Go.RowKit
open base (ret_bool ret_int made up Blk Only Nums)
set_option linter.unusedVariables false
set_option linter.unusedSimpArgs false

theorem blk7 {w : World} {r : Nat} {t : TypeId} {a0 a1 a2 a3 a4 a5 a6 : Value} (h : Blk w r t #[a0, a1, a2, a3, a4, a5, a6]) (v0 v1 v2 v3 v4 v5 v6 : Value) :
    Blk (((((((w.setCell ⟨r, 0, none⟩ v0).setCell ⟨r, 1, none⟩ v1).setCell ⟨r, 2, none⟩ v2).setCell ⟨r, 3, none⟩ v3).setCell ⟨r, 4, none⟩ v4).setCell ⟨r, 5, none⟩ v5).setCell ⟨r, 6, none⟩ v6) r t #[v0, v1, v2, v3, v4, v5, v6] := by
  have h7 := ((((((h.put 0 v0).put 1 v1).put 2 v2).put 3 v3).put 4 v4).put 5 v5).put 6 v6
  simp only [List.setIfInBounds_toArray, List.set_cons_zero, List.set_cons_succ] at h7
  exact h7
theorem below7 {B : Nat} {w w' : World} {r : Nat} (h : Below B w w') (hB : B ≤ r) (v0 v1 v2 v3 v4 v5 v6 : Value) :
    Below B w (((((((w'.setCell ⟨r, 0, none⟩ v0).setCell ⟨r, 1, none⟩ v1).setCell ⟨r, 2, none⟩ v2).setCell ⟨r, 3, none⟩ v3).setCell ⟨r, 4, none⟩ v4).setCell ⟨r, 5, none⟩ v5).setCell ⟨r, 6, none⟩ v6) :=
  ((((((h.setCell (p := ⟨r, 0, none⟩) hB _).setCell (p := ⟨r, 1, none⟩) hB _).setCell (p := ⟨r, 2, none⟩) hB _).setCell (p := ⟨r, 3, none⟩) hB _).setCell (p := ⟨r, 4, none⟩) hB _).setCell (p := ⟨r, 5, none⟩) hB _).setCell (p := ⟨r, 6, none⟩) hB _
theorem only7 {S : Nat → Prop} {w w' : World} {r : Nat} (h : Only S w w') (hB : w.heap.size ≤ r) (v0 v1 v2 v3 v4 v5 v6 : Value) :
    Only S w (((((((w'.setCell ⟨r, 0, none⟩ v0).setCell ⟨r, 1, none⟩ v1).setCell ⟨r, 2, none⟩ v2).setCell ⟨r, 3, none⟩ v3).setCell ⟨r, 4, none⟩ v4).setCell ⟨r, 5, none⟩ v5).setCell ⟨r, 6, none⟩ v6) :=
  ((((((h.setCell (p := ⟨r, 0, none⟩) (.inr hB) _).setCell (p := ⟨r, 1, none⟩) (.inr hB) _).setCell (p := ⟨r, 2, none⟩) (.inr hB) _).setCell (p := ⟨r, 3, none⟩) (.inr hB) _).setCell (p := ⟨r, 4, none⟩) (.inr hB) _).setCell (p := ⟨r, 5, none⟩) (.inr hB) _).setCell (p := ⟨r, 6, none⟩) (.inr hB) _
theorem far7 {w : World} {g : Nat} {t : TypeId} {cs : Array Value} {r : Nat} (h : Blk w g t cs) (hn : g ≠ r) (v0 v1 v2 v3 v4 v5 v6 : Value) :
    Blk (((((((w.setCell ⟨r, 0, none⟩ v0).setCell ⟨r, 1, none⟩ v1).setCell ⟨r, 2, none⟩ v2).setCell ⟨r, 3, none⟩ v3).setCell ⟨r, 4, none⟩ v4).setCell ⟨r, 5, none⟩ v5).setCell ⟨r, 6, none⟩ v6) g t cs :=
  ((((((h.far (p := ⟨r, 0, none⟩) hn _).far (p := ⟨r, 1, none⟩) hn _).far (p := ⟨r, 2, none⟩) hn _).far (p := ⟨r, 3, none⟩) hn _).far (p := ⟨r, 4, none⟩) hn _).far (p := ⟨r, 5, none⟩) hn _).far (p := ⟨r, 6, none⟩) hn _
set_option maxRecDepth 100000 in
set_option maxHeartbeats 2000000 in
theorem bid_form (g gl cap : Nat) (d l b p n who z : Int) (w : World) (h : One w g gl cap d l b p n) (hw : who < 1) :
    Calls Try.prog 17 #[.pointer (some ⟨g, 0, none⟩), .int .i64 1, .int .i64 who, .int .i64 z] w fun e w' => e = .returned (.tuple #[(.agg #[.int .i64 0, .int .i64 0, .int .i64 0, .int .i64 0, .int .i64 0, .int .i64 0, .int .i64 0]), .int .i64 10]) ∧ Below w.heap.size w w' := by
  have hm1 : Below w.heap.size w (w.alloc (.cells #[.int .i64 0, .int .i64 0, .int .i64 0, .int .i64 0, .int .i64 0, .int .i64 0, .int .i64 0] 35)) := made w _
  have NO := Lib.hid (numbered_one g gl cap d l b p n (w.alloc (.cells #[.int .i64 0, .int .i64 0, .int .i64 0, .int .i64 0, .int .i64 0, .int .i64 0, .int .i64 0] 35)) (h.below hm1))
  have H1 := Lib.hid (h.below hm1)
  have M1 := Lib.hid hm1
  have BR := Lib.hid (Blk.new w 35 #[.int .i64 0, .int .i64 0, .int .i64 0, .int .i64 0, .int .i64 0, .int .i64 0, .int .i64 0])
  clear h hm1
  go_enter Try.func17, Try.ntmps17
  go_wp2_with fail
  refine NO.out.mono ?_
  rintro e w2 ⟨rfl, hb2⟩
  have H2 := Lib.hid (H1.out.below hb2)
  have B2 := Lib.hid (up M1.out hb2 M1.out.size)
  have BR2 := Lib.hid (BR.out.below hb2 BR.out.lt)
  have hm3 := made w2 (.cells #[.int .i64 1, .int .i64 d, .int .i64 1, .int .i64 l, .int .i64 b, .int .i64 p, .int .i64 n] 35)
  have B3 := Lib.hid (up B2.out hm3 B2.out.size)
  have BR3 := Lib.hid (BR2.out.alloc (.cells #[.int .i64 1, .int .i64 d, .int .i64 1, .int .i64 l, .int .i64 b, .int .i64 p, .int .i64 n] 35))
  have H3 := Lib.hid (H2.out.below hm3)
  have BT := Lib.hid (Blk.new w2 35 #[.int .i64 1, .int .i64 d, .int .i64 1, .int .i64 l, .int .i64 b, .int .i64 p, .int .i64 n])
  have r := H2.out.row
  have c0 := H2.out.blk.cell 0
  have d0 := r.cell (j := 0) (by omega)
  have d1 := r.cell (j := 1) (by omega)
  have d2 := r.cell (j := 2) (by omega)
  have d3 := r.cell (j := 3) (by omega)
  have d4 := r.cell (j := 4) (by omega)
  have d5 := r.cell (j := 5) (by omega)
  have d6 := r.cell (j := 6) (by omega)
  simp only [List.getD_cons_zero, List.getD_cons_succ] at d0 d1 d2 d3 d4 d5 d6
  have r0 := BR3.out.cell 0
  have r1 := BR3.out.cell 1
  have r2 := BR3.out.cell 2
  have r3 := BR3.out.cell 3
  have r4 := BR3.out.cell 4
  have r5 := BR3.out.cell 5
  have r6 := BR3.out.cell 6
  have f0 := BR3.out.free 0
  have f1 := BR3.out.free 1
  have f2 := BR3.out.free 2
  have f3 := BR3.out.free 3
  have f4 := BR3.out.free 4
  have f5 := BR3.out.free 5
  have f6 := BR3.out.free 6
  have t2 := BT.out.cell 2
  have cap1 := H2.out.le
  clear hb2 NO hm3 r
  go_wp2_with fail
  have K7 := blk7 BR3.out (.int .i64 0) (.int .i64 0) (.int .i64 0) (.int .i64 0) (.int .i64 0) (.int .i64 0) (.int .i64 0)
  have g0 := K7.cell 0
  have g1 := K7.cell 1
  have g2 := K7.cell 2
  have g3 := K7.cell 3
  have g4 := K7.cell 4
  have g5 := K7.cell 5
  have g6 := K7.cell 6
  refine bodyPost_ret (v := .tuple #[(.agg #[.int .i64 0, .int .i64 0, .int .i64 0, .int .i64 0, .int .i64 0, .int .i64 0, .int .i64 0]), .int .i64 10]) (by simp [results, Try.results17, go_sem, g0, g1, g2, g3, g4, g5, g6]) rfl ⟨rfl, below7 B3.out (Nat.le_refl _) _ _ _ _ _ _ _⟩
set_option maxRecDepth 100000 in
set_option maxHeartbeats 2000000 in
theorem bid_own (g gl cap : Nat) (d l b p n who z : Int) (w : World) (h : One w g gl cap d l b p n) (hw : who = 1) :
    Calls Try.prog 17 #[.pointer (some ⟨g, 0, none⟩), .int .i64 1, .int .i64 who, .int .i64 z] w fun e w' => e = .returned (.tuple #[(.agg #[.int .i64 0, .int .i64 0, .int .i64 0, .int .i64 0, .int .i64 0, .int .i64 0, .int .i64 0]), .int .i64 38]) ∧ Below w.heap.size w w' := by
  have hm1 : Below w.heap.size w (w.alloc (.cells #[.int .i64 0, .int .i64 0, .int .i64 0, .int .i64 0, .int .i64 0, .int .i64 0, .int .i64 0] 35)) := made w _
  have NO := Lib.hid (numbered_one g gl cap d l b p n (w.alloc (.cells #[.int .i64 0, .int .i64 0, .int .i64 0, .int .i64 0, .int .i64 0, .int .i64 0, .int .i64 0] 35)) (h.below hm1))
  have H1 := Lib.hid (h.below hm1)
  have M1 := Lib.hid hm1
  have BR := Lib.hid (Blk.new w 35 #[.int .i64 0, .int .i64 0, .int .i64 0, .int .i64 0, .int .i64 0, .int .i64 0, .int .i64 0])
  subst hw
  clear h hm1
  go_enter Try.func17, Try.ntmps17
  go_wp2_with fail
  refine NO.out.mono ?_
  rintro e w2 ⟨rfl, hb2⟩
  have H2 := Lib.hid (H1.out.below hb2)
  have B2 := Lib.hid (up M1.out hb2 M1.out.size)
  have BR2 := Lib.hid (BR.out.below hb2 BR.out.lt)
  have hm3 := made w2 (.cells #[.int .i64 1, .int .i64 d, .int .i64 1, .int .i64 l, .int .i64 b, .int .i64 p, .int .i64 n] 35)
  have B3 := Lib.hid (up B2.out hm3 B2.out.size)
  have BR3 := Lib.hid (BR2.out.alloc (.cells #[.int .i64 1, .int .i64 d, .int .i64 1, .int .i64 l, .int .i64 b, .int .i64 p, .int .i64 n] 35))
  have H3 := Lib.hid (H2.out.below hm3)
  have BT := Lib.hid (Blk.new w2 35 #[.int .i64 1, .int .i64 d, .int .i64 1, .int .i64 l, .int .i64 b, .int .i64 p, .int .i64 n])
  have r := H2.out.row
  have c0 := H2.out.blk.cell 0
  have d0 := r.cell (j := 0) (by omega)
  have d1 := r.cell (j := 1) (by omega)
  have d2 := r.cell (j := 2) (by omega)
  have d3 := r.cell (j := 3) (by omega)
  have d4 := r.cell (j := 4) (by omega)
  have d5 := r.cell (j := 5) (by omega)
  have d6 := r.cell (j := 6) (by omega)
  simp only [List.getD_cons_zero, List.getD_cons_succ] at d0 d1 d2 d3 d4 d5 d6
  have r0 := BR3.out.cell 0
  have r1 := BR3.out.cell 1
  have r2 := BR3.out.cell 2
  have r3 := BR3.out.cell 3
  have r4 := BR3.out.cell 4
  have r5 := BR3.out.cell 5
  have r6 := BR3.out.cell 6
  have f0 := BR3.out.free 0
  have f1 := BR3.out.free 1
  have f2 := BR3.out.free 2
  have f3 := BR3.out.free 3
  have f4 := BR3.out.free 4
  have f5 := BR3.out.free 5
  have f6 := BR3.out.free 6
  have t2 := BT.out.cell 2
  have cap1 := H2.out.le
  clear hb2 NO hm3 r
  go_wp2_with fail
  have K7 := blk7 BR3.out (.int .i64 0) (.int .i64 0) (.int .i64 0) (.int .i64 0) (.int .i64 0) (.int .i64 0) (.int .i64 0)
  have g0 := K7.cell 0
  have g1 := K7.cell 1
  have g2 := K7.cell 2
  have g3 := K7.cell 3
  have g4 := K7.cell 4
  have g5 := K7.cell 5
  have g6 := K7.cell 6
  refine bodyPost_ret (v := .tuple #[(.agg #[.int .i64 0, .int .i64 0, .int .i64 0, .int .i64 0, .int .i64 0, .int .i64 0, .int .i64 0]), .int .i64 38]) (by simp [results, Try.results17, go_sem, g0, g1, g2, g3, g4, g5, g6]) rfl ⟨rfl, below7 B3.out (Nat.le_refl _) _ _ _ _ _ _ _⟩
set_option maxRecDepth 100000 in
set_option maxHeartbeats 2000000 in
theorem bid_range (g gl cap : Nat) (d l b p n who z : Int) (w : World) (h : One w g gl cap d l b p n) (hw : 1 < who) (hz : z < 0 ∨ 1099511627776 < z) :
    Calls Try.prog 17 #[.pointer (some ⟨g, 0, none⟩), .int .i64 1, .int .i64 who, .int .i64 z] w fun e w' => e = .returned (.tuple #[(.agg #[.int .i64 0, .int .i64 0, .int .i64 0, .int .i64 0, .int .i64 0, .int .i64 0, .int .i64 0]), .int .i64 11]) ∧ Below w.heap.size w w' := by
  have hm1 : Below w.heap.size w (w.alloc (.cells #[.int .i64 0, .int .i64 0, .int .i64 0, .int .i64 0, .int .i64 0, .int .i64 0, .int .i64 0] 35)) := made w _
  have NO := Lib.hid (numbered_one g gl cap d l b p n (w.alloc (.cells #[.int .i64 0, .int .i64 0, .int .i64 0, .int .i64 0, .int .i64 0, .int .i64 0, .int .i64 0] 35)) (h.below hm1))
  have H1 := Lib.hid (h.below hm1)
  have M1 := Lib.hid hm1
  have BR := Lib.hid (Blk.new w 35 #[.int .i64 0, .int .i64 0, .int .i64 0, .int .i64 0, .int .i64 0, .int .i64 0, .int .i64 0])
  have RI := Lib.hid (fun ws => right_any z ws)
  rw [right_not hz] at RI
  have q1 : (who == 1) = false := by simp; omega
  clear hz
  clear h hm1
  go_enter Try.func17, Try.ntmps17
  go_wp2_with fail
  refine NO.out.mono ?_
  rintro e w2 ⟨rfl, hb2⟩
  have H2 := Lib.hid (H1.out.below hb2)
  have B2 := Lib.hid (up M1.out hb2 M1.out.size)
  have BR2 := Lib.hid (BR.out.below hb2 BR.out.lt)
  have hm3 := made w2 (.cells #[.int .i64 1, .int .i64 d, .int .i64 1, .int .i64 l, .int .i64 b, .int .i64 p, .int .i64 n] 35)
  have B3 := Lib.hid (up B2.out hm3 B2.out.size)
  have BR3 := Lib.hid (BR2.out.alloc (.cells #[.int .i64 1, .int .i64 d, .int .i64 1, .int .i64 l, .int .i64 b, .int .i64 p, .int .i64 n] 35))
  have H3 := Lib.hid (H2.out.below hm3)
  have BT := Lib.hid (Blk.new w2 35 #[.int .i64 1, .int .i64 d, .int .i64 1, .int .i64 l, .int .i64 b, .int .i64 p, .int .i64 n])
  have r := H2.out.row
  have c0 := H2.out.blk.cell 0
  have d0 := r.cell (j := 0) (by omega)
  have d1 := r.cell (j := 1) (by omega)
  have d2 := r.cell (j := 2) (by omega)
  have d3 := r.cell (j := 3) (by omega)
  have d4 := r.cell (j := 4) (by omega)
  have d5 := r.cell (j := 5) (by omega)
  have d6 := r.cell (j := 6) (by omega)
  simp only [List.getD_cons_zero, List.getD_cons_succ] at d0 d1 d2 d3 d4 d5 d6
  have r0 := BR3.out.cell 0
  have r1 := BR3.out.cell 1
  have r2 := BR3.out.cell 2
  have r3 := BR3.out.cell 3
  have r4 := BR3.out.cell 4
  have r5 := BR3.out.cell 5
  have r6 := BR3.out.cell 6
  have f0 := BR3.out.free 0
  have f1 := BR3.out.free 1
  have f2 := BR3.out.free 2
  have f3 := BR3.out.free 3
  have f4 := BR3.out.free 4
  have f5 := BR3.out.free 5
  have f6 := BR3.out.free 6
  have t2 := BT.out.cell 2
  have cap1 := H2.out.le
  clear hb2 NO hm3 r
  go_wp2_with fail
  refine (RI.out _).mono ?_
  rintro e w3 ⟨rfl, rfl⟩
  go_wp2_with fail
  have K7 := blk7 BR3.out (.int .i64 0) (.int .i64 0) (.int .i64 0) (.int .i64 0) (.int .i64 0) (.int .i64 0) (.int .i64 0)
  have g0 := K7.cell 0
  have g1 := K7.cell 1
  have g2 := K7.cell 2
  have g3 := K7.cell 3
  have g4 := K7.cell 4
  have g5 := K7.cell 5
  have g6 := K7.cell 6
  refine bodyPost_ret (v := .tuple #[(.agg #[.int .i64 0, .int .i64 0, .int .i64 0, .int .i64 0, .int .i64 0, .int .i64 0, .int .i64 0]), .int .i64 11]) (by simp [results, Try.results17, go_sem, g0, g1, g2, g3, g4, g5, g6]) rfl ⟨rfl, below7 B3.out (Nat.le_refl _) _ _ _ _ _ _ _⟩
set_option maxRecDepth 100000 in
set_option maxHeartbeats 2000000 in
theorem bid_low (g gl cap : Nat) (d l b p n who z : Int) (w : World) (h : One w g gl cap d l b p n) (hw : 1 < who) (hz : 0 ≤ z ∧ z ≤ 1099511627776) (hb : 0 ≤ b ∧ b ≤ 1099511627776) (hp : 0 ≤ p) (hlo : z < askOf l b p) :
    Calls Try.prog 17 #[.pointer (some ⟨g, 0, none⟩), .int .i64 1, .int .i64 who, .int .i64 z] w fun e w' => e = .returned (.tuple #[(.agg #[.int .i64 0, .int .i64 0, .int .i64 0, .int .i64 0, .int .i64 0, .int .i64 0, .int .i64 0]), .int .i64 36]) ∧ Below w.heap.size w w' := by
  have hm1 : Below w.heap.size w (w.alloc (.cells #[.int .i64 0, .int .i64 0, .int .i64 0, .int .i64 0, .int .i64 0, .int .i64 0, .int .i64 0] 35)) := made w _
  have NO := Lib.hid (numbered_one g gl cap d l b p n (w.alloc (.cells #[.int .i64 0, .int .i64 0, .int .i64 0, .int .i64 0, .int .i64 0, .int .i64 0, .int .i64 0] 35)) (h.below hm1))
  have H1 := Lib.hid (h.below hm1)
  have M1 := Lib.hid hm1
  have BR := Lib.hid (Blk.new w 35 #[.int .i64 0, .int .i64 0, .int .i64 0, .int .i64 0, .int .i64 0, .int .i64 0, .int .i64 0])
  have RI := Lib.hid (fun ws => right_any z ws)
  rw [right_mk hz.1 hz.2] at RI
  have q1 : (who == 1) = false := by simp; omega
  have AK := Lib.hid (fun ws => asks_any d l b p n ws hb hp)
  generalize askOf l b p = ak at *
  clear hz hb hp
  clear h hm1
  go_enter Try.func17, Try.ntmps17
  go_wp2_with fail
  refine NO.out.mono ?_
  rintro e w2 ⟨rfl, hb2⟩
  have H2 := Lib.hid (H1.out.below hb2)
  have B2 := Lib.hid (up M1.out hb2 M1.out.size)
  have BR2 := Lib.hid (BR.out.below hb2 BR.out.lt)
  have hm3 := made w2 (.cells #[.int .i64 1, .int .i64 d, .int .i64 1, .int .i64 l, .int .i64 b, .int .i64 p, .int .i64 n] 35)
  have B3 := Lib.hid (up B2.out hm3 B2.out.size)
  have BR3 := Lib.hid (BR2.out.alloc (.cells #[.int .i64 1, .int .i64 d, .int .i64 1, .int .i64 l, .int .i64 b, .int .i64 p, .int .i64 n] 35))
  have H3 := Lib.hid (H2.out.below hm3)
  have BT := Lib.hid (Blk.new w2 35 #[.int .i64 1, .int .i64 d, .int .i64 1, .int .i64 l, .int .i64 b, .int .i64 p, .int .i64 n])
  have r := H2.out.row
  have c0 := H2.out.blk.cell 0
  have d0 := r.cell (j := 0) (by omega)
  have d1 := r.cell (j := 1) (by omega)
  have d2 := r.cell (j := 2) (by omega)
  have d3 := r.cell (j := 3) (by omega)
  have d4 := r.cell (j := 4) (by omega)
  have d5 := r.cell (j := 5) (by omega)
  have d6 := r.cell (j := 6) (by omega)
  simp only [List.getD_cons_zero, List.getD_cons_succ] at d0 d1 d2 d3 d4 d5 d6
  have r0 := BR3.out.cell 0
  have r1 := BR3.out.cell 1
  have r2 := BR3.out.cell 2
  have r3 := BR3.out.cell 3
  have r4 := BR3.out.cell 4
  have r5 := BR3.out.cell 5
  have r6 := BR3.out.cell 6
  have f0 := BR3.out.free 0
  have f1 := BR3.out.free 1
  have f2 := BR3.out.free 2
  have f3 := BR3.out.free 3
  have f4 := BR3.out.free 4
  have f5 := BR3.out.free 5
  have f6 := BR3.out.free 6
  have t2 := BT.out.cell 2
  have cap1 := H2.out.le
  clear hb2 NO hm3 r
  go_wp2_with fail
  refine (RI.out _).mono ?_
  rintro e w3 ⟨rfl, rfl⟩
  go_wp2_with fail
  refine (AK.out _).mono ?_
  rintro e w4 ⟨rfl, hb4⟩
  have B4 := Lib.hid (up B3.out hb4 B3.out.size)
  have BR4 := Lib.hid (BR3.out.below hb4 BR3.out.lt)
  clear BR3 B3 r0 r1 r2 r3 r4 r5 r6 f0 f1 f2 f3 f4 f5 f6 d0 d1 d2 d3 d4 d5 d6 t2 hb4
  have BR3 := BR4
  have B3 := B4
  have r0 := BR3.out.cell 0
  have r1 := BR3.out.cell 1
  have r2 := BR3.out.cell 2
  have r3 := BR3.out.cell 3
  have r4 := BR3.out.cell 4
  have r5 := BR3.out.cell 5
  have r6 := BR3.out.cell 6
  have f0 := BR3.out.free 0
  have f1 := BR3.out.free 1
  have f2 := BR3.out.free 2
  have f3 := BR3.out.free 3
  have f4 := BR3.out.free 4
  have f5 := BR3.out.free 5
  have f6 := BR3.out.free 6
  go_wp2_with fail
  have K7 := blk7 BR3.out (.int .i64 0) (.int .i64 0) (.int .i64 0) (.int .i64 0) (.int .i64 0) (.int .i64 0) (.int .i64 0)
  have g0 := K7.cell 0
  have g1 := K7.cell 1
  have g2 := K7.cell 2
  have g3 := K7.cell 3
  have g4 := K7.cell 4
  have g5 := K7.cell 5
  have g6 := K7.cell 6
  refine bodyPost_ret (v := .tuple #[(.agg #[.int .i64 0, .int .i64 0, .int .i64 0, .int .i64 0, .int .i64 0, .int .i64 0, .int .i64 0]), .int .i64 36]) (by simp [results, Try.results17, go_sem, g0, g1, g2, g3, g4, g5, g6]) rfl ⟨rfl, below7 B3.out (Nat.le_refl _) _ _ _ _ _ _ _⟩
end Go.Proofs.Ytlklfolpcebahaa.bd
