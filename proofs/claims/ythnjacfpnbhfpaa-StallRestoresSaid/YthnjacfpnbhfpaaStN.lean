/-
  Contracts of the reference's stalls: Set, Take, Open, Put, Close.
-/
import Derived.Test.YthnjacfpnbhfpaaStM
namespace Go.Proofs.Ythnjacfpnbhfpaa.st
open Go.RowKit
open base (ret_bool ret_int made up Blk Only)
open rk mk
set_option linter.unusedVariables false
set_option linter.unusedSimpArgs false
variable {B : Nat} {w w1 w2 w5 w' : World}

theorem boxes (w : World) (x0 x1 : Value) : ∃ w1 w2, w.alloc (.cells #[x0, x1] 29) = w1 ∧ w1.alloc (.cells #[.slice none 0 0, .slice none 0 0] 29) = w2 ∧ Blk w2 w.heap.size 29 #[x0, x1] ∧ Blk w2 w1.heap.size 29 #[.slice none 0 0, .slice none 0 0] ∧ Below w.heap.size w w2 ∧ w.heap.size ≤ w1.heap.size := by
  have h1 := made w (.cells #[x0, x1] 29)
  have b1 := Blk.new w 29 #[x0, x1]
  have h2 := made (w.alloc (.cells #[x0, x1] 29)) (.cells #[.slice none 0 0, .slice none 0 0] 29)
  exact ⟨_, _, rfl, rfl, b1.below h2 b1.lt, Blk.new _ _ _, up h1 h2 h1.size, h1.size⟩
theorem fin2 {z : Nat} {u0 u1 va vb : Value} {T : List C2} {G : List G3} (hb : Below w.heap.size w w5) (b : Blk w5 z 29 #[u0, u1]) (hz : w.heap.size ≤ z) (o1 : Own E2 w5 B 71 va T) (o2 : Own E3 w5 B 69 vb G) :
    ((w5.setCell ⟨z, 0, none⟩ va).setCell ⟨z, 1, none⟩ vb).cell? ⟨z, 0, none⟩ = some va ∧ ((w5.setCell ⟨z, 0, none⟩ va).setCell ⟨z, 1, none⟩ vb).cell? ⟨z, 1, none⟩ = some vb ∧ Own E2 ((w5.setCell ⟨z, 0, none⟩ va).setCell ⟨z, 1, none⟩ vb) B 71 va T ∧ Own E3 ((w5.setCell ⟨z, 0, none⟩ va).setCell ⟨z, 1, none⟩ vb) B 69 vb G ∧ Below w.heap.size w ((w5.setCell ⟨z, 0, none⟩ va).setCell ⟨z, 1, none⟩ vb) ∧ w5.frozen? ⟨z, 0, none⟩ = false ∧ w5.frozen? ⟨z, 1, none⟩ = false ∧ w5.cell? ⟨z, 0, none⟩ = some u0 ∧ w5.cell? ⟨z, 1, none⟩ = some u1 := by
  have b2 := (b.put 0 va).put 1 vb
  simp only [List.setIfInBounds_toArray, List.set_cons_zero, List.set_cons_succ] at b2
  refine ⟨b2.cell 0, b2.cell 1, o1.keep (fun k hk => ?_), o2.keep (fun k hk => ?_), (hb.setCell (p := ⟨z, 0, none⟩) hz _).setCell (p := ⟨z, 1, none⟩) hz _, b.free 0, b.free 1, b.cell 0, b.cell 1⟩
  · obtain ⟨_, _, cs, h1⟩ := o1.lt' k hk
    have hne : k ≠ z := ne_of_ty h1 b (by decide)
    exact (Below.heap_setCell _ ⟨z, 1, none⟩ _ k hne).trans (Below.heap_setCell _ ⟨z, 0, none⟩ _ k hne)
  · obtain ⟨_, _, cs, h1⟩ := o2.lt' k hk
    have hne : k ≠ z := ne_of_ty h1 b (by decide)
    exact (Below.heap_setCell _ ⟨z, 1, none⟩ _ k hne).trans (Below.heap_setCell _ ⟨z, 0, none⟩ _ k hne)
def NewS (B : Nat) (w : World) (l : LS) (er : Int) (e : Ending) (w' : World) : Prop := ∃ va vb, e = .returned (.tuple #[.agg #[va, vb], .int .i64 er]) ∧ Own E2 w' B 71 va l.1 ∧ Own E3 w' B 69 vb l.2 ∧ Below w.heap.size w w'
def NewS1 (B : Nat) (w : World) (l : LS) (e : Ending) (w' : World) : Prop := ∃ va vb, e = .returned (.agg #[va, vb]) ∧ Own E2 w' B 71 va l.1 ∧ Own E3 w' B 69 vb l.2 ∧ Below w.heap.size w w'

def setL (T : List C2) (n v : Int) : List C2 := T.map (fun d => if d.1 = n then (n, v) else d)
theorem set_snoc (T : List C2) (n v : Int) {k : Nat} (hk : k < T.length) : setL (T.take (k + 1)) n v = setL (T.take k) n v ++ [if T[k].1 = n then (n, v) else T[k]] := by
  unfold setL
  rw [List.take_succ_eq_append_getElem hk, List.map_append]
  rfl
theorem set_len (T : List C2) (n v : Int) : (setL T n v).length = T.length := List.length_map ..
set_option maxRecDepth 100000 in
set_option maxHeartbeats 8000000 in
theorem rset_any (At : Option Addr) (ct : Nat) (T : List C2) (Ag : Option Addr) (cg : Nat) (G : List G3) (n v : Int) (w : World) (oT : Own E2 w B 71 (.slice At T.length ct) T) (oG : Own E3 w B 69 (.slice Ag G.length cg) G) (hl : T.length ≤ 100000) (hB : B ≤ w.heap.size) :
    Calls Try.prog 23 #[.agg #[.slice At T.length ct, .slice Ag G.length cg], .int .i64 n, .int .i64 v] w (NewS1 B w (setL T n v, G)) := by
  obtain ⟨w1, w2, hw1, hw2, BX, RZ, B2, hz⟩ := boxes w (.slice At T.length ct) (.slice Ag G.length cg)
  have HA := Lib.hid (layE (oT.below (B2.mono (Nat.le_refl _))))
  have OG := Lib.hid (oG.below (B2.mono (Nat.le_refl _)))
  have HB := Lib.hid (Nat.le_trans hB B2.size)
  replace BX := Lib.hid BX
  replace RZ := Lib.hid RZ
  replace B2 := Lib.hid B2
  have HZ := Lib.hid hz
  clear oT oG hz
  go_enter Try.func23, Try.ntmps23
  go_wp2_with (first | rw [hw1] | rw [hw2])
  clear hw1 hw2
  go_loopw [7, 8] (fun o i wr => ∃ (k : Nat) (W : World), W = wr ∧ k ≤ T.length ∧ i = .int .i64 k ∧ Own E2 wr w2.heap.size 71 o (setL (T.take k) n v) ∧ Below w2.heap.size w2 wr) (fun _ i _ => T.length - (intOf i).toNat)
  case atStart => exact ⟨0, _, rfl, by omega, rfl, Own.nil _ _ _, Below.refl _ _⟩
  case round =>
  obtain ⟨k, w3, rfl, hk, rfl, ho, hb⟩ := hrel
  have O3 := Lib.hid ho
  have B3 := Lib.hid hb
  have c0 := (BX.out.below hb BX.out.lt).cell 0
  by_cases hkl : k < T.length
  · obtain ⟨bb, off, rfl, e0, e1⟩ := lay2 (HA.out.below hb) hkl
    have TK := Lib.hid (set_snoc T n v hkl)
    have TL := Lib.hid (show (setL (T.take k) n v).length ≤ 100000 by rw [set_len, List.length_take]; omega)
    clear ho hb
    generalize T[k] = d at *
    obtain ⟨d0, d1⟩ := d
    dsimp only at *
    have hm := made w3 (.cells #[.int .i64 d0, .int .i64 d1] 71)
    have O4 := Lib.hid (O3.out.below hm)
    have B4 := Lib.hid (up B3.out hm B3.out.size)
    have BR := Lib.hid (Blk.new w3 71 #[.int .i64 d0, .int .i64 d1])
    have BRZ := Lib.hid (show w2.heap.size ≤ w3.heap.size from B3.out.size)
    clear hm
    go_upto_region 6 with fail
    generalize w3.alloc (.cells #[.int .i64 d0, .int .i64 d1] 71) = w4 at *
    have NE := Lib.hid (fun j hj => Nat.ne_of_lt (O3.out.lt' j hj).2.1)
    generalize w3.heap.size = gr at *
    clear e0 e1 c0
    have r0 := BR.out.cell 0
    by_cases q : d0 = n
    · subst q
      rw [if_pos rfl] at TK
      have f1 := BR.out.free 1
      have r1 := BR.out.cell 1
      have b5 := BR.out.put 1 (.int .i64 v)
      simp only [List.setIfInBounds_toArray, List.set_cons_zero, List.set_cons_succ] at b5
      have BR5 := Lib.hid b5
      have O5 := Lib.hid (show Own E2 (w4.setCell ⟨gr, 1, none⟩ (.int .i64 v)) w2.heap.size 71 _ _ from O4.out.keep (fun j hj => Below.heap_setCell _ ⟨gr, 1, none⟩ _ j (NE.out j hj)))
      have B5 := Lib.hid (B4.out.setCell (p := ⟨gr, 1, none⟩) BRZ.out (.int .i64 v))
      clear b5
      go_upto_region 8 with fail
      generalize w4.setCell ⟨gr, 1, none⟩ (.int .i64 v) = w5 at *
      clear r0 r1 f1
      have r0 := BR5.out.cell 0
      have r1 := BR5.out.cell 1
      have hm := made w5 (.cells #[.int .i64 d0, .int .i64 v] 71)
      have O6 := Lib.hid (O5.out.below hm)
      have B6 := Lib.hid (up B5.out hm B5.out.size)
      have LY := Lib.hid (Lay.lit (E := E2) (w5.alloc (.cells #[.int .i64 d0, .int .i64 v] 71)) (d0, v) 71 w5.heap.size (Blk.new _ _ _))
      clear hm
      generalize hw6 : w5.alloc (.cells #[.int .i64 d0, .int .i64 v] 71) = w6 at *
      go_wp2_with (first | rw [hw6] | ((with_reducible show wpList _ _ _ (⟨some 31, _, _, _, _, _⟩ :: _) _ _); go_must (refine wp_app TT (c := 1) (n := 1) rfl _ _ rfl rfl rfl rfl rfl O6.out LY.out (by simp; have := TL.out; omega) B6.out.size ?_)))
      intro v7 w7 own7 gr7
      have B7 := Lib.hid (B6.out.trans (gr7.below O6.out B6.out.size))
      rw [← TK.out] at own7
      have O7 := Lib.hid own7
      obtain ⟨A7, c7, rfl, -⟩ := own7.open_
      clear own7 gr7 O6 LY hw6 r0 r1
      go_wp2_with fail
      refine ⟨⟨k + 1, _, rfl, by omega, by go_num, O7.out, B7.out⟩, by simp [intOf]; omega⟩
    · rw [if_neg q] at TK
      have q2 : (d0 == n) = false := by simpa using q
      clear q
      have r1 := BR.out.cell 1
      have hm := made w4 (.cells #[.int .i64 d0, .int .i64 d1] 71)
      have O6 := Lib.hid (O4.out.below hm)
      have B6 := Lib.hid (up B4.out hm B4.out.size)
      have LY := Lib.hid (Lay.lit (E := E2) (w4.alloc (.cells #[.int .i64 d0, .int .i64 d1] 71)) (d0, d1) 71 w4.heap.size (Blk.new _ _ _))
      clear hm
      generalize hw6 : w4.alloc (.cells #[.int .i64 d0, .int .i64 d1] 71) = w6 at *
      go_wp2_with (first | rw [hw6] | ((with_reducible show wpList _ _ _ (⟨some 31, _, _, _, _, _⟩ :: _) _ _); go_must (refine wp_app TT (c := 1) (n := 1) rfl _ _ rfl rfl rfl rfl rfl O6.out LY.out (by simp; have := TL.out; omega) B6.out.size ?_)))
      intro v7 w7 own7 gr7
      have B7 := Lib.hid (B6.out.trans (gr7.below O6.out B6.out.size))
      rw [← TK.out] at own7
      have O7 := Lib.hid own7
      obtain ⟨A7, c7, rfl, -⟩ := own7.open_
      clear own7 gr7 O6 LY hw6 r0 r1
      go_wp2_with fail
      refine ⟨⟨k + 1, _, rfl, by omega, by go_num, O7.out, B7.out⟩, by simp [intOf]; omega⟩
  · obtain rfl : k = T.length := by omega
    rw [List.take_length] at O3 ho
    obtain ⟨A5, c5, rfl, -⟩ := ho.open_
    have c1 := (BX.out.below hb BX.out.lt).cell 1
    obtain ⟨x0, x1, o1, o2, b9, f0, f1, y0, y1⟩ := fin2 (up B2.out hb B2.out.size) (RZ.out.below hb RZ.out.lt) HZ.out (O3.out.mono HB.out) (OG.out.below hb)
    have R9 := Lib.hid (And.intro o1 (And.intro o2 b9))
    clear ho hb o1 o2 b9
    go_wp2_with fail
    refine bodyPost_ret (v := .agg #[.slice A5 (setL T n v).length c5, .slice Ag G.length cg]) (by simp [results, Try.results23, go_sem, x0, x1]) rfl ⟨_, _, rfl, R9.out.1, R9.out.2.1, R9.out.2.2⟩
end Go.Proofs.Ythnjacfpnbhfpaa.st
