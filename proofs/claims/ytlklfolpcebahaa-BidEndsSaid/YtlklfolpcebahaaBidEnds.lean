/-
  BidEnds: just those are told that have ended, in their order, and are there no more; as far as it is asked.
-/
import Derived.Test.YtlklfolpcebahaaBeB
import Derived.Test.YtlklfolpcebahaaStructs
import Derived.Test.YtlklfolpcebahaaBase2
import Derived.LoopTactic
import Derived.BigQuiet
namespace Go.Proofs.Ytlklfolpcebahaa.bidEnds
open Go.ChangeShapes Go.WideShapes Go.ChangeAt Go.RowKit Go.Shelf
open base (law_post ret_bool ret_int made up Blk Only IntRows)
open bb rk rgm
set_option linter.unusedVariables false
set_option linter.unusedSimpArgs false
attribute [local go_sem] Oper.semAt_some
attribute [local irreducible] wpStill

set_option maxRecDepth 100000 in
set_option maxHeartbeats 4000000 in
theorem walk_no (w : World) (A : Option Addr) (c m : Nat) (now stop : Int) (h : 80 < m) (hm : m ≤ 9223372036854775807) :
    Calls Try.prog 5 #[.slice A m c, .int .i64 now, .int .i64 stop] w fun e w' => e = .returned (.bool true) ∧ Below w.heap.size w w' := by
  have hm1 : Below w.heap.size w (w.alloc (.cells #[.int .i64 now] 3)) := made w _
  have hm2 : Below w.heap.size w ((w.alloc (.cells #[.int .i64 now] 3)).alloc (.cells #[.int .i64 stop] 3)) := hm1.alloc (by rw [asz]; omega) _
  have hm3 : Below w.heap.size w (((w.alloc (.cells #[.int .i64 now] 3)).alloc (.cells #[.int .i64 stop] 3)).alloc (.cells #[.bool false] 4)) := hm2.alloc (by rw [asz, asz]; omega) _
  have bn : Blk (((w.alloc (.cells #[.int .i64 now] 3)).alloc (.cells #[.int .i64 stop] 3)).alloc (.cells #[.bool false] 4)) w.heap.size 3 #[.int .i64 now] := ((Blk.new _ _ _).alloc _).alloc _
  have bs : Blk (((w.alloc (.cells #[.int .i64 now] 3)).alloc (.cells #[.int .i64 stop] 3)).alloc (.cells #[.bool false] 4)) (w.heap.size + 1) 3 #[.int .i64 stop] := by
    have := (Blk.new (w.alloc (.cells #[.int .i64 now] 3)) 3 #[.int .i64 stop]).alloc (.cells #[.bool false] 4)
    rw [asz] at this
    exact this
  have br : Blk (((w.alloc (.cells #[.int .i64 now] 3)).alloc (.cells #[.int .i64 stop] 3)).alloc (.cells #[.bool false] 4)) (w.heap.size + 1 + 1) 4 #[.bool false] := by
    have := Blk.new ((w.alloc (.cells #[.int .i64 now] 3)).alloc (.cells #[.int .i64 stop] 3)) 4 #[.bool false]
    rw [asz, asz] at this
    exact this
  have hs : (((w.alloc (.cells #[.int .i64 now] 3)).alloc (.cells #[.int .i64 stop] 3)).alloc (.cells #[.bool false] 4)).heap.size = w.heap.size + 3 := by rw [asz, asz, asz]
  have BN := Lib.hid bn
  have BS := Lib.hid bs
  have BR := Lib.hid br
  have M1 := Lib.hid hm3
  have Z1 := Lib.hid hs
  clear hm1 hm2 hm3 bn bs br hs
  go_enter Try.func5, Try.ntmps5
  go_upto_region 1 with fail
  generalize ((w.alloc (.cells #[.int .i64 now] 3)).alloc (.cells #[.int .i64 stop] 3)).alloc (.cells #[.bool false] 4) = w1 at *
  have N := Lib.hid (new_any w1)
  go_wp2_with fail
  refine N.out.mono ?_
  rintro e w2 ⟨rfl, -, b1⟩
  have M2 := Lib.hid (up M1.out b1 M1.out.size)
  have R2 := Lib.hid (BR.out.below b1 BR.out.lt)
  have AW := Lib.hid (bd.awake_any w2)
  clear b1 N
  go_wp2_with fail
  refine AW.out.mono ?_
  rintro e w3 ⟨rfl, b3⟩
  have R3 := Lib.hid (R2.out.below b3 R2.out.lt)
  have M3 := Lib.hid (up M2.out b3 M2.out.size)
  have r0 := R3.out.cell 0
  have r1 := R3.out.free 0
  have C4 := (R3.out.put 0 (.bool true)).cell 0
  have B4 := Lib.hid (M3.out.setCell (p := ⟨w.heap.size + 1 + 1, 0, none⟩) (by show w.heap.size ≤ w.heap.size + 1 + 1; omega) (.bool true))
  clear b3
  go_wp2_with fail
  generalize w3.setCell ⟨w.heap.size + 1 + 1, 0, none⟩ (.bool true) = w4 at *
  (try simp only [Exit.inBlock, Exit.then]); refine bodyPost_ret (v := .bool true) (by simp [results, Try.f5, go_sem, C4]) rfl ?_
  exact ⟨rfl, B4.out⟩
/-- as one is told -/
def Told (w : World) (b0 x8 n11 bq g Dl : Nat) (now stop nx : Int) (d : D) (L : List D) (W : World) : Prop :=
  ∃ hp : 0 < L.length, d = L[fo L L.length]'(fo_le L hp) ∧ ¬ now < en L (fo L L.length) ∧ DAt W b0 g (L.eraseIdx (fo L L.length)) nx ∧ ∃ kc, Cj w b0 x8 n11 bq g Dl now stop nx L kc W
set_option maxRecDepth 100000 in
set_option maxHeartbeats 16000000 in
theorem walk_yes (w : World) (A : Option Addr) (m c : Nat) (F : Nat → Nat → Int) (h1 : IntRows w A m 5 F) (hm : m ≤ 80) (now stop : Int) :
    Calls Try.prog 5 #[.slice A m c, .int .i64 now, .int .i64 stop] w fun e w' => e = .returned (.bool true) ∧ Below w.heap.size w w' := by
  have AW := Lib.hid (fun ws => bd.awake_any ws)
  have NN := Lib.hid h1
  clear h1
  have hm1 : Below w.heap.size w (w.alloc (.cells #[.int .i64 now] 3)) := made w _
  have hm2 : Below w.heap.size w ((w.alloc (.cells #[.int .i64 now] 3)).alloc (.cells #[.int .i64 stop] 3)) := hm1.alloc (by rw [asz]; omega) _
  have hm3 : Below w.heap.size w (((w.alloc (.cells #[.int .i64 now] 3)).alloc (.cells #[.int .i64 stop] 3)).alloc (.cells #[.bool false] 4)) := hm2.alloc (by rw [asz, asz]; omega) _
  have bn : Blk (((w.alloc (.cells #[.int .i64 now] 3)).alloc (.cells #[.int .i64 stop] 3)).alloc (.cells #[.bool false] 4)) w.heap.size 3 #[.int .i64 now] := ((Blk.new _ _ _).alloc _).alloc _
  have bs : Blk (((w.alloc (.cells #[.int .i64 now] 3)).alloc (.cells #[.int .i64 stop] 3)).alloc (.cells #[.bool false] 4)) (w.heap.size + 1) 3 #[.int .i64 stop] := by
    have := (Blk.new (w.alloc (.cells #[.int .i64 now] 3)) 3 #[.int .i64 stop]).alloc (.cells #[.bool false] 4)
    rw [asz] at this
    exact this
  have br : Blk (((w.alloc (.cells #[.int .i64 now] 3)).alloc (.cells #[.int .i64 stop] 3)).alloc (.cells #[.bool false] 4)) (w.heap.size + 1 + 1) 4 #[.bool false] := by
    have := Blk.new ((w.alloc (.cells #[.int .i64 now] 3)).alloc (.cells #[.int .i64 stop] 3)) 4 #[.bool false]
    rw [asz, asz] at this
    exact this
  have hs : (((w.alloc (.cells #[.int .i64 now] 3)).alloc (.cells #[.int .i64 stop] 3)).alloc (.cells #[.bool false] 4)).heap.size = w.heap.size + 3 := by rw [asz, asz, asz]
  have BN := Lib.hid bn
  have BS := Lib.hid bs
  have BR := Lib.hid br
  have M1 := Lib.hid hm3
  have Z1 := Lib.hid hs
  clear hm1 hm2 hm3 bn bs br hs
  refine (callsIn_wide (n := 4)).1 ?_
  refine callsIn_of_wp_marks Try.func5 rfl trivial ?_ rfl
  simp only [Try.ntmps5, List.size_toArray, List.length_cons, List.length_nil, Nat.reduceAdd, Nat.reduceSub, Array.replicate_succ, Array.replicate_zero, List.push_toArray, List.append_toArray, List.nil_append, List.cons_append]
  refine wpIn_wide.2 (calm_wp ?_)
  go_upto_region 1 with fail
  generalize ((w.alloc (.cells #[.int .i64 now] 3)).alloc (.cells #[.int .i64 stop] 3)).alloc (.cells #[.bool false] 4) = w1 at *
  have N := Lib.hid (new_any w1)
  go_wp2_with fail
  refine N.out.mono ?_
  rintro e w2 ⟨rfl, hd2, hb2⟩
  have M3 := Lib.hid (up hb2 (made w2 (.cells #[.slice none 0 0, .int .i64 1] 28)) hb2.size)
  have DZ := Lib.hid (hd2.below (made w2 (.cells #[.slice none 0 0, .int .i64 1] 28)))
  have X3 := Lib.hid (Blk.new w2 28 #[.slice none 0 0, .int .i64 1])
  have Z2 := Lib.hid (show w1.heap.size < w2.heap.size from hd2.lt)
  have Z3 := Lib.hid (asz w2 (.cells #[.slice none 0 0, .int .i64 1] 28))
  clear hd2 hb2 N
  go_upto_region 5 with fail
  generalize w2.alloc (.cells #[.slice none 0 0, .int .i64 1] 28) = w3 at *
  go_wp2_with fail
  go_loopw [31] (fun i wr => ∃ (k : Nat) (W : World) (L : List D) (nx : Int) (Ax : Option Addr) (cx : Nat), W = wr ∧ k ≤ m ∧ i = .int .i64 k ∧ Blk wr w2.heap.size 28 #[.slice Ax L.length cx, .int .i64 nx] ∧ DAt wr w1.heap.size w1.heap.size L nx ∧ rk.Own E7 wr w1.heap.size 52 (.slice Ax L.length cx) L ∧ Below w1.heap.size w1 wr ∧ nx ≤ k + 1 ∧ Inv L nx ∧ w3.heap.size ≤ wr.heap.size) (fun i _ => m - (intOf i).toNat)
  case atStart => exact ⟨0, _, [], 1, none, 0, rfl, by omega, rfl, X3.out, DZ.out, rk.Own.nil _ _ _, M3.out, by omega, Inv.nil, Nat.le_refl _⟩
  case round =>
  obtain ⟨k, w5, L, nx, Ax, cx, rfl, hk, rfl, hbx, hd, ho, hb, hn1, hinv, hsz⟩ := hrel
  have hn0 : 1 ≤ nx := hinv.1
  have hll : L.length ≤ 64 := hinv.2.2.2
  have IV := Lib.hid hinv
  have BX5 := Lib.hid hbx
  have D5 := Lib.hid hd
  have O5 := Lib.hid ho
  have B5 := Lib.hid hb
  have Z5 := Lib.hid hsz
  have BW := Lib.hid (show Below w.heap.size w w5 from M1.out.trans (hb.mono (by have := Z1.out; omega)))
  have x0 := hbx.cell 0
  have x1 := hbx.cell 1
  clear hinv hbx hd ho hb hsz DZ X3 M3
  by_cases hkm : k < m
  · obtain ⟨bb, off, rfl, _, hcell⟩ := (base.IntRows.keep NN.out BW.out) (by omega)
    have e0 := hcell k hkm 0 (by omega)
    have e1 := hcell k hkm 1 (by omega)
    have e2 := hcell k hkm 2 (by omega)
    have e3 := hcell k hkm 3 (by omega)
    have e4 := hcell k hkm 4 (by omega)
    rw [Nat.add_zero] at e0
    clear hcell
    generalize F k 0 = k0 at *
    generalize F k 1 = k1 at *
    generalize F k 2 = k2 at *
    generalize F k 3 = k3 at *
    generalize F k 4 = k4 at *
    have hm6 := made w5 (.cells #[.int .i64 k0, .int .i64 k1, .int .i64 k2, .int .i64 k3, .int .i64 k4] 30)
    have SP := Lib.hid (step_any Ax cx L nx k0 k1 k2 k3 k4 w1.heap.size w1.heap.size w1.heap.size (w5.alloc (.cells #[.int .i64 k0, .int .i64 k1, .int .i64 k2, .int .i64 k3, .int .i64 k4] 30)) (D5.out.below hm6) (O5.out.below hm6) (by omega) ⟨by omega, by omega⟩ (Nat.le_trans B5.out.size hm6.size) (Nat.le_trans B5.out.size hm6.size) IV.out.2.2.1)
    have SZ := Lib.hid (step_next L nx k0 k1 k2 k3 k4)
    have B6 := Lib.hid (up B5.out hm6 B5.out.size)
    have BX6 := Lib.hid (BX5.out.below hm6 BX5.out.lt)
    have Z6 := Lib.hid (Nat.le_trans Z5.out hm6.size)
    have OP := Lib.hid (Blk.new w5 30 #[.int .i64 k0, .int .i64 k1, .int .i64 k2, .int .i64 k3, .int .i64 k4])
    have IV2 := Lib.hid (IV.out.step k0 k1 k2 k3 k4)
    clear hm6 x0 x1 D5 O5 B5 BX5 BW
    generalize stepS (L, nx) k0 k1 k2 k3 k4 = r at *
    obtain ⟨L2, n2⟩ := r
    dsimp only at SZ IV2
    go_upto_region 8 with fail
    generalize w5.alloc (.cells #[.int .i64 k0, .int .i64 k1, .int .i64 k2, .int .i64 k3, .int .i64 k4] 30) = w6 at *
    have o0 := OP.out.cell 0
    have o1 := OP.out.cell 1
    have o2 := OP.out.cell 2
    have o3 := OP.out.cell 3
    have o4 := OP.out.cell 4
    have x0 := BX6.out.cell 0
    have x1 := BX6.out.cell 1
    clear e0 e1 e2 e3 e4
    go_wp2_with fail
    refine SP.out.mono ?_
    rintro e w7 ⟨v7, rfl, hd7, ho7, hb7, ht7⟩
    obtain ⟨A7, c7, rfl, -⟩ := ho7.open_
    have BX7 := Lib.hid (ht7.blk BX6.out (show w2.heap.size ≠ w1.heap.size by have := Z2.out; omega) (by decide))
    have B7 := Lib.hid (B6.out.trans hb7)
    have r0 := BX7.out.cell 0
    have r1 := BX7.out.cell 1
    have f0 := BX7.out.free 0
    have f1 := BX7.out.free 1
    have K7 := Lib.hid (blk2 BX7.out (.slice A7 L2.length c7) (.int .i64 n2))
    have O8 := Lib.hid (own2 ho7 BX7.out (by decide) (.slice A7 L2.length c7) (.int .i64 n2))
    have D8 := Lib.hid (hd7.set2 BX7.out (by decide) (by decide) (.slice A7 L2.length c7) (.int .i64 n2))
    have B8 := Lib.hid (below2 B7.out (r := w2.heap.size) (Nat.le_of_lt Z2.out) (.slice A7 L2.length c7) (.int .i64 n2))
    have Z8 := Lib.hid (show w3.heap.size ≤ ((w7.setCell ⟨w2.heap.size, 0, none⟩ (.slice A7 L2.length c7)).setCell ⟨w2.heap.size, 1, none⟩ (.int .i64 n2)).heap.size from by
      have h1 : ((w7.setCell ⟨w2.heap.size, 0, none⟩ (.slice A7 L2.length c7)).setCell ⟨w2.heap.size, 1, none⟩ (.int .i64 n2)).heap.size = w7.heap.size := by simp [World.setCell]
      rw [h1]
      exact Nat.le_trans Z6.out ht7.size)
    clear hd7 ho7 hb7 ht7 o0 o1 o2 o3 o4 x0 x1 SP
    have hsz := SZ.out
    go_wp2_with fail
    refine ⟨⟨k + 1, _, L2, n2, A7, c7, rfl, by omega, by go_num, K7.out, D8.out, O8.out, B8.out, by omega, IV2.out, Z8.out⟩, by simp [intOf]; omega⟩
  · obtain rfl : k = m := by omega
    have hm6 := made w5 (.cells #[.int .i64 0] 3)
    have D6 := Lib.hid (D5.out.below hm6)
    have P6 := Lib.hid (show Below w1.heap.size w1 (w5.alloc (.cells #[.int .i64 0] 3)) from up B5.out hm6 B5.out.size)
    have Q6 := Lib.hid (show Below w.heap.size w (w5.alloc (.cells #[.int .i64 0] 3)) from up BW.out hm6 BW.out.size)
    have KB := Lib.hid (Blk.new w5 3 #[.int .i64 0])
    have XB := Lib.hid (BX5.out.below hm6 BX5.out.lt)
    have OB := Lib.hid (O5.out.below hm6)
    have ZA := Lib.hid (asz w5 (.cells #[.int .i64 0] 3))
    clear hm6 D5 B5 BW NN x0 x1 BX5 O5
    go_upto_region 11 with fail
    generalize w5.alloc (.cells #[.int .i64 0] 3) = w6 at *
    have n0 := (BN.out.below P6.out (by have := Z1.out; omega)).cell 0
    have LM := Lib.hid (ended_make w1.heap.size now w6)
    go_wp2_with fail
    refine LM.out.mono ?_
    rintro e w7 ⟨rfl, hbq, hbn, hb7⟩
    have D7 := Lib.hid (D6.out.below hb7)
    have ORD := Lib.hid (show w.heap.size + 3 = w1.heap.size ∧ w1.heap.size < w2.heap.size ∧ w2.heap.size < w5.heap.size ∧ w5.heap.size < w6.heap.size ∧ w6.heap.size + 1 < w7.heap.size from by
      have z1 := Z1.out
      have z2 := Z2.out
      have z3 := Z3.out
      have z5 := Z5.out
      have za := ZA.out
      have := hbn.lt
      omega)
    have C7 := Lib.hid (show Cj w w1.heap.size w2.heap.size w5.heap.size w6.heap.size w1.heap.size 0 now stop nx L 0 w7 from by
      have ord := ORD.out
      have hB := up P6.out hb7 P6.out.size
      exact ⟨up Q6.out hb7 Q6.out.size, BN.out.below hB (by omega), BS.out.below hB (by omega), BR.out.below hB (by omega), ⟨Ax, cx, XB.out.below hb7 XB.out.lt, OB.out.below hb7⟩, KB.out.below hb7 KB.out.lt, hbq, hbn, IV.out, by omega, by omega⟩)
    clear hbq hbn hb7 LM D6 P6 Q6 KB XB OB n0 Z1 Z2 Z3 Z5 ZA BN BS BR
    go_wp2_with fail
    refine (wpIn_wide (n := 4)).1 ?_
    refine' wpIn_rangeFunc_free6 (α := D × List D) rfl (by omega) (gf := 35) (lb := #[.pointer (some ⟨w6.heap.size, 0, none⟩), .pointer (some ⟨w6.heap.size + 1, 0, none⟩)]) rfl trivial (enters_of Try.func35 (by kernel_rfl) rfl)
      (encs := fun x => #[agg7 x.1]) (fun _ => rfl) (fun x => .cells #[.int .i64 x.1.1, .int .i64 x.1.2.1, .int .i64 x.1.2.2.1, .int .i64 x.1.2.2.2.1, .int .i64 x.1.2.2.2.2.1, .int .i64 x.1.2.2.2.2.2.1, .int .i64 x.1.2.2.2.2.2.2] 35)
      (fun x W => Told w w1.heap.size w2.heap.size w5.heap.size w6.heap.size w1.heap.size w7.heap.size now stop nx x.1 x.2 W)
      (fun x _ W' => DAt W' w1.heap.size w1.heap.size (x.2.eraseIdx (fo x.2 x.2.length)) nx ∧ ∃ kc, Cj w w1.heap.size w2.heap.size w5.heap.size w6.heap.size w1.heap.size w7.heap.size now stop nx (x.2.eraseIdx (fo x.2 x.2.length)) kc W')
      (fun _ _ c W' => (∃ id, c = .exit id ∧ id = 2) ∧ End_ w w1.heap.size w2.heap.size w5.heap.size w6.heap.size w1.heap.size w7.heap.size now stop nx W')
      (fun c W' => (∃ id, c = .exit id ∧ id = 2) ∧ End_ w w1.heap.size w2.heap.size w5.heap.size w6.heap.size w1.heap.size w7.heap.size now stop nx W')
      (fun W' => End_ w w1.heap.size w2.heap.size w5.heap.size w6.heap.size w1.heap.size w7.heap.size now stop nx W')
      _
      ?iter ?assign ?body ?done ?stop
    case iter =>
      intro W1 Bk Bx0 hb1 hz1 hbk hlp hBk hBx hYY
      have ord := ORD.out
      refine (ended_it (4 - 1) (by omega) (w7.heap.size + 1) w6.heap.size (w6.heap.size + 1) w1.heap.size w1.heap.size nx now W1
        (fun L W => Bk W ∧ DAt W w1.heap.size w1.heap.size L nx ∧ ∃ kc, Cj w w1.heap.size w2.heap.size w5.heap.size w6.heap.size w1.heap.size w7.heap.size now stop nx L kc W)
        (fun W => ∃ c', Bx0 c' W ∧ (∃ id, c' = .exit id ∧ id = 2) ∧ End_ w w1.heap.size w2.heap.size w5.heap.size w6.heap.size w1.heap.size w7.heap.size now stop nx W)
        (fun W => Bk W ∧ End_ w w1.heap.size w2.heap.size w5.heap.size w6.heap.size w1.heap.size w7.heap.size now stop nx W) ?_ ?_ ?_ ?_ ?_).mono ?_
      · rintro L W ⟨hbk, hd, kc, cj⟩
        exact ⟨hd, cj.qb.cell 0, cj.mb.cell 0, by have := cj.kl; omega, by have := cj.big; omega⟩
      · rintro L W W' ⟨hbk, hd, kc, cj⟩ hb
        exact ⟨hBk _ _ hbk (Kept.of_below hb (by have := cj.big; omega)), hd.below hb, kc, cj.below hb⟩
      · have cj := C7.out.below hb1
        exact ⟨L, hbk, D7.out.below hb1, 0, ⟨cj.bel, cj.nb, cj.sb, cj.rt, cj.xb, cj.kb, cj.qb, cj.mb, cj.inv, cj.kl, by omega⟩⟩
      · rintro L W ⟨hbk, hd, kc, cj⟩ hno
        exact ⟨hbk, L, kc, hd, cj, .inr hno⟩
      · rintro L W W' hp ⟨hbk, hd, kc, cj⟩ hdue hd4 hb4 ht4
        obtain ⟨⟨r, hr⟩, hdf⟩ := hlp _ hbk
        have hkp : Kept w7.heap.size W W' := Kept.of_only ht4 (by have := cj.big; omega) (fun h => by
          rcases h with h | ⟨cs, h⟩
          · omega
          · have h' : W.heap[w7.heap.size]? = some _ := h
            rw [hdf] at h'
            injection h' with h'
            cases h') (fun h => by
          rcases h with h | ⟨cs, h⟩
          · omega
          · have h' : W.heap[w7.heap.size + 1]? = some _ := h
            rw [hr] at h'
            injection h' with h'
            cases h')
        refine (hYY (L[fo L L.length]'(fo_le L hp), L) W' (hBk _ _ hbk hkp) ⟨hp, rfl, hdue, hd4, kc, cj.cs (Cs.tch hd ht4) (hb4.mono (by omega))⟩).mono ?_
        rintro e W3 (⟨rfl, g1, g2, g3⟩ | ⟨rfl, c', g1, g3⟩)
        · exact .inl ⟨rfl, g1, g2, g3⟩
        · exact .inr ⟨rfl, c', g1, g3⟩
      · rintro e W' ⟨g1, (⟨g2, g3⟩ | ⟨c', g2, g3⟩)⟩
        · exact ⟨g1, .inl ⟨g2, g3⟩⟩
        · exact ⟨g1, .inr ⟨c', g2, g3⟩⟩
    case assign =>
      intro x W K hK
      simp only [List.zip_toArray, List.zip_cons_cons, List.zip_nil_right, List.foldl_toArray, List.foldl_cons, List.foldl_nil, List.setIfInBounds_toArray, List.set_cons_succ, List.set_cons_zero, agg7]
      gi_wp2
      exact hK
    case body =>
      rintro ⟨d, L⟩ Wb Wc ⟨hp, hd, hdue, hdt0, kc, cj0⟩ hlt0 hlb hO hlc hlt
      dsimp only at hp hd hdue hdt0 cj0 ⊢
      have ord := ORD.out
      obtain ⟨d0, d1, d2, d3, d4, d5, d6⟩ := d
      dsimp only at hlb hO
      have hmk := made Wb (.cells #[.int .i64 d0, .int .i64 d1, .int .i64 d2, .int .i64 d3, .int .i64 d4, .int .i64 d5, .int .i64 d6] 35)
      have hca := Ca.loop hO hlb
      have cj := (cj0.below hmk).cs hca.cs (hO.to_below (fun i hi e => by omega) (Nat.le_trans cj0.bel.size hmk.size))
      have hdt := (hdt0.below hmk).ca hca
      have hba := hca _ _ _ (Blk.new Wb 35 #[.int .i64 d0, .int .i64 d1, .int .i64 d2, .int .i64 d3, .int .i64 d4, .int .i64 d5, .int .i64 d6])
      have hfl := fo_le L hp
      rw [en_at hfl, ← hd] at hdue
      dsimp only at hdue
      obtain ⟨Ax, cx, hx, ho⟩ := cj.xb
      obtain ⟨_, _, e, hly, _⟩ := ho.open_
      injection e with q1 q2 q3
      subst q1
      try clear q2
      try clear q3
      obtain ⟨bb, off, rfl, -⟩ := lay7 hly hfl
      have hll := cj.inv.2.2.2
      have RF := Lib.hid (rfirst_any (some ⟨bb, off, none⟩) cx L nx Wc hly (by omega))
      have hf : fi1 L L.length = ((fo L L.length : Nat) : Int) := by unfold fi1; rw [if_neg (by omega)]
      rw [hf] at RF
      have EI := Lib.hid (show (L.eraseIdx (fo L L.length)).length + 1 ≤ L.length by rw [List.length_eraseIdx]; simp [hfl]; omega)
      have IC := Lib.hid (cj.inv.cut (fo L L.length))
      have ROW := Lib.hid (fun ws (h : Lay E7 ws (some ⟨bb, off, none⟩) L) => lay7_at h hfl hd.symm)
      dsimp only at ROW
      have CJ := Lib.hid cj
      have DT := Lib.hid hdt
      have BA := Lib.hid hba
      have HX := Lib.hid hx
      have HO := Lib.hid ho
      have HL := Lib.hid hlc
      have x0 := hx.cell 0
      have x1 := hx.cell 1
      clear cj0 cj hdt0 hdt hba hx ho hly hmk hca hd hlb hO hlc hf
      generalize hfo : fo L L.length = i at *
      have FO := Lib.hid hfo
      clear hfo
      gi_wp2
      refine ⟨trivial, ((still.round _).calls RF.out).mono ?_⟩
      rintro e w8 ⟨rfl, hb8⟩
      have hd9 : Below Wc.heap.size Wc w8.drew := hb8.drew
      have C9 := Lib.hid (CJ.out.below hd9)
      have D9 := Lib.hid (DT.out.below hd9)
      have X9 := Lib.hid (show Blk w8.drew w2.heap.size _ _ from HX.out.below hd9 HX.out.lt)
      have O9 := Lib.hid (rk.Own.below HO.out hd9)
      have K9 := Lib.hid (show Kept w7.heap.size Wc w8.drew from Kept.of_below hd9 hlt)
      have O8 := Lib.hid (rk.Own.below HO.out hb8)
      have n8 := (CJ.out.below hb8).nb.cell 0
      have A8 := BA.out.below hb8 BA.out.lt
      have a0 := A8.cell 0
      have a1 := A8.cell 1
      have a2 := A8.cell 2
      have a3 := A8.cell 3
      have a4 := A8.cell 4
      have a5 := A8.cell 5
      have a6 := A8.cell 6
      have y0 := (HX.out.below hb8 HX.out.lt).cell 0
      obtain ⟨e0, e1, e2, e3, e4, e5, e6⟩ := ROW.out w8 (by obtain ⟨_, _, e, h2, _⟩ := O8.out.open_; injection e with q1 q2 q3; subst q1; exact h2)
      have t1 : decide ((i : Int) < 0) = false := decide_eq_false (by omega)
      have t2 : decide (i < L.length) = true := decide_eq_true hfl
      have t3 : ((L.length : Int) ≤ (i : Int)) = False := by simp; omega
      have t4 : (i < L.length) = True := eq_true hfl
      have t5 : decide (d6 > now) = false := decide_eq_false (by omega)
      have u0 : (d0 == d0) = true := by simp
      have u1 : (d1 == d1) = true := by simp
      have u2 : (d2 == d2) = true := by simp
      have u3 : (d3 == d3) = true := by simp
      have u4 : (d4 == d4) = true := by simp
      have u5 : (d5 == d5) = true := by simp
      have u6 : (d6 == d6) = true := by simp
      clear hb8 hd9 RF x0 x1 A8
      gi_wp2
      refine still.region_in (still.round (w7.heap.size + 1)) 16 (by kernel_rfl) (by kernel_rfl) ?_
      simp only [List.take_succ_cons, List.take_zero, List.drop_succ_cons, List.drop_zero, List.take_nil, List.drop_nil]
      repeat still_step
      refine wpStill_nil ?_
      change wpListIn _ _ _ _ _ _ _ w8.drew
      clear a0 a1 a2 a3 a4 a5 a6 y0 e0 e1 e2 e3 e4 e5 e6 n8
      generalize w8.drew = w9 at *
      have RW := Lib.hid (rwithout_any (some ⟨bb, off, none⟩) cx L nx i w1.heap.size w9 O9.out (by omega) (by have := C9.out.big; omega))
      have x0 := X9.out.cell 0
      have x1 := X9.out.cell 1
      gi_wp2
      refine ⟨trivial, ((still.round _).calls RW.out).mono ?_⟩
      rintro e w10 ⟨v, rfl, ho10, hb10⟩
      obtain ⟨A', c', rfl, -⟩ := ho10.open_
      have x10 := X9.out.below hb10 X9.out.lt
      have c10 := C9.out.below hb10
      have d10 := D9.out.below hb10
      have c12 := c10.step ho10 IC.out EI.out (by omega)
      have d12 := (d10.set2 x10 (by decide) (by decide) (.slice A' (L.eraseIdx i).length c') (.int .i64 nx)).set1 ((c10.kb.far (p := ⟨w2.heap.size, 0, none⟩) (by show w5.heap.size ≠ w2.heap.size; omega) (.slice A' (L.eraseIdx i).length c')).far (p := ⟨w2.heap.size, 1, none⟩) (by show w5.heap.size ≠ w2.heap.size; omega) (.int .i64 nx)) (by decide) (by decide) (.int .i64 (kc + 1))
      have y0 := x10.cell 0
      have y1 := x10.cell 1
      have y0f := x10.free 0
      have y1f := x10.free 1
      have k11 := ((c10.kb.far (p := ⟨w2.heap.size, 0, none⟩) (by show w5.heap.size ≠ w2.heap.size; omega) (.slice A' (L.eraseIdx i).length c')).far (p := ⟨w2.heap.size, 1, none⟩) (by show w5.heap.size ≠ w2.heap.size; omega) (.int .i64 nx)).cell 0
      have k11f := ((c10.kb.far (p := ⟨w2.heap.size, 0, none⟩) (by show w5.heap.size ≠ w2.heap.size; omega) (.slice A' (L.eraseIdx i).length c')).far (p := ⟨w2.heap.size, 1, none⟩) (by show w5.heap.size ≠ w2.heap.size; omega) (.int .i64 nx)).free 0
      have kp12 : Kept w7.heap.size Wc (((w10.setCell ⟨w2.heap.size, 0, none⟩ (.slice A' (L.eraseIdx i).length c')).setCell ⟨w2.heap.size, 1, none⟩ (.int .i64 nx)).setCell ⟨w5.heap.size, 0, none⟩ (.int .i64 (kc + 1))) := by
        refine (K9.out.trans (Kept.of_below hb10 (by have := C9.out.big; omega))).trans (Kept.of_only ((((Only.refl (fun j => j = w2.heap.size ∨ j = w5.heap.size) w10).setCell (p := ⟨w2.heap.size, 0, none⟩) (.inl (.inl rfl)) _).setCell (p := ⟨w2.heap.size, 1, none⟩) (.inl (.inl rfl)) _).setCell (p := ⟨w5.heap.size, 0, none⟩) (.inl (.inr rfl)) _) (by have := c10.big; omega) (by omega) (by omega))
      have hkl := c12.kl
      obtain ⟨nn, hnn⟩ : ∃ nn, (L.eraseIdx i).length = nn := ⟨_, rfl⟩
      rw [hnn] at c12 d12 k11 k11f kp12 hkl ⊢
      obtain ⟨w11, hw11⟩ : ∃ w11, (w10.setCell ⟨w2.heap.size, 0, none⟩ (.slice A' nn c')).setCell ⟨w2.heap.size, 1, none⟩ (.int .i64 nx) = w11 := ⟨_, rfl⟩
      rw [hw11] at c12 d12 k11 k11f kp12
      obtain ⟨w12, hw12⟩ : ∃ w12, w11.setCell ⟨w5.heap.size, 0, none⟩ (.int .i64 (kc + 1)) = w12 := ⟨_, rfl⟩
      rw [hw12] at c12 d12 kp12
      have C12 := Lib.hid c12
      have D12 := Lib.hid d12
      have K12 := Lib.hid kp12
      have L12 := Lib.hid (show ∃ r, w12.heap[w7.heap.size + 1]? = some (.loop r) from by
        obtain ⟨r, hr⟩ := HL.out
        exact ⟨r, K12.out.2.trans hr⟩)
      have z12 := c12.kb.cell 0
      have s12 := c12.sb.cell 0
      have wk : IntKind.i64.wrap (kc + 1) = kc + 1 := IntWalk.i64_in _ (by omega)
      clear c12 d12 kp12 c10 d10 x10 ho10 hb10 RW x0 x1 hkl
      by_cases hks : kc + 1 = stop
      · have tks : (kc + 1 == stop) = true := by simpa using hks
        have HKS := Lib.hid hks
        clear hks
        gi_wp2_with (first | rw [hw11] | rw [hw12])
        refine ⟨K12.out, fun W2 h2 => ?_⟩
        have h3 := Ca.loop h2 L12.out
        exact ⟨⟨2, rfl, rfl⟩, _, kc + 1, D12.out.ca h3, C12.out.cs h3.cs (h2.to_below (fun i hi e => by omega) C12.out.bel.size), .inl HKS.out⟩
      · have tks : (kc + 1 == stop) = false := by simpa using hks
        clear hks
        gi_wp2_with (first | rw [hw11] | rw [hw12])
        refine ⟨K12.out, fun W2 h2 => ?_⟩
        have h3 := Ca.loop h2 L12.out
        have r1 := D12.out.ca h3
        have r2 := C12.out.cs h3.cs (h2.to_below (fun i hi e => by omega) C12.out.bel.size)
        rw [← FO.out] at r1 r2
        exact ⟨r1, kc + 1, r2⟩
    case done =>
      rintro W0 W hend hl hO hK
      obtain ⟨L, kc, hd0, cj0, hco⟩ := hend
      have ord := ORD.out
      have CJ := Lib.hid (cj0.cs (Ca.loop hO hl).cs (hO.to_below (fun i hi e => by omega) cj0.bel.size))
      have DD := Lib.hid (hd0.ca (Ca.loop hO hl))
      have KK := Lib.hid hK
      have CO := Lib.hid hco
      clear hd0 cj0 hco hl hO hK
      obtain ⟨Ax, cx, hx, ho⟩ := CJ.out.xb
      have hll := CJ.out.inv.2.2.2
      have RF := Lib.hid (rfirst_any Ax cx L nx W (by obtain ⟨_, _, e, h2, _⟩ := ho.open_; injection e with q1 q2 q3; subst q1; exact h2) (by omega))
      have x0 := hx.cell 0
      have x1 := hx.cell 1
      have HX := Lib.hid hx
      have HO := Lib.hid ho
      clear hx ho
      go_wp2_with fail
      refine RF.out.mono ?_
      rintro e w8 ⟨rfl, hb8⟩
      have CJ8 := Lib.hid (CJ.out.below hb8)
      have DD8 := Lib.hid (DD.out.below hb8)
      have K8 := Lib.hid ((hb8.block w7.heap.size (by have := CJ.out.big; omega)).trans KK.out)
      have HX8 := Lib.hid (HX.out.below hb8 HX.out.lt)
      have HO8 := Lib.hid (HO.out.below hb8)
      clear hb8 RF CJ KK DD x0 x1 HX HO
      go_upto_region 20 with fail
      go_cut [92] from 13 to 98 (fun s wx => s = .bool false ∧ ∃ nn, wx = w8.drewN nn)
      case first =>
        have n0 := CJ8.out.nb.cell 0
        have s0 := CJ8.out.sb.cell 0
        have k0 := CJ8.out.kb.cell 0
        have x0 := HX8.out.cell 0
        by_cases hks : kc = stop
        · have q1 : (kc != stop) = false := by simpa using hks
          clear hks
          go_quiet (fail)
          go_wp2_with fail
          go_meet
          case rel => exact ⟨rfl, _, rfl⟩
        · have q1 : (kc != stop) = true := by simpa using hks
          have hco := CO.out.resolve_left hks
          clear hks
          by_cases hp : 0 < L.length
          · have hen : now < en L (fo L L.length) := hco.resolve_left (fun e => by rw [e] at hp; simp at hp)
            have hlt := fo_le L hp
            obtain ⟨bb, off, rfl, e6⟩ := en_cell (show Lay E7 w8 Ax L by obtain ⟨_, _, e, h2, _⟩ := HO8.out.open_; injection e with q1 q2 q3; subst q1; exact h2) hlt
            have hf : fi1 L L.length = ((fo L L.length : Nat) : Int) := by unfold fi1; rw [if_neg (by omega)]
            rw [hf]
            clear hf
            generalize fo L L.length = i at *
            generalize en L i = ei at *
            have q2 : decide ((i : Int) ≥ 0) = true := decide_eq_true (by omega)
            have q2' : decide (0 ≤ (i : Int)) = true := decide_eq_true (by omega)
            have t2 : decide (i < L.length) = true := decide_eq_true hlt
            have t3 : ((L.length : Int) ≤ (i : Int)) = False := by simp; omega
            have t4 : (i < L.length) = True := eq_true hlt
            have q4 : decide (ei ≤ now) = false := decide_eq_false (by omega)
            clear hco
            go_quiet (fail)
            go_wp2_with fail
            go_meet
            case rel => exact ⟨rfl, _, rfl⟩
          · have hf : fi1 L L.length = -1 := by unfold fi1; rw [if_pos (by omega)]
            rw [hf]
            have q2 : decide ((-1 : Int) ≥ 0) = false := by decide
            clear hco hf
            go_quiet (fail)
            go_wp2_with fail
            go_meet
            case rel => exact ⟨rfl, _, rfl⟩
      case rest =>
      obtain ⟨rfl, nn, rfl⟩ := hcut
      have hdn : Below w8.heap.size w8 (w8.drewN nn) := base.below_drewN (Below.refl _ _) nn
      have CX := Lib.hid (CJ8.out.below hdn)
      have DX := Lib.hid (DD8.out.below hdn)
      have HXX := Lib.hid (show Blk (w8.drewN nn) w2.heap.size _ _ from HX8.out.below hdn HX8.out.lt)
      have HOX := Lib.hid (rk.Own.below HO8.out hdn)
      have KX := Lib.hid (show (w8.drewN nn).heap[w7.heap.size]? = _ from K8.out)
      clear hdn CJ8 DD8 K8 HX8 HO8
      generalize w8.drewN nn = W5 at *
      have x0 := HXX.out.cell 0
      have x1 := HXX.out.cell 1
      have SA := Lib.hid (same_any Ax cx L nx w1.heap.size w1.heap.size W5 DX.out (by obtain ⟨_, _, e, h2, _⟩ := HOX.out.open_; injection e with q1 q2 q3; subst q1; exact h2) CX.out.inv)
      go_wp2_with fail
      refine SA.out.mono ?_
      rintro e w9 ⟨rfl, b9⟩
      have C9 := Lib.hid (CX.out.below b9)
      have K9 := Lib.hid ((b9.block w7.heap.size (by have := CX.out.big; omega)).trans KX.out)
      clear b9 SA x0 x1
      go_wp2_with fail
      refine (AW.out _).mono ?_
      rintro e w10 ⟨rfl, b10⟩
      have C10 := Lib.hid (C9.out.below b10)
      have K10 := Lib.hid ((b10.block w7.heap.size (by have := C9.out.big; omega)).trans K9.out)
      have r0 := C10.out.rt.cell 0
      have r1 := C10.out.rt.free 0
      have CR := Lib.hid ((C10.out.rt.put 0 (.bool true)).cell 0)
      have LL := Lib.hid (C10.out.bel.setCell (p := ⟨w.heap.size + 1 + 1, 0, none⟩) (by show w.heap.size ≤ w.heap.size + 1 + 1; omega) (.bool true))
      have KD := Lib.hid ((Below.heap_setCell w10 ⟨w.heap.size + 1 + 1, 0, none⟩ (.bool true) w7.heap.size (by show w7.heap.size ≠ w.heap.size + 1 + 1; omega)).trans K10.out)
      clear b10
      go_wp2_with fail
      generalize w10.setCell ⟨w.heap.size + 1 + 1, 0, none⟩ (.bool true) = w11 at *
      refine ⟨by simp, .inl ⟨_, _, rfl, run_takeDeferred KD.out, ?_⟩⟩
      have hc9 := cell_kept CR.out (grownBy_putObj' _ w7.heap.size (.deferred none)) (fun r e => by cases e; exact ⟨_, KD.out, rfl⟩)
      refine ⟨.bool true, ?_, rfl, LL.out.trans (belowK_b (w := w) (Nat.le_refl _) _ w7.heap.size _ _ (by omega) KD.out rfl rfl)⟩
      generalize w11.putObj w7.heap.size (.deferred none) = w12 at hc9 ⊢
      simp [results, Try.f5, go_sem, hc9]
    case stop =>
      rintro c' W0 W ⟨⟨id, rfl, hid⟩, hend⟩ hl hO hK
      subst hid
      refine wpIn_wide.2 ?_
      obtain ⟨L, kc, hd0, cj0, hco⟩ := hend
      have ord := ORD.out
      have CJ := Lib.hid (cj0.cs (Ca.loop hO hl).cs (hO.to_below (fun i hi e => by omega) cj0.bel.size))
      have DD := Lib.hid (hd0.ca (Ca.loop hO hl))
      have KK := Lib.hid hK
      have CO := Lib.hid hco
      clear hd0 cj0 hco hl hO hK
      obtain ⟨Ax, cx, hx, ho⟩ := CJ.out.xb
      have hll := CJ.out.inv.2.2.2
      have RF := Lib.hid (rfirst_any Ax cx L nx W (by obtain ⟨_, _, e, h2, _⟩ := ho.open_; injection e with q1 q2 q3; subst q1; exact h2) (by omega))
      have x0 := hx.cell 0
      have x1 := hx.cell 1
      have HX := Lib.hid hx
      have HO := Lib.hid ho
      clear hx ho
      go_wp2_with fail
      refine RF.out.mono ?_
      rintro e w8 ⟨rfl, hb8⟩
      have CJ8 := Lib.hid (CJ.out.below hb8)
      have DD8 := Lib.hid (DD.out.below hb8)
      have K8 := Lib.hid ((hb8.block w7.heap.size (by have := CJ.out.big; omega)).trans KK.out)
      have HX8 := Lib.hid (HX.out.below hb8 HX.out.lt)
      have HO8 := Lib.hid (HO.out.below hb8)
      clear hb8 RF CJ KK DD x0 x1 HX HO
      go_upto_region 20 with fail
      go_cut [92] from 13 to 98 (fun s wx => s = .bool false ∧ ∃ nn, wx = w8.drewN nn)
      case first =>
        have n0 := CJ8.out.nb.cell 0
        have s0 := CJ8.out.sb.cell 0
        have k0 := CJ8.out.kb.cell 0
        have x0 := HX8.out.cell 0
        by_cases hks : kc = stop
        · have q1 : (kc != stop) = false := by simpa using hks
          clear hks
          go_quiet (fail)
          go_wp2_with fail
          go_meet
          case rel => exact ⟨rfl, _, rfl⟩
        · have q1 : (kc != stop) = true := by simpa using hks
          have hco := CO.out.resolve_left hks
          clear hks
          by_cases hp : 0 < L.length
          · have hen : now < en L (fo L L.length) := hco.resolve_left (fun e => by rw [e] at hp; simp at hp)
            have hlt := fo_le L hp
            obtain ⟨bb, off, rfl, e6⟩ := en_cell (show Lay E7 w8 Ax L by obtain ⟨_, _, e, h2, _⟩ := HO8.out.open_; injection e with q1 q2 q3; subst q1; exact h2) hlt
            have hf : fi1 L L.length = ((fo L L.length : Nat) : Int) := by unfold fi1; rw [if_neg (by omega)]
            rw [hf]
            clear hf
            generalize fo L L.length = i at *
            generalize en L i = ei at *
            have q2 : decide ((i : Int) ≥ 0) = true := decide_eq_true (by omega)
            have q2' : decide (0 ≤ (i : Int)) = true := decide_eq_true (by omega)
            have t2 : decide (i < L.length) = true := decide_eq_true hlt
            have t3 : ((L.length : Int) ≤ (i : Int)) = False := by simp; omega
            have t4 : (i < L.length) = True := eq_true hlt
            have q4 : decide (ei ≤ now) = false := decide_eq_false (by omega)
            clear hco
            go_quiet (fail)
            go_wp2_with fail
            go_meet
            case rel => exact ⟨rfl, _, rfl⟩
          · have hf : fi1 L L.length = -1 := by unfold fi1; rw [if_pos (by omega)]
            rw [hf]
            have q2 : decide ((-1 : Int) ≥ 0) = false := by decide
            clear hco hf
            go_quiet (fail)
            go_wp2_with fail
            go_meet
            case rel => exact ⟨rfl, _, rfl⟩
      case rest =>
      obtain ⟨rfl, nn, rfl⟩ := hcut
      have hdn : Below w8.heap.size w8 (w8.drewN nn) := base.below_drewN (Below.refl _ _) nn
      have CX := Lib.hid (CJ8.out.below hdn)
      have DX := Lib.hid (DD8.out.below hdn)
      have HXX := Lib.hid (show Blk (w8.drewN nn) w2.heap.size _ _ from HX8.out.below hdn HX8.out.lt)
      have HOX := Lib.hid (rk.Own.below HO8.out hdn)
      have KX := Lib.hid (show (w8.drewN nn).heap[w7.heap.size]? = _ from K8.out)
      clear hdn CJ8 DD8 K8 HX8 HO8
      generalize w8.drewN nn = W5 at *
      have x0 := HXX.out.cell 0
      have x1 := HXX.out.cell 1
      have SA := Lib.hid (same_any Ax cx L nx w1.heap.size w1.heap.size W5 DX.out (by obtain ⟨_, _, e, h2, _⟩ := HOX.out.open_; injection e with q1 q2 q3; subst q1; exact h2) CX.out.inv)
      go_wp2_with fail
      refine SA.out.mono ?_
      rintro e w9 ⟨rfl, b9⟩
      have C9 := Lib.hid (CX.out.below b9)
      have K9 := Lib.hid ((b9.block w7.heap.size (by have := CX.out.big; omega)).trans KX.out)
      clear b9 SA x0 x1
      go_wp2_with fail
      refine (AW.out _).mono ?_
      rintro e w10 ⟨rfl, b10⟩
      have C10 := Lib.hid (C9.out.below b10)
      have K10 := Lib.hid ((b10.block w7.heap.size (by have := C9.out.big; omega)).trans K9.out)
      have r0 := C10.out.rt.cell 0
      have r1 := C10.out.rt.free 0
      have CR := Lib.hid ((C10.out.rt.put 0 (.bool true)).cell 0)
      have LL := Lib.hid (C10.out.bel.setCell (p := ⟨w.heap.size + 1 + 1, 0, none⟩) (by show w.heap.size ≤ w.heap.size + 1 + 1; omega) (.bool true))
      have KD := Lib.hid ((Below.heap_setCell w10 ⟨w.heap.size + 1 + 1, 0, none⟩ (.bool true) w7.heap.size (by show w7.heap.size ≠ w.heap.size + 1 + 1; omega)).trans K10.out)
      clear b10
      go_wp2_with fail
      generalize w10.setCell ⟨w.heap.size + 1 + 1, 0, none⟩ (.bool true) = w11 at *
      refine ⟨by simp, .inl ⟨_, _, rfl, run_takeDeferred KD.out, ?_⟩⟩
      have hc9 := cell_kept CR.out (grownBy_putObj' _ w7.heap.size (.deferred none)) (fun r e => by cases e; exact ⟨_, KD.out, rfl⟩)
      refine ⟨.bool true, ?_, rfl, LL.out.trans (belowK_b (w := w) (Nat.le_refl _) _ w7.heap.size _ _ (by omega) KD.out rfl rfl)⟩
      generalize w11.putObj w7.heap.size (.deferred none) = w12 at hc9 ⊢
      simp [results, Try.f5, go_sem, hc9]
theorem walk (w : World) (A : Option Addr) (m c : Nat) (F : Nat → Nat → Int) (h1 : IntRows w A m 5 F) (hc : m ≤ c) (hm : c ≤ maxLen) (hw : ∀ i, i < m → ∀ j, j < 5 → -9223372036854775808 ≤ F i j ∧ F i j ≤ 9223372036854775807) (now : Int) (_ : (Lit.int .i64 now).wf = true) (stop : Int) (_ : (Lit.int .i64 stop).wf = true) :
    Calls Try.prog 5 #[.slice A m c, .int .i64 now, .int .i64 stop] w fun e w' => e = .returned (.bool true) ∧ Below w.heap.size w w' := by
  unfold maxLen at hm
  by_cases q : 80 < m
  · exact walk_no w A c m now stop q (by omega)
  · exact walk_yes w A m c F h1 (by omega) now stop

set_option maxRecDepth 100000 in
theorem lifted (os : Os) (started : os.Started) (H : Type) (enc : TypeId × Value → H) :
    ReturnsInHanded {} Try.checked os 5 .any (Rows.bidEndsSpec.pre6 enc Try.prog Try.f5 Rows.bidEndsRow.domain false) (Rows.bidEndsSpec.post enc Try.prog Try.f5 false true false false) := by
  refine returnsInHanded_of_change (C := Try.checked) base.own started (by kernel_rfl) Try.func5
    (ChangeSpec.witness6 (enc := enc) (C := Try.checked) false ⟨#[], #[.slice none 0 0, .int .i64 0, .int .i64 0], []⟩ 8 (by kernel_rfl) (by kernel_rfl) (by kernel_rfl) (by kernel_rfl)) ?_
  intro W bs args ds gs before hval0 hW _ _
  have hval : ∀ (j : Nat) t v, Try.f5.params[j]? = some t → args[j]? = some v → Value.okWide Try.prog W .any bs t v := hval0
  have hW' : DataW.Whole enc Try.prog Try.f5.params.toList Rows.bidEndsSpec.vars false W args.toList ds gs before := hW
  obtain ⟨p, q, hA0, hV, rfl, _, _⟩ := hW
  have hA : DataW.TrodAll enc Try.prog W 0 (fun _ => true) true Try.f5.params.toList args.toList ds p := hA0
  rw [Try.params5] at hA hval
  obtain ⟨v0, vs0, d0, ds0, p0, q0, hargs, rfl, rfl, h0, r0⟩ := trodAll_cons hA
  obtain ⟨v1, vs1, d1, ds1, p1, q1, rfl, rfl, rfl, h1, r1⟩ := trodAll_cons r0
  obtain ⟨v2, vs2, d2, ds2, p2, q2, rfl, rfl, rfl, h2, r2⟩ := trodAll_cons r1
  obtain ⟨rfl, rfl, rfl⟩ := trodAll_nil r2
  obtain rfl : args = #[v0, v1, v2] := by cases args; simp_all
  obtain ⟨rfl, rfl⟩ := trodVars_none hV
  obtain ⟨A0, k0, c0, F0, rfl, b0, m0, n0, w0⟩ := base.open_introws 5 Try.underlying22 Try.underlying30 (by kernel_rfl) (by kernel_rfl) rfl (by omega) (by intro j f hj; rcases j with _ | _ | _ | _ | _ | j <;> simp at hj <;> (subst hj; exact Try.underlying3)) (hval 0 22 v0 rfl rfl) h0
  obtain ⟨a1, rfl, rfl, rfl, w1⟩ := open_int Try.underlying3 (hval 1 3 v1 rfl rfl) h1
  obtain ⟨a2, rfl, rfl, rfl, w2⟩ := open_int Try.underlying3 (hval 2 3 v2 rfl rfl) h2
  clear hA0 hval0
  refine (walk W A0 k0 c0 F0 n0 b0 m0 w0 a1 w1 a2 w2).mono fun e W' ⟨he, hb⟩ => ?_
  subst he
  exact ⟨_, rfl, base.law_post base.laid (by kernel_rfl) rfl rfl Try.underlying4 hW' rfl rfl rfl hb⟩

theorem over : Rows.bidEndsRow.holds Try.pinned (OpenSpec.ofChange Rows.bidEndsSpec) :=
  OpenClaim.holds_of_wide 5 Try.f5 rfl rfl rfl rfl rfl rfl rfl ⟨rfl, rfl, rfl, rfl, rfl⟩ rfl rfl rfl rfl rfl (by kernel_rfl) Try.func5 (by kernel_rfl)
    (of_decide_eq_true (by kernel_rfl)) (by unfold Func.isWrapper; first | (rw [if_pos (by decide +kernel)]; kernel_rfl) | (rw [if_neg (by decide +kernel)]; exact ⟨rfl, rfl⟩))
    (fun os started H enc _ => lifted os started H enc)

theorem proved : Rows.BidEndsSaid := over
#print axioms proved
end Go.Proofs.Ytlklfolpcebahaa.bidEnds
