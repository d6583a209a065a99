/-
  RentLapses: just those houses are told that have lapsed, in the order that the document says, and have no rent any more; as far as it is asked.
-/
import Derived.Test.YtmgfnhbhgmpchaaRtH
import Derived.Test.YtmgfnhbhgmpchaaStructs
import Derived.Test.YtmgfnhbhgmpchaaBase2
import Derived.LoopTactic
import Derived.BigQuiet
namespace Go.Proofs.Ytmgfnhbhgmpchaa.rentLapses
open Go.ChangeShapes Go.WideShapes Go.ChangeAt Go.RowKit Go.Shelf
open base (law_post ret_bool ret_int made up Blk Only IntRows)
open rn mk rk rgm
set_option linter.unusedVariables false
set_option linter.unusedSimpArgs false
attribute [local go_sem] Oper.semAt_some
attribute [local irreducible] wpStill

set_option maxRecDepth 100000 in
set_option maxHeartbeats 4000000 in
theorem walk_no (w : World) (A : Option Addr) (c m : Nat) (now stop : Int) (h : 80 < m) (hm : m ≤ 9223372036854775807) :
    Calls Try.prog 5 #[.slice A m c, .int .i64 now, .int .i64 stop] w fun e w' => e = .returned (.bool true) ∧ Below w.heap.size w w' := by
  have hm1 : Below w.heap.size w (w.alloc (.cells #[.int .i64 now] 3)) := made w _
  have hm2 : Below w.heap.size w ((w.alloc (.cells #[.int .i64 now] 3)).alloc (.cells #[.int .i64 stop] 3)) := hm1.alloc (by rw [asz]; omega) _
  have hm3 : Below w.heap.size w (((w.alloc (.cells #[.int .i64 now] 3)).alloc (.cells #[.int .i64 stop] 3)).alloc (.cells #[.bool false] 4)) := hm2.alloc (by rw [asz, asz]; omega) _
  have bn : Blk (((w.alloc (.cells #[.int .i64 now] 3)).alloc (.cells #[.int .i64 stop] 3)).alloc (.cells #[.bool false] 4)) w.heap.size 3 #[.int .i64 now] := ((Blk.new _ _ _).alloc _).alloc _
  have bs : Blk (((w.alloc (.cells #[.int .i64 now] 3)).alloc (.cells #[.int .i64 stop] 3)).alloc (.cells #[.bool false] 4)) (w.heap.size + 1) 3 #[.int .i64 stop] := by
    have := (Blk.new (w.alloc (.cells #[.int .i64 now] 3)) 3 #[.int .i64 stop]).alloc (.cells #[.bool false] 4)
    rw [asz] at this
    exact this
  have br : Blk (((w.alloc (.cells #[.int .i64 now] 3)).alloc (.cells #[.int .i64 stop] 3)).alloc (.cells #[.bool false] 4)) (w.heap.size + 1 + 1) 4 #[.bool false] := by
    have := Blk.new ((w.alloc (.cells #[.int .i64 now] 3)).alloc (.cells #[.int .i64 stop] 3)) 4 #[.bool false]
    rw [asz, asz] at this
    exact this
  have hs : (((w.alloc (.cells #[.int .i64 now] 3)).alloc (.cells #[.int .i64 stop] 3)).alloc (.cells #[.bool false] 4)).heap.size = w.heap.size + 3 := by rw [asz, asz, asz]
  have BN := Lib.hid bn
  have BS := Lib.hid bs
  have BR := Lib.hid br
  have M1 := Lib.hid hm3
  have Z1 := Lib.hid hs
  clear hm1 hm2 hm3 bn bs br hs
  go_enter Try.func5, Try.ntmps5
  go_upto_region 1 with fail
  generalize ((w.alloc (.cells #[.int .i64 now] 3)).alloc (.cells #[.int .i64 stop] 3)).alloc (.cells #[.bool false] 4) = w1 at *
  have N := Lib.hid (new_any w1)
  go_wp2_with fail
  refine N.out.mono ?_
  rintro e w2 ⟨rfl, -, b1⟩
  have M2 := Lib.hid (up M1.out b1 M1.out.size)
  have R2 := Lib.hid (BR.out.below b1 BR.out.lt)
  have AW := Lib.hid (awake_any w2)
  clear b1 N
  go_wp2_with fail
  refine AW.out.mono ?_
  rintro e w3 ⟨rfl, b3⟩
  have R3 := Lib.hid (R2.out.below b3 R2.out.lt)
  have M3 := Lib.hid (up M2.out b3 M2.out.size)
  have r0 := R3.out.cell 0
  have r1 := R3.out.free 0
  have C4 := (R3.out.put 0 (.bool true)).cell 0
  have B4 := Lib.hid (M3.out.setCell (p := ⟨w.heap.size + 1 + 1, 0, none⟩) (by show w.heap.size ≤ w.heap.size + 1 + 1; omega) (.bool true))
  clear b3
  go_wp2_with fail
  generalize w3.setCell ⟨w.heap.size + 1 + 1, 0, none⟩ (.bool true) = w4 at *
  (try simp only [Exit.inBlock, Exit.then]); refine bodyPost_ret (v := .bool true) (by simp [results, Try.f5, go_sem, C4]) rfl ?_
  exact ⟨rfl, B4.out⟩
theorem wf_nth {m : Nat} {F : Nat → Nat → Int} (hw : ∀ i, i < m → ∀ j, j < 4 → -9223372036854775808 ≤ F i j ∧ F i j ≤ 9223372036854775807) {i : Nat} (hi : i < m) {j : Nat} (hj : j < 4) : (Lit.int .i64 (F i j)).wf = true := mk.wf_of (hw i hi j hj).1 (hw i hi j hj).2
/-- what a round may turn -/
def Tu (x8 n11 D : Nat) (j : Nat) : Prop := j = x8 ∨ j = n11 ∨ j = D + 1
/-- as a house is told -/
def Told (w : World) (g b x8 n11 D : Nat) (now stop : Int) (d : R3) (L : List R3) (i : Nat) (W : World) : Prop :=
  ∃ hi : FirstIs L i, d = L[i]'hi.lt ∧ d.2.2 ≤ now - 41 ∧ Sd L ∧ Wk L ∧ ∃ kc cn, Cj w x8 n11 D now stop L kc W ∧ RAt W g b (rn.look (dropL L d.1)) cn ∧ cn ≤ 90000
set_option maxRecDepth 100000 in
set_option maxHeartbeats 16000000 in
theorem walk_yes (w : World) (A : Option Addr) (m c : Nat) (F : Nat → Nat → Int) (h1 : IntRows w A m 4 F) (hm : m ≤ 80) (hw : ∀ i, i < m → ∀ j, j < 4 → -9223372036854775808 ≤ F i j ∧ F i j ≤ 9223372036854775807) (now stop : Int) (hnow : now ≤ 9223372036854775807) :
    Calls Try.prog 5 #[.slice A m c, .int .i64 now, .int .i64 stop] w fun e w' => e = .returned (.bool true) ∧ Below w.heap.size w w' := by
  have AW := Lib.hid (fun ws => awake_any ws)
  have NN := Lib.hid h1
  have HW := Lib.hid hw
  clear h1 hw
  have hm1 : Below w.heap.size w (w.alloc (.cells #[.int .i64 now] 3)) := made w _
  have hm2 : Below w.heap.size w ((w.alloc (.cells #[.int .i64 now] 3)).alloc (.cells #[.int .i64 stop] 3)) := hm1.alloc (by rw [asz]; omega) _
  have hm3 : Below w.heap.size w (((w.alloc (.cells #[.int .i64 now] 3)).alloc (.cells #[.int .i64 stop] 3)).alloc (.cells #[.bool false] 4)) := hm2.alloc (by rw [asz, asz]; omega) _
  have bn : Blk (((w.alloc (.cells #[.int .i64 now] 3)).alloc (.cells #[.int .i64 stop] 3)).alloc (.cells #[.bool false] 4)) w.heap.size 3 #[.int .i64 now] := ((Blk.new _ _ _).alloc _).alloc _
  have bs : Blk (((w.alloc (.cells #[.int .i64 now] 3)).alloc (.cells #[.int .i64 stop] 3)).alloc (.cells #[.bool false] 4)) (w.heap.size + 1) 3 #[.int .i64 stop] := by
    have := (Blk.new (w.alloc (.cells #[.int .i64 now] 3)) 3 #[.int .i64 stop]).alloc (.cells #[.bool false] 4)
    rw [asz] at this
    exact this
  have br : Blk (((w.alloc (.cells #[.int .i64 now] 3)).alloc (.cells #[.int .i64 stop] 3)).alloc (.cells #[.bool false] 4)) (w.heap.size + 1 + 1) 4 #[.bool false] := by
    have := Blk.new ((w.alloc (.cells #[.int .i64 now] 3)).alloc (.cells #[.int .i64 stop] 3)) 4 #[.bool false]
    rw [asz, asz] at this
    exact this
  have hs : (((w.alloc (.cells #[.int .i64 now] 3)).alloc (.cells #[.int .i64 stop] 3)).alloc (.cells #[.bool false] 4)).heap.size = w.heap.size + 3 := by rw [asz, asz, asz]
  have BN := Lib.hid bn
  have BS := Lib.hid bs
  have BR := Lib.hid br
  have M1 := Lib.hid hm3
  have Z1 := Lib.hid hs
  clear hm1 hm2 hm3 bn bs br hs
  refine (callsIn_wide (n := 4)).1 ?_
  refine callsIn_of_wp_marks Try.func5 rfl trivial ?_ rfl
  simp only [Try.ntmps5, List.size_toArray, List.length_cons, List.length_nil, Nat.reduceAdd, Nat.reduceSub, Array.replicate_succ, Array.replicate_zero, List.push_toArray, List.append_toArray, List.nil_append, List.cons_append]
  refine wpIn_wide.2 (calm_wp ?_)
  go_upto_region 1 with fail
  generalize ((w.alloc (.cells #[.int .i64 now] 3)).alloc (.cells #[.int .i64 stop] 3)).alloc (.cells #[.bool false] 4) = w1 at *
  have N := Lib.hid (new_any w1)
  go_wp2_with fail
  refine N.out.mono ?_
  rintro e w2 ⟨rfl, hr2, hb2⟩
  have M3 := Lib.hid (up hb2 (made w2 (.cells #[.slice none 0 0] 26)) hb2.size)
  have RZ := Lib.hid (hr2.below (made w2 (.cells #[.slice none 0 0] 26)))
  have X3 := Lib.hid (show Xb w.heap.size w2.heap.size [] (w2.alloc (.cells #[.slice none 0 0] 26)) from ⟨none, 0, Blk.new _ _ _, rk.Own.nil _ _ _⟩)
  have Z2 := Lib.hid (show w1.heap.size + 1 < w2.heap.size from hr2.blk.lt)
  have Z3 := Lib.hid (asz w2 (.cells #[.slice none 0 0] 26))
  clear hr2 hb2 N
  go_upto_region 5 with fail
  generalize w2.alloc (.cells #[.slice none 0 0] 26) = w3 at *
  go_wp2_with fail
  go_loopw [30] (fun i wr => ∃ (k : Nat) (W : World) (L : List R3) (cn : Nat), W = wr ∧ k ≤ m ∧ i = .int .i64 k ∧ RAt wr (w1.heap.size + 1) w1.heap.size (rn.look L) cn ∧ cn ≤ k ∧ Xb w.heap.size w2.heap.size L wr ∧ L.length ≤ k ∧ Gd L ∧ Sd L ∧ Wk L ∧ Below w1.heap.size w1 wr ∧ w3.heap.size ≤ wr.heap.size) (fun i _ => m - (intOf i).toNat)
  case atStart => exact ⟨0, _, [], 0, rfl, by omega, rfl, RZ.out, by omega, X3.out, by simp, fun d hd => (by cases hd), Sd.nil, fun d hd => (by cases hd), M3.out, Nat.le_refl _⟩
  case round =>
  obtain ⟨k, w5, L, cn, rfl, hk, rfl, hr, hcn, hxb, hll, hg, hs, hwk, hbl, hsz⟩ := hrel
  have R5 := Lib.hid hr
  have X5 := Lib.hid hxb
  have GD := Lib.hid hg
  have SD := Lib.hid hs
  have WK := Lib.hid hwk
  have B5 := Lib.hid hbl
  have Z5 := Lib.hid hsz
  have BW := Lib.hid (show Below w.heap.size w w5 from M1.out.trans (hbl.mono (by have := Z1.out; omega)))
  clear hr hxb hg hs hwk hbl hsz RZ X3 M3
  by_cases hkm : k < m
  · obtain ⟨bb, off, rfl, _, hcell⟩ := (base.IntRows.keep NN.out BW.out) (by omega)
    have e0 := hcell k hkm 0 (by omega)
    have e1 := hcell k hkm 1 (by omega)
    have e2 := hcell k hkm 2 (by omega)
    have e3 := hcell k hkm 3 (by omega)
    rw [Nat.add_zero] at e0
    have WN := Lib.hid (wf_nth HW.out hkm (show 1 < 4 by omega))
    clear hcell
    generalize F k 0 = k0 at *
    generalize F k 1 = k1 at *
    generalize F k 2 = k2 at *
    generalize F k 3 = k3 at *
    have hm6 := made w5 (.cells #[.int .i64 k0, .int .i64 k1, .int .i64 k2, .int .i64 k3] 28)
    have R6 := Lib.hid (R5.out.below hm6)
    have X6 := Lib.hid (X5.out.cs (Cs.below hm6))
    have B6 := Lib.hid (up B5.out hm6 B5.out.size)
    have O6 := Lib.hid (Blk.new w5 28 #[.int .i64 k0, .int .i64 k1, .int .i64 k2, .int .i64 k3])
    have Z6 := Lib.hid (Nat.le_trans Z5.out hm6.size)
    clear hm6 R5 X5 B5 BW
    go_upto_region 8 with fail
    generalize w5.alloc (.cells #[.int .i64 k0, .int .i64 k1, .int .i64 k2, .int .i64 k3] 28) = w6 at *
    clear e0 e1 e2 e3
    have o0 := O6.out.cell 0
    have o1 := O6.out.cell 1
    have o2 := O6.out.cell 2
    have o3 := O6.out.cell 3
    obtain ⟨Ax, cx, hx, ho⟩ := X6.out
    have x0 := hx.cell 0
    have SP := Lib.hid (step_any Ax cx cn L k0 k1 k2 k3 w.heap.size (w1.heap.size + 1) w1.heap.size w6 R6.out ho (by omega) (by have := B6.out.size; have := Z1.out; omega) (by have := Z1.out; omega) GD.out WN.out (by omega))
    have SG := Lib.hid (step_good GD.out k0 k1 k2 k3)
    have SS := Lib.hid (step_sd SD.out WK.out k0 k1 k2 k3 WN.out)
    have HX := Lib.hid hx
    clear hx ho
    generalize stepS L k0 k1 k2 k3 = L2 at *
    go_wp2_with fail
    refine SP.out.mono ?_
    rintro e w7 ⟨v7, c7, rfl, hr7, hc7, ho7, hm7⟩
    have X7 := Lib.hid (HX.out.only hm7 (fun e => by have := Z2.out; omega))
    have R7 := Lib.hid hr7
    have O7 := Lib.hid ho7
    have B7 := Lib.hid (B6.out.trans (hm7.to (Nat.le_refl _) B6.out.size))
    have Z7 := Lib.hid (Nat.le_trans Z6.out hm7.size)
    obtain ⟨A7, d7, rfl, -⟩ := ho7.open_
    have hsl := SG.out.2
    have x7 := X7.out.cell 0
    have y7 := X7.out.free 0
    have W8 := Lib.hid ((Only.refl (fun j => j = w2.heap.size) w7).setCell (p := ⟨w2.heap.size, 0, none⟩) (.inl rfl) (.slice A7 L2.length d7))
    have R8 := Lib.hid (show RAt (w7.setCell ⟨w2.heap.size, 0, none⟩ (.slice A7 L2.length d7)) _ _ _ _ from ⟨R7.out.blk.only W8.out (by have := Z2.out; omega), MapIs.only R7.out.map W8.out (by have := Z2.out; omega)⟩)
    have X8 := Lib.hid (show Xb w.heap.size w2.heap.size L2 (w7.setCell ⟨w2.heap.size, 0, none⟩ (.slice A7 L2.length d7)) from ⟨A7, d7, X7.out.put 0 _, own_far O7.out X7.out (by decide) 0 _⟩)
    have B8 := Lib.hid (B7.out.setCell (p := ⟨w2.heap.size, 0, none⟩) (by show w1.heap.size ≤ w2.heap.size; have := Z2.out; omega) (.slice A7 L2.length d7))
    have Z8 := Lib.hid (Nat.le_trans Z7.out W8.out.size)
    clear hr7 ho7 hm7 SP o0 o1 o2 o3 x0 HX
    go_wp2_with fail
    generalize w7.setCell ⟨w2.heap.size, 0, none⟩ (.slice A7 L2.length d7) = w8 at *
    refine ⟨⟨k + 1, _, L2, c7, rfl, by omega, by go_num, R8.out, by omega, X8.out, by omega, SG.out.1, SS.out.1, SS.out.2, B8.out, Z8.out⟩, by simp [intOf]; omega⟩
  · obtain rfl : k = m := by omega
    have hm6 := made w5 (.cells #[.int .i64 0] 3)
    have R6 := Lib.hid (R5.out.below hm6)
    have C6 := Lib.hid (show Cj w w2.heap.size w5.heap.size 0 now stop L 0 (w5.alloc (.cells #[.int .i64 0] 3)) from by
      have hz := Z1.out
      have hB : Below w1.heap.size w1 (w5.alloc (.cells #[.int .i64 0] 3)) := up B5.out hm6 B5.out.size
      refine ⟨up BW.out hm6 BW.out.size, BN.out.below hB (by omega), BS.out.below hB (by omega), BR.out.below hB (by omega), X5.out.cs (Cs.below hm6), Blk.new _ _ _, GD.out, by omega, by omega, ?_⟩
      have := hB.size
      omega)
    have ZA := Lib.hid (asz w5 (.cells #[.int .i64 0] 3))
    clear hm6 R5 X5 B5 BW NN HW BN BS BR
    go_upto_region 11 with fail
    generalize w5.alloc (.cells #[.int .i64 0] 3) = w6 at *
    have n0 := C6.out.nb.cell 0
    have LM := Lib.hid (lapsed_make (w1.heap.size + 1) now w6)
    go_wp2_with fail
    refine LM.out.mono ?_
    rintro e w7 ⟨rfl, hbr, hbn, hb7⟩
    have R7 := Lib.hid (R6.out.below hb7)
    have C7 := Lib.hid (C6.out.below hb7)
    have HBR := Lib.hid hbr
    have HBN := Lib.hid hbn
    have ORD := Lib.hid (show w.heap.size + 3 = w1.heap.size ∧ w1.heap.size + 1 < w2.heap.size ∧ w2.heap.size < w5.heap.size ∧ w5.heap.size < w6.heap.size ∧ w6.heap.size + 1 < w7.heap.size from by
      have z1 := Z1.out
      have z2 := Z2.out
      have z3 := Z3.out
      have z5 := Z5.out
      have za := ZA.out
      have := hbn.lt
      omega)
    clear hbr hbn hb7 LM R6 C6 n0 Z1 Z2 Z3 Z5 ZA
    go_wp2_with fail
    refine (wpIn_wide (n := 4)).1 ?_
    refine' wpIn_rangeFunc_free5 (α := R3 × List R3 × Nat) rfl (by omega) (gf := 33) (lb := #[.pointer (some ⟨w6.heap.size + 1, 0, none⟩), .pointer (some ⟨w6.heap.size, 0, none⟩)]) rfl trivial (enters_of Try.func33 (by kernel_rfl) rfl)
      (encs := fun x => #[.int .i64 x.1.1]) (fun _ => rfl)
      (fun x W => Told w (w1.heap.size + 1) w1.heap.size w2.heap.size w5.heap.size w7.heap.size now stop x.1 x.2.1 x.2.2 W)
      (fun x W W' => Only (Tu w2.heap.size w5.heap.size w7.heap.size) W W' ∧ ∃ kc, Cj w w2.heap.size w5.heap.size w7.heap.size now stop (dropL x.2.1 x.1.1) kc W')
      (fun x W c W' => Only (Tu w2.heap.size w5.heap.size w7.heap.size) W W' ∧ (∃ id, c = .exit id ∧ id = 2) ∧ End_ w (w1.heap.size + 1) w1.heap.size w2.heap.size w5.heap.size w7.heap.size now stop W')
      (fun c W' => (∃ id, c = .exit id ∧ id = 2) ∧ End_ w (w1.heap.size + 1) w1.heap.size w2.heap.size w5.heap.size w7.heap.size now stop W')
      (fun W' => End_ w (w1.heap.size + 1) w1.heap.size w2.heap.size w5.heap.size w7.heap.size now stop W')
      _
      ?iter ?assign ?body ?done ?stop
    case iter =>
      intro W1 Bk Bx0 hb1 hz1 hbk hlp hBk hBx hYY
      have ord := ORD.out
      refine (lapsed_it (4 - 1) (w7.heap.size + 1) (w6.heap.size + 1) w6.heap.size (w1.heap.size + 1) w1.heap.size now hnow W1 L cn (HBN.out.below hb1 HBN.out.lt) (HBR.out.below hb1 HBR.out.lt)
        (fun L W => Bk W ∧ ∃ kc, Cj w w2.heap.size w5.heap.size w7.heap.size now stop L kc W)
        (fun W => ∃ c', Bx0 c' W ∧ (∃ id, c' = .exit id ∧ id = 2) ∧ End_ w (w1.heap.size + 1) w1.heap.size w2.heap.size w5.heap.size w7.heap.size now stop W)
        (Tu w2.heap.size w5.heap.size w7.heap.size) ?_ ?_ (R7.out.below hb1) (by omega) (by omega) SD.out WK.out ?_ ?_ ?_ ?_).mono ?_
      · intro j hj
        unfold Tu at hj
        omega
      · have cj := C7.out.below hb1
        exact ⟨hbk, 0, ⟨cj.bel, cj.nb, cj.sb, cj.rt, cj.xb, cj.kb, cj.gd, cj.ll, cj.kl, by omega⟩⟩
      · rintro L W W' ⟨hbk, kc, cj⟩ his
        exact ⟨hBk _ _ hbk (Kept.of_only his.on (by have := cj.big; omega) (by omega) (by omega)), kc, cj.is his (by omega)⟩
      · rintro L W W' m c ⟨hbk, kc, cj⟩ hra hmu
        exact ⟨hBk _ _ hbk (Kept.of_only hmu (by have := cj.big; omega) (by omega) (by omega)), kc, cj.mut hra hmu (by omega)⟩
      · rintro W W' ⟨c', h1, h2, h3⟩ his
        have hbig : w7.heap.size + 2 ≤ W.heap.size := by
          obtain ⟨_, _, _, cj, _⟩ := h3
          exact cj.big
        exact ⟨c', hBx _ _ _ h1 (Kept.of_only his.on (by omega) (by omega) (by omega)), h2, h3.is his (by omega) (by omega) (by omega)⟩
      · rintro L i hi W cn hdue hn40 hsd hwk ⟨hbk, kc, cj⟩ hra hcl
        refine yield_deep ((hYY (L[i]'hi.lt, L, i) W hbk ⟨hi, rfl, hdue, hsd, hwk, kc, cn, cj, hra, hcl⟩).mono ?_)
        rintro e W3 (⟨rfl, g1, g2, g3⟩ | ⟨rfl, c', g1, g2, g3⟩)
        · exact .inl ⟨rfl, ⟨g1, g3⟩, g2⟩
        · exact .inr ⟨rfl, ⟨c', g1, g3⟩, g2⟩
      · rintro e W' ⟨g1, (⟨L', cn', ⟨hbk', kc', cj'⟩, ra', cl', sd', wk', hf⟩ | ⟨c', g2, g3⟩)⟩
        · refine ⟨g1, .inl ⟨hbk', L', cn', kc', cj', ra', cl', sd', wk', .inr (fun i hi => stage_not ?_)⟩⟩
          rcases hf with hf | hf
          · have := (cj'.gd _ (List.getElem_mem hi.lt)).2.1
            omega
          · exact hf i hi
        · exact ⟨g1, .inr ⟨c', g2, g3⟩⟩
    case assign =>
      intro x W K hK
      simp only [List.zip_toArray, List.zip_cons_cons, List.zip_nil_right, List.foldl_toArray, List.foldl_cons, List.foldl_nil, List.setIfInBounds_toArray, List.set_cons_succ, List.set_cons_zero]
      gi_wp2
      exact hK
    case body =>
      rintro ⟨d, L, i⟩ Wb Wc ⟨hi, hd, hdue, hsd, hwk, kc, cn, cj0, ra0, hcl⟩ hlb hO hlc hlt
      dsimp only at hi hd hdue hsd hwk cj0 ra0 ⊢
      have ord := ORD.out
      have hIl : Is w7.heap.size Wb Wc := Is.loop hO hlb (Nat.le_refl _)
      have cj := cj0.is hIl (by omega)
      have ra := RAt.is ra0 hIl (by omega) (by omega)
      obtain ⟨Ax, cx, hx, ho⟩ := cj.xb
      obtain ⟨bb, off, rfl, -⟩ := lay3 (own_lay ho) hi.lt
      obtain ⟨d0, d1, d2⟩ := d
      dsimp only at hdue
      have hgd := (cj.gd _ (List.getElem_mem hi.lt)).2
      rw [← hd] at hgd
      dsimp only at hgd
      have DL := Lib.hid (drop_lt hi.lt)
      rw [← hd] at DL
      have GDd := Lib.hid (cj.gd.drop d0)
      have hll := cj.ll
      have RF := Lib.hid (rfirst_any (some ⟨bb, off, none⟩) cx L Wc (own_lay ho) (by omega))
      have O0 := Lib.hid (hO.mono (S' := Tu w2.heap.size w5.heap.size w7.heap.size) (fun i _ e => .inr (.inr e)))
      have CJ := Lib.hid cj
      have RA := Lib.hid ra
      have HX := Lib.hid hx
      have HO := Lib.hid ho
      have HI := Lib.hid hi
      have HL := Lib.hid hlc
      have SDd := Lib.hid (hsd.drop d0)
      have WKd := Lib.hid (show Wk (dropL L d0) from fun d hd => hwk d (drop_mem hd))
      have STG := Lib.hid (stage_late hdue)
      have ROW := Lib.hid (fun ws (h : Lay E3 ws (some ⟨bb, off, none⟩) L) => lay3_at h hi.lt hd.symm)
      dsimp only at ROW DL
      have x0 := hx.cell 0
      have hil : i < L.length := hi.lt
      clear cj0 ra0 cj ra hx ho hi hd hdue hsd hwk hIl hlb hO hlc
      gi_wp2
      refine ⟨trivial, ((still.round _).calls RF.out).mono ?_⟩
      rintro e w8 ⟨v, rfl, ⟨r, rfl, hfr⟩, hb8⟩
      obtain rfl : r = (i : Int) := by
        rcases hfr with ⟨e, _⟩ | ⟨i', rfl, hi'⟩
        · subst e; exact absurd hil (by simp)
        · rw [hi'.uniq HI.out]
      have hd9 : Below Wc.heap.size Wc w8.drew := hb8.drew
      have C9 := Lib.hid (CJ.out.below hd9)
      have X9 := Lib.hid (show Blk w8.drew w2.heap.size _ _ from HX.out.below hd9 HX.out.lt)
      have O9 := Lib.hid (rk.Own.below HO.out hd9)
      have B9 := Lib.hid hd9
      have t1 : decide ((i : Int) < 0) = false := decide_eq_false (by omega)
      have t2 : decide (i < L.length) = true := decide_eq_true hil
      have t3 : ((L.length : Int) ≤ (i : Int)) = False := by simp; omega
      have t4 : (i < L.length) = True := eq_true hil
      have t5 : (d0 != d0) = false := by simp
      clear hfr hb8 hd9 RF x0
      gi_wp2
      refine still.region_held_in (S := fun ws => ws.cell? ⟨w2.heap.size, 0, none⟩ = some (.slice (some ⟨bb, off, none⟩) L.length cx) ∧ ws.cell? ⟨bb, off + i * 3, none⟩ = some (.int .i64 d0) ∧ ws.cell? ⟨bb, off + i * 3 + 2, none⟩ = some (.int .i64 d2) ∧ ws.cell? ⟨w.heap.size, 0, none⟩ = some (.int .i64 now)) (still.rowy_round (w7.heap.size + 1)) (by kernel_rfl) (by kernel_rfl) (fun _ _ h => h) ⟨X9.out.cell 0, (ROW.out _ (own_lay O9.out)).1, (ROW.out _ (own_lay O9.out)).2.2, C9.out.nb.cell 0⟩ (fun hHeld => ?_)
      generalize w8.drew = w9 at *
      refine wpAnyH_take (i := 0) (v := ?_) rfl (by kernel_rfl) (by kernel_rfl) (by kernel_rfl) (fun _ _ _ h => h) (Or.inl ⟨by rfl, ?_⟩) (by assumption) ?_
      rotate_left
      · (intro w hSw; (try dsimp only at hSw); first | (go_simp; done) | (go_simp; with_reducible rfl))
      simp only [Act.put, List.getElem_toArray, List.getElem_cons_zero, List.getElem_cons_succ, List.setIfInBounds_toArray, List.set_cons_zero, List.set_cons_succ]
      refine wpAnyH_take (i := 1) (v := ?_) rfl (by kernel_rfl) (by kernel_rfl) (by kernel_rfl) (fun _ _ _ h => h) (Or.inl ⟨by rfl, ?_⟩) (by assumption) ?_
      rotate_left
      · (intro w hSw; (try dsimp only at hSw); first | (go_simp; done) | (go_simp; with_reducible rfl))
      simp only [Act.put, List.getElem_toArray, List.getElem_cons_zero, List.getElem_cons_succ, List.setIfInBounds_toArray, List.set_cons_zero, List.set_cons_succ]
      refine wpAnyH_take (i := 2) (v := ?_) rfl (by kernel_rfl) (by kernel_rfl) (by kernel_rfl) (fun _ _ _ h => h) (Or.inl ⟨by rfl, ?_⟩) (by assumption) ?_
      rotate_left
      · (intro w hSw; (try dsimp only at hSw); first | (go_simp; done) | (go_simp; with_reducible rfl))
      simp only [Act.put, List.getElem_toArray, List.getElem_cons_zero, List.getElem_cons_succ, List.setIfInBounds_toArray, List.set_cons_zero, List.set_cons_succ]
      refine wpAnyH_take (i := 3) (v := ?_) rfl (by kernel_rfl) (by kernel_rfl) (by kernel_rfl) (fun _ _ _ h => h) (Or.inl ⟨by rfl, ?_⟩) (by assumption) ?_
      rotate_left
      · (intro w hSw; (try dsimp only at hSw); first | (go_simp; done) | (go_simp; with_reducible rfl))
      simp only [Act.put, List.getElem_toArray, List.getElem_cons_zero, List.getElem_cons_succ, List.setIfInBounds_toArray, List.set_cons_zero, List.set_cons_succ]
      refine wpAnyH_take (i := 4) (v := ?_) rfl (by kernel_rfl) (by kernel_rfl) (by kernel_rfl) (fun _ _ _ h => h) (Or.inl ⟨by rfl, ?_⟩) (by assumption) ?_
      rotate_left
      · (intro w hSw; (try dsimp only at hSw); first | (go_simp; done) | (go_simp; with_reducible rfl))
      simp only [Act.put, List.getElem_toArray, List.getElem_cons_zero, List.getElem_cons_succ, List.setIfInBounds_toArray, List.set_cons_zero, List.set_cons_succ]
      refine wpAnyH_take (i := 5) (v := ?_) rfl (by kernel_rfl) (by kernel_rfl) (by kernel_rfl) (fun _ _ _ h => h) (Or.inl ⟨by rfl, ?_⟩) (by assumption) ?_
      rotate_left
      · (intro w hSw; (try dsimp only at hSw); first | (go_simp; done) | (go_simp; with_reducible rfl))
      simp only [Act.put, List.getElem_toArray, List.getElem_cons_zero, List.getElem_cons_succ, List.setIfInBounds_toArray, List.set_cons_zero, List.set_cons_succ]
      refine wpAnyH_take (i := 6) (v := ?_) rfl (by kernel_rfl) (by kernel_rfl) (by kernel_rfl) (fun _ _ _ h => h) (Or.inl ⟨by rfl, ?_⟩) (by assumption) ?_
      rotate_left
      · (intro w hSw; (try dsimp only at hSw); first | (go_simp; done) | (go_simp; with_reducible rfl))
      simp only [Act.put, List.getElem_toArray, List.getElem_cons_zero, List.getElem_cons_succ, List.setIfInBounds_toArray, List.set_cons_zero, List.set_cons_succ]
      refine wpAnyH_take (i := 7) (v := ?_) rfl (by kernel_rfl) (by kernel_rfl) (by kernel_rfl) (fun _ _ _ h => h) (Or.inl ⟨by rfl, ?_⟩) (by assumption) ?_
      rotate_left
      · (intro w hSw; (try dsimp only at hSw); first | (go_simp; done) | (go_simp; with_reducible rfl))
      simp only [Act.put, List.getElem_toArray, List.getElem_cons_zero, List.getElem_cons_succ, List.setIfInBounds_toArray, List.set_cons_zero, List.set_cons_succ]
      refine wpAnyH_take (i := 8) (v := ?_) rfl (by kernel_rfl) (by kernel_rfl) (by kernel_rfl) (fun _ _ _ h => h) (Or.inl ⟨by rfl, ?_⟩) (by assumption) ?_
      rotate_left
      · (intro w hSw; (try dsimp only at hSw); first | (go_simp; done) | (go_simp; with_reducible rfl))
      simp only [Act.put, List.getElem_toArray, List.getElem_cons_zero, List.getElem_cons_succ, List.setIfInBounds_toArray, List.set_cons_zero, List.set_cons_succ]
      refine wpAnyH_take (i := 9) (v := ?_) rfl (by kernel_rfl) (by kernel_rfl) (by kernel_rfl) (fun _ _ _ h => h) (Or.inl ⟨by rfl, ?_⟩) (by assumption) ?_
      rotate_left
      · (intro w hSw; (try dsimp only at hSw); first | (go_simp; done) | (go_simp; with_reducible rfl))
      simp only [Act.put, List.getElem_toArray, List.getElem_cons_zero, List.getElem_cons_succ, List.setIfInBounds_toArray, List.set_cons_zero, List.set_cons_succ]
      refine wpAnyH_take (i := 10) (v := ?_) rfl (by kernel_rfl) (by kernel_rfl) (by kernel_rfl) (fun _ _ _ h => h) (Or.inl ⟨by rfl, ?_⟩) (by assumption) ?_
      rotate_left
      · (intro w hSw; (try dsimp only at hSw); first | (go_simp; done) | (go_simp; with_reducible rfl))
      simp only [Act.put, List.getElem_toArray, List.getElem_cons_zero, List.getElem_cons_succ, List.setIfInBounds_toArray, List.set_cons_zero, List.set_cons_succ]
      refine wpAnyH_take (i := 11) (v := ?_) rfl (by kernel_rfl) (by kernel_rfl) (by kernel_rfl) (fun _ _ _ h => h) (Or.inl ⟨by rfl, ?_⟩) (by assumption) ?_
      rotate_left
      · (intro w hSw; (try dsimp only at hSw); first | (go_simp; done) | (go_simp; with_reducible rfl))
      simp only [Act.put, List.getElem_toArray, List.getElem_cons_zero, List.getElem_cons_succ, List.setIfInBounds_toArray, List.set_cons_zero, List.set_cons_succ]
      refine wpAnyH_take (i := 12) (v := ?_) rfl (by kernel_rfl) (by kernel_rfl) (by kernel_rfl) (fun _ _ _ h => h) (Or.inl ⟨by rfl, ?_⟩) (by assumption) ?_
      rotate_left
      · (intro w hSw; (try dsimp only at hSw); first | (go_simp; done) | (go_simp; with_reducible rfl))
      simp only [Act.put, List.getElem_toArray, List.getElem_cons_zero, List.getElem_cons_succ, List.setIfInBounds_toArray, List.set_cons_zero, List.set_cons_succ]
      refine wpAnyH_take (i := 13) (v := ?_) rfl (by kernel_rfl) (by kernel_rfl) (by kernel_rfl) (fun _ _ _ h => h) (Or.inl ⟨by rfl, ?_⟩) (by assumption) ?_
      rotate_left
      · (intro w hSw; (try dsimp only at hSw); first | (go_simp; done) | (go_simp; with_reducible rfl))
      simp only [Act.put, List.getElem_toArray, List.getElem_cons_zero, List.getElem_cons_succ, List.setIfInBounds_toArray, List.set_cons_zero, List.set_cons_succ]
      refine wpAnyH_take (i := 14) (v := ?_) rfl (by kernel_rfl) (by kernel_rfl) (by kernel_rfl) (fun _ _ _ h => h) (Or.inl ⟨by rfl, ?_⟩) (by assumption) ?_
      rotate_left
      · (intro w hSw; (try dsimp only at hSw); first | (go_simp; done) | (go_simp; with_reducible rfl))
      simp only [Act.put, List.getElem_toArray, List.getElem_cons_zero, List.getElem_cons_succ, List.setIfInBounds_toArray, List.set_cons_zero, List.set_cons_succ]
      refine wpAnyH_take (i := 15) (v := ?_) rfl (by kernel_rfl) (by kernel_rfl) (by kernel_rfl) (fun _ _ _ h => h) (Or.inl ⟨by rfl, ?_⟩) (by assumption) ?_
      rotate_left
      · (intro w hSw; (try dsimp only at hSw); first | (go_simp; done) | (go_simp; with_reducible rfl))
      simp only [Act.put, List.getElem_toArray, List.getElem_cons_zero, List.getElem_cons_succ, List.setIfInBounds_toArray, List.set_cons_zero, List.set_cons_succ]
      refine wpAnyH_take (i := 16) (v := ?_) rfl (by kernel_rfl) (by kernel_rfl) (by kernel_rfl) (fun _ _ _ h => h) (Or.inl ⟨by rfl, ?_⟩) (by assumption) ?_
      rotate_left
      · (intro w hSw; (try dsimp only at hSw); first | (go_simp; done) | (go_simp; with_reducible rfl))
      simp only [Act.put, List.getElem_toArray, List.getElem_cons_zero, List.getElem_cons_succ, List.setIfInBounds_toArray, List.set_cons_zero, List.set_cons_succ]
      refine wpAnyH_take (i := 17) (v := ?_) rfl (by kernel_rfl) (by kernel_rfl) (by kernel_rfl) (fun _ _ _ h => h) (Or.inl ⟨by rfl, ?_⟩) (by assumption) ?_
      rotate_left
      · (intro w hSw; (try dsimp only at hSw); first | (go_simp; done) | (go_simp; with_reducible rfl))
      simp only [Act.put, List.getElem_toArray, List.getElem_cons_zero, List.getElem_cons_succ, List.setIfInBounds_toArray, List.set_cons_zero, List.set_cons_succ]
      refine wpAnyH_ready (rs := [18]) (by kernel_rfl) (by simp) ?_
      refine AllReadyH.cons rfl (fun K hK => ?_) AllReadyH.nil
      go_simp
      refine (rstage_any d2 now w9 hgd.1 hgd.2).mono ?_
      rintro e w10 ⟨rfl, rfl⟩
      rw [STG.out]
      refine hK.out _ _ ⟨X9.out.cell 0, (ROW.out _ (own_lay O9.out)).1, (ROW.out _ (own_lay O9.out)).2.2, C9.out.nb.cell 0⟩ (fun hH2 => ?_)
      clear hK K hHeld
      refine wpAnyH_take (i := 19) (v := ?_) rfl (by kernel_rfl) (by kernel_rfl) (by kernel_rfl) (fun _ _ _ h => h) (Or.inl ⟨by rfl, ?_⟩) (by assumption) ?_
      rotate_left
      · (intro w hSw; (try dsimp only at hSw); first | (go_simp; done) | (go_simp; with_reducible rfl))
      simp only [Act.put, List.getElem_toArray, List.getElem_cons_zero, List.getElem_cons_succ, List.setIfInBounds_toArray, List.set_cons_zero, List.set_cons_succ]
      refine wpAnyH_take (i := 20) (v := ?_) rfl (by kernel_rfl) (by kernel_rfl) (by kernel_rfl) (fun _ _ _ h => h) (Or.inl ⟨by rfl, ?_⟩) (by assumption) ?_
      rotate_left
      · (intro w hSw; (try dsimp only at hSw); first | (go_simp; done) | (go_simp; with_reducible rfl))
      simp only [Act.put, List.getElem_toArray, List.getElem_cons_zero, List.getElem_cons_succ, List.setIfInBounds_toArray, List.set_cons_zero, List.set_cons_succ]
      refine wpAnyH_done (by kernel_rfl) ?_ _
      clear hH2 t1 t2 t3 t4 t5
      have RD := Lib.hid (rdrop_any (some ⟨bb, off, none⟩) cx L d0 w.heap.size w9 (own_lay O9.out) (by omega) C9.out.bel.size)
      have x0 := X9.out.cell 0
      gi_wp2
      refine ⟨trivial, ((still.round _).calls RD.out).mono ?_⟩
      rintro e w10 ⟨v, rfl, ho10, hb10⟩
      obtain ⟨A', c', rfl, -⟩ := ho10.open_
      have x10 := X9.out.below hb10 X9.out.lt
      have c10 := C9.out.below hb10
      have c12 := c10.step ho10 DL.out GDd.out (by omega)
      have o12 := (((Only.refl (fun j => j = w2.heap.size ∨ j = w5.heap.size) Wc).below B9.out (fun i h1 h2 => by omega)).below hb10 (fun i h1 h2 => by have := B9.out.size; omega))
      have o12' := (o12.setCell (p := ⟨w2.heap.size, 0, none⟩) (.inl (.inl rfl)) (.slice A' (dropL L d0).length c')).setCell (p := ⟨w5.heap.size, 0, none⟩) (.inl (.inr rfl)) (.int .i64 (kc + 1))
      have hne : w5.heap.size ≠ w2.heap.size := by omega
      have k11 := (c10.kb.far (p := ⟨w2.heap.size, 0, none⟩) hne (.slice A' (dropL L d0).length c')).cell 0
      have k11f := (c10.kb.far (p := ⟨w2.heap.size, 0, none⟩) hne (.slice A' (dropL L d0).length c')).free 0
      have y10 := x10.cell 0
      have y10f := x10.free 0
      have hkl := c12.kl
      obtain ⟨nn, hnn⟩ : ∃ nn, (dropL L d0).length = nn := ⟨_, rfl⟩
      rw [hnn] at c12 o12' k11 k11f hkl ⊢
      obtain ⟨w11, hw11⟩ : ∃ w11, w10.setCell ⟨w2.heap.size, 0, none⟩ (.slice A' nn c') = w11 := ⟨_, rfl⟩
      rw [hw11] at c12 o12' k11 k11f
      obtain ⟨w12, hw12⟩ : ∃ w12, w11.setCell ⟨w5.heap.size, 0, none⟩ (.int .i64 (kc + 1)) = w12 := ⟨_, rfl⟩
      rw [hw12] at c12 o12'
      have C12 := Lib.hid c12
      have K12 := Lib.hid (show Kept w7.heap.size Wc w12 from Kept.of_only o12' hlt (by omega) (by omega))
      have R12 := Lib.hid (show RAt w12 _ _ _ _ from ⟨RA.out.blk.only o12' (by omega), MapIs.only RA.out.map o12' (by omega)⟩)
      have OO := Lib.hid (O0.out.trans (o12'.mono (S' := Tu w2.heap.size w5.heap.size w7.heap.size) (fun i _ e => by unfold Tu; omega)) (fun _ _ h => h))
      have L12 := Lib.hid (show ∃ r, w12.heap[w7.heap.size + 1]? = some (.loop r) from by
        obtain ⟨r, hr⟩ := HL.out
        exact ⟨r, K12.out.2.trans hr⟩)
      have z12 := c12.kb.cell 0
      have s12 := c12.sb.cell 0
      have wk : IntKind.i64.wrap (kc + 1) = kc + 1 := IntWalk.i64_in _ (by omega)
      clear c12 o12 o12' c10 x10 ho10 hb10 RD x0 hkl
      by_cases hks : kc + 1 = stop
      · have tks : (kc + 1 == stop) = true := by simpa using hks
        have HKS := Lib.hid hks
        clear hks
        gi_wp2_with (first | rw [hw11] | rw [hw12])
        refine ⟨K12.out, fun W2 h2 => ?_⟩
        have h3 : Is w7.heap.size w12 W2 := Is.loop h2 L12.out (Nat.le_refl _)
        exact ⟨OO.out.trans (h2.mono (S' := Tu w2.heap.size w5.heap.size w7.heap.size) (fun i _ e => .inr (.inr e))) (fun _ _ h => h), ⟨2, rfl, rfl⟩, _, cn, kc + 1, C12.out.is h3 (by omega), RAt.is R12.out h3 (by omega) (by omega), hcl, SDd.out, WKd.out, .inl HKS.out⟩
      · have tks : (kc + 1 == stop) = false := by simpa using hks
        clear hks
        gi_wp2_with (first | rw [hw11] | rw [hw12])
        refine ⟨K12.out, fun W2 h2 => ?_⟩
        have h3 : Is w7.heap.size w12 W2 := Is.loop h2 L12.out (Nat.le_refl _)
        exact ⟨OO.out.trans (h2.mono (S' := Tu w2.heap.size w5.heap.size w7.heap.size) (fun i _ e => .inr (.inr e))) (fun _ _ h => h), kc + 1, C12.out.is h3 (by omega)⟩
    case done =>
      rintro W0 W hend hl hO hK
      obtain ⟨L, cn, kc, cj0, ra0, hcl, hsd, hwk, hco⟩ := hend
      have ord := ORD.out
      have hIl : Is w7.heap.size W0 W := Is.loop hO hl (Nat.le_refl _)
      have CJ := Lib.hid (cj0.is hIl (by omega))
      have RA := Lib.hid (RAt.is ra0 hIl (by omega) (by omega))
      have KK := Lib.hid hK
      have CO := Lib.hid hco
      have SD := Lib.hid hsd
      have WK := Lib.hid hwk
      clear cj0 ra0 hco hsd hwk hIl hl hO hK
      obtain ⟨Ax, cx, hx, ho⟩ := CJ.out.xb
      have RF := Lib.hid (rfirst_any Ax cx L W (own_lay ho) (by have := CJ.out.ll; omega))
      have x0 := hx.cell 0
      have HX := Lib.hid hx
      have HO := Lib.hid ho
      clear hx ho
      go_wp2_with fail
      refine RF.out.mono ?_
      rintro e w8 ⟨v, rfl, ⟨r, rfl, hfr⟩, hb8⟩
      have CJ8 := Lib.hid (CJ.out.below hb8)
      have RA8 := Lib.hid (RA.out.below hb8)
      have K8 := Lib.hid ((hb8.block w7.heap.size (by have := CJ.out.big; omega)).trans KK.out)
      have XO := Lib.hid (show Blk w8 w2.heap.size 26 #[.slice Ax L.length cx] ∧ rk.Own E3 w8 w.heap.size 42 (.slice Ax L.length cx) L from ⟨Cs.below hb8 _ _ _ HX.out (by decide) (by decide), own_cs HO.out (Cs.below hb8)⟩)
      clear hb8 RF CJ RA KK x0 HX HO
      go_upto_region 20 with fail
      go_cut [95] from 12 to 101 (fun s wx => s = .bool false ∧ ∃ nn, wx = w8.drewN nn)
      case first =>
        have n0 := CJ8.out.nb.cell 0
        have s0 := CJ8.out.sb.cell 0
        have k0 := CJ8.out.kb.cell 0
        have x0 := XO.out.1.cell 0
        by_cases hks : kc = stop
        · have q1 : (kc != stop) = false := by simpa using hks
          clear hks
          go_quiet (fail)
          go_wp2_with fail
          go_meet
          case rel => exact ⟨rfl, _, rfl⟩
        · have q1 : (kc != stop) = true := by simpa using hks
          rcases hfr with ⟨hnil, rfl⟩ | ⟨i, rfl, hi⟩
          · have q2 : decide ((-1 : Int) ≥ 0) = false := by decide
            clear hks
            go_quiet (fail)
            go_wp2_with fail
            go_meet
            case rel => exact ⟨rfl, _, rfl⟩
          · obtain ⟨bb, off, rfl, -, -, e2⟩ := lay3 (own_lay XO.out.2) hi.lt
            have hst := CO.out.resolve_left hks i hi
            have hgd := (CJ8.out.gd _ (List.getElem_mem hi.lt)).2
            have hil : i < L.length := hi.lt
            have hil2 : (i < L.length) = True := eq_true hi.lt
            have tli : decide (i < L.length) = true := decide_eq_true hi.lt
            have tlik : ((L.length : Int) ≤ (i : Int)) = False := by simp; omega
            have q2 : decide ((i : Int) ≥ 0) = true := decide_eq_true (by omega)
            have q2' : decide (0 ≤ (i : Int)) = true := decide_eq_true (by omega)
            generalize (L[i]'hi.lt) = d at *
            obtain ⟨d0, d1, d2⟩ := d
            dsimp only at e2 hst hgd
            have RS := Lib.hid (fun (ws : World) => show Calls Try.prog 16 #[.int .i64 d2, .int .i64 now] ws (fun e w' => e = .returned (.int .i64 (stageOf d2 now)) ∧ w' = ws) from (rstage_any d2 now ws hgd.1 hgd.2).mono (fun _ _ h => ⟨h.1, h.2.symm⟩))
            generalize stageOf d2 now = st at *
            have q4 : (st == 5) = false := by simpa using hst
            clear hks
            go_quiet (first | (go_at_call 16; exact Calls.quiet_of_same (RS.out _)))
            go_wp2_with fail
            go_meet
            case rel => exact ⟨rfl, _, rfl⟩
      case rest =>
      obtain ⟨rfl, nn, rfl⟩ := hcut
      have hdn : Below w8.heap.size w8 (w8.drewN nn) := base.below_drewN (Below.refl _ _) nn
      have CX := Lib.hid (CJ8.out.below hdn)
      have RX := Lib.hid (RA8.out.below hdn)
      have XX := Lib.hid (show Blk (w8.drewN nn) w2.heap.size _ _ ∧ _ from ⟨XO.out.1.below hdn XO.out.1.lt, rk.Own.below XO.out.2 hdn⟩)
      have KX := Lib.hid (show (w8.drewN nn).heap[w7.heap.size]? = _ from K8.out)
      clear hdn CJ8 RA8 K8 XO hfr
      generalize w8.drewN nn = W5 at *
      have x0 := XX.out.1.cell 0
      have SA := Lib.hid (same_any (c := cx) RX.out (own_lay XX.out.2) SD.out WK.out CX.out.gd hcl)
      go_wp2_with fail
      refine SA.out.mono ?_
      rintro e w9 ⟨rfl, b9⟩
      have C9 := Lib.hid (CX.out.below b9)
      have K9 := Lib.hid ((b9.block w7.heap.size (by have := CX.out.big; omega)).trans KX.out)
      clear b9 SA x0
      go_wp2_with fail
      refine (AW.out _).mono ?_
      rintro e w10 ⟨rfl, b10⟩
      have C10 := Lib.hid (C9.out.below b10)
      have K10 := Lib.hid ((b10.block w7.heap.size (by have := C9.out.big; omega)).trans K9.out)
      have r0 := C10.out.rt.cell 0
      have r1 := C10.out.rt.free 0
      have CR := Lib.hid ((C10.out.rt.put 0 (.bool true)).cell 0)
      have LL := Lib.hid (C10.out.bel.setCell (p := ⟨w.heap.size + 1 + 1, 0, none⟩) (by show w.heap.size ≤ w.heap.size + 1 + 1; omega) (.bool true))
      have KD := Lib.hid ((Below.heap_setCell w10 ⟨w.heap.size + 1 + 1, 0, none⟩ (.bool true) w7.heap.size (by show w7.heap.size ≠ w.heap.size + 1 + 1; omega)).trans K10.out)
      clear b10
      go_wp2_with fail
      generalize w10.setCell ⟨w.heap.size + 1 + 1, 0, none⟩ (.bool true) = w11 at *
      refine ⟨by simp, .inl ⟨_, _, rfl, run_takeDeferred KD.out, ?_⟩⟩
      have hc9 := cell_kept CR.out (grownBy_putObj' _ w7.heap.size (.deferred none)) (fun r e => by cases e; exact ⟨_, KD.out, rfl⟩)
      refine ⟨.bool true, ?_, rfl, LL.out.trans (belowK_b (w := w) (Nat.le_refl _) _ w7.heap.size _ _ (by omega) KD.out rfl rfl)⟩
      generalize w11.putObj w7.heap.size (.deferred none) = w12 at hc9 ⊢
      simp [results, Try.f5, go_sem, hc9]
    case stop =>
      rintro c' W0 W ⟨⟨id, rfl, hid⟩, hend⟩ hl hO hK
      subst hid
      refine wpIn_wide.2 ?_
      obtain ⟨L, cn, kc, cj0, ra0, hcl, hsd, hwk, hco⟩ := hend
      have ord := ORD.out
      have hIl : Is w7.heap.size W0 W := Is.loop hO hl (Nat.le_refl _)
      have CJ := Lib.hid (cj0.is hIl (by omega))
      have RA := Lib.hid (RAt.is ra0 hIl (by omega) (by omega))
      have KK := Lib.hid hK
      have CO := Lib.hid hco
      have SD := Lib.hid hsd
      have WK := Lib.hid hwk
      clear cj0 ra0 hco hsd hwk hIl hl hO hK
      obtain ⟨Ax, cx, hx, ho⟩ := CJ.out.xb
      have RF := Lib.hid (rfirst_any Ax cx L W (own_lay ho) (by have := CJ.out.ll; omega))
      have x0 := hx.cell 0
      have HX := Lib.hid hx
      have HO := Lib.hid ho
      clear hx ho
      go_wp2_with fail
      refine RF.out.mono ?_
      rintro e w8 ⟨v, rfl, ⟨r, rfl, hfr⟩, hb8⟩
      have CJ8 := Lib.hid (CJ.out.below hb8)
      have RA8 := Lib.hid (RA.out.below hb8)
      have K8 := Lib.hid ((hb8.block w7.heap.size (by have := CJ.out.big; omega)).trans KK.out)
      have XO := Lib.hid (show Blk w8 w2.heap.size 26 #[.slice Ax L.length cx] ∧ rk.Own E3 w8 w.heap.size 42 (.slice Ax L.length cx) L from ⟨Cs.below hb8 _ _ _ HX.out (by decide) (by decide), own_cs HO.out (Cs.below hb8)⟩)
      clear hb8 RF CJ RA KK x0 HX HO
      go_upto_region 20 with fail
      go_cut [95] from 12 to 101 (fun s wx => s = .bool false ∧ ∃ nn, wx = w8.drewN nn)
      case first =>
        have n0 := CJ8.out.nb.cell 0
        have s0 := CJ8.out.sb.cell 0
        have k0 := CJ8.out.kb.cell 0
        have x0 := XO.out.1.cell 0
        by_cases hks : kc = stop
        · have q1 : (kc != stop) = false := by simpa using hks
          clear hks
          go_quiet (fail)
          go_wp2_with fail
          go_meet
          case rel => exact ⟨rfl, _, rfl⟩
        · have q1 : (kc != stop) = true := by simpa using hks
          rcases hfr with ⟨hnil, rfl⟩ | ⟨i, rfl, hi⟩
          · have q2 : decide ((-1 : Int) ≥ 0) = false := by decide
            clear hks
            go_quiet (fail)
            go_wp2_with fail
            go_meet
            case rel => exact ⟨rfl, _, rfl⟩
          · obtain ⟨bb, off, rfl, -, -, e2⟩ := lay3 (own_lay XO.out.2) hi.lt
            have hst := CO.out.resolve_left hks i hi
            have hgd := (CJ8.out.gd _ (List.getElem_mem hi.lt)).2
            have hil : i < L.length := hi.lt
            have hil2 : (i < L.length) = True := eq_true hi.lt
            have tli : decide (i < L.length) = true := decide_eq_true hi.lt
            have tlik : ((L.length : Int) ≤ (i : Int)) = False := by simp; omega
            have q2 : decide ((i : Int) ≥ 0) = true := decide_eq_true (by omega)
            have q2' : decide (0 ≤ (i : Int)) = true := decide_eq_true (by omega)
            generalize (L[i]'hi.lt) = d at *
            obtain ⟨d0, d1, d2⟩ := d
            dsimp only at e2 hst hgd
            have RS := Lib.hid (fun (ws : World) => show Calls Try.prog 16 #[.int .i64 d2, .int .i64 now] ws (fun e w' => e = .returned (.int .i64 (stageOf d2 now)) ∧ w' = ws) from (rstage_any d2 now ws hgd.1 hgd.2).mono (fun _ _ h => ⟨h.1, h.2.symm⟩))
            generalize stageOf d2 now = st at *
            have q4 : (st == 5) = false := by simpa using hst
            clear hks
            go_quiet (first | (go_at_call 16; exact Calls.quiet_of_same (RS.out _)))
            go_wp2_with fail
            go_meet
            case rel => exact ⟨rfl, _, rfl⟩
      case rest =>
      obtain ⟨rfl, nn, rfl⟩ := hcut
      have hdn : Below w8.heap.size w8 (w8.drewN nn) := base.below_drewN (Below.refl _ _) nn
      have CX := Lib.hid (CJ8.out.below hdn)
      have RX := Lib.hid (RA8.out.below hdn)
      have XX := Lib.hid (show Blk (w8.drewN nn) w2.heap.size _ _ ∧ _ from ⟨XO.out.1.below hdn XO.out.1.lt, rk.Own.below XO.out.2 hdn⟩)
      have KX := Lib.hid (show (w8.drewN nn).heap[w7.heap.size]? = _ from K8.out)
      clear hdn CJ8 RA8 K8 XO hfr
      generalize w8.drewN nn = W5 at *
      have x0 := XX.out.1.cell 0
      have SA := Lib.hid (same_any (c := cx) RX.out (own_lay XX.out.2) SD.out WK.out CX.out.gd hcl)
      go_wp2_with fail
      refine SA.out.mono ?_
      rintro e w9 ⟨rfl, b9⟩
      have C9 := Lib.hid (CX.out.below b9)
      have K9 := Lib.hid ((b9.block w7.heap.size (by have := CX.out.big; omega)).trans KX.out)
      clear b9 SA x0
      go_wp2_with fail
      refine (AW.out _).mono ?_
      rintro e w10 ⟨rfl, b10⟩
      have C10 := Lib.hid (C9.out.below b10)
      have K10 := Lib.hid ((b10.block w7.heap.size (by have := C9.out.big; omega)).trans K9.out)
      have r0 := C10.out.rt.cell 0
      have r1 := C10.out.rt.free 0
      have CR := Lib.hid ((C10.out.rt.put 0 (.bool true)).cell 0)
      have LL := Lib.hid (C10.out.bel.setCell (p := ⟨w.heap.size + 1 + 1, 0, none⟩) (by show w.heap.size ≤ w.heap.size + 1 + 1; omega) (.bool true))
      have KD := Lib.hid ((Below.heap_setCell w10 ⟨w.heap.size + 1 + 1, 0, none⟩ (.bool true) w7.heap.size (by show w7.heap.size ≠ w.heap.size + 1 + 1; omega)).trans K10.out)
      clear b10
      go_wp2_with fail
      generalize w10.setCell ⟨w.heap.size + 1 + 1, 0, none⟩ (.bool true) = w11 at *
      refine ⟨by simp, .inl ⟨_, _, rfl, run_takeDeferred KD.out, ?_⟩⟩
      have hc9 := cell_kept CR.out (grownBy_putObj' _ w7.heap.size (.deferred none)) (fun r e => by cases e; exact ⟨_, KD.out, rfl⟩)
      refine ⟨.bool true, ?_, rfl, LL.out.trans (belowK_b (w := w) (Nat.le_refl _) _ w7.heap.size _ _ (by omega) KD.out rfl rfl)⟩
      generalize w11.putObj w7.heap.size (.deferred none) = w12 at hc9 ⊢
      simp [results, Try.f5, go_sem, hc9]
theorem walk (w : World) (A : Option Addr) (m c : Nat) (F : Nat → Nat → Int) (h1 : IntRows w A m 4 F) (hc : m ≤ c) (hm : c ≤ maxLen) (hw : ∀ i, i < m → ∀ j, j < 4 → -9223372036854775808 ≤ F i j ∧ F i j ≤ 9223372036854775807) (now : Int) (wn : (Lit.int .i64 now).wf = true) (stop : Int) (_ : (Lit.int .i64 stop).wf = true) :
    Calls Try.prog 5 #[.slice A m c, .int .i64 now, .int .i64 stop] w fun e w' => e = .returned (.bool true) ∧ Below w.heap.size w w' := by
  unfold maxLen at hm
  by_cases q : 80 < m
  · exact walk_no w A c m now stop q (by omega)
  · exact walk_yes w A m c F h1 (by omega) hw now stop (show -9223372036854775808 ≤ now ∧ now ≤ 9223372036854775807 by simpa [Lit.wf, IntKind.min, IntKind.max, IntKind.signed, IntKind.bits] using wn).2

set_option maxRecDepth 100000 in
theorem lifted (os : Os) (started : os.Started) (H : Type) (enc : TypeId × Value → H) :
    ReturnsInHanded {} Try.checked os 5 .any (Rows.rentLapsesSpec.pre6 enc Try.prog Try.f5 Rows.rentLapsesRow.domain false) (Rows.rentLapsesSpec.post enc Try.prog Try.f5 false true false false) := by
  refine returnsInHanded_of_change (C := Try.checked) base.own started (by kernel_rfl) Try.func5
    (ChangeSpec.witness6 (enc := enc) (C := Try.checked) false ⟨#[], #[.slice none 0 0, .int .i64 0, .int .i64 0], []⟩ 8 (by kernel_rfl) (by kernel_rfl) (by kernel_rfl) (by kernel_rfl)) ?_
  intro W bs args ds gs before hval0 hW _ _
  have hval : ∀ (j : Nat) t v, Try.f5.params[j]? = some t → args[j]? = some v → Value.okWide Try.prog W .any bs t v := hval0
  have hW' : DataW.Whole enc Try.prog Try.f5.params.toList Rows.rentLapsesSpec.vars false W args.toList ds gs before := hW
  obtain ⟨p, q, hA0, hV, rfl, _, _⟩ := hW
  have hA : DataW.TrodAll enc Try.prog W 0 (fun _ => true) true Try.f5.params.toList args.toList ds p := hA0
  rw [Try.params5] at hA hval
  obtain ⟨v0, vs0, d0, ds0, p0, q0, hargs, rfl, rfl, h0, r0⟩ := trodAll_cons hA
  obtain ⟨v1, vs1, d1, ds1, p1, q1, rfl, rfl, rfl, h1, r1⟩ := trodAll_cons r0
  obtain ⟨v2, vs2, d2, ds2, p2, q2, rfl, rfl, rfl, h2, r2⟩ := trodAll_cons r1
  obtain ⟨rfl, rfl, rfl⟩ := trodAll_nil r2
  obtain rfl : args = #[v0, v1, v2] := by cases args; simp_all
  obtain ⟨rfl, rfl⟩ := trodVars_none hV
  obtain ⟨A0, k0, c0, F0, rfl, b0, m0, n0, w0⟩ := base.open_introws 4 Try.underlying22 Try.underlying28 (by kernel_rfl) (by kernel_rfl) rfl (by omega) (by intro j f hj; rcases j with _ | _ | _ | _ | j <;> simp at hj <;> (subst hj; exact Try.underlying3)) (hval 0 22 v0 rfl rfl) h0
  obtain ⟨a1, rfl, rfl, rfl, w1⟩ := open_int Try.underlying3 (hval 1 3 v1 rfl rfl) h1
  obtain ⟨a2, rfl, rfl, rfl, w2⟩ := open_int Try.underlying3 (hval 2 3 v2 rfl rfl) h2
  clear hA0 hval0
  refine (walk W A0 k0 c0 F0 n0 b0 m0 w0 a1 w1 a2 w2).mono fun e W' ⟨he, hb⟩ => ?_
  subst he
  exact ⟨_, rfl, base.law_post base.laid (by kernel_rfl) rfl rfl Try.underlying4 hW' rfl rfl rfl hb⟩

theorem over : Rows.rentLapsesRow.holds Try.pinned (OpenSpec.ofChange Rows.rentLapsesSpec) :=
  OpenClaim.holds_of_wide 5 Try.f5 rfl rfl rfl rfl rfl rfl rfl ⟨rfl, rfl, rfl, rfl, rfl⟩ rfl rfl rfl rfl rfl (by kernel_rfl) Try.func5 (by kernel_rfl)
    (of_decide_eq_true (by kernel_rfl)) (by unfold Func.isWrapper; first | (rw [if_pos (by decide +kernel)]; kernel_rfl) | (rw [if_neg (by decide +kernel)]; exact ⟨rfl, rfl⟩))
    (fun os started H enc _ => lifted os started H enc)

theorem proved : Rows.RentLapsesSaid := over
#print axioms proved
end Go.Proofs.Ytmgfnhbhgmpchaa.rentLapses
