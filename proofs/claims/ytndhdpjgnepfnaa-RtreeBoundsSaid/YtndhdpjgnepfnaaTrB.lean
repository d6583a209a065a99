/-
  R-trees: a node's box.
-/
import Derived.Test.YtndhdpjgnepfnaaTrA
namespace Go.Proofs.Ytndhdpjgnepfnaa.tr
open Go.RowKit
open base (ret_bool ret_int made up Blk Only)
open rect
set_option linter.unusedVariables false
set_option linter.unusedSimpArgs false
attribute [local go_sem] Oper.semAt_some

def zc : Obj := .cells #[.int .i64 0, .int .i64 0, .int .i64 0, .int .i64 0] 28
theorem blk4 {w : World} {r : Nat} {t : TypeId} {a0 a1 a2 a3 : Value} (h : Blk w r t #[a0, a1, a2, a3]) (v0 v1 v2 v3 : Value) : Blk ((((w.setCell ⟨r, 0, none⟩ v0).setCell ⟨r, 1, none⟩ v1).setCell ⟨r, 2, none⟩ v2).setCell ⟨r, 3, none⟩ v3) r t #[v0, v1, v2, v3] := by
  have h7 := (((h.put 0 v0).put 1 v1).put 2 v2).put 3 v3
  simp only [List.setIfInBounds_toArray, List.set_cons_zero, List.set_cons_succ] at h7
  exact h7
theorem only4 (w : World) (r : Nat) (v0 v1 v2 v3 : Value) : Only (fun k => k = r) w ((((w.setCell ⟨r, 0, none⟩ v0).setCell ⟨r, 1, none⟩ v1).setCell ⟨r, 2, none⟩ v2).setCell ⟨r, 3, none⟩ v3) :=
  ((((Only.refl (fun k => k = r) w).setCell (p := ⟨r, 0, none⟩) (.inl rfl) _).setCell (p := ⟨r, 1, none⟩) (.inl rfl) _).setCell (p := ⟨r, 2, none⟩) (.inl rfl) _).setCell (p := ⟨r, 3, none⟩) (.inl rfl) _
set_option maxRecDepth 100000 in
set_option maxHeartbeats 4000000 in
theorem nbox_any (a c : Nat) (A : Option Addr) (L : List En) (w : World) (h : NAt w a A L c) (hl : L.length ≤ 1000) :
    Calls Try.prog 40 #[.pointer (some ⟨a, 0, none⟩)] w fun e w' => e = .returned (.agg #[.int .i64 ((bb (boxes L)).x), .int .i64 ((bb (boxes L)).y), .int .i64 ((bb (boxes L)).w), .int .i64 ((bb (boxes L)).h)]) ∧ Below w.heap.size w w' := by
  obtain ⟨w1, hw1⟩ : ∃ w1, w.alloc zc = w1 := ⟨_, rfl⟩
  obtain ⟨w2, hw2⟩ : ∃ w2, w1.alloc zc = w2 := ⟨_, rfl⟩
  have M1 : Below w.heap.size w w1 := by rw [← hw1]; exact made w _
  have M2 : Below w1.heap.size w1 w2 := by rw [← hw2]; exact made w1 _
  have z1 : w1.heap.size = w.heap.size + 1 := by rw [← hw1, asz]
  have R1 : Blk w1 w.heap.size 28 #[.int .i64 0, .int .i64 0, .int .i64 0, .int .i64 0] := by rw [← hw1]; exact Blk.new _ _ _
  have V2 := Lib.hid (show Blk w2 w1.heap.size 28 #[.int .i64 0, .int .i64 0, .int .i64 0, .int .i64 0] from by rw [← hw2]; exact Blk.new _ _ _)
  have R2 := Lib.hid (show Blk w2 w.heap.size 28 #[.int .i64 0, .int .i64 0, .int .i64 0, .int .i64 0] from R1.below M2 R1.lt)
  have M := Lib.hid (up M1 M2 M1.size)
  have Z1 := Lib.hid z1
  have HL := Lib.hid hl
  have NA := Lib.hid h
  have x0 := (h.below M.out).blk.cell 0
  have HW1 := Lib.hid hw1
  have HW2 := Lib.hid hw2
  have HA := Lib.hid h.blk.lt
  clear hw1 hw2 h M1 M2 z1 R1 hl
  go_enter Try.func40, Try.ntmps40
  go_upto_region 1 with fail
  have hw1 := HW1.out
  unfold zc at hw1
  simp only [hw1]
  clear hw1 HW1
  go_upto_region 2 with fail
  have hw2 := HW2.out
  unfold zc at hw2
  simp only [hw2]
  clear hw2 HW2
  go_wp2_with fail
  clear x0
  generalize hV : w1.heap.size = V at *
  go_loopw [11] (fun i wr => ∃ (p : Nat) (W : World), W = wr ∧ p ≤ L.length ∧ i = .int .i64 p ∧ Blk wr V 28 #[.int .i64 (bb (boxes (L.take p))).x, .int .i64 (bb (boxes (L.take p))).y, .int .i64 (bb (boxes (L.take p))).w, .int .i64 (bb (boxes (L.take p))).h] ∧ Blk wr w.heap.size 28 #[.int .i64 0, .int .i64 0, .int .i64 0, .int .i64 0] ∧ Below w.heap.size w wr) (fun i _ => L.length - (intOf i).toNat)
  case atStart => exact ⟨0, _, rfl, by omega, rfl, V2.out, R2.out, M.out⟩
  case round =>
  obtain ⟨p, w5, rfl, hp, rfl, hv, hr, hb⟩ := hrel
  by_cases hpl : p < L.length
  · have TK := Lib.hid (bb_take hpl)
    obtain ⟨b, off, rfl, e0, e1, e2, e3, e4, e5⟩ := lay6 (NA.out.lay.keep (w' := w5) (fun k hk _ => hb.block k hk)) hpl
    generalize L.getD p en0 = e at *
    obtain ⟨P, hP⟩ : ∃ P, e.ptr = .pointer P := ⟨_, rfl⟩
    rw [hP] at e4
    obtain ⟨wE, hwE⟩ : ∃ wE, w5.alloc (.cells #[.int .i64 e.b.x, .int .i64 e.b.y, .int .i64 e.b.w, .int .i64 e.b.h, .pointer P, .int .i64 e.v] 79) = wE := ⟨_, rfl⟩
    have ME := Lib.hid (show Below w5.heap.size w5 wE from by rw [← hwE]; exact made w5 _)
    have EB := Lib.hid (show Blk wE w5.heap.size 79 #[.int .i64 e.b.x, .int .i64 e.b.y, .int .i64 e.b.w, .int .i64 e.b.h, .pointer P, .int .i64 e.v] from by rw [← hwE]; exact Blk.new _ _ _)
    have VE := Lib.hid (hv.below ME.out hv.lt)
    have RE := Lib.hid (hr.below ME.out hr.lt)
    have BE := Lib.hid (up hb ME.out hb.size)
    have dp : decide (p < L.length) = true := decide_eq_true hpl
    have wp1 : IntKind.i64.wrap ((p : Int) + 1) = (p : Int) + 1 := IntWalk.i64_in _ (by have := HL.out; omega)
    have HP := Lib.hid hpl
    have i0 : (0 : Int) ≤ (p : Int) := Int.natCast_nonneg _
    have HWE := Lib.hid hwE
    clear hv hr hb hp hP hwE
    go_upto_region 5 with fail
    have hwE := HWE.out
    simp only [hwE]
    clear hwE HWE e0 e1 e2 e3 e4 e5
    generalize hB : bb (boxes (L.take p)) = B at *
    have JN := Lib.hid (join_any B e.b wE)
    obtain ⟨x0, x1, x2, x3⟩ := VE.out.four
    have y0 := EB.out.cell 0
    have y1 := EB.out.cell 1
    have y2 := EB.out.cell 2
    have y3 := EB.out.cell 3
    go_wp2_with fail
    refine JN.out.mono ?_
    rintro e' w7 ⟨rfl, hb7⟩
    rw [← TK.out]
    have V7 := Lib.hid (VE.out.below hb7 VE.out.lt)
    have R7 := Lib.hid (RE.out.below hb7 RE.out.lt)
    have B7 := Lib.hid (up BE.out hb7 BE.out.size)
    clear hb7 JN x0 x1 x2 x3 y0 y1 y2 y3
    obtain ⟨B2, hB2⟩ : ∃ B2, B2 = bb (boxes (L.take (p + 1))) := ⟨_, rfl⟩
    rw [← hB2]
    have HB2 := Lib.hid hB2
    clear hB2
    obtain ⟨x0, x1, x2, x3⟩ := V7.out.four
    have f0 := V7.out.free 0
    have f1 := V7.out.free 1
    have f2 := V7.out.free 2
    have f3 := V7.out.free 3
    have V8 := Lib.hid (blk4 V7.out (.int .i64 B2.x) (.int .i64 B2.y) (.int .i64 B2.w) (.int .i64 B2.h))
    have O8 := Lib.hid (only4 w7 V (.int .i64 B2.x) (.int .i64 B2.y) (.int .i64 B2.w) (.int .i64 B2.h))
    have z1 := Z1.out
    have R8 := Lib.hid (R7.out.only O8.out (by omega))
    have B8 := Lib.hid (B7.out.trans (Only.to_below (B := w.heap.size) O8.out (fun i hi e => by omega) B7.out.size))
    clear z1 i0
    go_wp2_with fail
    clear wp1
    exact ⟨⟨p + 1, _, rfl, by have := HP.out; omega, by go_num, by rw [← HB2.out]; exact V8.out, R8.out, B8.out⟩, by have := HP.out; simp [intOf]; omega⟩
  · obtain rfl : p = L.length := by omega
    rw [List.take_length] at hv
    have dp : decide (L.length < L.length) = false := decide_eq_false (by omega)
    obtain ⟨B, hB⟩ : ∃ B, B = bb (boxes L) := ⟨_, rfl⟩
    rw [← hB] at hv
    have HB := Lib.hid hB
    clear hB
    obtain ⟨x0, x1, x2, x3⟩ := hv.four
    obtain ⟨y0, y1, y2, y3⟩ := hr.four
    have f0 := hr.free 0
    have f1 := hr.free 1
    have f2 := hr.free 2
    have f3 := hr.free 3
    have R8 := Lib.hid (blk4 hr (.int .i64 B.x) (.int .i64 B.y) (.int .i64 B.w) (.int .i64 B.h))
    have B8 := Lib.hid (hb.trans (Only.to_below (B := w.heap.size) (only4 w5 w.heap.size (.int .i64 B.x) (.int .i64 B.y) (.int .i64 B.w) (.int .i64 B.h)) (fun i hi e => by omega) hb.size))
    clear hv hr hb hp hpl
    go_wp2_with fail
    obtain ⟨r0, r1, r2, r3⟩ := R8.out.four
    exact bodyPost_ret (v := (.agg #[.int .i64 B.x, .int .i64 B.y, .int .i64 B.w, .int .i64 B.h])) (by simp [results, Try.results40, go_sem, r0, r1, r2, r3]) rfl ⟨by rw [HB.out], B8.out⟩
end Go.Proofs.Ytndhdpjgnepfnaa.tr
