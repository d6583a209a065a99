/-
  Restore's walk.
-/
import Derived.Test.YtmnkkdalobdabaaDeedR
import Derived.BigQuiet
namespace Go.Proofs.Ytmnkkdalobdabaa.dd
open Go.RowKit
open base (ret_bool ret_int made up Blk Only Nums below_drewN)
open rk
set_option linter.unusedVariables false
set_option linter.unusedSimpArgs false

def ResP (L : List D) (nx : Int) (w : World) : Bool → Ending → World → Prop
  | true, e, w' => e = .returned (.tuple #[.pointer (some ⟨w.heap.size, 0, none⟩), .bool true]) ∧ DAt w' w.heap.size w.heap.size L nx ∧ Below w.heap.size w w'
  | false, e, w' => e = .returned (.tuple #[.pointer none, .bool false]) ∧ Below w.heap.size w w'

set_option maxRecDepth 100000 in
set_option maxHeartbeats 8000000 in
theorem restore_any (A : Option Addr) (c : Nat) (L : List D) (nx : Int) (w : World) (hA : Lay E3 w A L) (hl : L.length ≤ 100000) (z : Bool) (hz : z = true ↔ Rt L nx) :
    Calls Try.prog 20 #[.slice A L.length c, .int .i64 nx] w fun e w' => ResP L nx w z e w' := by
  have HA := Lib.hid hA
  have ZF := Lib.hid (show ¬ Rt L nx → z = false from fun h => by cases z; rfl; exact absurd (hz.1 rfl) h)
  have ZT := Lib.hid (show Rt L nx → z = true from hz.2)
  have N := Lib.hid (new_any w)
  clear hA hz
  go_enter Try.func20, Try.ntmps20
  by_cases h1 : nx < 1
  · obtain rfl := ZF.out (fun h => by have := h.1; omega)
    go_wp2_with fail
    go_ret2
    exact (show _ ∧ _ from ⟨rfl, Below.refl _ _⟩)
  by_cases h2 : 1099511627776 < nx
  · obtain rfl := ZF.out (fun h => by have := h.2.1; omega)
    go_wp2_with fail
    go_ret2
    exact (show _ ∧ _ from ⟨rfl, Below.refl _ _⟩)
  go_wp2_with fail
  refine N.out.mono ?_
  rintro e w1 ⟨rfl, hd1, hb1⟩
  have D1 := Lib.hid hd1
  have B1 := Lib.hid hb1
  clear hd1 hb1 N
  go_wp2_with fail
  go_loopw [20] (fun i wr => ∃ (k : Nat) (W : World), W = wr ∧ k ≤ L.length ∧ i = .int .i64 k ∧ DAt wr w.heap.size w.heap.size (L.take k) (nk L k) ∧ (∀ i (h : i < L.length), i < k → Row L nx i L[i]) ∧ Below w.heap.size w wr) (fun i _ => L.length - (intOf i).toNat)
  case atStart => exact ⟨0, _, rfl, by omega, rfl, D1.out, fun i h h0 => by omega, B1.out⟩
  case round =>
  obtain ⟨k, w2, rfl, hk, rfl, hd2, hgo, hb2⟩ := hrel
  have GO := Lib.hid hgo
  have B2 := Lib.hid hb2
  have D2 := Lib.hid hd2
  clear hgo hd2
  by_cases hkl : k < L.length
  · obtain ⟨b, off, hAx, e0, e1, e2⟩ := lay3 (HA.out.below hb2) hkl
    subst hAx
    have RO := Lib.hid (fun a1 a2 a3 a4 a5 a6 => row_of GO.out hkl a1 a2 a3 a4 a5 a6)
    have RT := Lib.hid (fun h : Rt L nx => row_to hkl (h.2.2 k hkl))
    have TI := Lib.hid (take_id hkl)
    have NI := Lib.hid (nk_id hkl)
    have LT := Lib.hid (show (L.take k).length ≤ 100000 by rw [List.length_take]; omega)
    have GG := Lib.hid (fun (h : Row L nx k L[k]) i (hi : i < L.length) (h2 : i < k + 1) => show Row L nx i L[i] from by
      by_cases e : i = k
      · subst e; exact h
      · exact GO.out i hi (by omega))
    have N0 : 1 ≤ nk L k := by
      cases k with
      | zero => exact Int.le_refl _
      | succ j =>
        rw [nk_id (show j < L.length by omega)]
        have := (GO.out j (by omega) (by omega)).1.1
        omega
    clear hb2
    generalize L[k] = d at *
    obtain ⟨d0, d1, d2⟩ := d
    dsimp only at e0 e1 e2 RO RT TI NI
    have hm := made w2 (.cells #[.int .i64 d0, .int .i64 d1, .int .i64 d2] 40)
    have B3 := Lib.hid (up B2.out hm B2.out.size)
    have D3 := Lib.hid (D2.out.below hm)
    have BX3 := Lib.hid (Blk.new w2 40 #[.int .i64 d0, .int .i64 d1, .int .i64 d2])
    clear hm
    generalize nk L k = n0 at *
    go_upto_region 7 with fail
    generalize w2.alloc (.cells #[.int .i64 d0, .int .i64 d1, .int .i64 d2] 40) = w3 at *
    obtain ⟨Ad, cd, hbk, -⟩ := D3.out.open_
    have y1 := hbk.cell 1
    have x0 := BX3.out.cell 0
    clear hbk
    by_cases g0 : d0 < n0
    · obtain rfl := ZF.out (fun h => by have := (RT.out h).1; omega)
      have t0 : decide (d0 < n0) = true := by simp; omega
      go_wp2_with fail
      go_quiet (fail)
      go_wp2_with fail
      go_ret2
      exact (show _ ∧ _ from ⟨rfl, below_drewN B3.out _⟩)
    have t0 : decide (d0 < n0) = false := by simp; omega
    by_cases g1 : nx ≤ d0
    · obtain rfl := ZF.out (fun h => by have := (RT.out h).2.1; omega)
      have t1 : decide (d0 ≥ nx) = true := by simp; omega
      have t2 : decide (nx ≤ d0) = true := by simp; omega
      go_wp2_with fail
      go_quiet (fail)
      go_wp2_with fail
      go_ret2
      exact (show _ ∧ _ from ⟨rfl, below_drewN B3.out _⟩)
    have t1 : decide (d0 ≥ nx) = false := by simp; omega
    have t2 : decide (nx ≤ d0) = false := by simp; omega
    have n1 : d0 ≤ 4398046511104 := by omega
    have GK := Lib.hid (show w.heap.size ≠ w2.heap.size by have := D2.out.lt; omega)
    go_wp2_with fail
    go_quiet (fail)
    have BV := Lib.hid (below_drewN (Below.refl w3.heap.size w3) nq)
    generalize w3.drewN nq = w4 at *
    have B4 := Lib.hid (up B3.out BV.out B3.out.size)
    have D4 := Lib.hid (D3.out.below BV.out)
    have BX4 := Lib.hid (BX3.out.below BV.out BX3.out.lt)
    obtain ⟨A4, c4, hbk, -⟩ := D4.out.open_
    have f1 := hbk.free 1
    have y1 := hbk.cell 1
    have x0 := BX4.out.cell 0
    have BX5 := Lib.hid (BX4.out.far (p := ⟨w.heap.size, 1, none⟩) (fun e => GK.out e.symm) (.int .i64 d0))
    have x1 := BX5.out.cell 1
    have x2 := BX5.out.cell 2
    have D5 := Lib.hid (D4.out.next d0)
    have B5 := Lib.hid (B4.out.setCell (p := ⟨w.heap.size, 1, none⟩) (Nat.le_refl _) (.int .i64 d0))
    have IS := Lib.hid (issue_any w.heap.size w.heap.size (L.take k) d0 d1 d2 _ D5.out LT.out ⟨by omega, n1⟩ B5.out.size)
    have IY := Lib.hid (fun (a1 : 1 ≤ d1) (a2 : 1 ≤ d2) a3 a4 => issue_yes (M := L.take k) (n := d0) a1 a2 a3 a4)
    have IO := Lib.hid (fun q => issue_no (M := L.take k) (n := d0) (p := d1) (h := d2) q)
    clear hbk
    generalize issue (L.take k, d0) d1 d2 = r at *
    obtain ⟨⟨M, n5⟩, id5, er5⟩ := r
    dsimp only at IO IY
    go_wp2_with fail
    refine IS.out.mono ?_
    rintro e w6 ⟨rfl, hd6, hb6, -⟩
    have B6 := Lib.hid (B5.out.trans hb6)
    have D6 := Lib.hid hd6
    clear hd6 hb6 IS x0 x1 x2 y1 f1
    by_cases e0_ : er5 = 0
    · obtain ⟨a1, a2, a3, a4⟩ := IO.out e0_
      have ROW := Lib.hid (RO.out (by omega) (by omega) a1 a2 a3 a4)
      have EQ := IY.out a1 a2 a3 a4
      simp only [Prod.mk.injEq] at EQ
      obtain ⟨⟨hM, hn5⟩, -, he⟩ := EQ
      rw [TI.out] at hM
      rw [← NI.out] at hn5
      subst hM hn5 he
      clear e0_ a1 a2 a3 a4 IO IY
      go_wp2_with fail
      refine ⟨⟨k + 1, _, rfl, by omega, by go_num, D6.out, GG.out ROW.out, B6.out⟩, by simp [intOf]; omega⟩
    · obtain rfl := ZF.out (fun h => by
        obtain ⟨-, -, a1, a2, a3, a4⟩ := RT.out h
        have EQ := IY.out a1 a2 a3 a4
        simp only [Prod.mk.injEq] at EQ
        exact e0_ EQ.2.2)
      have t3 : (er5 != 0) = true := by simpa using e0_
      go_wp2_with fail
      go_ret2
      exact (show _ ∧ _ from ⟨rfl, B6.out⟩)
  · obtain rfl : k = L.length := by omega
    obtain ⟨Ad, cd, hbk, -⟩ := D2.out.open_
    have y1 := hbk.cell 1
    have f1 := hbk.free 1
    have DN := Lib.hid (D2.out.next nx)
    have BN := Lib.hid (B2.out.setCell (p := ⟨w.heap.size, 1, none⟩) (Nat.le_refl _) (.int .i64 nx))
    obtain rfl := ZT.out ⟨by omega, by omega, fun i h => GO.out i h h⟩
    clear hb2 hbk
    go_wp2_with fail
    go_ret2
    rw [List.take_length] at DN
    exact (show _ ∧ _ ∧ _ from ⟨rfl, DN.out, BN.out⟩)
end Go.Proofs.Ytmnkkdalobdabaa.dd
