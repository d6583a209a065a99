/-
  The reference's Right, where it holds.
-/
import Derived.Test.YtlklfolpcebahaaAucW
import Derived.Deep.CutRange
import Derived.BigQuiet
namespace Go.Proofs.Ytlklfolpcebahaa.bb
open Go.RowKit
open base (ret_bool ret_int made up Blk Only Nums below_drewN)
open rk
set_option linter.unusedVariables false
set_option linter.unusedSimpArgs false

set_option maxRecDepth 100000 in
set_option maxHeartbeats 8000000 in
theorem rright_any (A : Option Addr) (c : Nat) (L : List D) (nx : Int) (w : World) (hA : Lay E7 w A L) (hi : Inv L nx) (hnx : nx ≤ 1099511627776) :
    Calls Try.prog 15 #[.slice A L.length c, .int .i64 nx] w fun e w' => e = .returned (.bool true) ∧ Below w.heap.size w w' := by
  have hl : L.length ≤ 64 := hi.2.2.2
  have hn1 : 1 ≤ nx := hi.1
  have HA := Lib.hid hA
  have IV := Lib.hid hi
  clear hA hi
  go_enter Try.func15, Try.ntmps15
  go_wp2_with fail
  go_loopw [5] (fun j wr => ∃ (k : Nat) (W : World), W = wr ∧ k ≤ L.length ∧ j = .int .i64 k ∧ Below w.heap.size w wr) (fun j _ => L.length - (intOf j).toNat)
  case atStart => exact ⟨0, _, rfl, by omega, rfl, Below.refl _ _⟩
  case round =>
  obtain ⟨k, w2, rfl, hk, rfl, hb2⟩ := hrel
  have B2 := Lib.hid hb2
  by_cases hkl : k < L.length
  · obtain ⟨b, off, rfl, e0, e1, e2, e3, e4, e5, e6⟩ := lay7 (HA.out.below hb2) hkl
    have AP := Lib.hid (fun t (h : t < k) => List.pairwise_iff_getElem.1 IV.out.2.1 t k (by omega) hkl h)
    have OK := Lib.hid (IV.out.2.2.1 _ (List.getElem_mem hkl))
    generalize hdd : L[k] = d at *
    have DD := Lib.hid hdd
    clear hdd hb2
    obtain ⟨d0, d1, d2, d3, d4, d5, d6⟩ := d
    dsimp only at e0 e1 e2 e3 e4 e5 e6 AP
    obtain ⟨k0, k1, k2, k3, k4, k5, k6, k7⟩ := OK.out
    dsimp only [seller, least, ends, bidder, best] at k0 k1 k2 k3 k4 k5 k6 k7
    have AM3 := Lib.hid (fun ws => amount_any d3 ws)
    rw [isR k4] at AM3
    have AM4 := Lib.hid (fun ws => amount_any d4 ws)
    have A4 := Lib.hid (fun (h : amt d4) => isR h)
    have hm := made w2 (.cells #[.int .i64 d0, .int .i64 d1, .int .i64 d2, .int .i64 d3, .int .i64 d4, .int .i64 d5, .int .i64 d6] 52)
    have B3 := Lib.hid (up B2.out hm B2.out.size)
    have BX3 := Lib.hid (Blk.new w2 52 #[.int .i64 d0, .int .i64 d1, .int .i64 d2, .int .i64 d3, .int .i64 d4, .int .i64 d5, .int .i64 d6])
    clear hm k4 OK
    go_upto_region 7 with fail
    generalize w2.alloc (.cells #[.int .i64 d0, .int .i64 d1, .int .i64 d2, .int .i64 d3, .int .i64 d4, .int .i64 d5, .int .i64 d6] 52) = w3 at *
    clear e0 e1 e2 e3 e4 e5 e6
    have x0 := BX3.out.cell 0
    go_cut [52] from 19 to 127 (fun s52 wx => s52 = .bool false ∧ Below w3.heap.size w3 wx)
    case first =>
      have t0a : decide (d0 < 1) = false := by simp; omega
      have t1a : decide (d0 ≥ nx) = false := by simp; omega
      have t1b : decide (nx ≤ d0) = false := by simp; omega
      by_cases g4 : k = 0
      · have t4a : decide ((k : Int) > 0) = false := by simp; omega
        have t4b : decide (0 < (k : Int)) = false := by simp; omega
        have t4c : decide (0 < k) = false := by simp; omega
        clear g4
        go_wp2_with fail
        go_quiet (fail)
        go_wp2_with fail
        go_meet
        case rel => exact ⟨rfl, below_drewN (Below.refl _ _) _⟩
      have t4a : decide ((k : Int) > 0) = true := by simp; omega
      have t4b : decide (0 < (k : Int)) = true := by simp; omega
      have t4c : decide (0 < k) = true := by simp; omega
      have wk : IntKind.i64.wrap ((k : Int) - 1) = ((k - 1 : Nat) : Int) := by rw [IntWalk.i64_in _ (by omega)]; omega
      have hap := (AP.out (k - 1) (by omega)).1
      obtain ⟨b', off', hAx, f0, -, -, -, -, -, -⟩ := lay7 (HA.out.below B3.out) (show k - 1 < L.length by omega)
      cases hAx
      generalize L[k - 1] = dp at *
      obtain ⟨y0, y1, y2, y3, y4, y5, y6⟩ := dp
      dsimp only at f0 hap
      have t5a : decide (y0 ≥ d0) = false := by simp; omega
      have t5b : decide (d0 ≤ y0) = false := by simp; omega
      clear hap
      go_wp2_with fail
      go_quiet (fail)
      go_wp2_with fail
      go_meet
      case rel => exact ⟨rfl, below_drewN (Below.refl _ _) _⟩
    case rest =>
    obtain ⟨rfl, hbw⟩ := hcut
    have B4 := Lib.hid (up B3.out hbw B3.out.size)
    have BX4 := Lib.hid (BX3.out.below hbw BX3.out.lt)
    clear hbw x0
    generalize wc = w4 at *
    have x1 := BX4.out.cell 1
    have x2 := BX4.out.cell 2
    have x3 := BX4.out.cell 3
    have x6 := BX4.out.cell 6
    have t1a : decide (d1 < 1) = false := by simp; omega
    have t2a : decide (d2 < 1) = false := by simp; omega
    have t6a : decide (d6 < 0) = false := by simp; omega
    have t6b : decide (d6 > 4398046511104) = false := by simp; omega
    have t6c : decide (4398046511104 < d6) = false := by simp; omega
    go_wp2_with fail
    refine (AM3.out _).mono ?_
    rintro e w5 ⟨rfl, h5⟩
    have h5 := h5.symm
    subst h5
    go_upto_region 11 with fail
    have x4 := BX4.out.cell 4
    have x5 := BX4.out.cell 5
    clear t1a t2a t6a t6b t6c
    go_cut [114] from 19 to 127 (fun s114 wx => s114 = .bool false ∧ Below w4.heap.size w4 wx)
    case first =>
      rcases k7 with ⟨g0, g1⟩ | ⟨g0, g1, g2, g3⟩
      · subst g0 g1
        go_wp2_with fail
        go_meet
        case rel => exact ⟨rfl, Below.refl _ _⟩
      · have A4' := A4.out g2
        rw [A4'] at AM4
        have t5a : (d5 == 0) = false := by simp; omega
        have t5b : (d5 != 0) = true := by simp; omega
        have t5c : decide (d5 < 1) = false := by simp; omega
        have t5d : (d5 == d2) = false := by simpa using g1
        have t4a : decide (d4 < d3) = false := by simp; omega
        clear g0 g1 g2 g3 A4'
        go_wp2_with fail
        refine (AM4.out _).mono ?_
        rintro e w5 ⟨rfl, h5⟩
        have h5 := h5.symm
        subst h5
        go_wp2_with fail
        go_meet
        case rel => exact ⟨rfl, Below.refl _ _⟩
    case rest =>
    obtain ⟨rfl, hbw⟩ := hcut
    have B5 := Lib.hid (up B4.out hbw B4.out.size)
    have BX5 := Lib.hid (BX4.out.below hbw BX4.out.lt)
    clear hbw x1 x2 x3 x4 x5 x6 k7
    generalize wc = w5 at *
    go_wp2_with fail
    go_loopw [7] (fun j wr => ∃ (t : Nat) (W : World), W = wr ∧ t ≤ k ∧ j = .int .i64 t ∧ Below w5.heap.size w5 wr) (fun j _ => k - (intOf j).toNat)
    case atStart => exact ⟨0, _, rfl, by omega, rfl, Below.refl _ _⟩
    case round =>
    obtain ⟨t, w6, rfl, ht, rfl, hb6⟩ := hrel
    have B6 := Lib.hid hb6
    by_cases htk : t < k
    · have hap := (AP.out t htk).2
      obtain ⟨b', off', hAx, -, f1, -, -, -, -, -⟩ := lay7 (HA.out.below (up B5.out hb6 B5.out.size)) (show t < L.length by omega)
      cases hAx
      have x1 := (BX5.out.below hb6 BX5.out.lt).cell 1
      clear hb6
      generalize L[t]'(by omega) = f at *
      obtain ⟨y0, y1, y2, y3, y4, y5, y6⟩ := f
      dsimp only at f1 hap
      have q1 : (y1 == d1) = false := by simpa using hap
      clear hap
      go_wp2_with fail
      go_quiet (fail)
      go_wp2_with fail
      refine ⟨⟨t + 1, _, rfl, by omega, by go_num, below_drewN B6.out _⟩, by simp [intOf]; omega⟩
    · obtain rfl : t = k := by omega
      have B7 := Lib.hid (up B5.out hb6 B5.out.size)
      clear hb6
      go_wp2_with fail
      refine ⟨⟨t + 1, _, rfl, by omega, by go_num, B7.out⟩, by simp [intOf]; omega⟩
  · obtain rfl : k = L.length := by omega
    clear hb2
    go_wp2_with fail
    go_ret
    exact ⟨rfl, B2.out⟩
end Go.Proofs.Ytlklfolpcebahaa.bb
