/-
  Package bid: earliest.
-/
import Derived.Test.YtlklfolpcebahaaAucN
namespace Go.Proofs.Ytlklfolpcebahaa.bb
open Go.RowKit
open base (ret_bool ret_int made up Blk Only Nums below_drewN)
open rk
set_option linter.unusedVariables false
set_option linter.unusedSimpArgs false

set_option maxRecDepth 100000 in
set_option maxHeartbeats 4000000 in
theorem earliest_any (B g : Nat) (L : List D) (nx : Int) (w : World) (hd : DAt w B g L nx) (hl : L.length ≤ 100000) (z : Bool) (hz : z = decide ((L.length : Int) > 0)) :
    Calls Try.prog 36 #[.pointer (some ⟨g, 0, none⟩)] w fun e w' => e = .returned (.tuple #[.int .i64 (fo L L.length : Nat), .bool z]) ∧ Below w.heap.size w w' := by
  obtain ⟨A, c, hbk, -, hlay, -⟩ := hd.open_
  have HB := Lib.hid hbk
  have HA := Lib.hid hlay
  have HZ := Lib.hid hz
  have c0 := hbk.cell 0
  clear hbk hlay hd hz
  go_enter Try.func36, Try.ntmps36
  go_wp2_with fail
  go_loopw [4, 12] (fun s i wr => ∃ (k : Nat) (W : World) (p : Nat), W = wr ∧ k ≤ L.length ∧ i = .int .i64 k ∧ s = .int .i64 p ∧ p = fo L k ∧ Below w.heap.size w wr) (fun _ i _ => L.length - (intOf i).toNat)
  case atStart => exact ⟨0, _, 0, rfl, by omega, rfl, rfl, rfl, Below.refl _ _⟩
  case round =>
  obtain ⟨k, w2, p, rfl, hk, rfl, rfl, hp, hb2⟩ := hrel
  have B2 := Lib.hid hb2
  by_cases hkl : k < L.length
  · have hpk : p ≤ k := by
      rw [hp]
      by_cases h : k = 0
      · rw [h]; exact Nat.le_refl _
      · exact Nat.le_of_lt (fo_lt L k (by omega))
    obtain ⟨b, off, hAx, e0, e1, e2, e3, e4, e5, e6⟩ := lay7 (HA.out.below hb2) hkl
    have FN := Lib.hid (show fo L (k + 1) = if en L k < en L p then k else p by rw [hp]; rfl)
    have EN := Lib.hid (show L[k].2.2.2.2.2.2 = en L k by simp [en, ends, List.getD, hkl])
    generalize L[k] = d at *
    obtain ⟨d0, d1, d2, d3, d4, d5, d6⟩ := d
    dsimp only at e0 e1 e2 e3 e4 e5 e6 EN
    have hm := made w2 (.cells #[.int .i64 d0, .int .i64 d1, .int .i64 d2, .int .i64 d3, .int .i64 d4, .int .i64 d5, .int .i64 d6] 35)
    have B3 := Lib.hid (up B2.out hm B2.out.size)
    have bx := Blk.new w2 35 #[.int .i64 d0, .int .i64 d1, .int .i64 d2, .int .i64 d3, .int .i64 d4, .int .i64 d5, .int .i64 d6]
    have x6 := bx.cell 6
    obtain ⟨b', off', hAy, g6⟩ := en_cell (HA.out.below B3.out) (show p < L.length by omega)
    have b0 := (HB.out.below B3.out HB.out.lt).cell 0
    subst hAx
    cases hAy
    clear hp hb2 hm bx
    go_upto_region 5 with fail
    generalize w2.alloc (.cells #[.int .i64 d0, .int .i64 d1, .int .i64 d2, .int .i64 d3, .int .i64 d4, .int .i64 d5, .int .i64 d6] 35) = w3 at *
    clear e0 e1 e2 e3 e4 e5 e6
    rw [← EN.out] at FN
    clear EN
    generalize en L p = y at *
    by_cases q : d6 < y
    · have t3 : decide (d6 < y) = true := by simpa using q
      rw [if_pos q] at FN
      go_wp2_with fail
      go_quiet (fail)
      go_wp2_with fail
      refine ⟨⟨k + 1, _, k, rfl, by omega, by go_num, rfl, FN.out.symm, below_drewN B3.out _⟩, by simp [intOf]; omega⟩
    · have t3 : decide (d6 < y) = false := by simpa using q
      rw [if_neg q] at FN
      go_wp2_with fail
      go_quiet (fail)
      go_wp2_with fail
      refine ⟨⟨k + 1, _, p, rfl, by omega, by go_num, rfl, FN.out.symm, below_drewN B3.out _⟩, by simp [intOf]; omega⟩
  · obtain rfl : k = L.length := by omega
    have b0 := (HB.out.below hb2 HB.out.lt).cell 0
    have t3 := HZ.out.symm
    have PP := Lib.hid hp
    clear hb2 hp
    go_wp2_with fail
    go_quiet (fail)
    go_wp2_with fail
    go_ret2
    exact ⟨by first | (rw [← PP.out, HZ.out]; done) | (rw [← PP.out]; rfl) | (rw [← PP.out]; simp [HZ.out]), below_drewN B2.out _⟩
end Go.Proofs.Ytlklfolpcebahaa.bb
