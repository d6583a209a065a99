/-
  Pools: Parse, walked.
-/
import Derived.Test.YteecebklomeklaaDoorPpD
namespace Go.Proofs.YteecebklomeklaaDoor.po
open Go.RowKit
open base (ret_bool ret_int made up Blk Only Nums)
open pnum bytes
set_option linter.unusedVariables false
set_option linter.unusedSimpArgs false
def ParseNo (w : World) (e : Ending) (w' : World) : Prop := e = .returned (.tuple #[.pointer none, .bool false]) ∧ Below w.heap.size w w'
def ParseYes (n : Nat) (b : List Nat) (w : World) (e : Ending) (w' : World) : Prop := ∃ W c, e = .returned (.tuple #[.pointer (some ⟨w.heap.size + 1, 0, none⟩), .bool true]) ∧ PAt w' (w.heap.size + 1) w.heap.size W c (px b n) ∧ Below w.heap.size w w'
set_option maxRecDepth 100000 in
set_option maxHeartbeats 1000000 in
theorem parse_len (A : Option Addr) (cb : Nat) (b : List Nat) (n : Nat) (w : World) (hn : n ≤ 300) (h0 : 0 < w.heap.size) (hbl : b.length ≤ 9223372036854775807) (hl : b.length ≠ (n + 7) / 8) :
    Calls Tryd.prog 19 #[.slice A b.length cb, .int .i64 n] w (ParseNo w) := by
  have NW := Lib.hid (new_any n w (by omega) h0)
  have k1 : ((b.length : Int) != ((n : Int) + 7) / 8) = true := by simp; omega
  have k2 : ((b.length : Int) == ((n : Int) + 7) / 8) = false := by simp; omega
  unfold NewP at NW
  clear hl
  go_enter Tryd.func19, Tryd.ntmps19
  go_wp2_with fail
  refine NW.out.mono ?_
  rintro e w1 ⟨rfl, hb, -⟩
  have HB := Lib.hid hb
  clear hb NW
  go_wp2_with fail
  go_ret2
  exact ⟨rfl, HB.out⟩
set_option maxRecDepth 100000 in
set_option maxHeartbeats 1000000 in
theorem parse_bits (A : Option Addr) (cb : Nat) (b : List Nat) (n : Nat) (w : World) (hn : n ≤ 300) (h0 : 0 < w.heap.size) (hA : Lay w A b) (hl : b.length = (n + 7) / 8) (hs : Small b) (hp : ¬ pok b n) :
    Calls Tryd.prog 19 #[.slice A b.length cb, .int .i64 n] w (ParseNo w) := by
  have NW := Lib.hid (new_any n w (by omega) h0)
  have hq := (not_congr (pok_iff hl hs)).1 hp
  obtain ⟨m, hm⟩ : ∃ m, b.length = m + 1 := ⟨b.length - 1, by omega⟩
  rw [hm, Nat.add_sub_cancel] at hq
  obtain ⟨r, hr⟩ : ∃ r, r = n % 8 := ⟨_, rfl⟩
  rw [← hr] at hq
  have LA := Lib.hid hA
  have HM := Lib.hid hm
  have k0 : ((n : Int) + 7) / 8 = (m : Int) + 1 := by omega
  have k3 : (n : Int) % 8 = (r : Int) := by omega
  have k7 : ((r : Int) = 0) = False := eq_false (by omega)
  have k8 : (r = 0) = False := eq_false (by omega)
  have k4 : ((r : Int) != 0) = true := by simp; omega
  have k5 : ((r : Int) == 0) = false := by simp; omega
  have hv : b.getD m 0 < 256 := small_at hs (by omega)
  have k6 : ((b.getD m 0 : Nat) : Int) / 2 ^ r ≠ 0 := fun e => hq (.inr (by
    have : (((b.getD m 0) / 2 ^ r : Nat) : Int) = 0 := by simpa using e
    omega))
  unfold NewP at NW
  have hrb : r < 8 := by omega
  rw [hm]
  clear hp hq hl hs hA hr hm
  go_enter Tryd.func19, Tryd.ntmps19
  go_wp2_with fail
  refine NW.out.mono ?_
  rintro e w1 ⟨rfl, hb, -⟩
  have HB := Lib.hid hb
  obtain ⟨bb, off, rfl, -, hc⟩ := (LA.out.below hb).at_ (k := m) (by rw [HM.out]; omega)
  clear hb NW
  generalize b.getD m 0 = v at *
  go_wp2_with fail
  go_ret2
  exact ⟨rfl, HB.out⟩
set_option maxRecDepth 100000 in
set_option maxHeartbeats 4000000 in
theorem parse_yes_even (A : Option Addr) (cb : Nat) (b : List Nat) (n : Nat) (w : World) (hn : n ≤ 300) (h0 : 0 < w.heap.size) (hA : Lay w A b) (hs : Small b) (hp : pok b n) (h8 : n % 8 = 0) :
    Calls Tryd.prog 19 #[.slice A b.length cb, .int .i64 n] w (ParseYes n b w) := by
  have NW := Lib.hid (new_any n w (by omega) h0)
  have hl := hp.1
  have LA := Lib.hid hA
  have HP := Lib.hid hp
  have HS := Lib.hid hs
  have HL8 := Lib.hid (show b.length ≤ 38 by omega)
  have H00 := Lib.hid h0
  have k0 : ((n : Int) + 7) / 8 = (b.length : Int) := by omega
  have k3 : (n : Int) % 8 = 0 := by omega
  unfold NewP at NW
  clear hl hs hA hp h8
  go_enter Tryd.func19, Tryd.ntmps19
  go_wp2_with fail
  refine NW.out.mono ?_
  rintro e w1 ⟨rfl, hb, W1, c1, hp1⟩
  have HB := Lib.hid hb
  obtain ⟨a0, a1, a2⟩ := hp1.cells
  have b1 := hp1.blk.free 1
  have gne : w.heap.size ≠ w.heap.size + 1 := by omega
  have HLW := Lib.hid (show W1.length = (n + 63) / 64 from by have := hp1.bits.1; rwa [List.length_replicate] at this)
  have CM := Lib.hid (And.intro hp1.le hp1.mx)
  obtain ⟨w3, hrun, hrow3, ho3⟩ := clear_any (c := c1) (w1.setCell ⟨w.heap.size + 1, 1, none⟩ (.int .i64 0)) (hp1.row.far (p := ⟨w.heap.size + 1, 1, none⟩) gne (.int .i64 0))
  have d2 : (w1.setCell ⟨w.heap.size + 1, 1, none⟩ (.int .i64 0)).cell? ⟨w.heap.size + 1, 2, none⟩ = some (.slice (some ⟨w.heap.size, 0, none⟩) W1.length c1) := (hp1.blk.put 1 (.int .i64 0)).cell 2
  have P3 := Lib.hid (show PP w n 0 c1 b (List.replicate W1.length 0) w3 from by
    refine ⟨?_, hrow3, Bits.start b HLW.out, ?_⟩
    · have := (hp1.blk.put 1 (.int .i64 0)).only ho3 (fun e => gne e.symm)
      rw [List.length_replicate] at this ⊢
      exact this
    · exact (HB.out.setCell (p := ⟨w.heap.size + 1, 1, none⟩) (by show w.heap.size ≤ w.heap.size + 1; omega) _).trans (Only.to_below ho3 (fun i hi e => by omega) (by simpa [World.setCell] using HB.out.size)))
  have HR := Lib.hid hrun
  clear hb NW hp1 hrow3 ho3 hrun
  go_upto_region 7 with fail
  have hrun := HR.out
  go_wp2_with fail
  simp only [k0, k3]
  go_loopw [45] (fun i wr => ∃ (k : Nat) (X : World) (V : List Nat), X = wr ∧ k ≤ b.length ∧ i = .int .i64 k ∧ PP w n k c1 b V wr ∧ V.length = W1.length) (fun i _ => b.length - (intOf i).toNat)
  case atStart => exact ⟨0, _, _, rfl, by omega, rfl, P3.out, List.length_replicate⟩
  case round =>
  clear P3 hrun d2
  obtain ⟨k, wr, V, rfl, hk, rfl, hpp, hvl⟩ := hrel
  have Q := Lib.hid hpp
  have VL := Lib.hid hvl
  by_cases hkl : k < b.length
  · obtain ⟨bb, off, rfl, -, hc⟩ := (LA.out.below hpp.below).at_ hkl
    have hv : b.getD k 0 < 256 := small_at HS.out hkl
    obtain ⟨q1, q2, q3, -⟩ := hpp.bits.byte HP.out hkl hv
    have NX := Lib.hid (hpp.row_set hkl HP.out HS.out)
    have PO := Lib.hid (fun W => pop_any (b.getD k 0) W hv)
    have e0 := hpp.blk.cell 1
    have e2 := hpp.blk.cell 2
    have e3 := hpp.row.cell q1
    have f3 := hpp.row.free (k / 8)
    have f1 := hpp.blk.free 1
    have wq : IntKind.i64.wrap ((k : Int) / 8) = ((k / 8 : Nat) : Int) := by rw [IntWalk.i64_in _ (by have := HL8.out; omega)]; omega
    have w8 : IntKind.i64.wrap ((k : Int) % 8) = ((k % 8 : Nat) : Int) := by rw [IntWalk.i64_in _ (by omega)]; omega
    have ws : IntKind.i64.wrap (8 * ((k % 8 : Nat) : Int)) = ((8 * (k % 8) : Nat) : Int) := by rw [IntWalk.i64_in _ (by omega)]; omega
    have wv : IntKind.u64.wrap ((b.getD k 0 : Nat) : Int) = ((b.getD k 0 : Nat) : Int) := by rw [IntKind.wrap_u64]; omega
    have hlv := hpp.bits.lt (k / 8)
    have hor := bits_or_u64_nat _ _ hlv q3
    have hct := CT_le b k
    have hbl : b.length ≤ 38 := by have := HL8.out; omega
    have SH : IntKind.u64.wrap (((b.getD k 0 : Nat) : Int) * 2 ^ (8 * (k % 8))) = ((b.getD k 0 * 2 ^ (8 * (k % 8)) : Nat) : Int) := by
      rw [IntKind.wrap_u64]
      have : ((b.getD k 0 : Nat) : Int) * 2 ^ (8 * (k % 8)) = ((b.getD k 0 * 2 ^ (8 * (k % 8)) : Nat) : Int) := by simp
      omega
    have htm : ((k : Int)).tmod 8 = ((k % 8 : Nat) : Int) := by rw [Int.tmod_eq_emod_of_nonneg (by omega)]; omega
    have hs8 : ((8 * (k % 8) : Nat) : Int) ≤ 64 := by omega
    have hs9 : 8 * (k % 8) ≤ 64 := by omega
    have hp8 := pop8_le (b.getD k 0)
    clear hpp hvl
    generalize CT b k = ct at *
    generalize V.getD (k / 8) 0 = x at *
    generalize b.getD k 0 * 2 ^ (8 * (k % 8)) = y at *
    generalize 8 * (k % 8) = s8 at *
    generalize pop8 (b.getD k 0) = pq at *
    generalize b.getD k 0 = v at *
    generalize hz : x ||| y = z at *
    generalize k / 8 = qq at *
    generalize k % 8 = rr at *
    go_wp2_with fail
    go_still_tail 16, (by kernel_rfl)
    change wpList _ _ _ _ _ wr.drew
    have NX2 := Lib.hid (show PP w n (k + 1) c1 b (V.set qq z) (((wr.setCell ⟨w.heap.size, qq, none⟩ (.int .u64 (z : Nat))).drew.setCell ⟨w.heap.size + 1, 1, none⟩ (.int .i64 ((ct + pq : Nat) : Int))).drew) from NX.out)
    have g1 : ((wr.setCell ⟨w.heap.size, qq, none⟩ (.int .u64 (z : Nat))).drew).cell? ⟨w.heap.size + 1, 1, none⟩ = some (.int .i64 (ct : Nat)) := (World.cell?_setCell_far wr ⟨w.heap.size, qq, none⟩ ⟨w.heap.size + 1, 1, none⟩ _ (by show w.heap.size ≠ w.heap.size + 1; omega)).trans e0
    have g2 : ((wr.setCell ⟨w.heap.size, qq, none⟩ (.int .u64 (z : Nat))).drew).frozen? ⟨w.heap.size + 1, 1, none⟩ = false := ((Q.out.blk.far (p := ⟨w.heap.size, qq, none⟩) (by show w.heap.size + 1 ≠ w.heap.size; omega) (.int .u64 (z : Nat))).drewN 1).free 1
    clear NX e0 f1
    go_upto_region 12 with fail
    generalize (wr.setCell ⟨w.heap.size, qq, none⟩ (.int .u64 (z : Nat))).drew = wx at *
    have h1 : wx.drew.cell? ⟨w.heap.size + 1, 1, none⟩ = some (.int .i64 (ct : Nat)) := g1
    have h2 : wx.drew.frozen? ⟨w.heap.size + 1, 1, none⟩ = false := g2
    have hcq : IntKind.i64.wrap ((ct : Int) + (pq : Int)) = ((ct + pq : Nat) : Int) := by rw [IntWalk.i64_in _ (by omega)]; omega
    clear e2 e3 f3 hor SH
    go_wp2_with fail
    go_still_tail 9, (by kernel_rfl)
    still_call (PO.out _)
    repeat still_step
    refine wpStill_nil ?_
    change wpList _ _ _ _ _ wx.drew
    go_wp2_with fail
    exact ⟨⟨k + 1, _, _, rfl, by omega, by go_num, NX2.out, by rw [List.length_set]; exact VL.out⟩, by simp [intOf]; omega⟩
  · obtain rfl : k = b.length := by omega
    have FIN := Lib.hid (show PAt wr (w.heap.size + 1) w.heap.size V c1 (px b n) from by
      have hb := hpp.blk
      have ht := hpp.bits
      rw [List.take_length] at ht
      rw [CT_px HP.out] at hb
      have hc := CM.out
      refine ⟨?_, hpp.row, ht, by rw [hvl]; exact hc.1, hc.2, by rw [px_len]; omega, ⟨by omega, H00.out⟩⟩
      rw [px_len]
      exact hb)
    have BL := Lib.hid hpp.below
    clear hpp hvl
    go_wp2_with fail
    go_ret2
    exact ⟨V, c1, rfl, FIN.out, BL.out⟩
end Go.Proofs.YteecebklomeklaaDoor.po
