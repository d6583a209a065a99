/-
  Chests: Alter, Clear.
-/
import Derived.Test.YtknkcdhdfojifaaChD
namespace Go.Proofs.Ytknkcdhdfojifaa.ch
open Go.RowKit
open base (ret_bool ret_int made up Blk Only)
open rk mk
set_option linter.unusedVariables false
set_option linter.unusedSimpArgs false

set_option maxRecDepth 100000 in
set_option maxHeartbeats 2000000 in
theorem alter_none {B g b c : Nat} {L : List C2} {n i r : Int} {w : World} (h : CAt w B g b L c) (hw : (Lit.int .i64 n).wf = true) (hp : plc L n i = none) :
    Calls Try.prog 22 #[.pointer (some ⟨g, 0, none⟩), .int .i64 n, .int .i64 i, .int .i64 r] w fun e w' => e = .returned (.int .i64 14) ∧ w = w' := by
  have NE := Lib.hid (need_no h hw hp)
  clear h hw hp
  go_enter Try.func22, Try.ntmps22
  go_wp2_with fail
  refine NE.out.mono ?_
  rintro e w1 ⟨rfl, rfl⟩
  go_wp2_with fail
  go_ret
  exact ⟨rfl, rfl⟩
set_option maxRecDepth 100000 in
set_option maxHeartbeats 2000000 in
theorem alter_range {B g b c : Nat} {L : List C2} {n i r : Int} {p : Nat} {w : World} (h : CAt w B g b L c) (hw : (Lit.int .i64 n).wf = true) (hwi : (Lit.int .i64 i).wf = true) (hl : L.length ≤ 100000) (hp : plc L n i = some p) (hlt : p < L.length) (hr : oki r = false) :
    Calls Try.prog 22 #[.pointer (some ⟨g, 0, none⟩), .int .i64 n, .int .i64 i, .int .i64 r] w fun e w' => e = .returned (.int .i64 11) ∧ w = w' := by
  have NE := Lib.hid (need_yes h hw hwi hp hlt hl)
  have RI := Lib.hid (right_any r w)
  rw [hr] at RI
  generalize L[p].2 = d at *
  clear h hw hp hr hwi
  go_enter Try.func22, Try.ntmps22
  go_wp2_with fail
  refine NE.out.mono ?_
  rintro e w1 ⟨rfl, rfl⟩
  go_wp2_with fail
  refine RI.out.mono ?_
  rintro e w1 ⟨rfl, rfl⟩
  go_wp2_with fail
  go_ret
  exact ⟨rfl, rfl⟩
set_option maxRecDepth 100000 in
set_option maxHeartbeats 2000000 in
theorem alter_yes {B g b c : Nat} {L : List C2} {n i r : Int} {p : Nat} {w : World} (h : CAt w B g b L c) (hw : (Lit.int .i64 n).wf = true) (hwi : (Lit.int .i64 i).wf = true) (hl : L.length ≤ 100000) (hp : plc L n i = some p) (hlt : p < L.length) (hr : oki r = true) :
    Calls Try.prog 22 #[.pointer (some ⟨g, 0, none⟩), .int .i64 n, .int .i64 i, .int .i64 r] w fun e w' => e = .returned (.int .i64 0) ∧ CAt w' B g b (L.set p (n, r)) c ∧ Tch B b w w' := by
  have NE := Lib.hid (need_yes h hw hwi hp hlt hl)
  have RI := Lib.hid (right_any r w)
  rw [hr] at RI
  generalize L[p].2 = d at *
  obtain ⟨bb, cc, cs, lk, hbb, hsz, h2, ht⟩ := h.put r hw hp
  have H2 := Lib.hid h2
  have T2 := Lib.hid ht
  have c0 := h.blk.cell 0
  have cx := hbb.cell (i - 1).toNat
  rw [Array.getElem?_eq_getElem hsz] at cx
  generalize cs[(i - 1).toNat] = u at *
  have fx := hbb.free (i - 1).toNat
  obtain ⟨_, _, g1, g2, _, _⟩ := plc_some L n i p hp (plc_ge hp)
  have hnl := nd_len L n
  obtain ⟨j, rfl⟩ : ∃ j : Nat, i = (j : Int) + 1 := ⟨(i - 1).toNat, by omega⟩
  rw [show ((j : Int) + 1 - 1).toNat = j by omega] at cx fx H2 T2
  have hj : j < (nd L n).length := by omega
  have hz : (nd L n).length ≤ 100000 := by omega
  have hwr : IntKind.i64.wrap ((j : Int) + 1 - 1) = j := by rw [show (j : Int) + 1 - 1 = j by omega]; exact IntWalk.i64_in _ (by omega)
  clear h hw hp hr hwi h2 ht hbb hsz g1 g2 hnl hl hlt
  generalize (nd L n).length = z at *
  go_enter Try.func22, Try.ntmps22
  go_wp2_with fail
  refine NE.out.mono ?_
  rintro e w1 ⟨rfl, rfl⟩
  go_wp2_with fail
  refine RI.out.mono ?_
  rintro e w1 ⟨rfl, rfl⟩
  go_wp2_with fail
  go_ret
  exact ⟨rfl, H2.out, T2.out⟩
set_option maxRecDepth 100000 in
set_option maxHeartbeats 2000000 in
theorem clear_any {B g b c : Nat} {L : List C2} {n : Int} {w : World} (h : CAt w B g b L c) (hw : (Lit.int .i64 n).wf = true) :
    Calls Try.prog 24 #[.pointer (some ⟨g, 0, none⟩), .int .i64 n] w fun e w' => e = .returned (.int .i64 ((nd L n).length : Nat)) ∧ ∃ c', CAt w' B g b (woL L n) c' ∧ Tch B b w w' ∧ c' ≤ c := by
  have LE := Lib.hid (len_any h hw)
  obtain ⟨W', c', hrun, h2, ht, hc⟩ := h.drop hw 0
  have H2 := Lib.hid h2
  have T2 := Lib.hid ht
  have c0 := h.blk.cell 0
  generalize (nd L n).length = z at *
  clear h hw h2 ht
  go_enter Try.func24, Try.ntmps24
  go_wp2_with fail
  refine LE.out.mono ?_
  rintro e w1 ⟨rfl, rfl⟩
  go_wp2_with fail
  go_ret
  exact ⟨rfl, _, H2.out, T2.out, hc⟩
end Go.Proofs.Ytknkcdhdfojifaa.ch
