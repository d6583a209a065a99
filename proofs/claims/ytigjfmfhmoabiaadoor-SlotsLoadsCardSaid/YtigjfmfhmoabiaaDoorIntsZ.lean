/-
  A list of numbers that is none: nothing is left.
-/
import Derived.Test.YtigjfmfhmoabiaaDoorVinD
namespace Go.Proofs.YtigjfmfhmoabiaaDoor.vi
open Go.RowKit
open base (ret_bool ret_int made up Nums Only Blk)
open bytes vnum
set_option linter.unusedVariables false
set_option linter.unusedSimpArgs false
def IntsZ (g : Nat) (w : World) (e : Ending) (w' : World) : Prop := e = .returned (.slice none 0 0) ∧ (∃ A c, InAt w' g A [] c true) ∧ Only (fun k => k = g) w w'
set_option maxRecDepth 100000 in
set_option maxHeartbeats 2000000 in
theorem intsz_bad (g : Nat) (most : Int) (w : World) (hgl : g < w.heap.size) (C : Calls Tryd.prog 54 #[.pointer (some ⟨g, 0, none⟩), .int .i64 most] w (BadP g (.int .i64 0) w)) :
    Calls Tryd.prog 31 #[.pointer (some ⟨g, 0, none⟩), .int .i64 most] w (IntsZ g w) := by
  have CC := Lib.hid C
  have hmk := run_make_row' (P := Tryd.prog) 22 3 (.int .i64 0) 8 Tryd.underlying22 info_i64 rfl .i64 .i64 0 (by omega) (by omega)
  rw [show ((0 : Nat) : Int) = 0 from rfl] at hmk
  clear C
  go_enter Tryd.func31, Tryd.ntmps31
  go_wp2_with fail
  refine CC.out.mono ?_
  rintro e w1 ⟨rfl, hi, ho⟩
  have hi2 := hi.below (made w1 (.cells (madeCells #[.int .i64 0] 0) 3))
  have b1 := hi2.blk.cell 1
  have R := Lib.hid (show IntsZ g w (.returned (.slice none 0 0)) (w1.alloc (.cells (madeCells #[.int .i64 0] 0) 3)) from ⟨rfl, ⟨_, _, hi2⟩, ho.alloc _⟩)
  clear hi ho hi2
  go_wp2_with fail
  go_loopw [15] (fun i wr => i = .int .i64 0 ∧ wr = w1.alloc (.cells (madeCells #[.int .i64 0] 0) 3)) (fun i _ => 0)
  case atStart => exact ⟨rfl, rfl⟩
  case round =>
    obtain ⟨rfl, rfl⟩ := hrel
    go_wp2_with fail
    go_ret
    exact R.out
set_option maxRecDepth 100000 in
set_option maxHeartbeats 2000000 in
theorem intsz_fail (g : Nat) (A : Option Addr) (l : List Nat) (c : Nat) (most : Int) (n : Nat) (r : List Nat) (w : World) (h : InAt w g A l c false) (hd : cnt most l = some (n, r)) (hz : rdN n r = none) (hl : l.length ≤ 10000000) :
    Calls Tryd.prog 31 #[.pointer (some ⟨g, 0, none⟩), .int .i64 most] w (IntsZ g w) := by
  have CC := Lib.hid (count_yes g A l c most n r w h hd hl)
  obtain ⟨k, hk, hr, hm, hn⟩ := cnt_some hd
  have hrl : r.length ≤ 10000000 := by rw [hr]; simp; omega
  have hmk := run_make_row' (P := Tryd.prog) 22 3 (.int .i64 0) 8 Tryd.underlying22 info_i64 rfl .i64 .i64 n (by omega) (by omega)
  have Z := Lib.hid hz
  have hgl := h.blk.lt
  clear h hd hk hm hr hz
  go_enter Tryd.func31, Tryd.ntmps31
  go_wp2_with fail
  refine CC.out.mono ?_
  rintro e w1 ⟨rfl, ho, hi⟩
  have R0 : RowAt g w w1.heap.size n 0 (List.replicate n 0) r false (w1.alloc (.cells (madeCells #[.int .i64 0] n) 3)) := by
    obtain ⟨A1, c1, hi⟩ := hi
    exact ⟨made_ints w1 n, by simp, ho.size, by have := ho.size; omega, ho.alloc _, A1, c1, hi.below (made _ _)⟩
  have RR := Lib.hid R0
  clear ho hi R0
  go_wp2_with fail
  go_loopw [15] (fun i wr => ∃ (j : Nat) (W : World) (ys : List Int) (rj : List Nat) (bad : Bool), W = wr ∧ j ≤ n ∧ i = .int .i64 j ∧ RowAt g w w1.heap.size n j ys rj bad wr ∧ rj.length ≤ 10000000 ∧ (bad = true ∧ rj = [] ∨ bad = false ∧ rdN (n - j) rj = none)) (fun i _ => n - (intOf i).toNat)
  case atStart => exact ⟨0, _, _, r, false, rfl, by omega, rfl, RR.out, hrl, .inr ⟨rfl, by rw [Nat.sub_zero]; exact Z.out⟩⟩
  case round =>
    obtain ⟨j, w2, ys, rj, bad, rfl, hj, rfl, hrow, hrjl, hst⟩ := hrel
    have RW := Lib.hid hrow
    have ST := Lib.hid hst
    obtain ⟨A2, c2, hi2⟩ := hrow.at_
    have I2 := Lib.hid hi2
    have b1 := hi2.blk.cell 1
    clear hrow hst hi2 RR
    by_cases hjn : j < n
    · have hlen := RW.out.len
      cases hdz : dec rj with
      | none =>
        have II := Lib.hid (iint_no g A2 rj c2 bad w2 I2.out hdz hrjl)
        clear hdz
        go_wp2_with fail
        refine II.out.mono ?_
        rintro e w3 ⟨rfl, hi, ho⟩
        obtain ⟨hb3, hrow3⟩ := RW.out.next ho ⟨_, _, hi⟩ 0
        have hf := hb3.free j
        have hcj : w3.cell? ⟨w1.heap.size, j, none⟩ = some (.int .i64 (ys.getD j 0)) := OnI.cell hb3 (by omega)
        have R3 := Lib.hid hrow3
        clear ho hi hb3 hrow3 II
        go_wp2_with fail
        refine ⟨⟨j + 1, _, _, _, _, rfl, by omega, by go_num, R3.out, by simp, .inl ⟨rfl, rfl⟩⟩, by simp [intOf]; omega⟩
      | some p =>
        obtain ⟨z, kz⟩ := p
        obtain ⟨rfl, hst⟩ : bad = false ∧ rdN (n - j) rj = none := by
          rcases ST.out with ⟨_, rfl⟩ | hh
          · cases hdz
          · exact hh
        rw [show n - j = (n - (j + 1)) + 1 by omega] at hst
        have REST := Lib.hid (rdN_none hst hdz)
        have II := Lib.hid (iint_yes g A2 rj c2 false z kz w2 I2.out hdz hrjl)
        clear hdz hst
        go_wp2_with fail
        refine II.out.mono ?_
        rintro e w3 ⟨rfl, ho, hi⟩
        obtain ⟨hb3, hrow3⟩ := RW.out.next ho hi z
        have hf := hb3.free j
        have hcj : w3.cell? ⟨w1.heap.size, j, none⟩ = some (.int .i64 (ys.getD j 0)) := OnI.cell hb3 (by omega)
        have R3 := Lib.hid hrow3
        clear ho hi hb3 hrow3 II
        go_wp2_with fail
        refine ⟨⟨j + 1, _, _, _, _, rfl, by omega, by go_num, R3.out, by simp; omega, .inr ⟨rfl, REST.out⟩⟩, by simp [intOf]; omega⟩
    · obtain rfl : j = n := by omega
      obtain ⟨hbad, hrj⟩ : bad = true ∧ rj = [] := by
        rcases ST.out with hb | ⟨_, hh⟩
        · exact hb
        · rw [Nat.sub_self] at hh; simp [rdN] at hh
      subst hbad hrj
      go_wp2_with fail
      go_ret
      exact ⟨rfl, ⟨_, _, I2.out⟩, RW.out.only⟩
end Go.Proofs.YtigjfmfhmoabiaaDoor.vi
