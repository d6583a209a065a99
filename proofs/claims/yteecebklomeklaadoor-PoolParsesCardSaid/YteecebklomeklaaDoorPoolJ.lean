/-
  Contracts of package pool and of the law's helpers: a pool behind some calls.
-/
import Derived.Test.YteecebklomeklaaDoorPoolS
import Derived.Test.YteecebklomeklaaDoorStructs
namespace Go.Proofs.YteecebklomeklaaDoor.po
open Go.ChangeShapes Go.WideShapes Go.ChangeAt Go.RowKit
open pnum
open base (ret_bool ret_int made up Blk Only Nums IntRows)
set_option linter.unusedVariables false
set_option linter.unusedSimpArgs false

def PlayedP (w : World) (n : Nat) (e : Ending) (w' : World) : Prop := ∃ x Ax cx, e = .returned (.tuple #[.pointer (some ⟨w.heap.size + 1, 0, none⟩), .slice Ax n cx]) ∧ x.length = n ∧ Up w (w.heap.size + 1) w.heap.size x w' ∧ Ro w (w.heap.size + 1) w.heap.size Ax x w'
set_option maxHeartbeats 2000000 in
theorem played_yes (w : World) (hT : Tab w) (n : Nat) (A : Option Addr) (m c : Nat) (F : Nat → Nat → Int) (h1 : IntRows w A m 2 F) (hn : n ≤ 300) (hl : m ≤ 200) (hc : m ≤ c) (hm : c ≤ 9223372036854775807) :
    Calls Tryd.prog 13 #[.int .i64 n, .slice A m c] w (PlayedP w n) := by
  have N := Lib.hid (new_up n w (by omega) hT)
  have NN := Lib.hid h1
  clear hT h1
  go_enter Tryd.func13, Tryd.ntmps13
  go_wp2_with fail
  refine N.out.mono ?_
  rintro e w1 ⟨rfl, hu⟩
  have U1 := Lib.hid hu
  have RN := Lib.hid (rnew_any n w1 (by omega))
  clear hu N
  go_wp2_with fail
  refine RN.out.mono ?_
  rintro e w2 ⟨v, rfl, ho, hb⟩
  obtain ⟨Ax, cx, rfl, hxc, hxm, hx⟩ := ho.open_
  have U2 := Lib.hid (U1.out.below' hb)
  have R2 := Lib.hid (show Ro w (w.heap.size + 1) w.heap.size Ax (List.replicate n true) w2 from fun h0 => by
    rcases hx with ⟨_, e, _⟩ | ⟨gx, e, hge, hr⟩
    · rw [e] at h0; simp at h0
    · have := U1.out.lts
      have := U1.out.below.size
      exact ⟨gx, e, hr, by omega, by omega, by omega, by omega⟩)
  clear ho hb hx hxm U1 RN
  rw [List.length_replicate] at hxc ⊢
  go_wp2_with fail
  go_loopw [18] (fun i wr => ∃ (j : Nat) (W : World) (x : List Bool), W = wr ∧ j ≤ m ∧ i = .int .i64 j ∧ x.length = n ∧ Up w (w.heap.size + 1) w.heap.size x wr ∧ Ro w (w.heap.size + 1) w.heap.size Ax x wr) (fun i _ => m - (intOf i).toNat)
  case atStart => exact ⟨0, _, _, rfl, by omega, rfl, by simp, U2.out, R2.out⟩
  case round =>
    obtain ⟨j, w3, x, rfl, hj, rfl, hxl, hu, hr⟩ := hrel
    have XL := Lib.hid hxl
    have U := Lib.hid hu
    have R := Lib.hid hr
    clear hu hr U2 R2 hxl
    by_cases hjm : j < m
    · obtain ⟨b, off, rfl, _, hcell⟩ := (base.IntRows.keep NN.out U.out.below) (by omega)
      have e0 := hcell j hjm 0 (by omega)
      have e1 := hcell j hjm 1 (by omega)
      rw [Nat.add_zero] at e0
      clear hcell
      generalize F j 0 = K at *
      generalize F j 1 = z at *
      have hbx := made w3 (.cells #[.int .i64 K, .int .i64 z] 29)
      have ST := Lib.hid (step_any w _ _ _ Ax cx x K z (U.out.below' hbx) (R.out.below hbx))
      rw [XL.out] at ST
      have bx : Blk (w3.alloc (.cells #[.int .i64 K, .int .i64 z] 29)) w3.heap.size 29 #[.int .i64 K, .int .i64 z] := Blk.new _ _ _
      have b0 := bx.cell 0
      have b1 := bx.cell 1
      clear bx hbx
      go_wp2_with fail
      refine ST.out.mono ?_
      rintro e w4 ⟨rfl, x', hx', hu', hr', -⟩
      have U4 := Lib.hid hu'
      have R4 := Lib.hid hr'
      have X4 := Lib.hid hx'
      clear hu' hr' hx' ST b0 b1
      go_wp2_with fail
      refine ⟨⟨j + 1, _, x', rfl, by omega, by go_num, X4.out, U4.out, R4.out⟩, by simp [intOf]; omega⟩
    · obtain rfl : j = m := by omega
      clear NN
      go_wp2_with fail
      go_ret2
      exact ⟨x, Ax, cx, rfl, XL.out, U.out, R.out⟩
end Go.Proofs.YteecebklomeklaaDoor.po
