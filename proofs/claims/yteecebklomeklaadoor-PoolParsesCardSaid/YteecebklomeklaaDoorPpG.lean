/-
  Pools: the law's step, where one is taken: which list comes of it.
-/
import Derived.Test.YteecebklomeklaaDoorPpF
namespace Go.Proofs.YteecebklomeklaaDoor.po
open Go.RowKit
open base (ret_bool ret_int made up Blk Only Nums)
open pnum bytes
set_option linter.unusedVariables false
set_option linter.unusedSimpArgs false
def after (x : List Bool) : Option Nat → List Bool
  | some j => x.set j false
  | none => x
theorem after_len (x : List Bool) (o : Option Nat) : (after x o).length = x.length := by cases o <;> simp [after]
def StepT (w : World) (g gw : Nat) (A : Option Addr) (x : List Bool) (w0 : World) (e : Ending) (w' : World) : Prop :=
  e = .returned (.bool true) ∧ ∃ o x', NextIs x 0 o ∧ x' = after x o ∧ Up w g gw x' w' ∧ Ro w g gw A x' w' ∧ Only (Three g gw A) w0 w'
set_option maxRecDepth 100000 in
set_option maxHeartbeats 2000000 in
theorem step_took (w w0 : World) (g gw : Nat) (A : Option Addr) (c : Nat) (x : List Bool) (z : Int) (hu : Up w g gw x w0) (hr : Ro w g gw A x w0) :
    Calls Tryd.prog 11 #[.pointer (some ⟨g, 0, none⟩), .slice A x.length c, .agg #[.int .i64 1, .int .i64 z]] w0 (StepT w g gw A x w0) := by
  have hb := made w0 (.cells #[.int .i64 1, .int .i64 z] 29)
  have bx : Blk (w0.alloc (.cells #[.int .i64 1, .int .i64 z] 29)) w0.heap.size 29 #[.int .i64 1, .int .i64 z] := Blk.new _ _ _
  have b0 := bx.cell 0
  have b1 := bx.cell 1
  have O1 : Only (Three g gw A) w0 (w0.alloc (.cells #[.int .i64 1, .int .i64 z] 29)) := (Only.refl _ w0).alloc _
  have U1 := hu.below' hb
  have R1 := hr.below hb
  have hxl : x.length ≤ 65536 := by
    obtain ⟨W, c, hp⟩ := hu.at_
    exact hp.small
  obtain ⟨o, hnx⟩ := next_ex x 0
  clear hu hr hb bx
  generalize hw1 : w0.alloc (.cells #[.int .i64 1, .int .i64 z] 29) = w1 at *
  have O := Lib.hid O1
  have U := Lib.hid U1
  have R := Lib.hid R1
  have NXH := Lib.hid hnx
  by_cases qz : 0 ≤ z ∧ z < x.length
  · obtain ⟨z1, z2⟩ := qz
    cases o with
    | none =>
      have T := Lib.hid (take_full U1 hnx)
      clear U1 R1 O1 hnx
      go_enter Tryd.func11, Tryd.ntmps11
      go_wp2_with (rw [hw1])
      refine T.out.mono ?_
      rintro e w2 ⟨rfl, hu2, ho2⟩
      have U2 := Lib.hid hu2
      have R2 := Lib.hid (R.out.two ho2)
      have O2 := Lib.hid (only_tr O.out (two_three (A := A) ho2))
      have RN := Lib.hid (rnext_any A c x 0 none w2 R2.out.lay NXH.out hxl)
      rw [show ((0 : Nat) : Int) = 0 from rfl] at RN
      clear hu2 ho2 T b0 b1
      go_wp2_with fail
      refine RN.out.mono ?_
      rintro e w3 ⟨he, rfl⟩
      obtain rfl : e = .returned (.int .i64 (-1)) := he
      clear RN
      go_wp2_with fail
      go_ret
      exact ⟨rfl, none, x, NXH.out, rfl, U2.out, R2.out, O2.out⟩
    | some j =>
      have hjx := hnx.2.1
      have T := Lib.hid (take_up U1 hnx)
      clear U1 R1 O1 hnx
      go_enter Tryd.func11, Tryd.ntmps11
      go_wp2_with (rw [hw1])
      refine T.out.mono ?_
      rintro e w2 ⟨rfl, hu2, ho2⟩
      obtain ⟨gx, rfl, hc, hf, hgl, hR3, hU3, hO3⟩ := (R.out.two ho2).put hjx false
      have hf2 := hf j
      have P3 := Lib.hid (show StepT w g gw (some ⟨gx, 0, none⟩) x w0 (.returned (.bool true)) (w2.setCell ⟨gx, j, none⟩ (.bool false)) from ⟨rfl, some j, x.set j false, NXH.out, rfl, hU3 _ hu2, hR3, only_tr (only_tr O.out (two_three ho2)) hO3⟩)
      have RN := Lib.hid (rnext_any (some ⟨gx, 0, none⟩) c x 0 (some j) w2 (R.out.two ho2).lay NXH.out hxl)
      rw [show ((0 : Nat) : Int) = 0 from rfl] at RN
      clear hu2 ho2 T b0 b1 hf hR3 hU3 hO3
      go_wp2_with fail
      refine RN.out.mono ?_
      rintro e w3 ⟨he, rfl⟩
      obtain rfl : e = .returned (.int .i64 (j : Nat)) := he
      clear RN
      go_wp2_with fail
      go_ret
      exact P3.out
  · by_cases z1 : 0 ≤ z
    · have z2 : ¬ z < x.length := by omega
      clear qz
      cases o with
      | none =>
        have T := Lib.hid (take_full U1 hnx)
        clear U1 R1 O1 hnx
        go_enter Tryd.func11, Tryd.ntmps11
        go_wp2_with (rw [hw1])
        refine T.out.mono ?_
        rintro e w2 ⟨rfl, hu2, ho2⟩
        have U2 := Lib.hid hu2
        have R2 := Lib.hid (R.out.two ho2)
        have O2 := Lib.hid (only_tr O.out (two_three (A := A) ho2))
        have RN := Lib.hid (rnext_any A c x 0 none w2 R2.out.lay NXH.out hxl)
        rw [show ((0 : Nat) : Int) = 0 from rfl] at RN
        clear hu2 ho2 T b0 b1
        go_wp2_with fail
        refine RN.out.mono ?_
        rintro e w3 ⟨he, rfl⟩
        obtain rfl : e = .returned (.int .i64 (-1)) := he
        clear RN
        go_wp2_with fail
        go_ret
        exact ⟨rfl, none, x, NXH.out, rfl, U2.out, R2.out, O2.out⟩
      | some j =>
        have hjx := hnx.2.1
        have T := Lib.hid (take_up U1 hnx)
        clear U1 R1 O1 hnx
        go_enter Tryd.func11, Tryd.ntmps11
        go_wp2_with (rw [hw1])
        refine T.out.mono ?_
        rintro e w2 ⟨rfl, hu2, ho2⟩
        obtain ⟨gx, rfl, hc, hf, hgl, hR3, hU3, hO3⟩ := (R.out.two ho2).put hjx false
        have hf2 := hf j
        have P3 := Lib.hid (show StepT w g gw (some ⟨gx, 0, none⟩) x w0 (.returned (.bool true)) (w2.setCell ⟨gx, j, none⟩ (.bool false)) from ⟨rfl, some j, x.set j false, NXH.out, rfl, hU3 _ hu2, hR3, only_tr (only_tr O.out (two_three ho2)) hO3⟩)
        have RN := Lib.hid (rnext_any (some ⟨gx, 0, none⟩) c x 0 (some j) w2 (R.out.two ho2).lay NXH.out hxl)
        rw [show ((0 : Nat) : Int) = 0 from rfl] at RN
        clear hu2 ho2 T b0 b1 hf hR3 hU3 hO3
        go_wp2_with fail
        refine RN.out.mono ?_
        rintro e w3 ⟨he, rfl⟩
        obtain rfl : e = .returned (.int .i64 (j : Nat)) := he
        clear RN
        go_wp2_with fail
        go_ret
        exact P3.out
    · clear qz
      cases o with
      | none =>
        have T := Lib.hid (take_full U1 hnx)
        clear U1 R1 O1 hnx
        go_enter Tryd.func11, Tryd.ntmps11
        go_wp2_with (rw [hw1])
        refine T.out.mono ?_
        rintro e w2 ⟨rfl, hu2, ho2⟩
        have U2 := Lib.hid hu2
        have R2 := Lib.hid (R.out.two ho2)
        have O2 := Lib.hid (only_tr O.out (two_three (A := A) ho2))
        have RN := Lib.hid (rnext_any A c x 0 none w2 R2.out.lay NXH.out hxl)
        rw [show ((0 : Nat) : Int) = 0 from rfl] at RN
        clear hu2 ho2 T b0 b1
        go_wp2_with fail
        refine RN.out.mono ?_
        rintro e w3 ⟨he, rfl⟩
        obtain rfl : e = .returned (.int .i64 (-1)) := he
        clear RN
        go_wp2_with fail
        go_ret
        exact ⟨rfl, none, x, NXH.out, rfl, U2.out, R2.out, O2.out⟩
      | some j =>
        have hjx := hnx.2.1
        have T := Lib.hid (take_up U1 hnx)
        clear U1 R1 O1 hnx
        go_enter Tryd.func11, Tryd.ntmps11
        go_wp2_with (rw [hw1])
        refine T.out.mono ?_
        rintro e w2 ⟨rfl, hu2, ho2⟩
        obtain ⟨gx, rfl, hc, hf, hgl, hR3, hU3, hO3⟩ := (R.out.two ho2).put hjx false
        have hf2 := hf j
        have P3 := Lib.hid (show StepT w g gw (some ⟨gx, 0, none⟩) x w0 (.returned (.bool true)) (w2.setCell ⟨gx, j, none⟩ (.bool false)) from ⟨rfl, some j, x.set j false, NXH.out, rfl, hU3 _ hu2, hR3, only_tr (only_tr O.out (two_three ho2)) hO3⟩)
        have RN := Lib.hid (rnext_any (some ⟨gx, 0, none⟩) c x 0 (some j) w2 (R.out.two ho2).lay NXH.out hxl)
        rw [show ((0 : Nat) : Int) = 0 from rfl] at RN
        clear hu2 ho2 T b0 b1 hf hR3 hU3 hO3
        go_wp2_with fail
        refine RN.out.mono ?_
        rintro e w3 ⟨he, rfl⟩
        obtain rfl : e = .returned (.int .i64 (j : Nat)) := he
        clear RN
        go_wp2_with fail
        go_ret
        exact P3.out
end Go.Proofs.YteecebklomeklaaDoor.po
