/-
  The layer's fixed answer.
-/
import Derived.Test.YtknkcdhdfojifaaChE
namespace Go.Proofs.Ytknkcdhdfojifaa.ch
open Go.RowKit
open base (ret_bool ret_int made up Blk Only)
open rk mk
set_option linter.unusedVariables false
set_option linter.unusedSimpArgs false

set_option maxRecDepth 100000 in
set_option maxHeartbeats 4000000 in
theorem awake_any (w : World) : Calls Try.prog 8 #[] w fun e w' => e = .returned (.bool true) ∧ Below w.heap.size w w' := by
  have NW := Lib.hid (new_any w.heap.size w (Nat.le_refl _))
  have RO := Lib.hid (fun ws => room_any 16 ws)
  rw [show roomErr 16 = 12 from rfl] at RO
  go_enter Try.func8, Try.ntmps8
  go_wp2_with fail
  refine NW.out.mono ?_
  rintro e w1 ⟨rfl, hc1, hb1⟩
  have B1 := Lib.hid hb1
  have BU := Lib.hid (build_yes (n := 7) (r := 3) hc1 rfl (by decide) (by decide) hb1.size (by decide))
  rw [show (((nd [] 7).length + 1 : Nat) : Int) = 1 from rfl, List.nil_append] at BU
  clear hc1 hb1
  go_wp2_with fail
  refine BU.out.mono ?_
  rintro e w2 ⟨rfl, c2, hc2, ht2, -⟩
  have B2 := Lib.hid (B1.out.trans (Tch.to ht2 (Nat.le_refl _) B1.out.size))
  have M1 := Lib.hid (may_any (n := 7) (i := 1) (lv := 2) hc2 rfl rfl (by decide))
  rw [show mayErr [((7 : Int), (3 : Int))] 7 1 2 = 31 from by decide] at M1
  have M2 := Lib.hid (may_any (n := 7) (i := 1) (lv := 3) hc2 rfl rfl (by decide))
  rw [show mayErr [((7 : Int), (3 : Int))] 7 1 3 = 0 from by decide] at M2
  have M3 := Lib.hid (may_any (n := 7) (i := 2) (lv := 4) hc2 rfl rfl (by decide))
  rw [show mayErr [((7 : Int), (3 : Int))] 7 2 4 = 14 from by decide] at M3
  have LE := Lib.hid (len_any (n := 7) hc2 rfl)
  rw [show (((nd [((7 : Int), (3 : Int))] 7).length : Nat) : Int) = 1 from rfl] at LE
  clear hc2 ht2
  go_wp2_with fail
  refine M1.out.mono ?_
  rintro e w3 ⟨rfl, rfl⟩
  go_wp2_with fail
  refine M2.out.mono ?_
  rintro e w3 ⟨rfl, rfl⟩
  go_wp2_with fail
  refine M3.out.mono ?_
  rintro e w3 ⟨rfl, rfl⟩
  go_wp2_with fail
  refine LE.out.mono ?_
  rintro e w3 ⟨rfl, rfl⟩
  go_wp2_with fail
  refine (RO.out _).mono ?_
  rintro e w3 ⟨rfl, rfl⟩
  go_wp2_with fail
  go_ret
  exact ⟨rfl, B2.out⟩
end Go.Proofs.Ytknkcdhdfojifaa.ch
