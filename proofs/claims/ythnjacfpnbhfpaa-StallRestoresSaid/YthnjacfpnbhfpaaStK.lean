/-
  Stalls: the layer's fixed answer.
-/
import Derived.Test.YthnjacfpnbhfpaaStE
namespace Go.Proofs.Ythnjacfpnbhfpaa.st
open Go.RowKit
open base (ret_bool ret_int made up Blk Only)
open rk mk
set_option linter.unusedVariables false
set_option linter.unusedSimpArgs false
variable {B g bs bw : Nat} {w w1 w2 w' : World} {s : S3} {tot : Int} {nT nG m : Nat} {P M : Int → Nat}

theorem new_ex (w : World) : Calls Try.prog 7 #[] w fun e w' => ∃ g bs bw, e = .returned (.pointer (some ⟨g, 0, none⟩)) ∧ SX w' w.heap.size g bs bw S0 0 0 ∧ Below w.heap.size w w' := by
  refine (new_any w).mono ?_
  rintro e w1 ⟨rfl, h1, h2⟩
  exact ⟨_, _, _, rfl, h1.sx (Nat.le_refl _) (Nat.le_refl _), h2⟩
theorem tillX (n : Int) (H : SX w B g bs bw s tot m) (hw : (Lit.int .i64 n).wf = true) :
    Calls Try.prog 29 #[.pointer (some ⟨g, 0, none⟩), .int .i64 n] w fun e w' => e = .returned (.tuple #[.int .i64 ((s.T n).getD 0), .int .i64 (if (s.T n).isSome then 0 else 14)]) ∧ w = w' := by
  obtain ⟨nT, nG, P, M, h1, a, b⟩ := H
  exact till_any n h1 hw
theorem totalX (H : SX w B g bs bw s tot m) :
    Calls Try.prog 21 #[.pointer (some ⟨g, 0, none⟩)] w fun e w' => e = .returned (.int .i64 tot) ∧ w = w' := by
  obtain ⟨nT, nG, P, M, h1, a, b⟩ := H
  exact total_any h1
def s1 : S3 := openS S0 7
def s2 : S3 := putS s1 7 1 50
theorem aw_o1 (H : SX w B g bs bw S0 0 0) (hB : B ≤ w.heap.size) : Calls Try.prog 15 #[.pointer (some ⟨g, 0, none⟩), .int .i64 7] w fun e w' => e = .returned (.int .i64 0) ∧ SX w' B g bs bw s1 0 1 ∧ Chg B w w' := by
  have := open_any 7 H (by decide) (by decide) hB
  have e1 : openE S0 7 = 0 := by simp [openE, S0]
  have e2 : openR S0 7 = s1 := by unfold openR; rw [if_neg (by decide), if_neg (by simp [S0])]; rfl
  rw [e1, e2] at this
  exact this
theorem aw_o2 (H : SX w B g bs bw s1 0 1) (hB : B ≤ w.heap.size) : Calls Try.prog 15 #[.pointer (some ⟨g, 0, none⟩), .int .i64 7] w fun e w' => e = .returned (.int .i64 13) ∧ SX w' B g bs bw s1 0 2 ∧ Chg B w w' := by
  have := open_any 7 H (by decide) (by decide) hB
  have e0 : s1.T 7 = some 0 := by simp [s1, openS, put]
  have e1 : openE s1 7 = 13 := by simp [openE, e0]
  have e2 : openR s1 7 = s1 := by unfold openR; rw [if_neg (by decide), if_pos (by rw [e0]; rfl)]
  rw [e1, e2] at this
  exact this
theorem aw_p1 (H : SX w B g bs bw s1 0 2) : Calls Try.prog 16 #[.pointer (some ⟨g, 0, none⟩), .int .i64 7, .int .i64 1, .int .i64 50] w fun e w' => e = .returned (.int .i64 0) ∧ SX w' B g bs bw s2 0 3 ∧ Chg B w w' := by
  have := put_any 7 1 50 H (by decide) (by decide) (by decide)
  have e0 : s1.T 7 = some 0 := by simp [s1, openS, put]
  have e1 : putE s1 7 1 50 = 0 := by
    unfold putE
    rw [if_neg (by rw [e0]; simp), if_neg (by decide), if_neg (by decide), if_neg (by simp [s1, openS, S0]), if_neg (by simp [s1, openS, put])]
  have e2 : putR s1 7 1 50 = s2 := by unfold putR; rw [if_pos e1]; rfl
  rw [e1, e2] at this
  exact this
theorem aw_p2 (H : SX w B g bs bw s2 0 3) : Calls Try.prog 16 #[.pointer (some ⟨g, 0, none⟩), .int .i64 8, .int .i64 2, .int .i64 50] w fun e w' => e = .returned (.int .i64 14) ∧ SX w' B g bs bw s2 0 4 ∧ Chg B w w' := by
  have := put_any 8 2 50 H (by decide) (by decide) (by decide)
  have e1 : putE s2 8 2 50 = 14 := by
    unfold putE
    rw [if_pos]
    simp [s2, putS, s1, openS, put, S0]
  have e2 : putR s2 8 2 50 = s2 := by unfold putR; rw [if_neg (by rw [e1]; decide)]
  rw [e1, e2] at this
  exact this
theorem aw_s (H : SX w B g bs bw s2 0 4) : Calls Try.prog 18 #[.pointer (some ⟨g, 0, none⟩), .int .i64 1] w fun e w' => e = .returned (.tuple #[.int .i64 7, .int .i64 50, .int .i64 0]) ∧ SX w' B g bs bw (soldS s2 1 7 50) 50 4 ∧ Chg B w w' :=
  sell_some 1 7 50 0 H (by decide) (by simp [s2, putS, put]) (by simp [s2, putS, s1, openS, put]) (by decide) (by decide)
set_option maxRecDepth 100000 in
set_option maxHeartbeats 4000000 in
theorem awake_any (w : World) : Calls Try.prog 8 #[] w fun e w' => e = .returned (.bool true) ∧ Below w.heap.size w w' := by
  have N := Lib.hid (new_ex w)
  go_enter Try.func8, Try.ntmps8
  go_wp2_with fail
  refine N.out.mono ?_
  rintro e w1 ⟨g, bs, bw, rfl, h1, b1⟩
  have B1 := Lib.hid b1
  have AD := Lib.hid (aw_o1 h1 b1.size)
  clear h1 b1 N
  go_wp2_with fail
  refine AD.out.mono ?_
  rintro e w2 ⟨rfl, h2, c2⟩
  have B2 := Lib.hid (B1.out.trans (c2.to B1.out.size))
  have AD := Lib.hid (aw_o2 h2 B2.out.size)
  clear h2 c2
  go_wp2_with fail
  refine AD.out.mono ?_
  rintro e w3 ⟨rfl, h3, c3⟩
  have B3 := Lib.hid (B2.out.trans (c3.to B2.out.size))
  have AD := Lib.hid (aw_p1 h3)
  clear h3 c3
  go_wp2_with fail
  refine AD.out.mono ?_
  rintro e w4 ⟨rfl, h4, c4⟩
  have B4 := Lib.hid (B3.out.trans (c4.to B3.out.size))
  have AD := Lib.hid (aw_p2 h4)
  clear h4 c4
  go_wp2_with fail
  refine AD.out.mono ?_
  rintro e w5 ⟨rfl, h5, c5⟩
  have B5 := Lib.hid (B4.out.trans (c5.to B4.out.size))
  have AD := Lib.hid (aw_s h5)
  clear h5 c5
  go_wp2_with fail
  refine AD.out.mono ?_
  rintro e w6 ⟨rfl, h6, c6⟩
  have B6 := Lib.hid (B5.out.trans (c6.to B5.out.size))
  have TI := tillX 7 h6 (by decide)
  have TI := Lib.hid (show Calls Try.prog _ _ w6 (fun e w' => e = .returned (.tuple #[.int .i64 50, .int .i64 0]) ∧ w6 = w') from TI)
  have TO := Lib.hid (totalX h6)
  clear h6 c6
  go_wp2_with fail
  refine TI.out.mono ?_
  rintro e w7 ⟨rfl, rfl⟩
  go_wp2_with fail
  refine TO.out.mono ?_
  rintro e w7 ⟨rfl, rfl⟩
  go_wp2_with fail
  go_ret
  exact ⟨rfl, B6.out⟩
end Go.Proofs.Ythnjacfpnbhfpaa.st
