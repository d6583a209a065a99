/-
  One call of both: the chests and the list.
-/
import Derived.Test.YtknkcdhdfojifaaChG
namespace Go.Proofs.Ytknkcdhdfojifaa.ch
open Go.RowKit
open base (ret_bool ret_int made up Blk Only)
open rk mk
set_option linter.unusedVariables false
set_option linter.unusedSimpArgs false

set_option maxRecDepth 100000 in
set_option maxHeartbeats 400000 in
theorem step1_no (A : Option Addr) (c : Nat) (L : List C2) (n i r : Int) (Bx B g b cn : Nat) (w : World) (hd : CAt w B g b L cn) (ho : Own E2 w Bx 37 (.slice A L.length c) L) (hl : L.length ≤ 1000) (hcn : cn ≤ 1000) (hB : B ≤ w.heap.size) (hX : Bx ≤ w.heap.size) (hwn : (Lit.int .i64 n).wf = true) (he : buildErr L n r ≠ 0) :
    Calls Try.prog 9 #[.pointer (some ⟨g, 0, none⟩), .slice A L.length c, .agg #[.int .i64 1, .int .i64 n, .int .i64 i, .int .i64 r]] w (StepP Bx B g b cn L w) := by
  have hm := made w (.cells #[.int .i64 1, .int .i64 n, .int .i64 i, .int .i64 r] 28)
  have O2 := Lib.hid (rk.Own.below ho hm)
  have D2 := Lib.hid (hd.below hm)
  have BO2 := Lib.hid (Blk.new w 28 #[.int .i64 1, .int .i64 n, .int .i64 i, .int .i64 r])
  have T2_ := Lib.hid (show Tch B b w (w.alloc (.cells #[.int .i64 1, .int .i64 n, .int .i64 i, .int .i64 r] 28)) from Tch.of_below hm)
  have HB := Lib.hid (Nat.le_trans hB hm.size)
  have HX := Lib.hid (Nat.le_trans hX hm.size)
  clear ho hd hm hB hX
  generalize hw2 : w.alloc (.cells #[.int .i64 1, .int .i64 n, .int .i64 i, .int .i64 r] 28) = w2 at *
  have o0 := BO2.out.cell 0
  have o1 := BO2.out.cell 1
  have o2 := BO2.out.cell 2
  have o3 := BO2.out.cell 3
  have BN := Lib.hid (build_no (r := r) D2.out hwn he)
  have RL := Lib.hid (rlen_any A c L n w2 (Own.lay O2.out) (by omega))
  have RN := Lib.hid (rneed_any r w2)
  have AE := Lib.hid (show buildErr L n r = if n < 1 then 10 else if oki r = false then 11 else if 4 ≤ (nd L n).length then 12 else 0 from rfl)
  have HE := Lib.hid he
  have hnl := nd_len L n
  generalize buildErr L n r = er at *
  generalize (nd L n).length = z at *
  clear he hwn
  by_cases q1 : n < 1
  · have e1 := AE.out
    rw [if_pos q1] at e1
    subst e1
    clear AE HE
    go_enter Try.func9, Try.ntmps9
    go_wp2_with (rw [hw2])
    refine BN.out.mono ?_
    rintro e w3 ⟨rfl, rfl⟩
    go_wp2_with fail
    refine RL.out.mono ?_
    rintro e w4 ⟨rfl, rfl⟩
    go_wp2_with fail
    go_ret2
    exact ⟨_, _, rfl, D2.out, by omega, O2.out, T2_.out⟩
  cases q2 : oki r with
  | false =>
    have e1 := AE.out
    rw [if_neg q1, if_pos q2] at e1
    subst e1
    rw [q2] at RN
    clear AE HE
    go_enter Try.func9, Try.ntmps9
    go_wp2_with (rw [hw2])
    refine BN.out.mono ?_
    rintro e w3 ⟨rfl, rfl⟩
    go_wp2_with fail
    refine RL.out.mono ?_
    rintro e w4 ⟨rfl, rfl⟩
    go_wp2_with fail
    refine RN.out.mono ?_
    rintro e w5 ⟨rfl, rfl⟩
    go_wp2_with fail
    go_ret2
    exact ⟨_, _, rfl, D2.out, by omega, O2.out, T2_.out⟩
  | true =>
    rw [q2] at RN
    have e1 := AE.out
    rw [if_neg q1, q2, if_neg (by decide)] at e1
    by_cases q3 : 4 ≤ z
    · rw [if_pos q3] at e1
      subst e1
      clear AE HE
      go_enter Try.func9, Try.ntmps9
      go_wp2_with (rw [hw2])
      refine BN.out.mono ?_
      rintro e w3 ⟨rfl, rfl⟩
      go_wp2_with fail
      refine RL.out.mono ?_
      rintro e w4 ⟨rfl, rfl⟩
      go_wp2_with fail
      refine RN.out.mono ?_
      rintro e w5 ⟨rfl, rfl⟩
      go_wp2_with fail
      go_ret2
      exact ⟨_, _, rfl, D2.out, by omega, O2.out, T2_.out⟩
    · rw [if_neg q3] at e1
      exact absurd e1 HE.out
end Go.Proofs.Ytknkcdhdfojifaa.ch
