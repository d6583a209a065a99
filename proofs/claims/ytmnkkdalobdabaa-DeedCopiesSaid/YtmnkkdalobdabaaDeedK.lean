/-
  Contracts of package deed: Len, Next; the layer's fixed answer; what a step does to sizes.
-/
import Derived.Test.YtmnkkdalobdabaaDeedJ
namespace Go.Proofs.Ytmnkkdalobdabaa.dd
open Go.RowKit
open base (ret_bool ret_int made up Blk Only Nums)
open rk
set_option linter.unusedVariables false
set_option linter.unusedSimpArgs false

set_option maxHeartbeats 400000 in
theorem len_any (B g : Nat) (L : List D) (nx : Int) (w : World) (h : DAt w B g L nx) : Calls Try.prog 25 #[.pointer (some ⟨g, 0, none⟩)] w fun e w' => e = .returned (.int .i64 L.length) ∧ w' = w := by
  obtain ⟨A, c, hb, _⟩ := h.open_
  have c0 := hb.cell 0
  clear h hb
  go_enter Try.func25, Try.ntmps25
  go_wp2_with fail
  go_ret
  exact ⟨rfl, rfl⟩
set_option maxHeartbeats 400000 in
theorem next_any (B g : Nat) (L : List D) (nx : Int) (w : World) (h : DAt w B g L nx) : Calls Try.prog 26 #[.pointer (some ⟨g, 0, none⟩)] w fun e w' => e = .returned (.int .i64 nx) ∧ w' = w := by
  obtain ⟨A, c, hb, _⟩ := h.open_
  have c0 := hb.cell 1
  clear h hb
  go_enter Try.func26, Try.ntmps26
  go_wp2_with fail
  go_ret
  exact ⟨rfl, rfl⟩
theorem stay (s : St) : s.1.length ≤ s.1.length + 1 ∧ s.2 ≤ s.2 ∧ s.2 ≤ s.2 + 1 := ⟨Nat.le_succ _, Int.le_refl _, by omega⟩
theorem issue_size (s : St) (p h : Int) : (issue s p h).1.1.length ≤ s.1.length + 1 ∧ s.2 ≤ (issue s p h).1.2 ∧ (issue s p h).1.2 ≤ s.2 + 1 := by
  unfold issue
  split
  · exact stay s
  · split
    · exact stay s
    · split
      · exact stay s
      · exact ⟨by simp, by show s.2 ≤ s.2 + 1; omega, by show s.2 + 1 ≤ s.2 + 1; omega⟩
theorem move_size (s : St) (p h : Int) : (move s p h).1.1.length ≤ s.1.length + 1 ∧ s.2 ≤ (move s p h).1.2 ∧ (move s p h).1.2 ≤ s.2 + 1 := by
  unfold move
  split
  · exact stay s
  · split
    · exact stay s
    · split
      · exact stay s
      · split
        · exact stay s
        · exact ⟨by simp, Int.le_refl _, by show s.2 ≤ s.2 + 1; omega⟩
theorem void_size (s : St) (p : Int) : (void s p).1.1.length ≤ s.1.length + 1 ∧ s.2 ≤ (void s p).1.2 ∧ (void s p).1.2 ≤ s.2 + 1 := by
  unfold void
  split
  · exact stay s
  · refine ⟨?_, Int.le_refl _, by show s.2 ≤ s.2 + 1; omega⟩
    have := List.length_eraseIdx_le s.1 (by assumption)
    show (s.1.eraseIdx _).length ≤ _
    omega
theorem step_size (s : St) (k a b : Int) : (stepS s k a b).1.length ≤ s.1.length + 1 ∧ s.2 ≤ (stepS s k a b).2 ∧ (stepS s k a b).2 ≤ s.2 + 1 := by
  unfold stepS
  split
  · exact issue_size s a b
  · split
    · exact move_size s a b
    · split
      · exact void_size s a
      · exact stay s
set_option maxRecDepth 100000 in
set_option maxHeartbeats 4000000 in
theorem awake_any (w : World) : Calls Try.prog 8 #[] w fun e w' => e = .returned (.bool true) ∧ Below w.heap.size w w' := by
  have N := Lib.hid (new_any w)
  go_enter Try.func8, Try.ntmps8
  go_wp2_with fail
  refine N.out.mono ?_
  rintro e w1 ⟨rfl, hd1, hb1⟩
  have D1 := Lib.hid hd1
  have B1 := Lib.hid hb1
  have I1 := Lib.hid (issue_any w.heap.size w.heap.size [] 1 7 1 w1 hd1 (by decide) (by decide) hb1.size)
  rw [show issue (([] : List D), (1 : Int)) 7 1 = (([(1, 7, 1)], 2), 1, 0) from by decide +kernel] at I1
  clear hd1 hb1 N
  go_wp2_with fail
  refine I1.out.mono ?_
  rintro e w2 ⟨rfl, hd2, hb2, -⟩
  have B2 := Lib.hid (B1.out.trans hb2)
  have I2 := Lib.hid (issue_any w.heap.size w.heap.size [(1, 7, 1)] 2 7 2 w2 hd2 (by decide) (by decide) B2.out.size)
  rw [show issue (([(1, 7, 1)] : List D), (2 : Int)) 7 2 = (([(1, 7, 1)], 2), 0, 13) from by decide +kernel] at I2
  clear hd2 hb2 I1
  go_wp2_with fail
  refine I2.out.mono ?_
  rintro e w3 ⟨rfl, hd3, hb3, -⟩
  have B3 := Lib.hid (B2.out.trans hb3)
  have I3 := Lib.hid (void_any w.heap.size w.heap.size [(1, 7, 1)] 2 1 w3 hd3 (by decide) B3.out.size)
  rw [show void (([(1, 7, 1)] : List D), (2 : Int)) 1 = (([], 2), 0) from by decide +kernel] at I3
  clear hd3 hb3 I2
  go_wp2_with fail
  refine I3.out.mono ?_
  rintro e w4 ⟨rfl, hd4, hb4, -⟩
  have B4 := Lib.hid (B3.out.trans hb4)
  have I4 := Lib.hid (issue_any w.heap.size w.heap.size [] 2 7 2 w4 hd4 (by decide) (by decide) B4.out.size)
  rw [show issue (([] : List D), (2 : Int)) 7 2 = (([(2, 7, 2)], 3), 2, 0) from by decide +kernel] at I4
  clear hd4 hb4 I3
  go_wp2_with fail
  refine I4.out.mono ?_
  rintro e w5 ⟨rfl, hd5, hb5, -⟩
  have B5 := Lib.hid (B4.out.trans hb5)
  have LN := Lib.hid (len_any w.heap.size w.heap.size [(2, 7, 2)] 3 w5 hd5)
  have NX := Lib.hid (next_any w.heap.size w.heap.size [(2, 7, 2)] 3 w5 hd5)
  rw [show (([(2, 7, 2)] : List D).length : Int) = 1 from rfl] at LN
  clear hd5 hb5 I4
  go_wp2_with fail
  refine LN.out.mono ?_
  rintro e w6 ⟨rfl, rfl⟩
  go_wp2_with fail
  refine NX.out.mono ?_
  rintro e w7 ⟨rfl, rfl⟩
  go_wp2_with fail
  go_ret
  exact ⟨rfl, B5.out⟩
end Go.Proofs.Ytmnkkdalobdabaa.dd
