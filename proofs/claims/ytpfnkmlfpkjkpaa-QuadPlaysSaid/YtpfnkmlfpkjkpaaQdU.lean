/-
  Quads: the law's fixed answer.
-/
import Derived.Test.YtpfnkmlfpkjkpaaQdT
namespace Go.Proofs.Ytpfnkmlfpkjkpaa.qd
open Go.RowKit Go.Shelf
open base (ret_bool ret_int made up Blk Only)
open rect rgm
set_option linter.unusedVariables false
set_option linter.unusedSimpArgs false
attribute [local go_sem] Oper.semAt_some

set_option maxRecDepth 100000 in
set_option maxHeartbeats 4000000 in
theorem awake_any (w : World) : Calls Try.prog 9 #[] w fun e w' => e = .returned (.bool true) ∧ Below w.heap.size w w' := by
  have NY := Lib.hid (show Calls Try.prog 27 #[.int .i64 4] w _ from new_yes 2 w (by omega))
  have r1 : rightB 0 0 2 2 = true := by decide
  have S1 := Lib.hid (fun (W : World) (h : QAt W w.heap.size 2 (.leaf 0)) => (show Calls Try.prog 28 #[.pointer (some ⟨w.heap.size, 0, none⟩), (.agg #[.int .i64 0, .int .i64 0, .int .i64 2, .int .i64 2]), .int .i64 1] W _ from qset_yes w.heap.size 2 (.leaf 0) 0 0 2 2 1 W h ⟨r1, by decide⟩ (by decide)))
  have S2 := Lib.hid (fun (W : World) (q : Q) (h : QAt W w.heap.size 2 q) => qset_out w.heap.size 2 q 0 0 5 1 1 W h (by unfold inB; simp))
  have A1 := Lib.hid (fun (W : World) (q : Q) (h : QAt W w.heap.size 2 q) => at_any w.heap.size 2 q 1 1 W h)
  have N1 := Lib.hid (fun (W : World) (q : Q) (h : QAt W w.heap.size 2 q) => qnodes_any w.heap.size 2 q W h)
  have C1 := Lib.hid (fun (W : World) (q : Q) (h : QAt W w.heap.size 2 q) => count_any w.heap.size 2 q 1 W h)
  have Y1 := Lib.hid (fun (W : World) (q : Q) (h : QAt W w.heap.size 2 q) => any_any w.heap.size 2 q 1 1 9 9 1 W h)
  clear r1
  go_enter Try.func9, Try.ntmps9
  go_wp2_with fail
  refine NY.out.mono ?_
  rintro e w1 ⟨rfl, hb1, hq1⟩
  have B1 := Lib.hid hb1
  have Q1 := Lib.hid hq1
  clear hb1 hq1 NY
  go_wp2_with fail
  refine (S1.out _ Q1.out).mono ?_
  rintro e w2 ⟨rfl, q', hs⟩
  have AF := Lib.hid (aw_facts hs.sem)
  have Q2 := Lib.hid hs.at_
  have B2 := Lib.hid (B1.out.trans (Only.to_below hs.only (fun i hi e => by rcases e with e | e <;> first | omega | exact e) B1.out.size))
  clear hs S1
  go_wp2_with fail
  refine (S2.out _ _ Q2.out).mono ?_
  rintro e w3 ⟨rfl, hb3⟩
  have Q3 := Lib.hid (Q2.out.below hb3)
  have B3 := Lib.hid (up B2.out hb3 B2.out.size)
  clear hb3
  go_wp2_with fail
  refine (A1.out _ _ Q3.out).mono ?_
  rintro e w4 ⟨rfl, hb4⟩
  have Q4 := Lib.hid (Q3.out.below hb4)
  have B4 := Lib.hid (up B3.out hb4 B3.out.size)
  clear hb4
  rw [AF.out.1]
  have e1 : hv [(0, 0, 2, 1)] = 1 := rfl
  have e2 : (!([(0, 0, 2, 1)] : List Lf).isEmpty) = true := rfl
  rw [e1, e2]
  go_wp2_with fail
  refine (N1.out _ _ Q4.out).mono ?_
  rintro e w5 ⟨rfl, rfl⟩
  rw [AF.out.2.1]
  go_wp2_with fail
  refine (C1.out _ _ Q4.out).mono ?_
  rintro e w6 ⟨rfl, hb6⟩
  have Q6 := Lib.hid (Q4.out.below hb6)
  have B6 := Lib.hid (up B4.out hb6 B4.out.size)
  clear hb6
  rw [show cnt 1 (lv q' 2 0 0 0 0 ((2 ^ 2 : Nat) : Int) ((2 ^ 2 : Nat) : Int)) = 4 from AF.out.2.2.1]
  go_wp2_with fail
  refine (Y1.out _ _ Q6.out).mono ?_
  rintro e w7 ⟨rfl, hb7⟩
  have B7 := Lib.hid (up B6.out hb7 B6.out.size)
  clear hb7
  rw [AF.out.2.2.2]
  go_wp2_with fail
  go_ret
  exact ⟨rfl, B7.out⟩
end Go.Proofs.Ytpfnkmlfpkjkpaa.qd
