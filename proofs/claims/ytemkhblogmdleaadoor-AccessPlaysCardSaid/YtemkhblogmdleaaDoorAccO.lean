/-
  What the law of access says is wrong with a call of Set.
-/
import Derived.Test.YtemkhblogmdleaaDoorAccN
namespace Go.Proofs.YtemkhblogmdleaaDoor.acw
open Go.RowKit
open base (ret_bool ret_int made up Blk Only Nums)
open rk il
set_option linter.unusedVariables false
set_option linter.unusedSimpArgs false

def wrongOf (o p : Int) (on is : Bool) (n : Nat) : Int := if p = o then 38 else if on then (if is then 13 else if 16 ≤ n then 12 else 0) else (if is then 0 else 14)
theorem ix0 (p q r : Value) : ∀ w, (Instr.index 32 (.agg #[p, q, r]) (.int .i64 0)).run Tryd.prog w = .ok p w := fun _ => by kernel_rfl
theorem ix1 (p q r : Value) : ∀ w, (Instr.index 32 (.agg #[p, q, r]) (.int .i64 1)).run Tryd.prog w = .ok q w := fun _ => by kernel_rfl
theorem ix2 (p q r : Value) : ∀ w, (Instr.index 32 (.agg #[p, q, r]) (.int .i64 2)).run Tryd.prog w = .ok r w := fun _ => by kernel_rfl
set_option maxRecDepth 100000 in
set_option maxHeartbeats 2000000 in
theorem wrong_1 (o : Int) (A : Option Addr) (ca : Nat) (la : List Int) (B : Option Addr) (cb : Nat) (lb : List Int) (C : Option Addr) (cc : Nat) (lc : List Int) (p : Int) (on : Bool) (w : World) (h1 : 1 ≤ p) (h2 : p ≤ 256) (hL : Nums .i64 w A la) (hl : la.length ≤ 100000) :
    Calls Tryd.prog 20 #[.agg #[.int .i64 o, .slice A la.length ca, .slice B lb.length cb, .slice C lc.length cc], .int .i64 1, .int .i64 p, .bool on] w fun e w' => e = .returned (.int .i64 (wrongOf o p on (ac.on la p) la.length)) ∧ Below w.heap.size w w' := by
  have bx : Blk (w.alloc (.cells #[.int .i64 o, .slice A la.length ca, .slice B lb.length cb, .slice C lc.length cc] 24)) w.heap.size 24 #[.int .i64 o, .slice A la.length ca, .slice B lb.length cb, .slice C lc.length cc] := Blk.new _ _ _
  have hm := made w (.cells #[.int .i64 o, .slice A la.length ca, .slice B lb.length cb, .slice C lc.length cc] 24)
  have BX := Lib.hid bx
  have HB := Lib.hid hm
  have RO := Lib.hid (ac.ron_any A ca la p (w.alloc (.cells #[.int .i64 o, .slice A la.length ca, .slice B lb.length cb, .slice C lc.length cc] 24)) (hL.keep hm) (by omega))
  have k1 : decide (p < 1) = false := decide_eq_false (by omega)
  have k2 : decide (p > 256) = false := decide_eq_false (by omega)
  have hix := ix0 (.slice A la.length ca) (.slice B lb.length cb) (.slice C lc.length cc)
  have WO := Lib.hid (show wrongOf o p on (ac.on la p) la.length = if p = o then 38 else if on then (if ac.on la p then 13 else if 16 ≤ la.length then 12 else 0) else (if ac.on la p then 0 else 14) from rfl)
  generalize wrongOf o p on (ac.on la p) la.length = r at *
  generalize ac.on la p = is at *
  have x0 := bx.cell 0
  have x1 := bx.cell 1
  have x2 := bx.cell 2
  have x3 := bx.cell 3
  clear bx hm hL h1 h2
  generalize hw2 : w.alloc (.cells #[.int .i64 o, .slice A la.length ca, .slice B lb.length cb, .slice C lc.length cc] 24) = w2 at *
  by_cases q : p = o
  · rw [if_pos q] at WO
    obtain rfl := WO.out
    have kq : (p == o) = true := by simpa using q
    clear q
    go_enter Tryd.func20, Tryd.ntmps20
    go_wp2_with (rw [hw2])
    refine RO.out.mono ?_
    rintro e w3 ⟨rfl, rfl⟩
    go_wp2_with fail
    go_ret
    exact ⟨rfl, HB.out⟩
  rw [if_neg q] at WO
  have kq : (p == o) = false := by simpa using q
  clear q
  by_cases q2 : 16 ≤ la.length
  · have kl : decide ((la.length : Int) ≥ 16) = true := decide_eq_true (by omega)
    rw [if_pos q2] at WO
    clear q2
    cases on <;> cases is <;> (obtain rfl := WO.out; go_enter Tryd.func20, Tryd.ntmps20; go_wp2_with (rw [hw2]); refine RO.out.mono ?_; rintro e w3 ⟨rfl, rfl⟩; go_wp2_with fail; go_ret; exact ⟨by simp, HB.out⟩)
  · have kl : decide ((la.length : Int) ≥ 16) = false := decide_eq_false (by omega)
    rw [if_neg q2] at WO
    clear q2
    cases on <;> cases is <;> (obtain rfl := WO.out; go_enter Tryd.func20, Tryd.ntmps20; go_wp2_with (rw [hw2]); refine RO.out.mono ?_; rintro e w3 ⟨rfl, rfl⟩; go_wp2_with fail; go_ret; exact ⟨by simp, HB.out⟩)
set_option maxRecDepth 100000 in
set_option maxHeartbeats 2000000 in
theorem wrong_2 (o : Int) (A : Option Addr) (ca : Nat) (la : List Int) (B : Option Addr) (cb : Nat) (lb : List Int) (C : Option Addr) (cc : Nat) (lc : List Int) (p : Int) (on : Bool) (w : World) (h1 : 1 ≤ p) (h2 : p ≤ 256) (hL : Nums .i64 w B lb) (hl : lb.length ≤ 100000) :
    Calls Tryd.prog 20 #[.agg #[.int .i64 o, .slice A la.length ca, .slice B lb.length cb, .slice C lc.length cc], .int .i64 2, .int .i64 p, .bool on] w fun e w' => e = .returned (.int .i64 (wrongOf o p on (ac.on lb p) lb.length)) ∧ Below w.heap.size w w' := by
  have bx : Blk (w.alloc (.cells #[.int .i64 o, .slice A la.length ca, .slice B lb.length cb, .slice C lc.length cc] 24)) w.heap.size 24 #[.int .i64 o, .slice A la.length ca, .slice B lb.length cb, .slice C lc.length cc] := Blk.new _ _ _
  have hm := made w (.cells #[.int .i64 o, .slice A la.length ca, .slice B lb.length cb, .slice C lc.length cc] 24)
  have BX := Lib.hid bx
  have HB := Lib.hid hm
  have RO := Lib.hid (ac.ron_any B cb lb p (w.alloc (.cells #[.int .i64 o, .slice A la.length ca, .slice B lb.length cb, .slice C lc.length cc] 24)) (hL.keep hm) (by omega))
  have k1 : decide (p < 1) = false := decide_eq_false (by omega)
  have k2 : decide (p > 256) = false := decide_eq_false (by omega)
  have hix := ix1 (.slice A la.length ca) (.slice B lb.length cb) (.slice C lc.length cc)
  have WO := Lib.hid (show wrongOf o p on (ac.on lb p) lb.length = if p = o then 38 else if on then (if ac.on lb p then 13 else if 16 ≤ lb.length then 12 else 0) else (if ac.on lb p then 0 else 14) from rfl)
  generalize wrongOf o p on (ac.on lb p) lb.length = r at *
  generalize ac.on lb p = is at *
  have x0 := bx.cell 0
  have x1 := bx.cell 1
  have x2 := bx.cell 2
  have x3 := bx.cell 3
  clear bx hm hL h1 h2
  generalize hw2 : w.alloc (.cells #[.int .i64 o, .slice A la.length ca, .slice B lb.length cb, .slice C lc.length cc] 24) = w2 at *
  by_cases q : p = o
  · rw [if_pos q] at WO
    obtain rfl := WO.out
    have kq : (p == o) = true := by simpa using q
    clear q
    go_enter Tryd.func20, Tryd.ntmps20
    go_wp2_with (rw [hw2])
    refine RO.out.mono ?_
    rintro e w3 ⟨rfl, rfl⟩
    go_wp2_with fail
    go_ret
    exact ⟨rfl, HB.out⟩
  rw [if_neg q] at WO
  have kq : (p == o) = false := by simpa using q
  clear q
  by_cases q2 : 16 ≤ lb.length
  · have kl : decide ((lb.length : Int) ≥ 16) = true := decide_eq_true (by omega)
    rw [if_pos q2] at WO
    clear q2
    cases on <;> cases is <;> (obtain rfl := WO.out; go_enter Tryd.func20, Tryd.ntmps20; go_wp2_with (rw [hw2]); refine RO.out.mono ?_; rintro e w3 ⟨rfl, rfl⟩; go_wp2_with fail; go_ret; exact ⟨by simp, HB.out⟩)
  · have kl : decide ((lb.length : Int) ≥ 16) = false := decide_eq_false (by omega)
    rw [if_neg q2] at WO
    clear q2
    cases on <;> cases is <;> (obtain rfl := WO.out; go_enter Tryd.func20, Tryd.ntmps20; go_wp2_with (rw [hw2]); refine RO.out.mono ?_; rintro e w3 ⟨rfl, rfl⟩; go_wp2_with fail; go_ret; exact ⟨by simp, HB.out⟩)
set_option maxRecDepth 100000 in
set_option maxHeartbeats 2000000 in
theorem wrong_3 (o : Int) (A : Option Addr) (ca : Nat) (la : List Int) (B : Option Addr) (cb : Nat) (lb : List Int) (C : Option Addr) (cc : Nat) (lc : List Int) (p : Int) (on : Bool) (w : World) (h1 : 1 ≤ p) (h2 : p ≤ 256) (hL : Nums .i64 w C lc) (hl : lc.length ≤ 100000) :
    Calls Tryd.prog 20 #[.agg #[.int .i64 o, .slice A la.length ca, .slice B lb.length cb, .slice C lc.length cc], .int .i64 3, .int .i64 p, .bool on] w fun e w' => e = .returned (.int .i64 (wrongOf o p on (ac.on lc p) lc.length)) ∧ Below w.heap.size w w' := by
  have bx : Blk (w.alloc (.cells #[.int .i64 o, .slice A la.length ca, .slice B lb.length cb, .slice C lc.length cc] 24)) w.heap.size 24 #[.int .i64 o, .slice A la.length ca, .slice B lb.length cb, .slice C lc.length cc] := Blk.new _ _ _
  have hm := made w (.cells #[.int .i64 o, .slice A la.length ca, .slice B lb.length cb, .slice C lc.length cc] 24)
  have BX := Lib.hid bx
  have HB := Lib.hid hm
  have RO := Lib.hid (ac.ron_any C cc lc p (w.alloc (.cells #[.int .i64 o, .slice A la.length ca, .slice B lb.length cb, .slice C lc.length cc] 24)) (hL.keep hm) (by omega))
  have k1 : decide (p < 1) = false := decide_eq_false (by omega)
  have k2 : decide (p > 256) = false := decide_eq_false (by omega)
  have hix := ix2 (.slice A la.length ca) (.slice B lb.length cb) (.slice C lc.length cc)
  have WO := Lib.hid (show wrongOf o p on (ac.on lc p) lc.length = if p = o then 38 else if on then (if ac.on lc p then 13 else if 16 ≤ lc.length then 12 else 0) else (if ac.on lc p then 0 else 14) from rfl)
  generalize wrongOf o p on (ac.on lc p) lc.length = r at *
  generalize ac.on lc p = is at *
  have x0 := bx.cell 0
  have x1 := bx.cell 1
  have x2 := bx.cell 2
  have x3 := bx.cell 3
  clear bx hm hL h1 h2
  generalize hw2 : w.alloc (.cells #[.int .i64 o, .slice A la.length ca, .slice B lb.length cb, .slice C lc.length cc] 24) = w2 at *
  by_cases q : p = o
  · rw [if_pos q] at WO
    obtain rfl := WO.out
    have kq : (p == o) = true := by simpa using q
    clear q
    go_enter Tryd.func20, Tryd.ntmps20
    go_wp2_with (rw [hw2])
    refine RO.out.mono ?_
    rintro e w3 ⟨rfl, rfl⟩
    go_wp2_with fail
    go_ret
    exact ⟨rfl, HB.out⟩
  rw [if_neg q] at WO
  have kq : (p == o) = false := by simpa using q
  clear q
  by_cases q2 : 16 ≤ lc.length
  · have kl : decide ((lc.length : Int) ≥ 16) = true := decide_eq_true (by omega)
    rw [if_pos q2] at WO
    clear q2
    cases on <;> cases is <;> (obtain rfl := WO.out; go_enter Tryd.func20, Tryd.ntmps20; go_wp2_with (rw [hw2]); refine RO.out.mono ?_; rintro e w3 ⟨rfl, rfl⟩; go_wp2_with fail; go_ret; exact ⟨by simp, HB.out⟩)
  · have kl : decide ((lc.length : Int) ≥ 16) = false := decide_eq_false (by omega)
    rw [if_neg q2] at WO
    clear q2
    cases on <;> cases is <;> (obtain rfl := WO.out; go_enter Tryd.func20, Tryd.ntmps20; go_wp2_with (rw [hw2]); refine RO.out.mono ?_; rintro e w3 ⟨rfl, rfl⟩; go_wp2_with fail; go_ret; exact ⟨by simp, HB.out⟩)
end Go.Proofs.YtemkhblogmdleaaDoor.acw
