/-
  Contracts of package access: levels of the reference, needs, what may be done, small ones.
-/
import Derived.Test.YtemkhblogmdleaaDoorAcc
namespace Go.Proofs.YtemkhblogmdleaaDoor.ac
open Go.RowKit
open base (ret_bool ret_int made up Blk Only Nums)
set_option linter.unusedVariables false
set_option linter.unusedSimpArgs false

set_option maxHeartbeats 1000000 in
theorem rlevel_any (o : Int) (A : Option Addr) (ca : Nat) (la : List Int) (B : Option Addr) (cb : Nat) (lb : List Int) (C : Option Addr) (cc : Nat) (lc : List Int) (p : Int) (w : World) (L : Ls w A la B lb C lc) :
    Calls Tryd.prog 9 #[.int .i64 o, .slice A la.length ca, .slice B lb.length cb, .slice C lc.length cc, .int .i64 p] w fun e w' => e = .returned (.int .i64 (levelOf o la lb lc p)) ∧ w' = w := by
  have RA := Lib.hid (ron_any A ca la p w L.a L.la)
  have RB := Lib.hid (ron_any B cb lb p w L.b L.lb)
  have RC := Lib.hid (ron_any C cc lc p w L.c L.lc)
  have LV : Hid (levelOf o la lb lc p = if p < 1 then 0 else if p = o then 4 else if on lc p then 0 else if on la p then 3 else if on lb p then 2 else 1) := Lib.hid rfl
  clear L
  generalize levelOf o la lb lc p = n at *
  generalize on la p = ba at *
  generalize on lb p = bb at *
  generalize on lc p = bc at *
  by_cases h1 : p < 1
  · have hn : n = 0 := by rw [LV.out, if_pos h1]
    subst hn
    go_enter Tryd.func9, Tryd.ntmps9
    go_wp2_with fail
    go_ret
    exact ⟨rfl, rfl⟩
  · by_cases h2 : p = o
    · have hn : n = 4 := by rw [LV.out, if_neg h1, if_pos h2]
      have hpo : (p == o) = true := by simpa using h2
      subst hn
      clear LV h2
      go_enter Tryd.func9, Tryd.ntmps9
      go_wp2_with fail
      go_ret
      exact ⟨rfl, rfl⟩
    · have hpo : (p == o) = false := by simpa using h2
      have hn := LV.out
      rw [if_neg h1, if_neg h2] at hn
      clear LV h2
      cases bc with
      | true =>
        have hn2 : n = 0 := hn
        clear hn
        subst hn2
        go_enter Tryd.func9, Tryd.ntmps9
        go_wp2_with fail
        refine RC.out.mono ?_
        rintro e w2 ⟨rfl, rfl⟩
        go_wp2_with fail
        go_ret
        exact ⟨rfl, rfl⟩
      | false =>
        cases ba with
        | true =>
          have hn2 : n = 3 := hn
          clear hn
          subst hn2
          go_enter Tryd.func9, Tryd.ntmps9
          go_wp2_with fail
          refine RC.out.mono ?_
          rintro e w2 ⟨rfl, rfl⟩
          go_wp2_with fail
          refine RA.out.mono ?_
          rintro e w2 ⟨rfl, rfl⟩
          go_wp2_with fail
          go_ret
          exact ⟨rfl, rfl⟩
        | false =>
          cases bb with
          | true =>
            have hn2 : n = 2 := hn
            clear hn
            subst hn2
            go_enter Tryd.func9, Tryd.ntmps9
            go_wp2_with fail
            refine RC.out.mono ?_
            rintro e w2 ⟨rfl, rfl⟩
            go_wp2_with fail
            refine RA.out.mono ?_
            rintro e w2 ⟨rfl, rfl⟩
            go_wp2_with fail
            refine RB.out.mono ?_
            rintro e w2 ⟨rfl, rfl⟩
            go_wp2_with fail
            go_ret
            exact ⟨rfl, rfl⟩
          | false =>
            have hn2 : n = 1 := hn
            clear hn
            subst hn2
            go_enter Tryd.func9, Tryd.ntmps9
            go_wp2_with fail
            refine RC.out.mono ?_
            rintro e w2 ⟨rfl, rfl⟩
            go_wp2_with fail
            refine RA.out.mono ?_
            rintro e w2 ⟨rfl, rfl⟩
            go_wp2_with fail
            refine RB.out.mono ?_
            rintro e w2 ⟨rfl, rfl⟩
            go_wp2_with fail
            go_ret
            exact ⟨rfl, rfl⟩

/-! Needs -/
def needsOf (p : Int) : Int := if p = 1 then 1 else if p = 2 then 2 else if 3 ≤ p ∧ p ≤ 5 then 3 else if 6 ≤ p ∧ p ≤ 11 then 4 else 5
def nt : List Int := [1, 2, 3, 3, 3, 4, 4, 4, 4, 4, 4]
theorem nt_at : ∀ k : Fin 11, nt.getD k.1 0 = needsOf ((k.1 : Int) + 1) := by decide
def Tab (w : World) : Prop := 0 < w.heap.size ∧ ∀ k, k < 11 → w.cell? ⟨0, k, none⟩ = some (.int .i64 (nt.getD k 0))
theorem Tab.keep {w w' : World} (h : Tab w) (hb : Below w.heap.size w w') : Tab w' := ⟨Nat.lt_of_lt_of_le h.1 hb.size, fun j hj => (hb.cell h.1).trans (h.2 j hj)⟩
set_option maxHeartbeats 1000000 in
theorem needs_any (p : Int) (w : World) (hT : Tab w) (h1 : -9223372036854775808 ≤ p) (h2 : p ≤ 9223372036854775807) :
    Calls Tryd.prog 12 #[.int .i64 p] w fun e w' => e = .returned (.int .i64 (needsOf p)) ∧ w' = w := by
  by_cases q : p < 1
  · have hn : needsOf p = 5 := by unfold needsOf; rw [if_neg (by omega), if_neg (by omega), if_neg (by omega), if_neg (by omega)]
    rw [hn]
    clear hT hn
    go_enter Tryd.func12, Tryd.ntmps12
    go_wp2_with fail
    go_ret
    exact ⟨rfl, rfl⟩
  · by_cases q2 : 11 < p
    · have hn : needsOf p = 5 := by unfold needsOf; rw [if_neg (by omega), if_neg (by omega), if_neg (by omega), if_neg (by omega)]
      rw [hn]
      clear hT hn
      go_enter Tryd.func12, Tryd.ntmps12
      go_wp2_with fail
      go_ret
      exact ⟨rfl, rfl⟩
    · obtain ⟨k, hk⟩ : ∃ k : Nat, p = (k : Int) + 1 := ⟨(p - 1).toNat, by omega⟩
      subst hk
      have hk11 : k < 11 := by omega
      have hc := hT.2 k hk11
      rw [nt_at ⟨k, hk11⟩] at hc
      have hw : IntKind.i64.wrap ((k : Int) + 1 - 1) = (k : Int) := by rw [IntWalk.i64_in _ (by omega)]; omega
      have e1 : (k : Int) + 1 - 1 = (k : Int) := by omega
      change w.cell? ⟨0, k, none⟩ = some (.int .i64 (needsOf ((k : Int) + 1))) at hc
      generalize needsOf ((k : Int) + 1) = n at *
      clear hT
      go_enter Tryd.func12, Tryd.ntmps12
      go_wp2_with fail
      go_ret
      exact ⟨rfl, rfl⟩
set_option maxHeartbeats 1000000 in
theorem rneeds_any (p : Int) (w : World) :
    Calls Tryd.prog 10 #[.int .i64 p] w fun e w' => e = .returned (.int .i64 (needsOf p)) ∧ w' = w := by
  by_cases q1 : p = 1
  · subst q1
    go_enter Tryd.func10, Tryd.ntmps10
    go_wp2_with fail
    go_ret
    exact ⟨rfl, rfl⟩
  · have b1 : (p == 1) = false := by simpa using q1
    by_cases q2 : p = 2
    · subst q2
      go_enter Tryd.func10, Tryd.ntmps10
      go_wp2_with fail
      go_ret
      exact ⟨rfl, rfl⟩
    · have b2 : (p == 2) = false := by simpa using q2
      by_cases q3 : 3 ≤ p ∧ p ≤ 5
      · have hn : needsOf p = 3 := by unfold needsOf; rw [if_neg q1, if_neg q2, if_pos q3]
        obtain ⟨q4, q5⟩ := q3
        rw [hn]
        clear hn q1 q2
        go_enter Tryd.func10, Tryd.ntmps10
        go_wp2_with fail
        go_ret
        exact ⟨rfl, rfl⟩
      · by_cases q6 : 6 ≤ p ∧ p ≤ 11
        · have hn : needsOf p = 4 := by unfold needsOf; rw [if_neg q1, if_neg q2, if_neg q3, if_pos q6]
          obtain ⟨q4, q5⟩ := q6
          have q7 : 3 ≤ p := by omega
          have q8 : ¬ p ≤ 5 := by omega
          rw [hn]
          clear hn q1 q2 q3
          go_enter Tryd.func10, Tryd.ntmps10
          go_wp2_with fail
          go_ret
          exact ⟨rfl, rfl⟩
        · have hn : needsOf p = 5 := by unfold needsOf; rw [if_neg q1, if_neg q2, if_neg q3, if_neg q6]
          rw [hn]
          by_cases q4 : 3 ≤ p
          · have q5 : ¬ p ≤ 5 := by omega
            have q7 : 6 ≤ p := by omega
            have q8 : ¬ p ≤ 11 := by omega
            clear hn q1 q2 q3 q6
            go_enter Tryd.func10, Tryd.ntmps10
            go_wp2_with fail
            go_ret
            exact ⟨rfl, rfl⟩
          · have q7 : ¬ 6 ≤ p := by omega
            clear hn q1 q2 q3 q6
            go_enter Tryd.func10, Tryd.ntmps10
            go_wp2_with fail
            go_ret
            exact ⟨rfl, rfl⟩
set_option maxHeartbeats 1000000 in
theorem may_any (o : Int) (A : Option Addr) (ca : Nat) (la : List Int) (B : Option Addr) (cb : Nat) (lb : List Int) (C : Option Addr) (cc : Nat) (lc : List Int) (p what : Int) (w : World) (h : Ls w A la B lb C lc) (hT : Tab w) (h1 : -9223372036854775808 ≤ what) (h2 : what ≤ 9223372036854775807) :
    Calls Tryd.prog 13 #[.agg #[.int .i64 o, .slice A la.length ca, .slice B lb.length cb, .slice C lc.length cc], .int .i64 p, .int .i64 what] w (LvP (if levelOf o la lb lc p < needsOf what then 31 else 0) w) := by
  have hb := made w (.cells #[.int .i64 o, .slice A la.length ca, .slice B lb.length cb, .slice C lc.length cc] 24)
  have bx : Blk (w.alloc (.cells #[.int .i64 o, .slice A la.length ca, .slice B lb.length cb, .slice C lc.length cc] 24)) w.heap.size 24 #[.int .i64 o, .slice A la.length ca, .slice B lb.length cb, .slice C lc.length cc] := Blk.new _ _ _
  have b0 := bx.cell 0
  have b1 := bx.cell 1
  have b2 := bx.cell 2
  have b3 := bx.cell 3
  have HB := Lib.hid hb
  have LV := Lib.hid (level_any o A ca la B cb lb C cc lc p _ (h.keep hb))
  have TB := Lib.hid (hT.keep hb)
  clear h hb bx hT
  generalize hw1 : w.alloc (.cells #[.int .i64 o, .slice A la.length ca, .slice B lb.length cb, .slice C lc.length cc] 24) = w1 at *
  generalize levelOf o la lb lc p = n at *
  have NE := Lib.hid (fun ws (hT : Tab ws) => needs_any what ws hT h1 h2)
  generalize needsOf what = m at *
  clear h1 h2
  by_cases q : n < m
  · rw [if_pos q]
    go_enter Tryd.func13, Tryd.ntmps13
    go_wp2_with (rw [hw1])
    refine LV.out.mono ?_
    rintro e w2 ⟨rfl, hb2⟩
    have B2 := Lib.hid (up HB.out hb2 HB.out.size)
    have NE2 := Lib.hid (NE.out _ (TB.out.keep hb2))
    clear hb2
    go_wp2_with fail
    refine NE2.out.mono ?_
    rintro e w3 ⟨rfl, rfl⟩
    go_wp2_with fail
    go_ret
    exact ⟨rfl, B2.out⟩
  · rw [if_neg q]
    go_enter Tryd.func13, Tryd.ntmps13
    go_wp2_with (rw [hw1])
    refine LV.out.mono ?_
    rintro e w2 ⟨rfl, hb2⟩
    have B2 := Lib.hid (up HB.out hb2 HB.out.size)
    have NE2 := Lib.hid (NE.out _ (TB.out.keep hb2))
    clear hb2
    go_wp2_with fail
    refine NE2.out.mono ?_
    rintro e w3 ⟨rfl, rfl⟩
    go_wp2_with fail
    go_ret
    exact ⟨rfl, B2.out⟩
def SmP (b : Bool) (w : World) (e : Ending) (w' : World) : Prop := e = .returned (.bool b) ∧ Below w.heap.size w w'
set_option maxHeartbeats 1000000 in
theorem small_any (o : Int) (A : Option Addr) (ca : Nat) (la : List Int) (B : Option Addr) (cb : Nat) (lb : List Int) (C : Option Addr) (cc : Nat) (lc : List Int) (w : World) (h1 : la.length ≤ 9223372036854775807) (h2 : lb.length ≤ 9223372036854775807) (h3 : lc.length ≤ 9223372036854775807) :
    Calls Tryd.prog 7 #[.agg #[.int .i64 o, .slice A la.length ca, .slice B lb.length cb, .slice C lc.length cc]] w (SmP (decide (la.length ≤ 40 ∧ lb.length ≤ 40 ∧ lc.length ≤ 40)) w) := by
  have hb := made w (.cells #[.int .i64 o, .slice A la.length ca, .slice B lb.length cb, .slice C lc.length cc] 24)
  have bx : Blk (w.alloc (.cells #[.int .i64 o, .slice A la.length ca, .slice B lb.length cb, .slice C lc.length cc] 24)) w.heap.size 24 #[.int .i64 o, .slice A la.length ca, .slice B lb.length cb, .slice C lc.length cc] := Blk.new _ _ _
  have b0 := bx.cell 0
  have b1 := bx.cell 1
  have b2 := bx.cell 2
  have b3 := bx.cell 3
  have HB := Lib.hid hb
  clear hb bx
  generalize hw1 : w.alloc (.cells #[.int .i64 o, .slice A la.length ca, .slice B lb.length cb, .slice C lc.length cc] 24) = w1 at *
  by_cases q1 : la.length ≤ 40
  · by_cases q2 : lb.length ≤ 40
    · by_cases q3 : lc.length ≤ 40
      · rw [decide_eq_true ⟨q1, q2, q3⟩]
        go_enter Tryd.func7, Tryd.ntmps7
        go_wp2_with (rw [hw1])
        go_ret
        exact ⟨by first | rfl | exact ret_bool (by simp; omega) | exact ret_bool (by simp [q3]), HB.out⟩
      · rw [decide_eq_false (fun q => q3 q.2.2)]
        go_enter Tryd.func7, Tryd.ntmps7
        go_wp2_with (rw [hw1])
        go_ret
        exact ⟨by first | rfl | exact ret_bool (by simp; omega), HB.out⟩
    · rw [decide_eq_false (fun q => q2 q.2.1)]
      go_enter Tryd.func7, Tryd.ntmps7
      go_wp2_with (rw [hw1])
      go_ret
      exact ⟨by first | rfl | exact ret_bool (by simp; omega), HB.out⟩
  · rw [decide_eq_false (fun q => q1 q.1)]
    go_enter Tryd.func7, Tryd.ntmps7
    go_wp2_with (rw [hw1])
    go_ret
    exact ⟨by first | rfl | exact ret_bool (by simp; omega), HB.out⟩
end Go.Proofs.YtemkhblogmdleaaDoor.ac
