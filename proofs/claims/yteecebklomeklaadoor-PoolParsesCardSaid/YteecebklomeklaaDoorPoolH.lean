/-
  One call of both: the pool and the list.
-/
import Derived.Test.YteecebklomeklaaDoorPoolG
namespace Go.Proofs.YteecebklomeklaaDoor.po
open Go.RowKit
open base (ret_bool ret_int made up Blk Only Nums)
open pnum
set_option linter.unusedVariables false
set_option linter.unusedSimpArgs false

theorem mark_up {w wr : World} {g gw : Nat} {x : List Bool} {i : Nat} (h : Up w g gw x wr) (hi : i < x.length) (hx : x.getD i false = true) :
    Calls Tryd.prog 28 #[.pointer (some ⟨g, 0, none⟩), .int .i64 i] wr (RetUpO (.int .i64 0) w wr g gw (x.set i false)) := by
  obtain ⟨W, c, hp⟩ := h.at_
  refine (mark_yes g gw W c x i wr hp hi hx).mono ?_
  rintro e w' ⟨rfl, h1, h2⟩
  exact ⟨rfl, h.only h1 h2, h1⟩
theorem mark_twice {w wr : World} {g gw : Nat} {x : List Bool} {i : Nat} (h : Up w g gw x wr) (hi : i < x.length) (hx : x.getD i false = false) :
    Calls Tryd.prog 28 #[.pointer (some ⟨g, 0, none⟩), .int .i64 i] wr (RetUpO (.int .i64 23) w wr g gw x) := by
  obtain ⟨W, c, hp⟩ := h.at_
  refine (mark_no g gw W c x i wr hp hi hx).mono ?_
  rintro e w' ⟨rfl, h1⟩
  exact ⟨rfl, h.nix h1, nix_two h1⟩
theorem mark_far {w wr : World} {g gw : Nat} {x : List Bool} {i : Int} (h : Up w g gw x wr) (hi : i < 0 ∨ x.length ≤ i) :
    Calls Tryd.prog 28 #[.pointer (some ⟨g, 0, none⟩), .int .i64 i] wr (RetUpO (.int .i64 11) w wr g gw x) := by
  obtain ⟨W, c, hp⟩ := h.at_
  refine (mark_out g gw W c x i wr hp hi).mono ?_
  rintro e w' ⟨rfl, rfl⟩
  exact ⟨rfl, h, Only.refl _ _⟩

/-- the list's row -/
def Ro (w : World) (g gw : Nat) (A : Option Addr) (y : List Bool) (wr : World) : Prop := 0 < y.length → ∃ gx, A = some ⟨gx, 0, none⟩ ∧ RowB wr gx y ∧ gx ≠ g ∧ gx ≠ gw ∧ w.heap.size ≤ gx ∧ 0 < gx
theorem Ro.lay {w wr : World} {g gw : Nat} {A : Option Addr} {y : List Bool} (h : Ro w g gw A y wr) : LayB wr A y := fun h0 => by
  obtain ⟨gx, rfl, hr, _⟩ := h h0
  exact hr.lay h0
theorem Ro.below {w wr wr' : World} {g gw : Nat} {A : Option Addr} {y : List Bool} (h : Ro w g gw A y wr) (hb : Below wr.heap.size wr wr') : Ro w g gw A y wr' := fun h0 => by
  obtain ⟨gx, e, ⟨cs, hr, hc⟩, rest⟩ := h h0
  exact ⟨gx, e, ⟨cs, hr.below hb hr.lt, hc⟩, rest⟩
theorem Ro.two {w wr wr' : World} {g gw : Nat} {A : Option Addr} {y : List Bool} (h : Ro w g gw A y wr) (ho : Only (Two g gw) wr wr') : Ro w g gw A y wr' := fun h0 => by
  obtain ⟨gx, e, hr, h1, h2, rest⟩ := h h0
  exact ⟨gx, e, hr.only ho (by rintro (q | q) <;> omega), h1, h2, rest⟩
def Three (g gw : Nat) (A : Option Addr) (k : Nat) : Prop := k = g ∨ k = gw ∨ ∃ o, A = some o ∧ o.block = k
theorem Up.below' {w wr wr' : World} {g gw : Nat} {x : List Bool} (h : Up w g gw x wr) (hb : Below wr.heap.size wr wr') : Up w g gw x wr' := by
  obtain ⟨W, c, hp⟩ := h.at_
  exact ⟨⟨W, c, hp.below hb⟩, up h.below hb h.below.size, h.tab.below hb, h.ge⟩
/-- one more place of the row -/
theorem Ro.put {w wr : World} {g gw : Nat} {A : Option Addr} {y : List Bool} (h : Ro w g gw A y wr) {k : Nat} (hk : k < y.length) (b : Bool) :
    ∃ gx, A = some ⟨gx, 0, none⟩ ∧ wr.cell? ⟨gx, k, none⟩ = some (.bool (y.getD k false)) ∧ (∀ j, wr.frozen? ⟨gx, j, none⟩ = false) ∧ gx < wr.heap.size ∧ Ro w g gw A (y.set k b) (wr.setCell ⟨gx, k, none⟩ (.bool b)) ∧
      (∀ x, Up w g gw x wr → Up w g gw x (wr.setCell ⟨gx, k, none⟩ (.bool b))) ∧ Only (Three g gw A) wr (wr.setCell ⟨gx, k, none⟩ (.bool b)) := by
  obtain ⟨gx, e, hr, h1, h2, h3, h4⟩ := h (by omega)
  subst e
  exact ⟨gx, rfl, hr.cell hk, fun j => hr.free j, hr.lt, fun _ => ⟨gx, rfl, hr.put hk b, h1, h2, h3, h4⟩, fun x hu => hu.far h1 h2 h3 h4 k _,
    Only.setCell (p := ⟨gx, k, none⟩) (Only.refl _ wr) (Or.inl (Or.inr (Or.inr ⟨_, rfl, rfl⟩))) _⟩
theorem two_three {g gw : Nat} {A : Option Addr} {w w' : World} (h : Only (Two g gw) w w') : Only (Three g gw A) w w' := h.mono (fun _ _ q => by
  rcases q with q | q
  · exact .inl q
  · exact .inr (.inl q))
theorem only_tr {S : Nat → Prop} {a b c : World} (h : Only S a b) (k : Only S b c) : Only S a c := h.trans k (fun _ _ q => q)
def StepP (w : World) (g gw : Nat) (A : Option Addr) (n : Nat) (w0 : World) (e : Ending) (w' : World) : Prop :=
  e = .returned (.bool true) ∧ ∃ x', x'.length = n ∧ Up w g gw x' w' ∧ Ro w g gw A x' w' ∧ Only (Three g gw A) w0 w'
set_option maxRecDepth 100000 in
set_option maxHeartbeats 2000000 in
theorem step_take (w w0 : World) (g gw : Nat) (A : Option Addr) (c : Nat) (x : List Bool) (z : Int) (hu : Up w g gw x w0) (hr : Ro w g gw A x w0) :
    Calls Tryd.prog 11 #[.pointer (some ⟨g, 0, none⟩), .slice A x.length c, .agg #[.int .i64 1, .int .i64 z]] w0 (StepP w g gw A x.length w0) := by
  have hb := made w0 (.cells #[.int .i64 1, .int .i64 z] 29)
  have bx : Blk (w0.alloc (.cells #[.int .i64 1, .int .i64 z] 29)) w0.heap.size 29 #[.int .i64 1, .int .i64 z] := Blk.new _ _ _
  have b0 := bx.cell 0
  have b1 := bx.cell 1
  have O1 : Only (Three g gw A) w0 (w0.alloc (.cells #[.int .i64 1, .int .i64 z] 29)) := (Only.refl _ w0).alloc _
  have U1 := hu.below' hb
  have R1 := hr.below hb
  have hxl : x.length ≤ 65536 := by
    obtain ⟨W, c, hp⟩ := hu.at_
    exact hp.small
  obtain ⟨o, hnx⟩ := next_ex x 0
  clear hu hr hb bx
  generalize hw1 : w0.alloc (.cells #[.int .i64 1, .int .i64 z] 29) = w1 at *
  have O := Lib.hid O1
  have U := Lib.hid U1
  have R := Lib.hid R1
  have NXH := Lib.hid hnx
  by_cases qz : 0 ≤ z ∧ z < x.length
  · obtain ⟨z1, z2⟩ := qz
    cases o with
    | none =>
      have T := Lib.hid (take_full U1 hnx)
      clear U1 R1 O1 hnx
      go_enter Tryd.func11, Tryd.ntmps11
      go_wp2_with (rw [hw1])
      refine T.out.mono ?_
      rintro e w2 ⟨rfl, hu2, ho2⟩
      have U2 := Lib.hid hu2
      have R2 := Lib.hid (R.out.two ho2)
      have O2 := Lib.hid (only_tr O.out (two_three (A := A) ho2))
      have RN := Lib.hid (rnext_any A c x 0 none w2 R2.out.lay NXH.out hxl)
      rw [show ((0 : Nat) : Int) = 0 from rfl] at RN
      clear hu2 ho2 T b0 b1
      go_wp2_with fail
      refine RN.out.mono ?_
      rintro e w3 ⟨he, rfl⟩
      obtain rfl : e = .returned (.int .i64 (-1)) := he
      clear RN
      go_wp2_with fail
      go_ret
      exact ⟨rfl, x, rfl, U2.out, R2.out, O2.out⟩
    | some j =>
      have hjx := hnx.2.1
      have T := Lib.hid (take_up U1 hnx)
      clear U1 R1 O1 hnx
      go_enter Tryd.func11, Tryd.ntmps11
      go_wp2_with (rw [hw1])
      refine T.out.mono ?_
      rintro e w2 ⟨rfl, hu2, ho2⟩
      obtain ⟨gx, rfl, hc, hf, hgl, hR3, hU3, hO3⟩ := (R.out.two ho2).put hjx false
      have hf2 := hf j
      have P3 := Lib.hid (show StepP w g gw (some ⟨gx, 0, none⟩) x.length w0 (.returned (.bool true)) (w2.setCell ⟨gx, j, none⟩ (.bool false)) from ⟨rfl, x.set j false, by simp, hU3 _ hu2, hR3, only_tr (only_tr O.out (two_three ho2)) hO3⟩)
      have RN := Lib.hid (rnext_any (some ⟨gx, 0, none⟩) c x 0 (some j) w2 (R.out.two ho2).lay NXH.out hxl)
      rw [show ((0 : Nat) : Int) = 0 from rfl] at RN
      clear hu2 ho2 T b0 b1 hf hR3 hU3 hO3
      go_wp2_with fail
      refine RN.out.mono ?_
      rintro e w3 ⟨he, rfl⟩
      obtain rfl : e = .returned (.int .i64 (j : Nat)) := he
      clear RN
      go_wp2_with fail
      go_ret
      exact P3.out
  · by_cases z1 : 0 ≤ z
    · have z2 : ¬ z < x.length := by omega
      clear qz
      cases o with
      | none =>
        have T := Lib.hid (take_full U1 hnx)
        clear U1 R1 O1 hnx
        go_enter Tryd.func11, Tryd.ntmps11
        go_wp2_with (rw [hw1])
        refine T.out.mono ?_
        rintro e w2 ⟨rfl, hu2, ho2⟩
        have U2 := Lib.hid hu2
        have R2 := Lib.hid (R.out.two ho2)
        have O2 := Lib.hid (only_tr O.out (two_three (A := A) ho2))
        have RN := Lib.hid (rnext_any A c x 0 none w2 R2.out.lay NXH.out hxl)
        rw [show ((0 : Nat) : Int) = 0 from rfl] at RN
        clear hu2 ho2 T b0 b1
        go_wp2_with fail
        refine RN.out.mono ?_
        rintro e w3 ⟨he, rfl⟩
        obtain rfl : e = .returned (.int .i64 (-1)) := he
        clear RN
        go_wp2_with fail
        go_ret
        exact ⟨rfl, x, rfl, U2.out, R2.out, O2.out⟩
      | some j =>
        have hjx := hnx.2.1
        have T := Lib.hid (take_up U1 hnx)
        clear U1 R1 O1 hnx
        go_enter Tryd.func11, Tryd.ntmps11
        go_wp2_with (rw [hw1])
        refine T.out.mono ?_
        rintro e w2 ⟨rfl, hu2, ho2⟩
        obtain ⟨gx, rfl, hc, hf, hgl, hR3, hU3, hO3⟩ := (R.out.two ho2).put hjx false
        have hf2 := hf j
        have P3 := Lib.hid (show StepP w g gw (some ⟨gx, 0, none⟩) x.length w0 (.returned (.bool true)) (w2.setCell ⟨gx, j, none⟩ (.bool false)) from ⟨rfl, x.set j false, by simp, hU3 _ hu2, hR3, only_tr (only_tr O.out (two_three ho2)) hO3⟩)
        have RN := Lib.hid (rnext_any (some ⟨gx, 0, none⟩) c x 0 (some j) w2 (R.out.two ho2).lay NXH.out hxl)
        rw [show ((0 : Nat) : Int) = 0 from rfl] at RN
        clear hu2 ho2 T b0 b1 hf hR3 hU3 hO3
        go_wp2_with fail
        refine RN.out.mono ?_
        rintro e w3 ⟨he, rfl⟩
        obtain rfl : e = .returned (.int .i64 (j : Nat)) := he
        clear RN
        go_wp2_with fail
        go_ret
        exact P3.out
    · clear qz
      cases o with
      | none =>
        have T := Lib.hid (take_full U1 hnx)
        clear U1 R1 O1 hnx
        go_enter Tryd.func11, Tryd.ntmps11
        go_wp2_with (rw [hw1])
        refine T.out.mono ?_
        rintro e w2 ⟨rfl, hu2, ho2⟩
        have U2 := Lib.hid hu2
        have R2 := Lib.hid (R.out.two ho2)
        have O2 := Lib.hid (only_tr O.out (two_three (A := A) ho2))
        have RN := Lib.hid (rnext_any A c x 0 none w2 R2.out.lay NXH.out hxl)
        rw [show ((0 : Nat) : Int) = 0 from rfl] at RN
        clear hu2 ho2 T b0 b1
        go_wp2_with fail
        refine RN.out.mono ?_
        rintro e w3 ⟨he, rfl⟩
        obtain rfl : e = .returned (.int .i64 (-1)) := he
        clear RN
        go_wp2_with fail
        go_ret
        exact ⟨rfl, x, rfl, U2.out, R2.out, O2.out⟩
      | some j =>
        have hjx := hnx.2.1
        have T := Lib.hid (take_up U1 hnx)
        clear U1 R1 O1 hnx
        go_enter Tryd.func11, Tryd.ntmps11
        go_wp2_with (rw [hw1])
        refine T.out.mono ?_
        rintro e w2 ⟨rfl, hu2, ho2⟩
        obtain ⟨gx, rfl, hc, hf, hgl, hR3, hU3, hO3⟩ := (R.out.two ho2).put hjx false
        have hf2 := hf j
        have P3 := Lib.hid (show StepP w g gw (some ⟨gx, 0, none⟩) x.length w0 (.returned (.bool true)) (w2.setCell ⟨gx, j, none⟩ (.bool false)) from ⟨rfl, x.set j false, by simp, hU3 _ hu2, hR3, only_tr (only_tr O.out (two_three ho2)) hO3⟩)
        have RN := Lib.hid (rnext_any (some ⟨gx, 0, none⟩) c x 0 (some j) w2 (R.out.two ho2).lay NXH.out hxl)
        rw [show ((0 : Nat) : Int) = 0 from rfl] at RN
        clear hu2 ho2 T b0 b1 hf hR3 hU3 hO3
        go_wp2_with fail
        refine RN.out.mono ?_
        rintro e w3 ⟨he, rfl⟩
        obtain rfl : e = .returned (.int .i64 (j : Nat)) := he
        clear RN
        go_wp2_with fail
        go_ret
        exact P3.out
end Go.Proofs.YteecebklomeklaaDoor.po
