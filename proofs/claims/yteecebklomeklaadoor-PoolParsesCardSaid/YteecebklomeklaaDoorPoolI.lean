/-
  One call of both: a number is marked, given; nothing is done.
-/
import Derived.Test.YteecebklomeklaaDoorPoolH
namespace Go.Proofs.YteecebklomeklaaDoor.po
open Go.RowKit
open base (ret_bool ret_int made up Blk Only Nums)
open pnum
set_option linter.unusedVariables false
set_option linter.unusedSimpArgs false

def Three3 (gb gx k : Nat) (K z : Int) (v : Bool) (ws : World) : Prop := ws.cell? ⟨gb, 0, none⟩ = some (.int .i64 K) ∧ ws.cell? ⟨gb, 1, none⟩ = some (.int .i64 z) ∧ ws.cell? ⟨gx, k, none⟩ = some (.bool v)
set_option maxRecDepth 100000 in
set_option maxHeartbeats 2000000 in
theorem step_mark_far (w w0 : World) (g gw : Nat) (A : Option Addr) (c : Nat) (x : List Bool) (z : Int) (hu : Up w g gw x w0) (hr : Ro w g gw A x w0) (hz : z < 0 ∨ x.length ≤ z) :
    Calls Tryd.prog 11 #[.pointer (some ⟨g, 0, none⟩), .slice A x.length c, .agg #[.int .i64 2, .int .i64 z]] w0 (StepP w g gw A x.length w0) := by
  have hb := made w0 (.cells #[.int .i64 2, .int .i64 z] 29)
  have bx : Blk (w0.alloc (.cells #[.int .i64 2, .int .i64 z] 29)) w0.heap.size 29 #[.int .i64 2, .int .i64 z] := Blk.new _ _ _
  have O1 : Only (Three g gw A) w0 (w0.alloc (.cells #[.int .i64 2, .int .i64 z] 29)) := (Only.refl _ w0).alloc _
  have b0 := bx.cell 0
  have b1 := bx.cell 1
  have M := Lib.hid (mark_far (hu.below' hb) hz)
  have R := Lib.hid (hr.below hb)
  have O := Lib.hid O1
  clear hu hr hb bx O1
  generalize hw1 : w0.alloc (.cells #[.int .i64 2, .int .i64 z] 29) = w1 at *
  by_cases z1 : z < 0
  · clear hz
    go_enter Tryd.func11, Tryd.ntmps11
    go_wp2_with (rw [hw1])
    refine M.out.mono ?_
    rintro e w2 ⟨rfl, hu2, ho2⟩
    have P := Lib.hid (show StepP w g gw A x.length w0 (.returned (.bool true)) w2 from ⟨rfl, x, rfl, hu2, R.out.two ho2, only_tr O.out (two_three ho2)⟩)
    clear hu2 ho2 M
    go_wp2_with fail
    go_ret
    exact P.out
  · have z2 : ¬ z < x.length := by omega
    clear hz
    go_enter Tryd.func11, Tryd.ntmps11
    go_wp2_with (rw [hw1])
    refine M.out.mono ?_
    rintro e w2 ⟨rfl, hu2, ho2⟩
    have P := Lib.hid (show StepP w g gw A x.length w0 (.returned (.bool true)) w2 from ⟨rfl, x, rfl, hu2, R.out.two ho2, only_tr O.out (two_three ho2)⟩)
    clear hu2 ho2 M
    go_wp2_with fail
    go_ret
    exact P.out
set_option maxRecDepth 100000 in
set_option maxHeartbeats 2000000 in
theorem step_mark_in (w w0 : World) (g gw : Nat) (A : Option Addr) (c : Nat) (x : List Bool) (k : Nat) (hu : Up w g gw x w0) (hr : Ro w g gw A x w0) (hk : k < x.length) :
    Calls Tryd.prog 11 #[.pointer (some ⟨g, 0, none⟩), .slice A x.length c, .agg #[.int .i64 2, .int .i64 k]] w0 (StepP w g gw A x.length w0) := by
  have hxl : x.length ≤ 65536 := by
    obtain ⟨W, c, hp⟩ := hu.at_
    exact hp.small
  have hb := made w0 (.cells #[.int .i64 2, .int .i64 k] 29)
  have bx : Blk (w0.alloc (.cells #[.int .i64 2, .int .i64 k] 29)) w0.heap.size 29 #[.int .i64 2, .int .i64 k] := Blk.new _ _ _
  have O1 : Only (Three g gw A) w0 (w0.alloc (.cells #[.int .i64 2, .int .i64 k] 29)) := (Only.refl _ w0).alloc _
  obtain ⟨gx, rfl, -, -, hglt, -⟩ := hr.put hk false
  have gne : gx ≠ w0.heap.size := by omega
  have gne2 : w0.heap.size ≠ gx := by omega
  have U := Lib.hid ((hu.below' hb).drew)
  have R := Lib.hid ((hr.below hb).below (Nix.drew _).below)
  have O := Lib.hid (only_tr O1 ((Only.refl _ _).drewN 1))
  have b0 := bx.cell 0
  have b1 := bx.cell 1
  have d0 := (bx.drewN 1).cell 0
  have d1 := (bx.drewN 1).cell 1
  clear hu hr hb bx O1
  generalize hw1 : w0.alloc (.cells #[.int .i64 2, .int .i64 k] 29) = w1 at *
  have D0 : w1.drew.cell? ⟨w0.heap.size, 0, none⟩ = some (.int .i64 2) := d0
  have D1 : w1.drew.cell? ⟨w0.heap.size, 1, none⟩ = some (.int .i64 (k : Nat)) := d1
  clear d0 d1
  obtain ⟨gx', e, hc, hf, -, hR3, hU3, hO3⟩ := R.out.put hk false
  injection e with e
  injection e with e
  subst e
  have hf2 := hf k
  have hf3 : w1.frozen? ⟨gx, k, none⟩ = false := hf2
  have X := Lib.hid (show Three3 w0.heap.size gx k 2 k (x.getD k false) w1.drew from ⟨D0, D1, hc⟩)
  clear hf
  cases hv : x.getD k false with
  | true =>
    rw [hv] at hc X
    have P0 : ∀ w3, Only (Two g gw) (w1.drew.setCell ⟨gx, k, none⟩ (.bool false)) w3 → Up w g gw (x.set k false) w3 → StepP w g gw (some ⟨gx, 0, none⟩) x.length w0 (.returned (.bool true)) w3 := fun w3 ho hu => ⟨rfl, x.set k false, by simp, hu, hR3.two ho, only_tr (only_tr O.out hO3) (two_three ho)⟩
    have P := Lib.hid P0
    have M := Lib.hid (mark_up (hU3 _ U.out) hk hv)
    clear hR3 hU3 hO3 P0 hv
    go_enter Tryd.func11, Tryd.ntmps11
    go_wp2_with (rw [hw1])
    refine wp_region_held_drew (S := (fun ws => ws.cell? ⟨w0.heap.size, 0, none⟩ = some (.int .i64 2) ∧ ws.cell? ⟨w0.heap.size, 1, none⟩ = some (.int .i64 (k : Nat)) ∧ ws.cell? ⟨gx, k, none⟩ = some (.bool true))) (by kernel_rfl) X.out (fun hHeld => ?_)
    refine wpAnyH_take (i := 0) (v := ?_) rfl (by kernel_rfl) (by kernel_rfl) (by kernel_rfl) (fun _ _ _ h => h) (Or.inl ⟨by rfl, ?_⟩) (by assumption) ?_
    rotate_left
    · (intro w hSw; (try dsimp only at hSw); first | (go_simp; done) | (go_simp; with_reducible rfl))
    simp only [Act.put, List.getElem_toArray, List.getElem_cons_zero, List.getElem_cons_succ, List.setIfInBounds_toArray, List.set_cons_zero, List.set_cons_succ]
    refine wpAnyH_take (i := 1) (v := ?_) rfl (by kernel_rfl) (by kernel_rfl) (by kernel_rfl) (fun _ _ _ h => h) (Or.inl ⟨by rfl, ?_⟩) (by assumption) ?_
    rotate_left
    · (intro w hSw; (try dsimp only at hSw); first | (go_simp; done) | (go_simp; with_reducible rfl))
    simp only [Act.put, List.getElem_toArray, List.getElem_cons_zero, List.getElem_cons_succ, List.setIfInBounds_toArray, List.set_cons_zero, List.set_cons_succ]
    refine wpAnyH_take (i := 2) (v := ?_) rfl (by kernel_rfl) (by kernel_rfl) (by kernel_rfl) (fun _ _ _ h => h) (Or.inl ⟨by rfl, ?_⟩) (by assumption) ?_
    rotate_left
    · (intro w hSw; (try dsimp only at hSw); first | (go_simp; done) | (go_simp; with_reducible rfl))
    simp only [Act.put, List.getElem_toArray, List.getElem_cons_zero, List.getElem_cons_succ, List.setIfInBounds_toArray, List.set_cons_zero, List.set_cons_succ]
    refine wpAnyH_take (i := 3) (v := ?_) rfl (by kernel_rfl) (by kernel_rfl) (by kernel_rfl) (fun _ _ _ h => h) (Or.inl ⟨by rfl, ?_⟩) (by assumption) ?_
    rotate_left
    · (intro w hSw; (try dsimp only at hSw); first | (go_simp; done) | (go_simp; with_reducible rfl))
    simp only [Act.put, List.getElem_toArray, List.getElem_cons_zero, List.getElem_cons_succ, List.setIfInBounds_toArray, List.set_cons_zero, List.set_cons_succ]
    refine wpAnyH_take (i := 4) (v := ?_) rfl (by kernel_rfl) (by kernel_rfl) (by kernel_rfl) (fun _ _ _ h => h) (Or.inl ⟨by rfl, ?_⟩) (by assumption) ?_
    rotate_left
    · (intro w hSw; (try dsimp only at hSw); first | (go_simp; done) | (go_simp; with_reducible rfl))
    simp only [Act.put, List.getElem_toArray, List.getElem_cons_zero, List.getElem_cons_succ, List.setIfInBounds_toArray, List.set_cons_zero, List.set_cons_succ]
    refine wpAnyH_take (i := 5) (v := ?_) rfl (by kernel_rfl) (by kernel_rfl) (by kernel_rfl) (fun _ _ _ h => h) (Or.inl ⟨by rfl, ?_⟩) (by assumption) ?_
    rotate_left
    · (intro w hSw; (try dsimp only at hSw); first | (go_simp; done) | (go_simp; with_reducible rfl))
    simp only [Act.put, List.getElem_toArray, List.getElem_cons_zero, List.getElem_cons_succ, List.setIfInBounds_toArray, List.set_cons_zero, List.set_cons_succ]
    refine wpAnyH_take (i := 6) (v := ?_) rfl (by kernel_rfl) (by kernel_rfl) (by kernel_rfl) (fun _ _ _ h => h) (Or.inl ⟨by rfl, ?_⟩) (by assumption) ?_
    rotate_left
    · (intro w hSw; (try dsimp only at hSw); first | (go_simp; done) | (go_simp; with_reducible rfl))
    simp only [Act.put, List.getElem_toArray, List.getElem_cons_zero, List.getElem_cons_succ, List.setIfInBounds_toArray, List.set_cons_zero, List.set_cons_succ]
    refine wpAnyH_take (i := 7) (v := ?_) rfl (by kernel_rfl) (by kernel_rfl) (by kernel_rfl) (fun _ _ _ h => h) (Or.inl ⟨by rfl, ?_⟩) (by assumption) ?_
    rotate_left
    · (intro w hSw; (try dsimp only at hSw); first | (go_simp; done) | (go_simp; with_reducible rfl))
    simp only [Act.put, List.getElem_toArray, List.getElem_cons_zero, List.getElem_cons_succ, List.setIfInBounds_toArray, List.set_cons_zero, List.set_cons_succ]
    refine wpAnyH_take (i := 8) (v := ?_) rfl (by kernel_rfl) (by kernel_rfl) (by kernel_rfl) (fun _ _ _ h => h) (Or.inl ⟨by rfl, ?_⟩) (by assumption) ?_
    rotate_left
    · (intro w hSw; (try dsimp only at hSw); first | (go_simp; done) | (go_simp; with_reducible rfl))
    simp only [Act.put, List.getElem_toArray, List.getElem_cons_zero, List.getElem_cons_succ, List.setIfInBounds_toArray, List.set_cons_zero, List.set_cons_succ]
    refine wpAnyH_take (i := 9) (v := ?_) rfl (by kernel_rfl) (by kernel_rfl) (by kernel_rfl) (fun _ _ _ h => h) (Or.inl ⟨by rfl, ?_⟩) (by assumption) ?_
    rotate_left
    · (intro w hSw; (try dsimp only at hSw); first | (go_simp; done) | (go_simp; with_reducible rfl))
    simp only [Act.put, List.getElem_toArray, List.getElem_cons_zero, List.getElem_cons_succ, List.setIfInBounds_toArray, List.set_cons_zero, List.set_cons_succ]
    refine wpAnyH_done (by kernel_rfl) ?_ _
    clear hHeld
    go_wp2_with fail
    refine M.out.mono ?_
    rintro e w3 ⟨rfl, hu3, ho3⟩
    have P3 := Lib.hid (P.out _ ho3 hu3)
    clear hu3 ho3 P M
    go_wp2_with fail
    go_ret
    exact P3.out
  | false =>
    rw [hv] at hc X
    have P0 : ∀ w3, Only (Two g gw) w1.drew w3 → Up w g gw x w3 → StepP w g gw (some ⟨gx, 0, none⟩) x.length w0 (.returned (.bool true)) w3 := fun w3 ho hu => ⟨rfl, x, rfl, hu, R.out.two ho, only_tr O.out (two_three ho)⟩
    have P := Lib.hid P0
    have M := Lib.hid (mark_twice U.out hk hv)
    clear hR3 hU3 hO3 P0 hv
    go_enter Tryd.func11, Tryd.ntmps11
    go_wp2_with (rw [hw1])
    refine wp_region_held_drew (S := (fun ws => ws.cell? ⟨w0.heap.size, 0, none⟩ = some (.int .i64 2) ∧ ws.cell? ⟨w0.heap.size, 1, none⟩ = some (.int .i64 (k : Nat)) ∧ ws.cell? ⟨gx, k, none⟩ = some (.bool false))) (by kernel_rfl) X.out (fun hHeld => ?_)
    refine wpAnyH_take (i := 0) (v := ?_) rfl (by kernel_rfl) (by kernel_rfl) (by kernel_rfl) (fun _ _ _ h => h) (Or.inl ⟨by rfl, ?_⟩) (by assumption) ?_
    rotate_left
    · (intro w hSw; (try dsimp only at hSw); first | (go_simp; done) | (go_simp; with_reducible rfl))
    simp only [Act.put, List.getElem_toArray, List.getElem_cons_zero, List.getElem_cons_succ, List.setIfInBounds_toArray, List.set_cons_zero, List.set_cons_succ]
    refine wpAnyH_take (i := 1) (v := ?_) rfl (by kernel_rfl) (by kernel_rfl) (by kernel_rfl) (fun _ _ _ h => h) (Or.inl ⟨by rfl, ?_⟩) (by assumption) ?_
    rotate_left
    · (intro w hSw; (try dsimp only at hSw); first | (go_simp; done) | (go_simp; with_reducible rfl))
    simp only [Act.put, List.getElem_toArray, List.getElem_cons_zero, List.getElem_cons_succ, List.setIfInBounds_toArray, List.set_cons_zero, List.set_cons_succ]
    refine wpAnyH_take (i := 2) (v := ?_) rfl (by kernel_rfl) (by kernel_rfl) (by kernel_rfl) (fun _ _ _ h => h) (Or.inl ⟨by rfl, ?_⟩) (by assumption) ?_
    rotate_left
    · (intro w hSw; (try dsimp only at hSw); first | (go_simp; done) | (go_simp; with_reducible rfl))
    simp only [Act.put, List.getElem_toArray, List.getElem_cons_zero, List.getElem_cons_succ, List.setIfInBounds_toArray, List.set_cons_zero, List.set_cons_succ]
    refine wpAnyH_take (i := 3) (v := ?_) rfl (by kernel_rfl) (by kernel_rfl) (by kernel_rfl) (fun _ _ _ h => h) (Or.inl ⟨by rfl, ?_⟩) (by assumption) ?_
    rotate_left
    · (intro w hSw; (try dsimp only at hSw); first | (go_simp; done) | (go_simp; with_reducible rfl))
    simp only [Act.put, List.getElem_toArray, List.getElem_cons_zero, List.getElem_cons_succ, List.setIfInBounds_toArray, List.set_cons_zero, List.set_cons_succ]
    refine wpAnyH_take (i := 4) (v := ?_) rfl (by kernel_rfl) (by kernel_rfl) (by kernel_rfl) (fun _ _ _ h => h) (Or.inl ⟨by rfl, ?_⟩) (by assumption) ?_
    rotate_left
    · (intro w hSw; (try dsimp only at hSw); first | (go_simp; done) | (go_simp; with_reducible rfl))
    simp only [Act.put, List.getElem_toArray, List.getElem_cons_zero, List.getElem_cons_succ, List.setIfInBounds_toArray, List.set_cons_zero, List.set_cons_succ]
    refine wpAnyH_take (i := 5) (v := ?_) rfl (by kernel_rfl) (by kernel_rfl) (by kernel_rfl) (fun _ _ _ h => h) (Or.inl ⟨by rfl, ?_⟩) (by assumption) ?_
    rotate_left
    · (intro w hSw; (try dsimp only at hSw); first | (go_simp; done) | (go_simp; with_reducible rfl))
    simp only [Act.put, List.getElem_toArray, List.getElem_cons_zero, List.getElem_cons_succ, List.setIfInBounds_toArray, List.set_cons_zero, List.set_cons_succ]
    refine wpAnyH_take (i := 6) (v := ?_) rfl (by kernel_rfl) (by kernel_rfl) (by kernel_rfl) (fun _ _ _ h => h) (Or.inl ⟨by rfl, ?_⟩) (by assumption) ?_
    rotate_left
    · (intro w hSw; (try dsimp only at hSw); first | (go_simp; done) | (go_simp; with_reducible rfl))
    simp only [Act.put, List.getElem_toArray, List.getElem_cons_zero, List.getElem_cons_succ, List.setIfInBounds_toArray, List.set_cons_zero, List.set_cons_succ]
    refine wpAnyH_take (i := 7) (v := ?_) rfl (by kernel_rfl) (by kernel_rfl) (by kernel_rfl) (fun _ _ _ h => h) (Or.inl ⟨by rfl, ?_⟩) (by assumption) ?_
    rotate_left
    · (intro w hSw; (try dsimp only at hSw); first | (go_simp; done) | (go_simp; with_reducible rfl))
    simp only [Act.put, List.getElem_toArray, List.getElem_cons_zero, List.getElem_cons_succ, List.setIfInBounds_toArray, List.set_cons_zero, List.set_cons_succ]
    refine wpAnyH_take (i := 8) (v := ?_) rfl (by kernel_rfl) (by kernel_rfl) (by kernel_rfl) (fun _ _ _ h => h) (Or.inl ⟨by rfl, ?_⟩) (by assumption) ?_
    rotate_left
    · (intro w hSw; (try dsimp only at hSw); first | (go_simp; done) | (go_simp; with_reducible rfl))
    simp only [Act.put, List.getElem_toArray, List.getElem_cons_zero, List.getElem_cons_succ, List.setIfInBounds_toArray, List.set_cons_zero, List.set_cons_succ]
    refine wpAnyH_take (i := 9) (v := ?_) rfl (by kernel_rfl) (by kernel_rfl) (by kernel_rfl) (fun _ _ _ h => h) (Or.inl ⟨by rfl, ?_⟩) (by assumption) ?_
    rotate_left
    · (intro w hSw; (try dsimp only at hSw); first | (go_simp; done) | (go_simp; with_reducible rfl))
    simp only [Act.put, List.getElem_toArray, List.getElem_cons_zero, List.getElem_cons_succ, List.setIfInBounds_toArray, List.set_cons_zero, List.set_cons_succ]
    refine wpAnyH_done (by kernel_rfl) ?_ _
    clear hHeld
    go_wp2_with fail
    refine M.out.mono ?_
    rintro e w3 ⟨rfl, hu3, ho3⟩
    have P3 := Lib.hid (P.out _ ho3 hu3)
    clear hu3 ho3 P M
    go_wp2_with fail
    go_ret
    exact P3.out
set_option maxRecDepth 100000 in
set_option maxHeartbeats 2000000 in
theorem step_give_far (w w0 : World) (g gw : Nat) (A : Option Addr) (c : Nat) (x : List Bool) (z : Int) (hu : Up w g gw x w0) (hr : Ro w g gw A x w0) (hz : z < 0 ∨ x.length ≤ z) :
    Calls Tryd.prog 11 #[.pointer (some ⟨g, 0, none⟩), .slice A x.length c, .agg #[.int .i64 3, .int .i64 z]] w0 (StepP w g gw A x.length w0) := by
  have hb := made w0 (.cells #[.int .i64 3, .int .i64 z] 29)
  have bx : Blk (w0.alloc (.cells #[.int .i64 3, .int .i64 z] 29)) w0.heap.size 29 #[.int .i64 3, .int .i64 z] := Blk.new _ _ _
  have O1 : Only (Three g gw A) w0 (w0.alloc (.cells #[.int .i64 3, .int .i64 z] 29)) := (Only.refl _ w0).alloc _
  have b0 := bx.cell 0
  have b1 := bx.cell 1
  have M := Lib.hid (give_far (hu.below' hb) hz)
  have R := Lib.hid (hr.below hb)
  have O := Lib.hid O1
  clear hu hr hb bx O1
  generalize hw1 : w0.alloc (.cells #[.int .i64 3, .int .i64 z] 29) = w1 at *
  by_cases z1 : z < 0
  · clear hz
    go_enter Tryd.func11, Tryd.ntmps11
    go_wp2_with (rw [hw1])
    refine M.out.mono ?_
    rintro e w2 ⟨rfl, hu2, ho2⟩
    have P := Lib.hid (show StepP w g gw A x.length w0 (.returned (.bool true)) w2 from ⟨rfl, x, rfl, hu2, R.out.two ho2, only_tr O.out (two_three ho2)⟩)
    clear hu2 ho2 M
    go_wp2_with fail
    go_ret
    exact P.out
  · have z2 : ¬ z < x.length := by omega
    clear hz
    go_enter Tryd.func11, Tryd.ntmps11
    go_wp2_with (rw [hw1])
    refine M.out.mono ?_
    rintro e w2 ⟨rfl, hu2, ho2⟩
    have P := Lib.hid (show StepP w g gw A x.length w0 (.returned (.bool true)) w2 from ⟨rfl, x, rfl, hu2, R.out.two ho2, only_tr O.out (two_three ho2)⟩)
    clear hu2 ho2 M
    go_wp2_with fail
    go_ret
    exact P.out
set_option maxRecDepth 100000 in
set_option maxHeartbeats 2000000 in
theorem step_give_in (w w0 : World) (g gw : Nat) (A : Option Addr) (c : Nat) (x : List Bool) (k : Nat) (hu : Up w g gw x w0) (hr : Ro w g gw A x w0) (hk : k < x.length) :
    Calls Tryd.prog 11 #[.pointer (some ⟨g, 0, none⟩), .slice A x.length c, .agg #[.int .i64 3, .int .i64 k]] w0 (StepP w g gw A x.length w0) := by
  have hxl : x.length ≤ 65536 := by
    obtain ⟨W, c, hp⟩ := hu.at_
    exact hp.small
  have hb := made w0 (.cells #[.int .i64 3, .int .i64 k] 29)
  have bx : Blk (w0.alloc (.cells #[.int .i64 3, .int .i64 k] 29)) w0.heap.size 29 #[.int .i64 3, .int .i64 k] := Blk.new _ _ _
  have O1 : Only (Three g gw A) w0 (w0.alloc (.cells #[.int .i64 3, .int .i64 k] 29)) := (Only.refl _ w0).alloc _
  obtain ⟨gx, rfl, -, -, hglt, -⟩ := hr.put hk true
  have gne : gx ≠ w0.heap.size := by omega
  have gne2 : w0.heap.size ≠ gx := by omega
  have U := Lib.hid ((hu.below' hb).drew)
  have R := Lib.hid ((hr.below hb).below (Nix.drew _).below)
  have O := Lib.hid (only_tr O1 ((Only.refl _ _).drewN 1))
  have b0 := bx.cell 0
  have b1 := bx.cell 1
  have d0 := (bx.drewN 1).cell 0
  have d1 := (bx.drewN 1).cell 1
  clear hu hr hb bx O1
  generalize hw1 : w0.alloc (.cells #[.int .i64 3, .int .i64 k] 29) = w1 at *
  have D0 : w1.drew.cell? ⟨w0.heap.size, 0, none⟩ = some (.int .i64 3) := d0
  have D1 : w1.drew.cell? ⟨w0.heap.size, 1, none⟩ = some (.int .i64 (k : Nat)) := d1
  clear d0 d1
  obtain ⟨gx', e, hc, hf, -, hR3, hU3, hO3⟩ := R.out.put hk true
  injection e with e
  injection e with e
  subst e
  have hf2 := hf k
  have hf3 : w1.frozen? ⟨gx, k, none⟩ = false := hf2
  have X := Lib.hid (show Three3 w0.heap.size gx k 3 k (x.getD k false) w1.drew from ⟨D0, D1, hc⟩)
  clear hf
  cases hv : x.getD k false with
  | false =>
    rw [hv] at hc X
    have P0 : ∀ w3, Only (Two g gw) (w1.drew.setCell ⟨gx, k, none⟩ (.bool true)) w3 → Up w g gw (x.set k true) w3 → StepP w g gw (some ⟨gx, 0, none⟩) x.length w0 (.returned (.bool true)) w3 := fun w3 ho hu => ⟨rfl, x.set k true, by simp, hu, hR3.two ho, only_tr (only_tr O.out hO3) (two_three ho)⟩
    have P := Lib.hid P0
    have M := Lib.hid (give_up (hU3 _ U.out) hk hv)
    clear hR3 hU3 hO3 P0 hv
    go_enter Tryd.func11, Tryd.ntmps11
    go_wp2_with (rw [hw1])
    refine wp_region_held_drew (S := (fun ws => ws.cell? ⟨w0.heap.size, 0, none⟩ = some (.int .i64 3) ∧ ws.cell? ⟨w0.heap.size, 1, none⟩ = some (.int .i64 (k : Nat)) ∧ ws.cell? ⟨gx, k, none⟩ = some (.bool false))) (by kernel_rfl) X.out (fun hHeld => ?_)
    refine wpAnyH_take (i := 0) (v := ?_) rfl (by kernel_rfl) (by kernel_rfl) (by kernel_rfl) (fun _ _ _ h => h) (Or.inl ⟨by rfl, ?_⟩) (by assumption) ?_
    rotate_left
    · (intro w hSw; (try dsimp only at hSw); first | (go_simp; done) | (go_simp; with_reducible rfl))
    simp only [Act.put, List.getElem_toArray, List.getElem_cons_zero, List.getElem_cons_succ, List.setIfInBounds_toArray, List.set_cons_zero, List.set_cons_succ]
    refine wpAnyH_take (i := 1) (v := ?_) rfl (by kernel_rfl) (by kernel_rfl) (by kernel_rfl) (fun _ _ _ h => h) (Or.inl ⟨by rfl, ?_⟩) (by assumption) ?_
    rotate_left
    · (intro w hSw; (try dsimp only at hSw); first | (go_simp; done) | (go_simp; with_reducible rfl))
    simp only [Act.put, List.getElem_toArray, List.getElem_cons_zero, List.getElem_cons_succ, List.setIfInBounds_toArray, List.set_cons_zero, List.set_cons_succ]
    refine wpAnyH_take (i := 2) (v := ?_) rfl (by kernel_rfl) (by kernel_rfl) (by kernel_rfl) (fun _ _ _ h => h) (Or.inl ⟨by rfl, ?_⟩) (by assumption) ?_
    rotate_left
    · (intro w hSw; (try dsimp only at hSw); first | (go_simp; done) | (go_simp; with_reducible rfl))
    simp only [Act.put, List.getElem_toArray, List.getElem_cons_zero, List.getElem_cons_succ, List.setIfInBounds_toArray, List.set_cons_zero, List.set_cons_succ]
    refine wpAnyH_take (i := 3) (v := ?_) rfl (by kernel_rfl) (by kernel_rfl) (by kernel_rfl) (fun _ _ _ h => h) (Or.inl ⟨by rfl, ?_⟩) (by assumption) ?_
    rotate_left
    · (intro w hSw; (try dsimp only at hSw); first | (go_simp; done) | (go_simp; with_reducible rfl))
    simp only [Act.put, List.getElem_toArray, List.getElem_cons_zero, List.getElem_cons_succ, List.setIfInBounds_toArray, List.set_cons_zero, List.set_cons_succ]
    refine wpAnyH_take (i := 4) (v := ?_) rfl (by kernel_rfl) (by kernel_rfl) (by kernel_rfl) (fun _ _ _ h => h) (Or.inl ⟨by rfl, ?_⟩) (by assumption) ?_
    rotate_left
    · (intro w hSw; (try dsimp only at hSw); first | (go_simp; done) | (go_simp; with_reducible rfl))
    simp only [Act.put, List.getElem_toArray, List.getElem_cons_zero, List.getElem_cons_succ, List.setIfInBounds_toArray, List.set_cons_zero, List.set_cons_succ]
    refine wpAnyH_take (i := 5) (v := ?_) rfl (by kernel_rfl) (by kernel_rfl) (by kernel_rfl) (fun _ _ _ h => h) (Or.inl ⟨by rfl, ?_⟩) (by assumption) ?_
    rotate_left
    · (intro w hSw; (try dsimp only at hSw); first | (go_simp; done) | (go_simp; with_reducible rfl))
    simp only [Act.put, List.getElem_toArray, List.getElem_cons_zero, List.getElem_cons_succ, List.setIfInBounds_toArray, List.set_cons_zero, List.set_cons_succ]
    refine wpAnyH_take (i := 6) (v := ?_) rfl (by kernel_rfl) (by kernel_rfl) (by kernel_rfl) (fun _ _ _ h => h) (Or.inl ⟨by rfl, ?_⟩) (by assumption) ?_
    rotate_left
    · (intro w hSw; (try dsimp only at hSw); first | (go_simp; done) | (go_simp; with_reducible rfl))
    simp only [Act.put, List.getElem_toArray, List.getElem_cons_zero, List.getElem_cons_succ, List.setIfInBounds_toArray, List.set_cons_zero, List.set_cons_succ]
    refine wpAnyH_take (i := 7) (v := ?_) rfl (by kernel_rfl) (by kernel_rfl) (by kernel_rfl) (fun _ _ _ h => h) (Or.inl ⟨by rfl, ?_⟩) (by assumption) ?_
    rotate_left
    · (intro w hSw; (try dsimp only at hSw); first | (go_simp; done) | (go_simp; with_reducible rfl))
    simp only [Act.put, List.getElem_toArray, List.getElem_cons_zero, List.getElem_cons_succ, List.setIfInBounds_toArray, List.set_cons_zero, List.set_cons_succ]
    refine wpAnyH_take (i := 8) (v := ?_) rfl (by kernel_rfl) (by kernel_rfl) (by kernel_rfl) (fun _ _ _ h => h) (Or.inl ⟨by rfl, ?_⟩) (by assumption) ?_
    rotate_left
    · (intro w hSw; (try dsimp only at hSw); first | (go_simp; done) | (go_simp; with_reducible rfl))
    simp only [Act.put, List.getElem_toArray, List.getElem_cons_zero, List.getElem_cons_succ, List.setIfInBounds_toArray, List.set_cons_zero, List.set_cons_succ]
    refine wpAnyH_take (i := 9) (v := ?_) rfl (by kernel_rfl) (by kernel_rfl) (by kernel_rfl) (fun _ _ _ h => h) (Or.inl ⟨by rfl, ?_⟩) (by assumption) ?_
    rotate_left
    · (intro w hSw; (try dsimp only at hSw); first | (go_simp; done) | (go_simp; with_reducible rfl))
    simp only [Act.put, List.getElem_toArray, List.getElem_cons_zero, List.getElem_cons_succ, List.setIfInBounds_toArray, List.set_cons_zero, List.set_cons_succ]
    refine wpAnyH_done (by kernel_rfl) ?_ _
    clear hHeld
    go_wp2_with fail
    refine M.out.mono ?_
    rintro e w3 ⟨rfl, hu3, ho3⟩
    have P3 := Lib.hid (P.out _ ho3 hu3)
    clear hu3 ho3 P M
    go_wp2_with fail
    go_ret
    exact P3.out
  | true =>
    rw [hv] at hc X
    have P0 : ∀ w3, Only (Two g gw) w1.drew w3 → Up w g gw x w3 → StepP w g gw (some ⟨gx, 0, none⟩) x.length w0 (.returned (.bool true)) w3 := fun w3 ho hu => ⟨rfl, x, rfl, hu, R.out.two ho, only_tr O.out (two_three ho)⟩
    have P := Lib.hid P0
    have M := Lib.hid (give_twice U.out hk hv)
    clear hR3 hU3 hO3 P0 hv
    go_enter Tryd.func11, Tryd.ntmps11
    go_wp2_with (rw [hw1])
    refine wp_region_held_drew (S := (fun ws => ws.cell? ⟨w0.heap.size, 0, none⟩ = some (.int .i64 3) ∧ ws.cell? ⟨w0.heap.size, 1, none⟩ = some (.int .i64 (k : Nat)) ∧ ws.cell? ⟨gx, k, none⟩ = some (.bool true))) (by kernel_rfl) X.out (fun hHeld => ?_)
    refine wpAnyH_take (i := 0) (v := ?_) rfl (by kernel_rfl) (by kernel_rfl) (by kernel_rfl) (fun _ _ _ h => h) (Or.inl ⟨by rfl, ?_⟩) (by assumption) ?_
    rotate_left
    · (intro w hSw; (try dsimp only at hSw); first | (go_simp; done) | (go_simp; with_reducible rfl))
    simp only [Act.put, List.getElem_toArray, List.getElem_cons_zero, List.getElem_cons_succ, List.setIfInBounds_toArray, List.set_cons_zero, List.set_cons_succ]
    refine wpAnyH_take (i := 1) (v := ?_) rfl (by kernel_rfl) (by kernel_rfl) (by kernel_rfl) (fun _ _ _ h => h) (Or.inl ⟨by rfl, ?_⟩) (by assumption) ?_
    rotate_left
    · (intro w hSw; (try dsimp only at hSw); first | (go_simp; done) | (go_simp; with_reducible rfl))
    simp only [Act.put, List.getElem_toArray, List.getElem_cons_zero, List.getElem_cons_succ, List.setIfInBounds_toArray, List.set_cons_zero, List.set_cons_succ]
    refine wpAnyH_take (i := 2) (v := ?_) rfl (by kernel_rfl) (by kernel_rfl) (by kernel_rfl) (fun _ _ _ h => h) (Or.inl ⟨by rfl, ?_⟩) (by assumption) ?_
    rotate_left
    · (intro w hSw; (try dsimp only at hSw); first | (go_simp; done) | (go_simp; with_reducible rfl))
    simp only [Act.put, List.getElem_toArray, List.getElem_cons_zero, List.getElem_cons_succ, List.setIfInBounds_toArray, List.set_cons_zero, List.set_cons_succ]
    refine wpAnyH_take (i := 3) (v := ?_) rfl (by kernel_rfl) (by kernel_rfl) (by kernel_rfl) (fun _ _ _ h => h) (Or.inl ⟨by rfl, ?_⟩) (by assumption) ?_
    rotate_left
    · (intro w hSw; (try dsimp only at hSw); first | (go_simp; done) | (go_simp; with_reducible rfl))
    simp only [Act.put, List.getElem_toArray, List.getElem_cons_zero, List.getElem_cons_succ, List.setIfInBounds_toArray, List.set_cons_zero, List.set_cons_succ]
    refine wpAnyH_take (i := 4) (v := ?_) rfl (by kernel_rfl) (by kernel_rfl) (by kernel_rfl) (fun _ _ _ h => h) (Or.inl ⟨by rfl, ?_⟩) (by assumption) ?_
    rotate_left
    · (intro w hSw; (try dsimp only at hSw); first | (go_simp; done) | (go_simp; with_reducible rfl))
    simp only [Act.put, List.getElem_toArray, List.getElem_cons_zero, List.getElem_cons_succ, List.setIfInBounds_toArray, List.set_cons_zero, List.set_cons_succ]
    refine wpAnyH_take (i := 5) (v := ?_) rfl (by kernel_rfl) (by kernel_rfl) (by kernel_rfl) (fun _ _ _ h => h) (Or.inl ⟨by rfl, ?_⟩) (by assumption) ?_
    rotate_left
    · (intro w hSw; (try dsimp only at hSw); first | (go_simp; done) | (go_simp; with_reducible rfl))
    simp only [Act.put, List.getElem_toArray, List.getElem_cons_zero, List.getElem_cons_succ, List.setIfInBounds_toArray, List.set_cons_zero, List.set_cons_succ]
    refine wpAnyH_take (i := 6) (v := ?_) rfl (by kernel_rfl) (by kernel_rfl) (by kernel_rfl) (fun _ _ _ h => h) (Or.inl ⟨by rfl, ?_⟩) (by assumption) ?_
    rotate_left
    · (intro w hSw; (try dsimp only at hSw); first | (go_simp; done) | (go_simp; with_reducible rfl))
    simp only [Act.put, List.getElem_toArray, List.getElem_cons_zero, List.getElem_cons_succ, List.setIfInBounds_toArray, List.set_cons_zero, List.set_cons_succ]
    refine wpAnyH_take (i := 7) (v := ?_) rfl (by kernel_rfl) (by kernel_rfl) (by kernel_rfl) (fun _ _ _ h => h) (Or.inl ⟨by rfl, ?_⟩) (by assumption) ?_
    rotate_left
    · (intro w hSw; (try dsimp only at hSw); first | (go_simp; done) | (go_simp; with_reducible rfl))
    simp only [Act.put, List.getElem_toArray, List.getElem_cons_zero, List.getElem_cons_succ, List.setIfInBounds_toArray, List.set_cons_zero, List.set_cons_succ]
    refine wpAnyH_take (i := 8) (v := ?_) rfl (by kernel_rfl) (by kernel_rfl) (by kernel_rfl) (fun _ _ _ h => h) (Or.inl ⟨by rfl, ?_⟩) (by assumption) ?_
    rotate_left
    · (intro w hSw; (try dsimp only at hSw); first | (go_simp; done) | (go_simp; with_reducible rfl))
    simp only [Act.put, List.getElem_toArray, List.getElem_cons_zero, List.getElem_cons_succ, List.setIfInBounds_toArray, List.set_cons_zero, List.set_cons_succ]
    refine wpAnyH_take (i := 9) (v := ?_) rfl (by kernel_rfl) (by kernel_rfl) (by kernel_rfl) (fun _ _ _ h => h) (Or.inl ⟨by rfl, ?_⟩) (by assumption) ?_
    rotate_left
    · (intro w hSw; (try dsimp only at hSw); first | (go_simp; done) | (go_simp; with_reducible rfl))
    simp only [Act.put, List.getElem_toArray, List.getElem_cons_zero, List.getElem_cons_succ, List.setIfInBounds_toArray, List.set_cons_zero, List.set_cons_succ]
    refine wpAnyH_done (by kernel_rfl) ?_ _
    clear hHeld
    go_wp2_with fail
    refine M.out.mono ?_
    rintro e w3 ⟨rfl, hu3, ho3⟩
    have P3 := Lib.hid (P.out _ ho3 hu3)
    clear hu3 ho3 P M
    go_wp2_with fail
    go_ret
    exact P3.out
set_option maxRecDepth 100000 in
set_option maxHeartbeats 2000000 in
theorem step_none (w w0 : World) (g gw : Nat) (A : Option Addr) (c : Nat) (x : List Bool) (K z : Int) (hu : Up w g gw x w0) (hr : Ro w g gw A x w0) (k1 : K ≠ 1) (k2 : K ≠ 2) (k3 : K ≠ 3) :
    Calls Tryd.prog 11 #[.pointer (some ⟨g, 0, none⟩), .slice A x.length c, .agg #[.int .i64 K, .int .i64 z]] w0 (StepP w g gw A x.length w0) := by
  have hb := made w0 (.cells #[.int .i64 K, .int .i64 z] 29)
  have bx : Blk (w0.alloc (.cells #[.int .i64 K, .int .i64 z] 29)) w0.heap.size 29 #[.int .i64 K, .int .i64 z] := Blk.new _ _ _
  have O1 : Only (Three g gw A) w0 (w0.alloc (.cells #[.int .i64 K, .int .i64 z] 29)) := (Only.refl _ w0).alloc _
  have b0 := bx.cell 0
  have b1 := bx.cell 1
  have P := Lib.hid (show StepP w g gw A x.length w0 (.returned (.bool true)) (w0.alloc (.cells #[.int .i64 K, .int .i64 z] 29)) from ⟨rfl, x, rfl, hu.below' hb, hr.below hb, O1⟩)
  have e1 : (K == 1) = false := by simpa using k1
  have e2 : (K == 2) = false := by simpa using k2
  have e3 : (K == 3) = false := by simpa using k3
  clear hu hr hb bx O1 k1 k2 k3
  generalize hw1 : w0.alloc (.cells #[.int .i64 K, .int .i64 z] 29) = w1 at *
  by_cases z1 : 0 ≤ z
  · go_enter Tryd.func11, Tryd.ntmps11
    go_wp2_with (rw [hw1])
    go_ret
    exact P.out
  · go_enter Tryd.func11, Tryd.ntmps11
    go_wp2_with (rw [hw1])
    go_ret
    exact P.out
theorem step_any (w w0 : World) (g gw : Nat) (A : Option Addr) (c : Nat) (x : List Bool) (K z : Int) (hu : Up w g gw x w0) (hr : Ro w g gw A x w0) :
    Calls Tryd.prog 11 #[.pointer (some ⟨g, 0, none⟩), .slice A x.length c, .agg #[.int .i64 K, .int .i64 z]] w0 (StepP w g gw A x.length w0) := by
  by_cases k1 : K = 1
  · subst k1; exact step_take w w0 g gw A c x z hu hr
  · by_cases k2 : K = 2
    · subst k2
      by_cases hz : z < 0 ∨ x.length ≤ z
      · exact step_mark_far w w0 g gw A c x z hu hr hz
      · obtain ⟨k, rfl⟩ : ∃ k : Nat, z = k := ⟨z.toNat, by omega⟩
        exact step_mark_in w w0 g gw A c x k hu hr (by omega)
    · by_cases k3 : K = 3
      · subst k3
        by_cases hz : z < 0 ∨ x.length ≤ z
        · exact step_give_far w w0 g gw A c x z hu hr hz
        · obtain ⟨k, rfl⟩ : ∃ k : Nat, z = k := ⟨z.toNat, by omega⟩
          exact step_give_in w w0 g gw A c x k hu hr (by omega)
      · exact step_none w w0 g gw A c x K z hu hr k1 k2 k3
end Go.Proofs.YteecebklomeklaaDoor.po
